import PyProof.Rows.All
import Wide.All
import OpenK.AllK
import Wide.FinOn
import Lean
import PyProof.EqAt
import PyProof.EqKinds
import PyProof.TupleCall
import PyProof.ReprBulk
import PyProof.FString5
import PyProof.Rows.StrJoin2
import PyProof.Rows.StrSplitAre
import PyProof.CollectIter
import PyProof.StrLawsChain
import KE.KTryMore
import KE.KIsNot
import PyProof.ExcArgsOwn
import PyProof.WalkInts
import PyProof.StrLawsIdx
import KE.RegKIsAll
import KE.RegKTryMore
import PySem.Challenge.RW_roundsalone_k73_texts_judged
set_option Elab.async false
set_option linter.all false
set_option maxHeartbeats 16000000
set_option maxRecDepth 100000
abbrev hA1:=@List.length_map
abbrev hA2:=@List.getElem?_eq_getElem
abbrev hA3:=@Nat.le_refl
abbrev hA4:=@List.mem_cons_of_mem
abbrev hA5:=@List.mem_cons_self
abbrev hA6:=@List.take_of_length_le
abbrev hA7:=@List.map_append
abbrev hA8:=@List.getD_eq_getElem?_getD
abbrev hA9:=@List.length_append
abbrev hAa:=@List.mem_append_right
abbrev hAb:=@List.mem_map
abbrev hAc:=@List.mem_cons
abbrev hAd:=@List.mem_of_getElem?
abbrev hAe:=@List.mem_singleton
abbrev hAf:=@List.mem_append
abbrev hAg:=@PySem.W.mg_of
abbrev hAh:=@List.length_take
abbrev hAi:=@List.getElem?_eq_some_iff
abbrev hAj:=@List.getElem?_map
abbrev hAk:=@List.mem_append_left
abbrev hAl:=@List.size_toArray
abbrev hAm:=@Bool.false_ne_true
abbrev hAn:=@Nat.testBit_xor
abbrev hAo:=@Nat.lt_of_lt_of_le
abbrev hAp:=@Int.emod_lt_of_pos
abbrev hAq:=@Option.some.inj
abbrev hAr:=@PySem.boot_len
abbrev hAs:=@Nat.zero_le
abbrev hAt:=@Nat.ne_of_lt
abbrev hAu:=@List.map_cons
abbrev hAv:=@Nat.le_trans
abbrev hAw:=@Int.emod_nonneg
abbrev hAx:=@Nat.testBit_zero
abbrev hAy:=@PySem.F.plainAttrs_list
abbrev hAz:=@List.map_map
abbrev hB0:=@PySem.F.plainAttrs_str
abbrev hB1:=@Nat.le_of_lt
abbrev hB2:=@List.length_cons
abbrev hB3:=@List.mem_map_of_mem
abbrev hB4:=@Nat.testBit_two_pow
abbrev hB5:=@PySem.W.mg_none_of
abbrev hB6:=@Nat.eq_of_testBit_eq
abbrev hB7:=@List.mem_filter
abbrev hB8:=@Nat.le_succ
abbrev hB9:=@List.mem_range
abbrev hBa:=@Int.toNat_natCast
abbrev hBb:=@PySem.F.slot_list_append
abbrev hBc:=@PySem.F.type_list_append
abbrev hBd:=@List.getElem?_eq_none
abbrev hBe:=@Bool.and_eq_true
abbrev hBf:=@List.not_mem_nil
abbrev hBg:=@PySem.mem_of_lookup
abbrev hBh:=@PySem.F.slot_str_split
abbrev hBi:=@PySem.F.type_str_split
abbrev hBj:=@Nat.mod_two_eq_zero_or_one
abbrev hBk:=@Nat.lt_succ_self
abbrev hBl:=@List.getElem_mem
abbrev hBm:=@Nat.lt_pow_two_of_testBit
abbrev hBo:=@List.nodup_cons
abbrev hBp:=@Nat.lt_succ_of_lt
abbrev hBq:=@List.length_range
abbrev hBr:=@Array.length_toList
abbrev hBs:=@List.count_append
abbrev hBt:=@List.pairwise_cons
abbrev hBu:=@PySem.W.kia_one
abbrev hBv:=@Array.getElem?_toList
abbrev hBw:=@Array.getD_eq_getD_getElem?
abbrev hBx:=@Nat.not_lt_zero
abbrev hBy:=@List.length_filter_le
abbrev hBz:=@Nat.lt_irrefl
abbrev hC0:=@List.all_eq_true
abbrev hC1:=@Nat.xor_assoc
abbrev hC2:=@Nat.testBit_succ
abbrev hC3:=@List.map_congr_left
abbrev hC4:=@List.length_filterMap_le
abbrev hC5:=@List.foldl_append
abbrev hC6:=@List.take_zero
abbrev hC7:=@List.append_nil
abbrev hC8:=@PySem.F.called_set
abbrev hC9:=@List.map_singleton
abbrev hCa:=@Bool.true_and
abbrev hCb:=@List.filter_append
abbrev hCc:=@List.mem_of_mem_take
abbrev hCd:=@Array.perm_iff_toList_perm
abbrev hCe:=@List.perm_ext_iff_of_nodup
abbrev hCf:=@List.filterMap_cons
abbrev hCg:=@List.getElem?_append_left
abbrev hCh:=@Classical.byContradiction
abbrev hCi:=@List.range_succ
abbrev hCj:=@Nat.testBit_and
abbrev hCk:=@Option.isSome_iff_exists
abbrev hCl:=@List.Pairwise.imp_of_mem
abbrev hCm:=@Nat.xor_lt_two_pow
abbrev hCn:=@List.length_drop
abbrev hCo:=@List.take_append_of_le_length
abbrev hCp:=@PySem.W.hideAll_none
abbrev hCq:=@List.pairwise_map
abbrev hCr:=@PyProof.Rows.callWith_type1
abbrev hCs:=@Int.toNat_of_nonneg
abbrev hCt:=@Array.getElem?_eq_some_iff
abbrev hCu:=@PySem.F.excBase_ValueError
abbrev hCv:=@List.lookup_cons
abbrev hCw:=@Nat.le_add_right
abbrev hCx:=@List.filterMap_append
abbrev hCy:=@Array.getElem?_eq_getElem
abbrev hCz:=@Nat.shiftRight_eq_div_pow
abbrev hD0:=@List.getElem?_set_ne
abbrev hD1:=@Nat.pow_lt_pow_right
abbrev hD2:=@Nat.xor_self
abbrev hD3:=@Nat.zero_xor
abbrev hD4:=@Nat.succ_le_succ
abbrev hD5:=@List.getElem?_set_self
abbrev hD6:=@PySem.W.cellsFrom_some
abbrev hD7:=@Nat.testBit_lt_two_pow
abbrev hD8:=@List.mem_filterMap
abbrev hD9:=@Int.natCast_nonneg
abbrev hDa:=@Option.map_some
abbrev hDb:=@List.cons_lt_cons_iff
abbrev hDc:=@List.cons.injEq
abbrev hDd:=@PySem.F.slot_str_join
abbrev hDe:=@PySem.F.type_str_join
abbrev hDf:=@List.ext_getElem?
abbrev hDg:=@List.map_take
abbrev hDh:=@Nat.lt_log2_self
abbrev hDi:=@PySem.W.hideAll_get
abbrev hDj:=@List.getElem?_range
abbrev hDk:=@Array.toList_append
abbrev hDl:=@Nat.pow_pos
abbrev hDm:=@List.filter_sublist
abbrev hDn:=@Nat.ne_of_gt
abbrev hDo:=@List.all_map
abbrev hDp:=@Nat.lt_or_ge
abbrev hDq:=@PySem.wpAny_bind
abbrev hDr:=@decide_eq_true
abbrev hDs:=@decide_eq_false
abbrev hDt:=@PySem.wpAny_pure
abbrev hDu:=@of_decide_eq_true
abbrev hDv:=@if_neg
abbrev hDw:=@if_pos
abbrev hDx:=@PySem.wpAny_holding
abbrev hDy:=@PySem.wpAny_mono
abbrev hDz:=@PySem.wpAny_call_entry
abbrev hE0:=@decide_eq_true_iff
abbrev hE1:=@PySem.wpAny_truthy_bool
abbrev hE2:=@PySem.wpAny_newObj_type
abbrev hE3:=@PySem.wpAny_askSetting
abbrev hE4:=@PySem.pushCells_keeps
abbrev hE5:=@PySem.wpAny_passesOwn
abbrev hE6:=@PySem.wpAny_setState_of
abbrev hE7:=@PySem.codeAny_builtin
abbrev hE8:=@PySem.wpAny_getItem_str_slice
abbrev hE9:=@PySem.wpAny_setEntries_of
abbrev hEa:=@or_false
abbrev hEb:=@PySem.wpAny_setField_rec
abbrev hEc:=@PySem.wpAny_standAt
abbrev hEd:=@beq_self_eq_true
abbrev hEe:=@PySem.wpAny_execs_nil
abbrev hEf:=@PySem.wpAny_Call_Name_kw
abbrev hEg:=@PySem.wpAny_attempt
abbrev hEh:=@of_decide_eq_false
abbrev hEi:=@PySem.wpAny_pyIter_list
abbrev hEj:=@PySem.fits_of_scanBound
abbrev hEk:=@PySem.sizeLine_eq
abbrev hEl:=@PySem.post_val_or_str
abbrev hEm:=@PySem.codeAny_mono
abbrev hEn:=@PySem.wpAny_fieldsOf
abbrev hEo:=@PySem.typeIs_str
abbrev hEp:=@PySem.call_meets
set_option hygiene false
local macro_rules
|`(v0 $i $s $e)=>`(qAj (i:=$i) (FnScope.nd $s) rfl (Or.inl rfl) $e)
|`(v3 $i $s)=>`(qAh (i:=$i) (FnScope.nd $s) rfl (Or.inl rfl))
|`(v4 $i $s $e)=>`(qAj (i:=$i) (FnScope.nd $s) rfl (Or.inr rfl) $e)
|`(v5 $i $s)=>`(qAh (i:=$i) (FnScope.nd $s) rfl (Or.inr rfl))
|`(v6 $a $b $c $d $e)=>`(FnOk P w K mg base CX0 $a $b $c $d $e)
|`(v7 $a $b $c $d $e $f)=>`(Cl P w K mg base CX0 $a $b $c $d $e $f)
|`(v8 0)=>`((s.heap.update a (Obj.mapSeq λ_=>#[])).push (seqObj "tuple" vs.toArray 0))
|`(v9 0)=>`((s.heap.push (seqObj "list" #[] 0)).update s.heap.objs.size (Obj.mapSeq (·++(as.map Value.ref).toArray)))
namespace L2
open PySem PySem.Spec PyProof.Rows
abbrev Key:=Sum Int Str
def qZu:Key->Value->Bool
 |.inl k,v=>Value.isInt k v
 |.inr x,v=>Value.isStrOf x v
def zCx(w:World):Key->Int
 |.inl k=>hashInt k
 |.inr x=>hashStr w x
theorem qBk:∀ {k:Key} {v:Value},qZu k v=true->(∃i t,k=Sum.inl i/\v=Value.int i t)\/(∃x t,k=Sum.inr x/\v=Value.str x t)
 |.inl i,v,h=>by
  obtain⟨t,e⟩:=Value.isInt_shape (k:=i) (v:=v) h;exact .inl ⟨i,t,rfl,e⟩
 |.inr x,v,h=>by
  obtain⟨t,e⟩:=Value.isStrOf_shape (x:=x) (v:=v) h;exact .inr ⟨x,t,rfl,e⟩
theorem qZt(a b:Int):decide ((Sum.inl a:Key)=Sum.inl b)=(a == b):=by
 by_cases e:a=b
 ·subst e;simp
 ·have h:¬(Sum.inl a:Key)=Sum.inl b:=λq=>e (Sum.inl.inj q)
  rw[hDs h];exact(beq_eq_false_iff_ne.mpr e).symm
theorem qZq(a b:Str):decide ((Sum.inr a:Key)=Sum.inr b)=decide (a=b):=by
 by_cases e:a=b
 ·subst e;simp
 ·have h:¬(Sum.inr a:Key)=Sum.inr b:=λq=>e (Sum.inr.inj q)
  rw[hDs h,hDs e]
theorem qZs(a:Int)(b:Str):decide ((Sum.inl a:Key)=Sum.inr b)=false:=hDs (λq=>nomatch q)
theorem qZr(a:Str)(b:Int):decide ((Sum.inr a:Key)=Sum.inl b)=false:=hDs (λq=>nomatch q)
def qQr(prog:Program)(w:World):PySem.KeyKind prog w Key where
 is:=qZu
 hash:=zCx w
 inj:=λv a b ha hb=>by
  rcases qBk ha with ⟨i,t,rfl,rfl⟩|⟨x,t,rfl,rfl⟩
  ·rcases qBk hb with ⟨j,u,rfl,e⟩|⟨y,u,rfl,e⟩
   ·injection e with e1 _;rw[e1]
   ·exact nomatch e
  ·rcases qBk hb with ⟨j,u,rfl,e⟩|⟨y,u,rfl,e⟩
   ·exact nomatch e
   ·injection e with e1 _;rw[e1]
 byValue:=λk v h=>by
  rcases qBk h with ⟨i,t,rfl,rfl⟩|⟨x,t,rfl,rfl⟩ <;> rfl
 pyHash:=λhv h=>by
  rcases qBk hv with ⟨i,t,rfl,rfl⟩|⟨x,t,rfl,rfl⟩
  ·exact wpAny_pyHash_int h
  ·exact wpAny_pyHash_str h
 eqBool:=λhu hv h=>by
  rcases qBk hu with ⟨i,t,rfl,rfl⟩|⟨x,t,rfl,rfl⟩
  ·rcases qBk hv with ⟨j,u,rfl,rfl⟩|⟨y,u,rfl,rfl⟩
   ·rw[qZt]at h;exact wpAny_eqBool_int h
   ·rw[qZs]at h;exact SeqAt.EqAt.int_str i t y u _ _ _ _ h
  ·rcases qBk hv with ⟨j,u,rfl,rfl⟩|⟨y,u,rfl,rfl⟩
   ·rw[qZr]at h;exact SeqAt.EqAt.str_int x t j u _ _ _ _ h
   ·rw[qZq]at h;exact wpAny_eqBool_str h
 «strs»:=λk x t v h=>by
  rcases qBk h with ⟨i,u,rfl,e⟩|⟨y,u,rfl,e⟩
  ·exact nomatch e
  ·injection e with e1 _
   subst e1;cases v <;> rfl
inductive V where
 |non|bl (b:Bool)|int (i:Int)|str (x:Str)|byt (b:Array UInt8)|flt (b:UInt64)|ref (a:Addr)|ty (n:String)
 deriving DecidableEq
def qC2:V->Value->Prop
 |.non,u=>u=Value.none
 |.bl b,u=>u=Value.bool b
 |.int i,u=>∃t,u=Value.int i t
 |.str x,u=>∃t,u=Value.str x t
 |.byt b,u=>∃t,u=Value.bytes b t
 |.flt b,u=>∃t,u=Value.float b t
 |.ref a,u=>u=Value.ref a
 |.ty n,u=>u=Value.type n
abbrev qBf:List V->List Value->Prop:=Paired qC2
theorem qBf.length{xs:List V}{us:List Value}(r:qBf xs us):xs.length=us.length:=Paired.length r
theorem qBf.get:∀ {xs:List V} {us:List Value} {i:Nat} {x:V},qBf xs us->xs[i]?=some x->∃u,us[i]?=some u/\qC2 x u
 |_,_,_,_,.nil,e=>by simp at e
 |_,_,0,_,.cons r _,e=>by simp at e;subst e;exact⟨_,rfl,r⟩
 |_,_,i+1,x,.cons _ t,e=>by
  obtain⟨u,h1,h2⟩:=qBf.get (i:=i) (x:=x) t (by simpa using e);exact⟨u,by simpa using h1,h2⟩
theorem qBf.append:∀ {xs ys:List V} {us ws:List Value},qBf xs us->qBf ys ws->qBf (xs++ys) (us++ws)
 |_,_,_,_,.nil,s=>s
 |_,_,_,_,.cons r t,s=>.cons r (qBf.append t s)
theorem qBf.take:∀ {xs:List V} {us:List Value} (n:Nat),qBf xs us->qBf (xs.take n) (us.take n)
 |_,_,0,_=>.nil
 |_,_,_+1,.nil=>.nil
 |_,_,n+1,.cons r t=>.cons r (qBf.take n t)
theorem qBf.drop:∀ {xs:List V} {us:List Value} (n:Nat),qBf xs us->qBf (xs.drop n) (us.drop n)
 |_,_,0,r=>r
 |_,_,_+1,.nil=>.nil
 |_,_,n+1,.cons _ t=>qBf.drop n t
def zBp:Option V->Option Value->Prop
 |some v,some u=>qC2 v u
 |none,none=>True
 |_,_=>False
def KV{κ:Type}:List (κ×V)->List (κ×Value)->Prop:=Paired λ(p:κ×V) (q:κ×Value)=>p.1=q.1/\qC2 p.2 q.2
def kV:Key->V
 |.inl i=>.int i
 |.inr x=>.str x
inductive HO where
  |lst (xs:List V)
  |tup (xs:List V)
  |dK (kvs:List (Key×V))|dT (kvs:List (List Key×V))
  |set (S:Int->Bool) (n:Nat)
  |ins (C dx:Addr) (fs:List (Str×V))
  |own (x:Addr)
  |xd (fs:List (Str×V))
  |met (f x:Addr)
  |rng (lo hi:Int)
  |frz (o:Obj) (u:HO)
  |tbl (ps:Array Value)
  |ext (φ:Heap->Prop)
abbrev Hp:=Addr->Option HO
def upd(H:Hp)(a:Addr)(o:HO):Hp:=λb=>if b=a then some o else H b
theorem upd_same{H:Hp}{a:Addr}{o:HO}:upd H a o a=some o:=by unfold upd;rw[hDw rfl]
theorem qAs{H:Hp}{a b:Addr}{o:HO}(h:b≠a):upd H a o b=H b:=by unfold upd;rw[hDv h]
theorem qAw{H:Hp}{a b:Addr}{o:HO}(h:H a=some o)(h':H b=none):a≠b:=by
 intro e;subst e;rw[h]at h';cases h'
section
variable(P:Program)(w:World)
def qCg(H:Hp)(h:Heap)(a:Addr):HO->Prop
 |.lst xs=>xs.length<=sizeLine/\∃(its:List Value) (n:Nat),qBf xs its/\h.get? a=some { cls:=.type "list",data:=.seq its.toArray n }
 |.tup xs=>xs.length<=sizeLine/\∃its:List Value,qBf xs its/\IsTup h a its.toArray
 |.dK kvs=>kvs.length<=sizeLine/\(a == sysModules)=false/\∃vs,KV kvs vs/\h.DictOf (qQr P w) a vs
 |.dT kvs=>kvs.length<=sizeLine/\(a == sysModules)=false/\∃xs:List (List Key×Addr×Value),
   Paired (λ(p:List Key×V) (q:List Key×Addr×Value)=>p.1=q.1/\H q.2.1=some (.tup (p.1.map kV))/\qC2 p.2 q.2.2) kvs xs /\
   ∃o es ep,h.get? a=some o/\o.ExactDict/\o.data = .dict es ep/\es.toList=xs.map (entryOfKey (tupleKind (qQr P w)))/\(xs.map (·.1)).Nodup
 |.set S n=>h.SetOf (intKind P w) a S n
 |.ins C dx fs=>H dx=some (.own a)/\fs.length<=1000/\dx≠a/\h.get? a=some (PySem.W.instObj C dx) /\
   ∃mA,h.Ns1 dx mA/\(∀f,zBp (fs.lookup f) (mA f))/\PySem.Within mA (fs.map (·.1))
 |.own _=>∃o,h.get? a=some o
 |.xd fs=>∃mA,h.Ns1 a mA/\∀f,zBp (fs.lookup f) (mA f)
 |.rng lo hi=>∃t u v,h.get? a=some { cls:=.type "range",data:=.fields #[.int lo t,.int hi u,.int 1 v] }
 |.frz o u=>h.get? a=some o/\qCg H h a u
 |.tbl ps=>h.get? a=some { cls:=.none,data:=.fields ps }
 |.met f x=>h.get? a=some (PySem.W.methodObj (.ref f) (.ref x))
 |.ext φ=>φ h/\(∃o,h.get? a=some o)/\∀h1 h2:Heap,φ h1->(∀o,h1.get? a=some o->h2.get? a=some o)->φ h2
def HOk(H:Hp)(h:Heap):Prop:=∀a o,H a=some o->qCg P w H h a o
end
section
variable{P:Program}{w:World}{H H':Hp}{h h':Heap}{a:Addr}{o:HO}
theorem qCg.lt(x:qCg P w H h a o):a<h.objs.size:=by
 cases o with
 |lst xs=>obtain⟨_,_,_,_,e⟩:=x;exact Heap.lt_size e
 |tup xs=>obtain⟨_,_,_,p⟩:=x;exact p.lt
 |dK kvs=>obtain⟨_,_,_,_,o,_,_,e,_⟩:=x;exact Heap.lt_size e
 |dT kvs=>obtain⟨_,_,_,_,o,_,_,e,_⟩:=x;exact Heap.lt_size e
 |set S n=>obtain⟨o,_,_,_,e,_⟩:=x;exact Heap.lt_size e
 |ins C dx fs=>obtain⟨_,_,_,e,_⟩:=x;exact Heap.lt_size e
 |own y=>obtain⟨_,e⟩:=x;exact Heap.lt_size e
 |xd fs=>obtain⟨_,⟨_,_,_,e,_⟩,_⟩:=x;exact Heap.lt_size e
 |rng lo hi=>obtain⟨_,_,_,e⟩:=x;exact Heap.lt_size e
 |frz ob u=>obtain⟨e,_⟩:=x;exact Heap.lt_size e
 |tbl ps=>exact Heap.lt_size (show h.get? a=some _ from x)
 |met f y=>exact Heap.lt_size (show h.get? a=some _ from x)
 |ext φ=>obtain⟨_,⟨_,e⟩,_⟩:=x;exact Heap.lt_size e
theorem Paired.mapP{α β:Type}{F G:α->β->Prop}:∀ {l₁:List α} {l₂:List β},Paired F l₁ l₂->(∀a b,F a b->G a b)->Paired G l₁ l₂
 |_,_,.nil,_=>.nil
 |_,_,.cons r t,f=>.cons (f _ _ r) (Paired.mapP t f)
theorem qCg.stay(x:qCg P w H h a o)(k:∀b u,(b=a\/H b=some (.own a))->h.get? b=some u->h'.get? b=some u)
  (ho:∀b,H b=some (.own a)->H' b=some (.own a)) (ht:∀b xs,H b=some (.tup xs)->H' b=some (.tup xs)):qCg P w H' h' a o:=by
 induction o with
 |lst xs=>obtain⟨z,its,n,r,e⟩:=x;exact⟨z,its,n,r,k _ _ (.inl rfl) e⟩
 |tup xs=>obtain⟨z,its,r,ob,e,c⟩:=x;exact⟨z,its,r,ob,k _ _ (.inl rfl) e,c⟩
 |dK kvs=>obtain⟨z,y,vs,r,ob,es,ep,e,c⟩:=x;exact⟨z,y,vs,r,ob,es,ep,k _ _ (.inl rfl) e,c⟩
 |dT kvs =>
  obtain⟨z,y,xs,r,ob,es,ep,e,c⟩:=x;exact⟨z,y,xs,Paired.mapP r λp q z=>⟨z.1,ht _ _ z.2.1,z.2.2⟩,ob,es,ep,k _ _ (.inl rfl) e,c⟩
 |set S n=>obtain⟨ob,es,ep,t,e,c⟩:=x;exact⟨ob,es,ep,t,k _ _ (.inl rfl) e,c⟩
 |ins C dx fs =>
  obtain⟨d,z,ne,e,mA,⟨od,es,ep,e2,c⟩,r⟩:=x;exact⟨ho _ d,z,ne,k _ _ (.inl rfl) e,mA,⟨od,es,ep,k _ _ (.inr d) e2,c⟩,r⟩
 |own y=>obtain⟨ob,e⟩:=x;exact⟨ob,k _ _ (.inl rfl) e⟩
 |xd fs=>obtain⟨mA,⟨od,es,ep,e,c⟩,r⟩:=x;exact⟨mA,⟨od,es,ep,k _ _ (.inl rfl) e,c⟩,r⟩
 |rng lo hi=>obtain⟨t,u,v,e⟩:=x;exact⟨t,u,v,k _ _ (.inl rfl) e⟩
 |frz ob u ih=>obtain⟨e,q⟩:=x;exact⟨k _ _ (.inl rfl) e,ih q⟩
 |tbl ps =>
  have e:h.get? a=some { cls:=.none,data:=.fields ps }:=x;show h'.get? a=some { cls:=.none,data:=.fields ps };exact k a _ (.inl rfl) e
 |met f y =>
  have e:h.get? a=some (PySem.W.methodObj (.ref f) (.ref y)):=x;show h'.get? a=some (PySem.W.methodObj (.ref f) (.ref y));exact k a _ (.inl rfl) e
 |ext φ=>obtain⟨p,⟨o,e⟩,st⟩:=x;exact⟨st _ _ p λo q=>k _ _ (.inl rfl) q,⟨o,k _ _ (.inl rfl) e⟩,st⟩
theorem HOk.lt(x:HOk P w H h)(e:H a=some o):a<h.objs.size:=(x a o e).lt
theorem HOk.fresh(x:HOk P w H h)(e:h.objs.size<=a):H a=none:=by
 cases q:H a with
 |none=>rfl
 |some u=>exact absurd (hAo (x.lt q) e) (hBz _)
theorem HOk.kept(x:HOk P w H h)(k:∀b u,h.get? b=some u->h'.get? b=some u):HOk P w H h':=λa o e =>
 (x a o e).stay (λb u _ q=>k b u q) (λ_ q=>q) λ_ _ q=>q
theorem HOk.laid(x:HOk P w H h)(k:∀b u,h.get? b=some u->h'.get? b=some u)(hp:h.objs.size<=a)(new:qCg P w (upd H a o) h' a o):HOk P w (upd H a o) h':=λb u e=>by
 have hn:=x.fresh hp;by_cases hb:b=a
 ·subst hb;rw[upd_same]at e;cases e;exact new
 ·rw[qAs hb]at e;exact(x b u e).stay (λc v _ q=>k c v q) (λc q=>by rw[qAs (qAw q hn)];exact q) λc xs q=>by rw[qAs (qAw q hn)];exact q
end
def Rd(H:Hp)(a:Addr)(u:HO):Prop:=H a=some u\/∃o,H a=some (.frz o u)
theorem Rd.ok{P:Program}{w:World}{H:Hp}{h:Heap}{a:Addr}{u:HO}(r:Rd H a u)(x:HOk P w H h):qCg P w H h a u:=by
 rcases r with r|⟨o,r⟩
 ·exact x a u r
 ·obtain⟨_,q⟩:=x a _ r;exact q
def Mut:Option HO->Prop
 |some (.lst _)=>True
 |some (.dK _)=>True
 |some (.dT _)=>True
 |some (.set _ _)=>True
 |some (.ins _ _ _)=>True
 |some (.ext _)=>True
 |_=>False
section
variable{P:Program}{w:World}{H:Hp}{h h':Heap}{x e:Addr}{o':HO}
theorem HOk.write(ok:HOk P w H h)(mu:Mut (H x))(he:e=x\/H e=some (.own x))(k:∀b u,b≠e->h.get? b=some u->h'.get? b=some u)(heo:∃u,h'.get? e=some u)
  (new:qCg P w (upd H x o') h' x o'):HOk P w (upd H x o') h':=λb u q=>by
 have nown:∀c y,H c=some (.own y)->c≠x:=λc y r z=>by subst z;rw[r]at mu;exact mu
 have ntup:∀c xs,H c=some (.tup xs)->c≠x:=λc xs r z=>by subst z;rw[r]at mu;exact mu
 by_cases hb:b=x
 ·subst hb;rw[upd_same]at q;cases q;exact new
 ·rw[qAs hb]at q;by_cases hbe:b=e
  ·have q':H b=some (.own x):=by
    rcases he with z|z
    ·exact absurd (hbe.trans z) hb
    ·rw[hbe];exact z
   rw[q]at q';cases q';obtain⟨v,hv⟩:=heo;exact⟨v,by rw[hbe];exact hv⟩
  ·refine(ok b u q).stay (λc v hc r=>k c v ?_ r) (λc r=>by rw[qAs (nown c b r)];exact r) λc xs r=>by rw[qAs (ntup c xs r)];exact r
   rcases hc with rfl|hc
   ·exact hbe
   ·rintro rfl;rcases he with z|z
    ·exact nown c b hc z
    ·rw[hc]at z;cases z;exact hb rfl
end
structure Un(fs ex:List Addr)(H H':Hp)(h h':Heap):Prop where
 keep:∀b o,h.get? b=some o->H b=none->b∉fs->b∉ex->h'.get? b=some o
 slot:∀b o,h.get? b=some o->H b=none->b∈fs->b∉ex->∃sl,h'.get? b=some { o with slots:=sl }
 free:∀b o,h.get? b=some o->H b=none->b∉ex->H' b=none
 there:∀b o,h.get? b=some o->b∉ex->∃o',h'.get? b=some o'
 tups:∀b xs,H b=some (.tup xs)->H' b=some (.tup xs)
 frzs:∀b o u,H b=some (.frz o u)->H' b=some (.frz o u)
 tbls:∀b ps,H b=some (.tbl ps)->∃more,H' b=some (.tbl (ps++more))
section
variable{fs fs' ex ex':List Addr}{H H1 H2:Hp}{h h1 h2 h':Heap}{a x e:Addr}{o:HO}
theorem Un.any(u:Un fs ex H H1 h h1){b:Addr}{ob:Obj}(q:h.get? b=some ob)(n:H b=none)(hx:b∉ex):∃sl,h1.get? b=some { ob with slots:=sl }:=by
 by_cases hb:b∈fs
 ·exact u.slot b ob q n hb hx
 ·exact⟨ob.slots,u.keep b ob q n hb hx⟩
theorem Un.kept(k:∀b u,h.get? b=some u->h'.get? b=some u):Un fs ex H H h h' :=
 ⟨λb ob q _ _ _=>k b ob q,λb ob q _ _ _=>⟨ob.slots,k b ob q⟩,λ_ _ _ n _=>n,λb ob q _=>⟨ob,k b ob q⟩,λ_ _ q=>q,λ_ _ _ q=>q,λ_ ps q=>⟨#[],by rw[q];simp⟩⟩
theorem Un.refl:Un fs ex H H h h:=Un.kept λ_ _ q=>q
theorem Un.laid(k:∀b u,h.get? b=some u->h'.get? b=some u)(hp:h.objs.size<=a)(hn:H a=none):Un fs ex H (upd H a o) h h' where
 keep:=λb u q _ _ _=>k b u q
 slot:=λb u q _ _ _=>⟨u.slots,k b u q⟩
 free:=λb u q n _=>by rw[qAs (hAt (hAo (Heap.lt_size q) hp))];exact n
 there:=λb u q _=>⟨u,k b u q⟩
 tups:=λb xs q=>by rw[qAs (qAw q hn)];exact q
 frzs:=λb u xs q=>by rw[qAs (qAw q hn)];exact q
 tbls:=λb ps q=>⟨#[],by rw[qAs (qAw q hn),q];simp⟩
theorem Un.write(mu:Mut (H x))(he:e=x\/H e=some (.own x))(k:∀b u,b≠e->h.get? b=some u->h'.get? b=some u)(heo:∃u,h'.get? e=some u):Un fs ex H (upd H x o) h h':=by
 have hx:∀b,H b=none->b≠x:=λb n z=>by subst z;rw[n]at mu;exact mu
 have hb:∀b,H b=none->b≠e:=λb n z=>by
  subst z;rcases he with r|r
  ·exact hx b n r
  ·rw[n]at r;cases r
 have hm:∀b u,H b=some u->¬Mut (some u)->b≠x:=λb u q nm z=>by subst z;rw[q]at mu;exact nm mu
 refine⟨λb u q n _ _=>k b u (hb b n) q,λb u q n _ _=>⟨u.slots,k b u (hb b n) q⟩,λb u q n _=>by rw[qAs (hx b n)];exact n,λb u q _=>?_,
  λb xs q=>by rw[qAs (hm b _ q λz=>z)];exact q,λb u xs q=>by rw[qAs (hm b _ q λz=>z)];exact q,λb ps q=>⟨#[],by rw[qAs (hm b _ q λz=>z),q];simp⟩⟩
 by_cases hbe:b=e
 ·subst hbe;exact heo
 ·exact⟨u,k b u hbe q⟩
end
def trk(h:Heap)(H:Hp):List Addr:=(List.range h.objs.size).filter λa=>(H a).isSome
def qS8(h:Heap)(H:Hp):Heap:=PySem.W.hideAll h (trk h H)
theorem qQ7(h:Heap)(H:Hp):(qS8 h H).objs.size=h.objs.size:=PySem.W.hideAll_size _ _
theorem qS7{h:Heap}{H:Hp}{b:Addr}{o:Obj}(e:h.get? b=some o)(n:H b=none):(qS8 h H).get? b=some o :=
 hDi _ e λhm=>by
  have q:(H b).isSome=true:=(hB7.mp hm).2;rw[n]at q;simp at q
theorem qW3{h:Heap}{H:Hp}{b:Addr}{o:Obj}(e:(qS8 h H).get? b=some o):h.get? b=some o/\H b=none:=by
 have e':h.get? b=some o:=PySem.W.of_hideAll (trk h H) e;refine⟨e',?_⟩;cases q:H b with
 |none=>rfl
 |some x =>
  have hm:b∈trk h H:=hB7.mpr ⟨hB9.mpr (Heap.lt_size e'),by simp[q]⟩;have z:(qS8 h H).get? b=none:=hCp (trk h H) hm;rw[z]at e;cases e
def qXs(g h:Heap)(L:Addr):List (Addr×Obj):=(List.range h.objs.size).filterMap λa=>if a=L\/(g.get? a).isSome=true then none else (h.get? a).map λo=>(a,o)
def rest(g h:Heap)(L d:Addr):List (Addr×Obj):=(qXs g h L).filter λp=>decide (p.1≠d)
structure Mod(K:PySem.W.Frag)(mg:Str->Option Value)(base:Heap):Prop where
 kin:K.In base
 glob:base.Ns mainGlobals mg
 blt:∃mb,base.Ns builtinsNs mb/\∀x:Str,x≠"__name__"->mb x=bootBuiltins x
 nolimit:base.NoLimit
structure Cx where
 prog:Program
 w:World
 K:PySem.W.Frag
 mg:Str->Option Value
 base:Heap
 A:Around
 N:List Str
 s₀:Shared
 H₀:Hp
 env:Env
 outer:List Env
 stack:List Env
 ex:List Addr
 fn:Str->Bool
 calm:Bool
 pn:List (Addr×Obj)
 xe:Value->Shared->Prop
def frs(l:List Env):List Addr:=l.filterMap (·.frame)
abbrev Cx.fs(X:Cx):List Addr:=frs X.outer
def Vis(sc:Scope)(x:Str):Prop:=sc.names.lookup x=some .local\/sc.names.lookup x=some .cell\/sc.names.lookup x=some .free
def Loc(sc:Scope)(x:Str):Prop:=sc.names.lookup x=some .local\/sc.names.lookup x=some .cell
def zC3(env:Env)(h:Heap)(m:Str->Option Value)(x:Str)(u:Value):Prop :=
 (env.kindOf x=some .local/\m x=some u)\/((env.kindOf x=some .cell\/env.kindOf x=some .free)/\∃c,env.cells.lookup x=some c/\h.IsCell c (some u))
structure Cx.Ok(X:Cx):Prop where
 mod:Mod X.K X.mg X.base
 kind:X.env.scope.kind = .function
 glob:X.env.globals=mainGlobals
 blt:X.env.builtins=builtinsNs
 above:X.s₀.heap.objs.size<=X.env.locals
 inj:∀x y c,X.env.cells.lookup x=some c->X.env.cells.lookup y=some c->x=y
 has:∀x,(X.env.kindOf x=some .cell\/X.env.kindOf x=some .free)->∃c,X.env.cells.lookup x=some c
 cab:∀x c,X.fn x=true->X.env.cells.lookup x=some c->X.s₀.heap.objs.size<=c
 hd:X.calm=true->X.A.handled=none
 frames:X.A.frames=some X.stack
 stk:X.stack=X.outer\/(X.stack=X.env :: X.outer/\X.env.frame=some X.env.locals)
 exf:∀b∈X.ex,b≠X.env.locals/\∀x c,X.env.cells.lookup x=some c->c≠b
 bs:∀b o,X.base.get? b=some o->X.s₀.heap.get? b=some o/\X.H₀ b=none
 bsz:X.base.objs.size<=X.s₀.heap.objs.size
 noex:∀b o,X.base.get? b=some o->b∉X.ex
 exfs:∀b∈X.ex,b∉X.fs
 funs:X.s₀.heap.FunFrames X.base X.outer
 frf:∀b∈X.fs,X.H₀ b=none
structure Inv(X:Cx)(aB:List (Addr×Obj))(σ:List (Option V))(H:Hp)(s:Shared):Prop where
 ok:X.Ok
 os:s.os=X.s₀.os
 bare:AllBare s.gens
 base:Un X.fs X.ex X.H₀ H X.s₀.heap s.heap
 loc:∃m,s.heap.Ns X.env.locals m/\∀(i:Nat) (x:Str) (v:V),X.N[i]?=some x->σ[i]?=some (some v)->Vis X.env.scope x->∃u,qC2 v u/\zC3 X.env s.heap m x u
 cell:∀x c,X.env.cells.lookup x=some c->∃v,s.heap.IsCell c v
 free:H X.env.locals=none
 freeC:∀x c,X.env.cells.lookup x=some c->H c=none
 pin:∀p∈X.pn++aB,s.heap.get? p.1=some p.2/\H p.1=none/\p.1≠X.env.locals/\p.1∉X.fs/\∀v,p.2.data≠.cell v
 hok:HOk X.prog X.w H s.heap
 len:σ.length=X.N.length
section
variable{X:Cx}{aB:List (Addr×Obj)}{σ:List (Option V)}{H H':Hp}{s:Shared}{h':Heap}
theorem Cx.Ok.nofr(ok:X.Ok){b:Addr}{o:Obj}(e:X.base.get? b=some o):b∉X.fs:=λhb=>by
 have:=(ok.funs.mem hb).1;rw[e]at this;cases this
theorem Inv.bs(I:Inv X aB σ H s):∀b o,X.base.get? b=some o->s.heap.get? b=some o/\H b=none:=λb o e =>
 ⟨I.base.keep b o (I.ok.bs b o e).1 (I.ok.bs b o e).2 (I.ok.nofr e) (I.ok.noex b o e),I.base.free b o (I.ok.bs b o e).1 (I.ok.bs b o e).2 (I.ok.noex b o e)⟩
theorem Inv.bk(I:Inv X aB σ H s):∀b o,X.base.get? b=some o->s.heap.get? b=some o:=λb o e=>(I.bs b o e).1
theorem Inv.mod(I:Inv X aB σ H s):Mod X.K X.mg X.base:=I.ok.mod
theorem Inv.kIn(I:Inv X aB σ H s):X.K.In s.heap:=I.ok.mod.kin.keeps I.bk
theorem Inv.lt(I:Inv X aB σ H s):X.env.locals<s.heap.objs.size:=let ⟨_,hn,_⟩:=I.loc;hn.lt
theorem Inv.sz(I:Inv X aB σ H s):X.s₀.heap.objs.size<=s.heap.objs.size:=hAv I.ok.above (hB1 I.lt)
theorem Inv.nofs(I:Inv X aB σ H s){a:Addr}(h:s.heap.objs.size<=a):a∉X.fs:=λhb=>by
 obtain⟨_,o,ho,_⟩:=I.ok.funs.mem hb;exact absurd (hAo (Heap.lt_size ho) (hAv I.sz h)) (hBz _)
theorem Inv.cne(I:Inv X aB σ H s):∀x c,X.env.cells.lookup x=some c->c≠X.env.locals:=λx c e z=>by
 obtain⟨v,o,ho,hd⟩:=I.cell x c e;obtain⟨m,⟨o',es,ep,ho',hd',_⟩,_⟩:=I.loc;rw[z,ho']at ho;cases ho;rw[hd']at hd;cases hd
theorem Inv.funs(I:Inv X aB σ H s):s.heap.FunFrames X.base X.outer:=by
 have all:∀(l:List Env),(∀b∈frs l,b∈X.fs)->X.s₀.heap.FunFrames X.base l->s.heap.FunFrames X.base l:=by
  intro l
  induction l with
  |nil=>intro _ _;trivial
  |cons env r ih =>
   intro hs hl;obtain⟨hk,⟨L,o,hf,hn,ho,hd⟩,hr⟩:=hl;have hL:L∈X.fs:=hs L (by unfold frs;rw[hCf,hf];exact hA5);obtain⟨sl,e⟩:=I.base.slot L o ho (I.ok.frf L hL) hL λz=>I.ok.exfs L z hL
   exact⟨hk,⟨L,_,hf,hn,e,hd⟩,ih (λb hb=>hs b (by unfold frs;rw[hCf,hf];exact hA4 _ hb)) hr⟩
 exact all X.outer (λ_ hb=>hb) I.ok.funs
theorem Inv.stack(I:Inv X aB σ H s):s.heap.FunFrames X.base X.stack:=by
 rcases I.ok.stk with e|⟨e,hf⟩
 ·rw[e];exact I.funs
 ·rw[e];obtain⟨m,hn,_⟩:=I.loc;refine .cons (by rw[I.ok.kind];decide) hf hn ?_ I.funs;exact Heap.get?_none_of_le (hAv I.ok.bsz I.ok.above)
theorem Inv.stkSub(I:Inv X aB σ H s):∀b∈frs X.stack,b∈X.env.locals :: X.fs:=λb hb=>by
 rcases I.ok.stk with e|⟨e,hf⟩
 ·rw[e]at hb;exact hA4 _ hb
 ·rw[e]at hb;unfold frs at hb;rw[hCf,hf]at hb;exact hb
theorem Inv.stkFree(I:Inv X aB σ H s):∀b∈frs X.stack,H b=none:=λb hb=>by
 rcases hAc.mp (I.stkSub b hb) with e|hb
 ·rw[e];exact I.free
 ·obtain⟨_,o,ho,_⟩:=I.ok.funs.mem hb;exact I.base.free b o ho (I.ok.frf b hb) λz=>I.ok.exfs b z hb
theorem Inv.step{g':Array GenState}{t':Nat}{d':Drawn}{ch:List Addr}(I:Inv X aB σ H s)
  (hch:∀b∈ch,(b∈X.ex\/X.s₀.heap.objs.size<=b)/\b≠X.env.locals/\(∀x c,X.env.cells.lookup x=some c->c≠b)/\∀p∈X.pn++aB,p.1≠b)
  (keep:∀b o,b≠X.env.locals->b∉X.fs->b∉ch->s.heap.get? b=some o->H b=none->h'.get? b=some o)
  (slot:∀b o,b≠X.env.locals->b∈X.fs->b∉ch->s.heap.get? b=some o->H b=none->∃sl,h'.get? b=some { o with slots:=sl }) (free:∀b o,b∉ch->s.heap.get? b=some o->H b=none->H' b=none)
  (there:∀b o,b∉ch->s.heap.get? b=some o->∃o',h'.get? b=some o')
  (tups:∀b xs,H b=some (.tup xs)->H' b=some (.tup xs)) (frzs:∀b o u,H b=some (.frz o u)->H' b=some (.frz o u)) (tbls:∀b ps,H b=some (.tbl ps)->∃more,H' b=some (.tbl (ps++more)))
  (ns:∀m,s.heap.Ns X.env.locals m->h'.Ns X.env.locals m) (hok:HOk X.prog X.w H' h') (hg:AllBare g') :
  Inv X aB σ H' { s with heap:=h',gens:=g',drawn:=d',toks:=t' }:=by
 have neL:∀b o,X.s₀.heap.get? b=some o->b≠X.env.locals:=λb o e=>hAt (hAo (Heap.lt_size e) I.ok.above)
 have neC:∀b o,X.s₀.heap.get? b=some o->b∉X.ex->b∉ch:=λb o e hx hb=>by
  rcases(hch b hb).1 with z|z
  ·exact hx z
  ·exact absurd (hAo (Heap.lt_size e) z) (hBz _)
 have cellK:∀x c,X.env.cells.lookup x=some c->∀v,s.heap.IsCell c v->h'.IsCell c v:=λx c e v ⟨o,ho,hd⟩=>by
  have nch:c∉ch:=λz=>(hch c z).2.2.1 x c e rfl
  by_cases hc:c∈X.fs
  ·obtain⟨sl,q⟩:=slot c o (I.cne x c e) hc nch ho (I.freeC x c e);exact⟨_,q,hd⟩
  ·exact⟨o,keep c o (I.cne x c e) hc nch ho (I.freeC x c e),hd⟩
 refine⟨I.ok,I.os,hg,⟨λb o e n hb hx=>?_,λb o e n hb hx=>?_,λb o e n hx=>?_,λb o e hx=>?_,λb xs e=>tups b xs (I.base.tups b xs e),λb o xs e=>frzs b o xs (I.base.frzs b o xs e),λb ps e=>?_⟩,?_,λx c e=>?_,?_,λx c e=>?_,λp hp=>?_,hok,I.len⟩
 ·exact keep b o (neL b o e) hb (neC b o e hx) (I.base.keep b o e n hb hx) (I.base.free b o e n hx)
 ·obtain⟨sl,e1⟩:=I.base.slot b o e n hb hx;obtain⟨sl',e2⟩:=slot b _ (neL b o e) hb (neC b o e hx) e1 (I.base.free b o e n hx);exact⟨sl',e2⟩
 ·obtain⟨o',e1⟩:=I.base.there b o e hx;exact free b o' (neC b o e hx) e1 (I.base.free b o e n hx)
 ·obtain⟨o',e1⟩:=I.base.there b o e hx;exact there b o' (neC b o e hx) e1
 ·obtain⟨m1,e1⟩:=I.base.tbls b ps e;obtain⟨m2,e2⟩:=tbls b _ e1;exact⟨m1++m2,by rw[e2,Array.append_assoc]⟩
 ·obtain⟨m,hn,hl⟩:=I.loc;refine⟨m,ns m hn,λi x v e1 e2 e3=>?_⟩;obtain⟨u,r,l⟩:=hl i x v e1 e2 e3;refine⟨u,r,?_⟩;rcases l with l|⟨k,c,e,z⟩
  ·exact .inl l
  ·exact .inr ⟨k,c,e,cellK x c e _ z⟩
 ·obtain⟨v,z⟩:=I.cell x c e;exact⟨v,cellK x c e v z⟩
 ·obtain⟨m,⟨o,_,_,ho,_⟩,_⟩:=I.loc;exact free _ o (λz=>(hch _ z).2.1 rfl) ho I.free
 ·obtain⟨v,o,ho,hd⟩:=I.cell x c e;exact free c o (λz=>(hch c z).2.2.1 x c e rfl) ho (I.freeC x c e)
 ·obtain⟨e,n,ne,nf,d⟩:=I.pin p hp;have nch:p.1∉ch:=λz=>(hch p.1 z).2.2.2 p hp rfl
  exact⟨keep p.1 p.2 ne nf nch e n,free p.1 p.2 nch e n,ne,nf,d⟩
theorem Inv.un{t':Nat}(I:Inv X aB σ H s)(u:Un X.fs [] H H' s.heap h')(hok:HOk X.prog X.w H' h'):Inv X aB σ H' { s with heap:=h',toks:=t' }:=by
 obtain⟨m,⟨o,es,ep,ho,r⟩,_⟩:=id I.loc;obtain⟨sl,hL⟩:=u.any ho I.free (by simp);exact I.step (g':=s.gens) (d':=s.drawn) (ch:=[]) (λ_ z=>nomatch z) (λb o _ hb _ e n=>u.keep b o e n hb (by simp)) (λb o _ hb _ e n=>u.slot b o e n hb (by simp)) (λb o _ e n=>u.free b o e n (by simp)) (λb o _ e=>u.there b o e (by simp)) u.tups u.frzs u.tbls (λm' hm=>by
  obtain⟨o',es',ep',ho',r'⟩:=hm;rw[ho]at ho';cases ho';exact⟨_,es',ep',hL,r'⟩) hok I.bare
theorem Inv.call{g':Array GenState}{t':Nat}{d':Drawn}{ch:List Addr}(I:Inv X aB σ H s)(u:Un (frs X.stack) ch H H' s.heap h')(hok:HOk X.prog X.w H' h')(hg:AllBare g')
  (hch:∀b∈ch,(b∈X.ex\/X.s₀.heap.objs.size<=b)/\b≠X.env.locals/\(∀x c,X.env.cells.lookup x=some c->c≠b)/\∀p∈X.pn++aB,p.1≠b) :
  Inv X aB σ H' { s with heap:=h',gens:=g',drawn:=d',toks:=t' }:=by
 obtain⟨m,⟨o,es,ep,ho,r⟩,_⟩:=id I.loc;obtain⟨sl,hL⟩:=u.any ho I.free λz=>(hch _ z).2.1 rfl
 exact I.step (ch:=ch) hch (λb o hL hb hc e n=>u.keep b o e n (λz=>(hAc.mp (I.stkSub b z)).elim hL hb) hc) (λb o _ _ hc e n=>u.any e n hc) (λb o hc e n=>u.free b o e n hc) (λb o hc e=>u.there b o e hc) u.tups u.frzs u.tbls (λm' hm=>by
  obtain⟨o',es',ep',ho',r'⟩:=hm;rw[ho]at ho';cases ho';exact⟨_,es',ep',hL,r'⟩) hok hg
theorem Inv.turned{t':Nat}{it:Addr}(I:Inv X aB σ H s)(k:∀b o,b≠it->s.heap.get? b=some o->h'.get? b=some o)(hn:H it=none)(hL:it≠X.env.locals)
  (h1:it∈X.ex\/X.s₀.heap.objs.size<=it) (h2:∀x c,X.env.cells.lookup x=some c->c≠it) (h3:∀p∈X.pn++aB,p.1≠it):Inv X aB σ H { s with heap:=h',toks:=t' }:=by
 have nit:∀b u,H b=some u->b≠it:=λb u e z=>by rw[z,hn]at e;cases e
 refine I.step (g':=s.gens) (d':=s.drawn) (ch:=[it]) (λb hb=>?_) (λb o _ _ hc e _=>k b o (λz=>hc (by simp[z])) e) (λb o _ _ hc e _=>⟨o.slots,k b o (λz=>hc (by simp[z])) e⟩) (λ_ _ _ _ n=>n)
  (λb o hc e=>⟨o,k b o (λz=>hc (by simp[z])) e⟩) (λ_ _ e=>e) (λ_ _ _ e=>e) (λb ps e=>⟨#[],by rw[e];simp⟩) (λm hm=>?_) (λb u e=>?_) I.bare
 ·have e:b=it:=by simpa using hb
  subst e;exact⟨h1,hL,h2,h3⟩
 ·obtain⟨o,es,ep,ho,r⟩:=hm;exact⟨o,es,ep,k _ o (Ne.symm hL) ho,r⟩
 ·refine(I.hok b u e).stay (λc v hc q=>k c v ?_ q) (λ_ q=>q) λ_ _ q=>q
  rcases hc with z|z
  ·rw[z];exact nit b u e
  ·exact nit c _ z
theorem Inv.tok(I:Inv X aB σ H s)(t:Nat):Inv X aB σ H { s with toks:=t }:=I.un (h':=s.heap) (t':=t) Un.refl I.hok
theorem Inv.kept{t':Nat}(I:Inv X aB σ H s)(k:∀b u,s.heap.get? b=some u->h'.get? b=some u):Inv X aB σ H { s with heap:=h',toks:=t' }:=I.un (Un.kept k) (I.hok.kept k)
theorem Inv.laid{a:Addr}{o:HO}{t':Nat}(I:Inv X aB σ H s)(k:∀b u,s.heap.get? b=some u->h'.get? b=some u)(hp:s.heap.objs.size<=a)(new:qCg X.prog X.w (upd H a o) h' a o) :
  Inv X aB σ (upd H a o) { s with heap:=h',toks:=t' }:=I.un (Un.laid k hp (I.hok.fresh hp)) (I.hok.laid k hp new)
theorem Inv.write{x e:Addr}{o:HO}{t':Nat}(I:Inv X aB σ H s)(mu:Mut (H x))(he:e=x\/H e=some (.own x))(k:∀b u,b≠e->s.heap.get? b=some u->h'.get? b=some u)(heo:∃u,h'.get? e=some u)
  (new:qCg X.prog X.w (upd H x o) h' x o):Inv X aB σ (upd H x o) { s with heap:=h',toks:=t' }:=I.un (Un.write mu he k heo) (I.hok.write mu he k heo new)
theorem Inv.weak{σ':List (Option V)}(I:Inv X aB σ H s)(hl:σ'.length=σ.length)(w:∀(i:Nat) v,σ'[i]?=some (some v)->σ[i]?=some (some v)):Inv X aB σ' H s :=
 ⟨I.ok,I.os,I.bare,I.base,let ⟨m,hn,hl'⟩:=I.loc;⟨m,hn,λi x v e1 e2 e3=>hl' i x v e1 (w i v e2) e3⟩,I.cell,I.free,I.freeC,I.pin,I.hok,hl.trans I.len⟩
theorem Inv.pins_of{pins':List (Addr×Obj)}(I:Inv X aB σ H s)(h:∀p∈pins',s.heap.get? p.1=some p.2/\H p.1=none/\p.1≠X.env.locals/\p.1∉X.fs/\∀v,p.2.data≠.cell v):Inv X pins' σ H s :=
 ⟨I.ok,I.os,I.bare,I.base,I.loc,I.cell,I.free,I.freeC,λp hp=>(hAf.mp hp).elim (λz=>I.pin p (hAk _ z)) (h p),I.hok,I.len⟩
theorem qIp{N:List Str}(hN:N.Nodup){i j:Nat}{x:Str}(a:N[i]?=some x)(b:N[j]?=some x):i=j:=by
 obtain⟨h1,e1⟩:=hAi.mp a;obtain⟨h2,e2⟩:=hAi.mp b;exact(List.getElem_inj hN).mp (e1.trans e2.symm)
theorem qJl{M:Model}{A:Around}{E:Value->Shared->Prop}{i:Nat}{x:Str}{v:V}{u:Value}{Q:Unit->Shared->Prop}(I:Inv X aB σ H s)(hN:X.N.Nodup)(hi:X.N[i]?=some x)(hx:Loc X.env.scope x)(r:qC2 v u)
  (h:∀s',Inv X aB (σ.set i (some v)) H s'->(∃a,Heap.SameBut a s.heap s'.heap/\(a=X.env.locals\/X.env.cells.lookup x=some a))->Q () s') (hf:X.fn x=true\/X.env.scope.names.lookup x=some .local:=by first|exact .inl rfl|exact .inr rfl|assumption):wpAny M A (storeName X.env x u) Q E s:=by
 obtain⟨m,hn,hl⟩:=id I.loc;have hcls:(X.env.scope.kind == .class || (X.env.scope.kind == .module && X.env.locals != X.env.globals))=false:=by rw[I.ok.kind];rfl
 have hiσ:i < σ.length:=by rw[I.len];exact(hAi.mp hi).1
 have cne:=I.cne;have tracked:∀ {a:Addr} {h':Heap},(∃o,s.heap.get? a=some o/\H a=none)->Heap.SameBut a s.heap h'->HOk X.prog X.w H h':=λ{a h'} ha hs b ob e=>by
  obtain⟨_,_,hfree⟩:=ha;refine(I.hok b ob e).stay (λc w' hc q=>(hs.2 c ?_).trans q) (λ_ q=>q) λ_ _ q=>q
  rintro rfl;rcases hc with rfl|hc
  ·rw[hfree]at e;cases e
  ·rw[hfree]at hc;cases hc
 rcases hx with hk|hk
 ·refine wpAny_storeName_local hk hn (λh' hn' hs=>?_) hcls;obtain⟨oL,_,_,hoL,_⟩:=id hn;refine h _ ⟨I.ok,I.os,I.bare,⟨λb o e n hb hx=>?_,λb o e n hb hx=>?_,I.base.free,λb o e hx=>?_,I.base.tups,I.base.frzs,I.base.tbls⟩,⟨_,hn',λj y v' e1 e2 e3=>?_⟩,λy c e=>?_,I.free,I.freeC,λp hp=>?_,tracked ⟨oL,hoL,I.free⟩ hs,by simpa using I.len⟩ ⟨_,hs,.inl rfl⟩
  ·exact(hs.2 b (hAt (hAo (Heap.lt_size e) I.ok.above))).trans (I.base.keep b o e n hb hx)
  ·obtain⟨sl,e1⟩:=I.base.slot b o e n hb hx;exact⟨sl,(hs.2 b (hAt (hAo (Heap.lt_size e) I.ok.above))).trans e1⟩
  ·obtain⟨o',e1⟩:=I.base.there b o e hx;exact⟨o',(hs.2 b (hAt (hAo (Heap.lt_size e) I.ok.above))).trans e1⟩
  ·by_cases hj:j=i
   ·subst hj;rw[hi]at e1;cases e1;rw[hD5 hiσ]at e2;cases e2;exact⟨u,r,.inl ⟨hk,by simp⟩⟩
   ·rw[hD0 (Ne.symm hj)]at e2;obtain⟨u',r',q⟩:=hl j y v' e1 e2 e3;refine⟨u',r',?_⟩;rcases q with ⟨k,e⟩|⟨k,c,e,z⟩
    ·refine .inl ⟨k,?_⟩;have:y≠x:=λe=>hj (qIp hN e1 (e▸hi))
     simp[this,e]
    ·exact .inr ⟨k,c,e,z.sameBut hs (cne y c e)⟩
  ·obtain⟨w',z⟩:=I.cell y c e;exact⟨w',z.sameBut hs (cne y c e)⟩
  ·obtain⟨e,n,ne,nf,d⟩:=I.pin p hp;exact⟨(hs.2 p.1 ne).trans e,n,ne,nf,d⟩
 ·have hfn:X.fn x=true:=by
   rcases hf with z|z
   ·exact z
   ·rw[z]at hk;cases hk
  obtain⟨c,hc⟩:=I.ok.has x (.inl hk);obtain⟨w',z⟩:=I.cell x c hc;refine wpAny_storeName_cell I.ok.kind hk hc z (λh' hc' hs=>?_);obtain⟨oc,hoc,hocd⟩:=id z;refine h { s with heap:=h' } ⟨I.ok,I.os,I.bare,⟨λb o e n hb hx=>?_,λb o e n hb hx=>?_,I.base.free,λb o e hx=>?_,I.base.tups,I.base.frzs,I.base.tbls⟩,⟨m,hn.sameBut hs (Ne.symm (cne x c hc)),λj y v' e1 e2 e3=>?_⟩,λy c' e=>?_,I.free,I.freeC,λp hp=>?_,tracked ⟨oc,hoc,I.freeC x c hc⟩ hs,by simpa using I.len⟩ ⟨c,hs,.inr hc⟩
  ·exact(hs.2 b (hAt (hAo (Heap.lt_size e) (I.ok.cab x c hfn hc)))).trans (I.base.keep b o e n hb hx)
  ·obtain⟨sl,e1⟩:=I.base.slot b o e n hb hx;exact⟨sl,(hs.2 b (hAt (hAo (Heap.lt_size e) (I.ok.cab x c hfn hc)))).trans e1⟩
  ·obtain⟨o',e1⟩:=I.base.there b o e hx;exact⟨o',(hs.2 b (hAt (hAo (Heap.lt_size e) (I.ok.cab x c hfn hc)))).trans e1⟩
  ·by_cases hj:j=i
   ·subst hj;rw[hi]at e1;cases e1;rw[hD5 hiσ]at e2;cases e2;exact⟨u,r,.inr ⟨.inl hk,c,hc,hc'⟩⟩
   ·rw[hD0 (Ne.symm hj)]at e2;obtain⟨u',r',q⟩:=hl j y v' e1 e2 e3;refine⟨u',r',?_⟩;rcases q with q|⟨k,c',e,z'⟩
    ·exact .inl q
    ·refine .inr ⟨k,c',e,z'.sameBut hs ?_⟩;rintro rfl;exact hj (qIp hN e1 (I.ok.inj _ _ _ e hc▸hi))
  ·by_cases hcc:c'=c
   ·subst hcc;exact⟨_,hc'⟩
   ·obtain⟨w2,z2⟩:=I.cell y c' e;exact⟨w2,z2.sameBut hs hcc⟩
  ·obtain⟨e,n,ne,nf,d⟩:=I.pin p hp;refine⟨(hs.2 p.1 ?_).trans e,n,ne,nf,d⟩;intro q;rw[q,hoc]at e;have q':oc=p.2:=hAq e;exact d w' (by rw[<-q'];exact hocd)
theorem qEd{M:Model}{A:Around}{E:Value->Shared->Prop}{i:Nat}{x:Str}{v:V}{u:Value}{Q:Unit->Shared->Prop}(I:Inv X aB σ H s)(hN:X.N.Nodup)(hi:X.N[i]?=some x)(hx:Loc X.env.scope x)(r:qC2 v u)
  (h:∀s',Inv X aB (σ.set i (some v)) H s'->Q () s') (hf:X.fn x=true\/X.env.scope.names.lookup x=some .local:=by first|exact .inl rfl|exact .inr rfl|assumption):wpAny M A (storeName X.env x u) Q E s :=
 qJl I hN hi hx r (λs' I' _=>h s' I') hf
theorem Inv.call'{s':Shared}{ch:List Addr}(I:Inv X aB σ H s)(ho:s'.os=s.os)(u:Un (frs X.stack) ch H H' s.heap s'.heap)(hok:HOk X.prog X.w H' s'.heap)(hg:AllBare s'.gens)
  (hch:∀b∈ch,(b∈X.ex\/X.s₀.heap.objs.size<=b)/\b≠X.env.locals/\(∀x c,X.env.cells.lookup x=some c->c≠b)/\∀p∈X.pn++aB,p.1≠b):Inv X aB σ H' s':=by
 obtain⟨h',g',d',t',o'⟩:=s';have e:o'=s.os:=ho;subst e;exact I.call (g':=g') (t':=t') (d':=d') u hok hg hch
end
abbrev XK:=Value->Option Addr->Hp->Prop
abbrev St:=List (Option V)
abbrev VK:=V->Hp->Prop
abbrev TE:=St->Hp->VK->Prop
abbrev TT:=St->Hp->(Bool->Hp->Prop)->Prop
abbrev TA:=St->Hp->(List V->Hp->Prop)->Prop
structure Ends where
 nx:St->Hp->Prop
 rt:VK
 bk:St->Hp->Prop:=λ_ _=>False
 ct:St->Hp->Prop:=λ_ _=>False
abbrev TS:=Ends->St->Hp->Prop
def EP(X:Cx)(aB:List (Addr×Obj))(σ:St)(Q:VK)(u:Value)(s':Shared):Prop:=∃v H',Inv X aB σ H' s'/\qC2 v u/\Q v H'
def TP(X:Cx)(aB:List (Addr×Obj))(σ:St)(Q:Bool->Hp->Prop)(b:Bool)(s':Shared):Prop:=∃H',Inv X aB σ H' s'/\Q b H'
def AP(X:Cx)(aB:List (Addr×Obj))(σ:St)(Q:List V->Hp->Prop)(us:List Value)(s':Shared):Prop:=∃vs H',Inv X aB σ H' s'/\qBf vs us/\Q vs H'
def SP(X:Cx)(aB:List (Addr×Obj))(D:Ends)(f:Flow)(s':Shared):Prop :=
 match f with
 |.next=>∃σ' H',Inv X aB σ' H' s'/\D.nx σ' H'
 |.brk=>∃σ' H',Inv X aB σ' H' s'/\D.bk σ' H'
 |.cont=>∃σ' H',Inv X aB σ' H' s'/\D.ct σ' H'
 |.ret u=>∃v σ' H',Inv X aB σ' H' s'/\qC2 v u/\D.rt v H'
def PE(X:Cx)(e:Expr)(t:TE):Prop :=
 ∀(aB:List (Addr×Obj)) (s:Shared) (σ:St) (H:Hp) (Q:VK),Inv X aB σ H s->t σ H Q->wpAny (model X.prog X.w) X.A (eval e X.env) (EP X aB σ Q) X.xe s
def PT(X:Cx)(e:Expr)(t:TT):Prop :=
 ∀(aB:List (Addr×Obj)) (s:Shared) (σ:St) (H:Hp) (Q:Bool->Hp->Prop),Inv X aB σ H s->t σ H Q->wpAny (model X.prog X.w) X.A (isTrue e X.env (eval e X.env)) (TP X aB σ Q) X.xe s
def PW(X:Cx)(e:Expr)(t:TT):Prop :=
 ∀(whole:Sem Value) (aB:List (Addr×Obj)) (s:Shared) (σ:St) (H:Hp) (Q:Bool->Hp->Prop),Inv X aB σ H s->t σ H Q->wpAny (model X.prog X.w) X.A (isTrue e X.env whole) (TP X aB σ Q) X.xe s
theorem PW.pt{X:Cx}{e:Expr}{t:TT}(h:PW X e t):PT X e t:=h _
def PA(X:Cx)(es:List Expr)(t:TA):Prop :=
 ∀(pos:Pos) (aB:List (Addr×Obj)) (s:Shared) (σ:St) (H:Hp) (Q:List V->Hp->Prop),Inv X aB σ H s->t σ H Q->wpAny (model X.prog X.w) X.A (spliced (backTo pos (starEach es X.env))) (AP X aB σ Q) X.xe s
def PS(X:Cx)(st:Stmt)(t:TS):Prop :=
 ∀(aB:List (Addr×Obj)) (s:Shared) (σ:St) (H:Hp) (D:Ends),Inv X aB σ H s->t D σ H->wpAny (model X.prog X.w) X.A (exec st X.env) (SP X aB D) X.xe s
def PSs(X:Cx)(st:List Stmt)(t:TS):Prop :=
 ∀(aB:List (Addr×Obj)) (s:Shared) (σ:St) (H:Hp) (D:Ends),Inv X aB σ H s->t D σ H->wpAny (model X.prog X.w) X.A (execs st X.env) (SP X aB D) X.xe s
theorem thn{α:Type}{t:Sem α}{Q Q':α->Shared->Prop}{M:Model}{A:Around}{E:Value->Shared->Prop}{s:Shared}(h:wpAny M A t Q E s)(hQ:∀a s,Q a s->Q' a s):wpAny M A t Q' E s:=hDy h hQ λ_ _ x=>x
section
variable{X:Cx}
def zBw(i:Nat):TE:=λσ H Q=>∃v,σ[i]?=some (some v)/\Q v H
def tC(v:V):TE:=λ_ H Q=>Q v H
theorem qY5{i:Nat}{x:Str}{pos:Pos}(hN:X.N[i]?=some x)(hv:Vis X.env.scope x)(hd:(x == ("__debug__" : Str))=false:=by decide)(hcd:(x == ("__classdict__" : Str))=false:=by decide):PE X (.Name x pos) (zBw i):=by
 intro aB s σ H Q I h;obtain⟨v,e,h⟩:=h;obtain⟨m,hn,hl⟩:=I.loc;obtain⟨u,r,l⟩:=hl i x v hN e hv;have fin:EP X aB σ Q u s:=⟨v,H,I,r,h⟩;rcases l with ⟨hk,hm⟩|⟨hk,c,hc,hcell⟩
 ·exact wpAny_Name (wpAny_loadName_local I.ok.kind hk hn hm fin) hd
 ·rcases hk with hk|hk
  ·exact wpAny_Name (wpAny_loadName_cell I.ok.kind hk hc hcell fin) hd
  ·exact wpAny_Name (wpAny_loadName_free I.ok.kind hk hc hcell fin hcd) hd
theorem qAc{i j pos}:PE X (.Constant (.int i) j pos) (tC (.int i)):=λ_ _ _ H _ I h=>wpAny_Constant_int ⟨.int i,H,I.tok _,⟨_,rfl⟩,h⟩
theorem qGt{b j pos}:PE X (.Constant (.bool b) j pos) (tC (.bl b)):=λ_ _ _ H _ I h=>Constant_bool ⟨.bl b,H,I,rfl,h⟩
theorem qQh{j pos}:PE X (.Constant .none j pos) (tC .non):=λ_ _ _ H _ I h=>Constant_none ⟨.non,H,I,rfl,h⟩
theorem qA1{x j pos}:PE X (.Constant (.str x) j pos) (tC (.str x)):=λ_ _ _ H _ I h=>Calls.Constant_str ⟨.str x,H,I.tok _,⟨_,rfl⟩,h⟩
def Gl(X:Cx)(x:Str):Prop:=X.env.kindOf x=some .globalImplicit
theorem qFs{E:Value->Shared->Prop}{aB:List (Addr×Obj)}{s:Shared}{σ:St}{H:Hp}{x:Str}{u:Value}{pos:Pos}{Q:Value->Shared->Prop}(I:Inv X aB σ H s)(hg:Gl X x)(hm:X.mg x=some u)(h:Q u s)
  (hd:(x == ("__debug__" : Str))=false:=by decide):wpAny (model X.prog X.w) X.A (eval (.Name x pos) X.env) Q E s :=
 Calls.Name_function_global I.ok.kind hg (Calls.loadGlobal_global (by rw[I.ok.glob];exact I.mod.glob.keeps I.bk) hm h) hd
theorem qGy{E:Value->Shared->Prop}{aB:List (Addr×Obj)}{s:Shared}{σ:St}{H:Hp}{x:Str}{u:Value}{pos:Pos}{Q:Value->Shared->Prop}(I:Inv X aB σ H s)(hg:Gl X x)(hm:X.mg x=none)(hv:bootBuiltins x=some u)(h:Q u s)
  (hn:x≠"__name__":=by decide) (hd:(x == ("__debug__" : Str))=false:=by decide):wpAny (model X.prog X.w) X.A (eval (.Name x pos) X.env) Q E s:=by
 obtain⟨mb,h1,h2⟩:=I.mod.blt;exact Calls.Name_function_global I.ok.kind hg (Calls.loadGlobal_builtin (by rw[I.ok.glob];exact I.mod.glob.keeps I.bk) hm (by rw[I.ok.blt];exact h1.keeps I.bk) ((h2 x hn).trans hv) h) hd
theorem qCd{x:Str}{v:V}{u:Value}{pos:Pos}(hg:Gl X x)(hm:X.mg x=some u)(r:qC2 v u)(hd:(x == ("__debug__" : Str))=false:=by decide):PE X (.Name x pos) (tC v) :=
 λ_ _ _ H _ I h=>qFs I hg hm ⟨v,H,I,r,h⟩ hd
theorem qC6{x:Str}{v:V}{u:Value}{pos:Pos}(hg:Gl X x)(hm:X.mg x=none)(hv:bootBuiltins x=some u)(r:qC2 v u)(hn:x≠"__name__":=by decide)(hd:(x == ("__debug__" : Str))=false:=by decide):PE X (.Name x pos) (tC v) :=
 λ_ _ _ H _ I h=>qGy I hg hm hv ⟨v,H,I,r,h⟩ hn hd
variable{a b:Expr}{ta tb:TE}{pos:Pos}
def tB(t:TE):TT:=λσ H Q=>t σ H λx H1=>∃c,x = .bl c/\Q c H1
theorem qBy{e:Expr}{t:TE}(h:PE X e t)(he:∀whole,isTrue e X.env whole=(do let v ← whole;standAt e.pos;holding [v] (truthy v)):=by intro _;rfl):PT X e (tB t):=by
 intro aB s σ H Q I hw;refine isTrue_plain (thn (h aB s σ H _ I hw) λv s1 ⟨x,H1,I1,r1,q1⟩=>?_) (he _);obtain⟨d,rfl,q⟩:=q1;cases r1;exact hE1 ⟨H1,I1,q⟩
variable{tA tB':TT}{rest:List Expr}
def zCh(t u:TT):TT:=λσ H Q=>t σ H λc H1=>if c=true then u σ H1 Q else Q false H1
def tOr(t u:TT):TT:=λσ H Q=>t σ H λc H1=>if c=true then Q true H1 else u σ H1 Q
def zCb(t:TT):TT:=λσ H Q=>t σ H λc H1=>Q (!c) H1
theorem qIj(ha:PT X a tA):PW X (.BoolOp .And [a] pos) tA:=by
 intro wh aB s σ H Q I h;refine isTrue_and (thn (ha aB s σ H Q I h) λc s1 e=>?_);cases c with
 |true=>exact isTrue_and_nil e
 |false=>exact e
theorem qDi(ha:PT X a tA):PW X (.BoolOp .Or [a] pos) tA:=by
 intro wh aB s σ H Q I h;refine isTrue_or (thn (ha aB s σ H Q I h) λc s1 e=>?_);cases c with
 |false=>exact isTrue_or_nil e
 |true=>exact e
theorem qM3(ha:PT X a tA)(hb:PW X (.BoolOp .And (b :: rest) pos) tB'):PW X (.BoolOp .And (a :: b :: rest) pos) (zCh tA tB'):=by
 intro wh aB s σ H Q I h;refine isTrue_and (thn (ha aB s σ H _ I h) λc s1 ⟨H1,I1,q1⟩=>?_);cases c with
 |true=>exact hb wh aB s1 σ H1 Q I1 q1
 |false=>exact⟨H1,I1,q1⟩
theorem qDv(ha:PT X a tA)(hb:PW X (.BoolOp .Or (b :: rest) pos) tB'):PW X (.BoolOp .Or (a :: b :: rest) pos) (tOr tA tB'):=by
 intro wh aB s σ H Q I h;refine isTrue_or (thn (ha aB s σ H _ I h) λc s1 ⟨H1,I1,q1⟩=>?_);cases c with
 |true=>exact⟨H1,I1,q1⟩
 |false=>exact hb wh aB s1 σ H1 Q I1 q1
theorem qBz(ha:PT X a tA):PT X (.UnaryOp .Not a pos) (zCb tA):=by
 intro aB s σ H Q I h;exact isTrue_not (ha aB s σ H (λc H1=>Q (!c) H1) I h)
def zAw(ta tb:TE):TE:=λσ H Q=>ta σ H λx H1=>∃c,x = .bl c/\if c=true then tb σ H1 Q else Q (.bl false) H1
def zAq(ta:TE):TE:=λσ H Q=>ta σ H λx H1=>∃c,x = .bl c/\Q (.bl (!c)) H1
theorem qHs{op}{t:TE}(h:PE X a t):PE X (.BoolOp op [a] pos) t:=λaB s σ H Q I hw=>BoolOp_one (h aB s σ H Q I hw)
theorem qGu(ha:PE X a ta)(hb:PE X (.BoolOp .And (b :: rest) pos) tb):PE X (.BoolOp .And (a :: b :: rest) pos) (zAw ta tb):=by
 intro aB s σ H Q I h;refine BoolOp_and (thn (ha aB s σ H _ I h) λv s1 ⟨x,H1,I1,r1,q1⟩=>?_);obtain⟨c,rfl,q1⟩:=q1;cases r1;refine hE1 ?_;cases c with
 |true=>exact hb aB s1 σ H1 Q I1 q1
 |false=>exact⟨.bl false,H1,I1,rfl,q1⟩
theorem qY6(ha:PE X a ta):PE X (.UnaryOp .Not a pos) (zAq ta):=by
 intro aB s σ H Q I h;refine UnaryOp_ (thn (ha aB s σ H _ I h) λv s1 ⟨x,H1,I1,r1,q1⟩=>?_);obtain⟨c,rfl,q1⟩:=q1;cases r1;exact not_of (hE1 ⟨.bl (!c),H1,I1,rfl,q1⟩)
def tIf(t:TT)(ta tb:TE):TE:=λσ H Q=>t σ H λc H1=>if c=true then ta σ H1 Q else tb σ H1 Q
theorem qEi{c:Expr}(hc:PT X c tA)(ha:PE X a ta)(hb:PE X b tb):PE X (.IfExp c a b pos) (tIf tA ta tb):=by
 intro aB s σ H Q I h;refine wpAny_IfExp (thn (hc aB s σ H _ I h) λd s1 ⟨H1,I1,q1⟩=>?_);cases d with
 |true=>exact ha aB s1 σ H1 Q I1 q1
 |false=>exact hb aB s1 σ H1 Q I1 q1
end
def SqL(K:PySem.W.Frag)(H:Hp)(a:Addr)(xs:List V):Prop :=
 Rd H a (.lst xs) \/
  ∃(o:Obj) (its:Array Value) (n:Nat),K.lookup a=some o/\o.cls = .type "list"/\o.dict=none/\o.data = .seq its n/\its.size<=sizeLine/\qBf xs its.toList
def SqT(K:PySem.W.Frag)(H:Hp)(a:Addr)(xs:List V):Prop :=
 Rd H a (.tup xs) \/
  ∃(o:Obj) (its:Array Value) (n:Nat),K.lookup a=some o/\o.cls = .type "tuple"/\o.data = .seq its n/\its.size<=sizeLine/\qBf xs its.toList
def zC2:Value->Option V
 |.none=>some .non
 |.bool b=>some (.bl b)
 |.int i _=>some (.int i)
 |.str x _=>some (.str x)
 |.bytes b _=>some (.byt b)
 |.float b _=>some (.flt b)
 |.ref a=>some (.ref a)
 |.type n=>some (.ty n)
 |_=>none
theorem qC2.abs{x:V}{u:Value}(r:qC2 x u):zC2 u=some x:=by
 cases x with
 |non=>cases r;rfl
 |bl _=>cases r;rfl
 |int _=>obtain⟨t,rfl⟩:=r;rfl
 |str _=>obtain⟨t,rfl⟩:=r;rfl
 |byt _=>obtain⟨t,rfl⟩:=r;rfl
 |flt _=>obtain⟨t,rfl⟩:=r;rfl
 |ref _=>cases r;rfl
 |ty _=>cases r;rfl
theorem qC2.inj{x y:V}{u:Value}(r:qC2 x u)(q:qC2 y u):x=y:=hAq (r.abs.symm.trans q.abs)
theorem qBf.inj:∀ {xs ys:List V} {us:List Value},qBf xs us->qBf ys us->xs=ys
 |_,_,_,.nil,.nil=>rfl
 |_,_,_,.cons r t,.cons r' t'=>by rw[r.inj r',qBf.inj t t']
section
variable{X:Cx}{aB:List (Addr×Obj)}{σ:St}{H:Hp}{s:Shared}{a:Addr}{xs ys:List V}
theorem SqL.of{K:PySem.W.Frag}(h:H a=some (.lst xs)):SqL K H a xs:=.inl (.inl h)
theorem SqT.of{K:PySem.W.Frag}(h:H a=some (.tup xs)):SqT K H a xs:=.inl (.inl h)
theorem Inv.list(I:Inv X aB σ H s)(h:SqL X.K H a xs):∃its:List Value,qBf xs its/\PlainL s.heap a its.toArray/\xs.length<=sizeLine:=by
 rcases h with h|⟨o,its,n,hk,hc,hd,hs,hz,r⟩
 ·obtain⟨z,its,n,r,e⟩:=h.ok I.hok;exact⟨its,r,⟨_,n,e,rfl,rfl,rfl⟩,z⟩
 ·refine⟨its.toList,r,⟨o,n,I.kIn a o hk,hc,hd,by simpa using hs⟩,?_⟩;have e:=r.length;simp only[hBr]at e;omega
theorem Inv.tuple(I:Inv X aB σ H s)(h:SqT X.K H a xs):∃its:List Value,qBf xs its/\IsTup s.heap a its.toArray/\xs.length<=sizeLine:=by
 rcases h with h|⟨o,its,n,hk,hc,hs,hz,r⟩
 ·obtain⟨z,its,r,p⟩:=h.ok I.hok;exact⟨its,r,p,z⟩
 ·refine⟨its.toList,r,⟨o,I.kIn a o hk,hc,n,by simpa using hs⟩,?_⟩;have e:=r.length;simp only[hBr]at e;omega
theorem Inv.list_inj(I:Inv X aB σ H s)(h:SqL X.K H a xs)(h':SqL X.K H a ys):xs=ys:=by
 obtain⟨its,r,⟨o,n,e,_,_,d⟩,_⟩:=I.list h;obtain⟨its',r',⟨o',n',e',_,_,d'⟩,_⟩:=I.list h';rw[e]at e';cases e';rw[d]at d';injection d' with d1 _
 have:its=its':=by simpa using congrArg Array.toList d1
 subst this;exact r.inj r'
theorem Inv.tuple_inj(I:Inv X aB σ H s)(h:SqT X.K H a xs)(h':SqT X.K H a ys):xs=ys:=by
 obtain⟨its,r,⟨o,e,_,n,d⟩,_⟩:=I.tuple h;obtain⟨its',r',⟨o',e',_,n',d'⟩,_⟩:=I.tuple h';rw[e]at e';cases e';rw[d]at d';injection d' with d1 _
 have:its=its':=by simpa using congrArg Array.toList d1
 subst this;exact r.inj r'
end
abbrev Cx.wish(X:Cx)(E:Value->Shared->Prop):Cx:={ X with xe:=E }
abbrev Cx.nox(X:Cx):Cx:=X.wish λ_ _=>False
theorem Cx.Ok.wish{X:Cx}(ok:X.Ok)(E:Value->Shared->Prop):(X.wish E).Ok :=
 ⟨ok.mod,ok.kind,ok.glob,ok.blt,ok.above,ok.inj,ok.has,ok.cab,ok.hd,ok.frames,ok.stk,ok.exf,ok.bs,ok.bsz,ok.noex,ok.exfs,ok.funs,ok.frf⟩
theorem Cx.Ok.unwish{X:Cx}{E:Value->Shared->Prop}(ok:(X.wish E).Ok):X.Ok :=
 ⟨ok.mod,ok.kind,ok.glob,ok.blt,ok.above,ok.inj,ok.has,ok.cab,ok.hd,ok.frames,ok.stk,ok.exf,ok.bs,ok.bsz,ok.noex,ok.exfs,ok.funs,ok.frf⟩
section
variable{X:Cx}{aB:List (Addr×Obj)}{σ:St}{H:Hp}{s:Shared}{E:Value->Shared->Prop}
theorem Inv.wish(I:Inv X aB σ H s)(E:Value->Shared->Prop):Inv (X.wish E) aB σ H s:=⟨I.ok.wish E,I.os,I.bare,I.base,I.loc,I.cell,I.free,I.freeC,I.pin,I.hok,I.len⟩
theorem Inv.unwish(I:Inv (X.wish E) aB σ H s):Inv X aB σ H s:=⟨I.ok.unwish,I.os,I.bare,I.base,I.loc,I.cell,I.free,I.freeC,I.pin,I.hok,I.len⟩
theorem SP.unwish{D:Ends}{f:Flow}{s':Shared}(h:SP (X.wish E) aB D f s'):SP X aB D f s':=by
 cases f with
 |next=>obtain⟨σ',H',I,q⟩:=h;exact⟨σ',H',I.unwish,q⟩
 |brk=>obtain⟨σ',H',I,q⟩:=h;exact⟨σ',H',I.unwish,q⟩
 |cont=>obtain⟨σ',H',I,q⟩:=h;exact⟨σ',H',I.unwish,q⟩
 |ret u=>obtain⟨v,σ',H',I,r,q⟩:=h;exact⟨v,σ',H',I.unwish,r,q⟩
theorem PSs.nox{st:List Stmt}{t:TS}(h:PSs X.nox st t):PSs X st t:=λaB s σ H D I hw =>
 hDy (h aB s σ H D (I.wish _) hw) (λ_ _ q=>q.unwish) λ_ _ z=>False.elim z
end
section
variable{X:Cx}{st:Stmt}{rest:List Stmt}{t u:TS}{e:Expr}{te:TE}{pos:Pos}
def zAr:TS:=λD σ H=>D.nx σ H
def qOt(t u:TS):TS:=λD σ H=>t { D with nx:=u D } σ H
theorem qAu:PSs X [] zAr:=λ_ _ σ H _ I h=>hEe ⟨σ,H,I,h⟩
theorem qAb(h1:PS X st t)(h2:PSs X rest u):PSs X (st :: rest) (qOt t u):=by
 intro aB s σ H D I h;refine wpAny_execs_cons (thn (h1 aB s σ H { D with nx:=u D } I h) λf s1 q=>?_);cases f with
 |next =>
  obtain⟨σ',H',I',q⟩:=q;exact h2 aB s1 σ' H' D I' q
 |ret v=>exact q
 |brk=>exact q
 |cont=>exact q
theorem qAd(h1:PS X st t):PSs X [st] t:=by
 intro aB s σ H D I h;refine wpAny_execs_cons (thn (h1 aB s σ H D I h) λf s1 q=>?_);cases f with
 |next=>exact hEe q
 |ret v=>exact q
 |brk=>exact q
 |cont=>exact q
theorem Inv.quiet{aB:List (Addr×Obj)}{σ:St}{H:Hp}{s:Shared}(I:Inv X aB σ H s):interactive X.env=false:=by simp[interactive,I.ok.kind]
def zAv(te:TE):TS:=λD σ H=>te σ H λ_ H1=>D.nx σ H1
theorem qC3(he:PE X e te)(hs:swapsWith e none pos.line X.env=pure false:=by rfl):PS X (.Expr e pos) (zAv te):=by
 intro aB s σ H D I h;exact wpAny_Expr_any (thn (he aB s σ H _ I h) λv s1 ⟨x,H1,I1,r1,q1⟩=>⟨σ,H1,I1,q1⟩) I.quiet hs
def zB9(te:TE):TS:=λD σ H=>te σ H D.rt
theorem qAo(he:PE X e te):PS X (.Return (some e) pos) (zB9 te):=by
 intro aB s σ H D I h;exact wpAny_Return_some (thn (he aB s σ H _ I h) λv s1 ⟨x,H1,I1,r1,q1⟩=>⟨x,σ,H1,I1,r1,q1⟩)
def zCc(c:TT)(t u:TS):TS:=λD σ H=>c σ H λb H1=>if b=true then t D σ H1 else u D σ H1
theorem qBb{c:Expr}{a b:List Stmt}{tc:TT}(hc:PT X c tc)(ha:PSs X a t)(hb:PSs X b u):PS X (.If c a b pos) (zCc tc t u):=by
 intro aB s σ H D I h;refine wpAny_If (thn (hc aB s σ H _ I h) λd s1 ⟨H1,I1,q1⟩=>?_);cases d with
 |true=>exact ha aB s1 σ H1 D I1 q1
 |false=>exact hb aB s1 σ H1 D I1 q1
end
abbrev TG:=V->St->Hp->(St->Hp->Prop)->Prop
abbrev TGs:=List V->St->Hp->(St->Hp->Prop)->Prop
def PG(X:Cx)(target:Expr)(t:TG):Prop :=
 ∀(aB:List (Addr×Obj)) (s:Shared) (σ:St) (H:Hp) (v:V) (u:Value) (Q:St->Hp->Prop),Inv X aB σ H s->qC2 v u->t v σ H Q ->
  wpAny (model X.prog X.w) X.A (assign target X.env u) (λ_ s'=>∃σ' H',Inv X aB σ' H' s'/\Q σ' H') X.xe s
def PGs(X:Cx)(ts:List Expr)(t:TGs):Prop :=
 ∀(aB:List (Addr×Obj)) (s:Shared) (σ:St) (H:Hp) (vs:List V) (us:List Value) (Q:St->Hp->Prop),Inv X aB σ H s->qBf vs us->t vs σ H Q ->
  wpAny (model X.prog X.w) X.A (assignInOrder ((assignEach ts X.env).map (·.2)) us) (λ_ s'=>∃σ' H',Inv X aB σ' H' s'/\Q σ' H') X.xe s
abbrev TIp:=V->V->Hp->VK->Prop
def PIp(X:Cx)(op:Operator)(t:TIp):Prop :=
 ∀(aB:List (Addr×Obj)) (s:Shared) (σ:St) (H:Hp) (x y:V) (v u:Value) (Q:VK),Inv X aB σ H s->qC2 x v->qC2 y u->t x y H Q ->
  wpAny (model X.prog X.w) X.A (inplaceOp op v u) (EP X aB σ Q) X.xe s
section
variable{X:Cx}{pos:Pos}
def qL0(i:Nat):TG:=λv σ H Q=>Q (σ.set i (some v)) H
theorem qAh{i:Nat}{x:Str}(hN:X.N.Nodup)(hi:X.N[i]?=some x)(hx:Loc X.env.scope x)(hf:X.fn x=true\/X.env.scope.names.lookup x=some .local:=by first|exact .inl rfl|exact .inr rfl|assumption):PG X (.Name x pos) (qL0 i):=by
 intro aB s σ H v u Q I r h;exact wpAny_assign_Name (qEd I hN hi hx r (λs' I'=>⟨_,H,I',h⟩) hf)
def zC0:TGs:=λvs σ H Q=>vs=[]/\Q σ H
def qZ2(t:TG)(u:TGs):TGs:=λvs σ H Q=>∃v r,vs=v :: r/\t v σ H λσ' H'=>u r σ' H' Q
theorem qBj:PGs X [] zC0:=by
 intro aB s σ H vs us Q I r h;obtain⟨e,h⟩:=h;subst e;cases r;exact assignInOrder_nil ⟨σ,H,I,h⟩
theorem qAr{e:Expr}{es:List Expr}{t:TG}{u:TGs}(h1:PG X e t)(h2:PGs X es u)
  (hs:(assignEach (e :: es) X.env).map (·.2)=assign e X.env :: (assignEach es X.env).map (·.2):=by rfl):PGs X (e :: es) (qZ2 t u):=by
 intro aB s σ H vs us Q I r h;obtain⟨v,vr,e1,h⟩:=h;subst e1;cases r with
 |cons r rr =>
  rw[hs];refine assignInOrder_cons (thn (h1 aB s σ H _ _ _ I r h) λ_ s1 ⟨σ1,H1,I1,q1⟩=>?_);exact h2 aB s1 σ1 H1 _ _ Q I1 rr q1
def qUr(K:PySem.W.Frag)(n:Nat)(t:TGs):TG:=λv σ H Q=>∃a xs,v = .ref a/\SqT K H a xs/\xs.length=n/\t xs σ H Q
theorem qCa{es:List Expr}{k:Nat}{t:TGs}{n:Nat}(hc:X.calm=true)(h:PGs X es t)
  (hn:(assignEach es X.env).length=n:=by rfl) (hst:(assignEach es X.env).findIdx? (·.1)=none:=by rfl):PG X (.Tuple es k pos) (qUr X.K n t):=by
 intro aB s σ H v u Q I r hw;obtain⟨a,xs,e1,hq,hl,hw⟩:=hw;subst e1;cases r;obtain⟨its,rv,ht,hz⟩:=I.tuple hq;refine assign_Tuple_tuple (I.ok.hd hc) ht (by simp[hn,<-hl,rv.length]) hst λh' hx=>?_
 have I1:Inv X aB σ H { s with heap:=h' }:=I.kept (t':=s.toks) λb o e=>hx b o (hAt (Heap.lt_size e)) e
 exact h aB _ σ H xs _ Q I1 (by simpa using rv) hw
def qYh(te:TE)(g:TG):TS:=λD σ H=>te σ H λx H1=>g x σ H1 D.nx
theorem qE3{tg e:Expr}{te:TE}{g:TG}(he:PE X e te)(hg:PG X tg g)(hs:swapsWithSole [tg] e pos.line X.env=pure false:=by rfl)(hw:swappedStores [tg] e X.env=pure none:=by rfl)
  (h1:(assignEach [tg] X.env).map (·.2)=[assign tg X.env]:=by rfl):PS X (.Assign [tg] e pos) (qYh te g):=by
 intro aB s σ H D I h;refine wpAny_Assign_stores (thn (he aB s σ H _ I h) λv s1 ⟨x,H1,I1,r1,q1⟩=>?_) hs hw;rw[h1];exact thn (hg aB s1 σ H1 x v _ I1 r1 q1) λ_ s2 q=>q
theorem qAj{i:Nat}{x:Str}{e:Expr}{te:TE}{pos':Pos}(hN:X.N.Nodup)(hi:X.N[i]?=some x)(hx:Loc X.env.scope x)(he:PE X e te)(hs:swapsWith e (some (.Name x pos')) pos.line X.env=pure false:=by rfl)(hf:X.fn x=true\/X.env.scope.names.lookup x=some .local:=by first|exact .inl rfl|exact .inr rfl|assumption) :
  PS X (.Assign [.Name x pos'] e pos) (qYh te (qL0 i)):=by
 intro aB s σ H D I h;refine wpAny_Assign_Name (thn (he aB s σ H _ I h) λv s1 ⟨y,H1,I1,r1,q1⟩=>?_) hs;exact qEd I1 hN hi hx r1 (λs2 I2=>⟨_,H1,I2,q1⟩) hf
def zCg(i:Nat)(te:TE)(ti:TIp):TS:=λD σ H=>∃x,σ[i]?=some (some x)/\te σ H λy H1=>ti x y H1 λz H2=>D.nx (σ.set i (some z)) H2
theorem qQd{i:Nat}{x:Str}{e:Expr}{te:TE}{op:Operator}{ti:TIp}{pos':Pos}(hN:X.N.Nodup)(hi:X.N[i]?=some x)(hx:Loc X.env.scope x)(he:PE X e te)(ho:PIp X op ti)(hf:X.fn x=true\/X.env.scope.names.lookup x=some .local:=by first|exact .inl rfl|exact .inr rfl|assumption) :
  PS X (.AugAssign (.Name x pos') op e pos) (zCg i te ti):=by
 intro aB s σ H D I h;obtain⟨v,e1,h⟩:=h;obtain⟨m,hn,hl⟩:=I.loc;have vis:Vis X.env.scope x:=by rcases hx with k|k;exact .inl k;exact .inr (.inl k)
 obtain⟨u,r,l⟩:=hl i x v hi e1 vis;refine wpAny_AugAssign_Name ?_;have go:wpAny (model X.prog X.w) X.A (eval e X.env) (λw s₂=>wpAny (model X.prog X.w) X.A (inplaceOp op u w) (λr s₃=>wpAny (model X.prog X.w) X.A (storeName X.env x r) (λ_=>SP X aB D .next) X.xe s₃) X.xe s₂) X.xe s:=by
  refine thn (he aB s σ H _ I h) λw s1 ⟨y,H1,I1,r1,q1⟩=>?_
  refine thn (ho aB s1 σ H1 v y u w _ I1 r r1 q1) λz s2 ⟨zv,H2,I2,r2,q2⟩=>?_
  exact qEd I2 hN hi hx r2 (λs3 I3=>⟨_,H2,I3,q2⟩) hf
 rcases l with ⟨hk,hm⟩|⟨hk,c,hc,hcell⟩
 ·exact wpAny_loadName_local I.ok.kind hk hn hm go
 ·rcases hk with hk|hk
  ·exact wpAny_loadName_cell I.ok.kind hk hc hcell go
  ·rcases hx with k|k
   ·have:X.env.scope.names.lookup x=some .free:=hk;rw[k]at this;cases this
   ·have:X.env.scope.names.lookup x=some .free:=hk;rw[k]at this;cases this
def ipI(f:Int->Int->Int):TIp:=λx y H Q=>∃i j,x = .int i/\y = .int j/\Q (.int (f i j)) H
theorem qUo:PIp X .Add (ipI λi j=>i+j):=by
 intro aB s σ H x y v u Q I r1 r2 h;obtain⟨i,j,e1,e2,q⟩:=h;subst e1;subst e2;obtain⟨t,rfl⟩:=r1;obtain⟨t',rfl⟩:=r2;exact iadd_int ⟨.int _,H,I.tok _,⟨_,rfl⟩,q⟩
theorem qZw:PIp X .Sub (ipI λi j=>i-j):=by
 intro aB s σ H x y v u Q I r1 r2 h;obtain⟨i,j,e1,e2,q⟩:=h;subst e1;subst e2;obtain⟨t,rfl⟩:=r1;obtain⟨t',rfl⟩:=r2;exact isub_int ⟨.int _,H,I.tok _,⟨_,rfl⟩,q⟩
end
section
variable{X:Cx}{pos:Pos}
def qYd(c:TT)(tb:TS):TS:=λD σ H=>∃W:Nat->St->Hp->Prop,(∃m,W m σ H)/\∀m σ H,W m σ H ->
 c σ H λb H1=>if b=true then ∃N:St->Hp->Prop,(∀σ' H',N σ' H'->∃m',m'<m/\W m' σ' H')/\tb { D with nx:=N,ct:=N,bk:=D.nx } σ H1 else D.nx σ H1
theorem qM5{c:Expr}{body:List Stmt}{tc:TT}{tb:TS}(hp:PassesOwn (model X.prog X.w) X.A X.env X.xe)(hc:PT X c tc)(hb:PSs X body tb):PS X (.While c body [] pos) (qYd tc tb):=by
 intro aB s σ H D I h;obtain⟨W,⟨m0,w0⟩,turn⟩:=h;refine wpAny_While (codeAny_whileLoop (λn s'=>∃σ' H',Inv X aB σ' H' s'/\W n σ' H') ?_ m0 ⟨σ,H,I,w0⟩);rintro n s1 ⟨σ1,H1,I1,w1⟩;refine hE5 hp (thn (hc aB s1 σ1 H1 _ I1 (turn n σ1 H1 w1)) λb s2 ⟨H2,I2,q2⟩=>?_);cases b with
 |true =>
  obtain⟨N,hN,q2⟩:=q2;rw[hDw rfl];refine hE5 hp (thn (hb aB s2 σ1 H2 _ I2 q2) λf s3 q3=>?_);cases f with
  |next =>
   obtain⟨σ3,H3,I3,n3⟩:=q3;obtain⟨m',hm,w3⟩:=hN σ3 H3 n3;exact⟨m',hm,σ3,H3,I3,w3⟩
  |cont =>
   obtain⟨σ3,H3,I3,n3⟩:=q3;obtain⟨m',hm,w3⟩:=hN σ3 H3 n3;exact⟨m',hm,σ3,H3,I3,w3⟩
  |brk=>exact q3
  |ret v=>exact q3
 |false =>
  rw[hDv hAm];exact hEe ⟨σ1,H2,I2,q2⟩
end
structure It where
 go:Nat->Hp->Prop
 yld:Nat->Hp->V->Hp->Prop
 stop:Nat->Hp->Prop
def qI9(X:Cx)(aB:List (Addr×Obj))(H:Hp)(b:Addr):Prop :=
 H b=none/\b≠X.env.locals/\b∉X.fs/\(b∈X.ex\/X.s₀.heap.objs.size<=b)/\(∀x c,X.env.cells.lookup x=some c->c≠b)/\∀p∈X.pn++aB,p.1≠b
theorem Inv.fpOk{X:Cx}{aB:List (Addr×Obj)}{σ:St}{H H':Hp}{s:Shared}{b:Addr}(I:Inv X aB σ H s)(hb:s.heap.objs.size<=b)(hn:H' b=none):qI9 X aB H' b:=by
 refine⟨hn,hDn (hAo I.lt hb),I.nofs hb,.inr (hAv I.sz hb),λx c e z=>?_,λp hp z=>?_⟩
 ·obtain⟨v,q⟩:=I.cell x c e;exact absurd (hAo q.lt (by rw[z];exact hb)) (hBz _)
 ·exact absurd (hAo (Heap.lt_size (I.pin p hp).1) (by rw[z];exact hb)) (hBz _)
structure Turn(P:Program)(w:World)(K:PySem.W.Frag)(tg:Expr)(J:It)(fp:List Addr)(it:Addr)(tn:Nat->Heap->Prop)(c:Cx->Prop:=λX=>X.calm=true):Prop where
 mem:it∈fp
 obj:∀i h,tn i h->∀b∈fp,∃o,h.get? b=some o/\∀v,o.data≠.cell v
 keep:∀i h h',tn i h->(∀b∈fp,∀o,h.get? b=some o->h'.get? b=some o)->tn i h'
 item:∀(X:Cx),X.prog=P->X.w=w->X.K=K->c X->∀(i:Nat) (aB:List (Addr×Obj)) (s:Shared) (σ:St) (H:Hp) (E:Value->Shared->Prop),Inv X aB σ H s->(∀b∈fp,qI9 X aB H b)->tn i s.heap->J.go i H ->
  wpAny (model P w) X.A (pyNext (.ref it)) (λr s1=>∃u,r=some u /\
   wpAny (model P w) X.A (letOwnedTupleGo tg (.ref it) u) (λ_ s2=>∃x H',Inv X aB σ H' s2/\qC2 x u/\J.yld i H x H'/\tn (i+1) s2.heap/\∀b∈fp,H' b=none) E s1) E s
 done:∀(X:Cx),X.prog=P->X.w=w->X.K=K->c X->∀(i:Nat) (aB:List (Addr×Obj)) (s:Shared) (σ:St) (H:Hp) (E:Value->Shared->Prop),Inv X aB σ H s->(∀b∈fp,qI9 X aB H b)->tn i s.heap->J.stop i H ->
  wpAny (model P w) X.A (pyNext (.ref it)) (λr s1=>r=none/\Inv X aB σ H s1) E s
 self:∀(A:Around) (i:Nat) (s:Shared) (Q:Value->Shared->Prop) (E:Value->Shared->Prop),tn i s.heap->Q (.ref it) s->wpAny (model P w) A (pyIter (.ref it)) Q E s
abbrev TI:=St->Hp->(It->Hp->Prop)->Prop
def PIE(X:Cx)(aB:List (Addr×Obj))(σ:St)(tg:Expr)(R:It->Hp->Prop)(itv:Value)(s2:Shared):Prop :=
 ∃(it:Addr) (fp:List Addr) (tn:Nat->Heap->Prop) (J:It) (H':Hp),itv = .ref it/\Inv X aB σ H' s2/\Turn X.prog X.w X.K tg J fp it tn/\tn 0 s2.heap/\(∀b∈fp,qI9 X aB H' b)/\R J H'
def PI(X:Cx)(tg iter:Expr)(wi:TI):Prop :=
 ∀(aB:List (Addr×Obj)) (s:Shared) (σ:St) (H:Hp) (R:It->Hp->Prop),Inv X aB σ H s->wi σ H R ->
  wpAny (model X.prog X.w) X.A (eval iter X.env) (λv s1=>wpAny (model X.prog X.w) X.A (pyIter v) (PIE X aB σ tg R) X.xe s1) X.xe s
theorem qS9{M:Model}{A:Around}{E:Value->Shared->Prop}{s:Shared}{tg:Expr}{it:Addr}{u:Value}{o:Obj}{n:String}{vs:Array Value}{Q:Unit->Shared->Prop}(ho:s.heap.get? it=some o)(hc:o.cls = .type n)(hd:o.data = .fields vs)
  (hn:["enumerate","zip","dict_itemiterator","dict_reverseitemiterator","odict_iterator","itertools.zip_longest","itertools.pairwise"].contains n=false) (hQ:Q () s):wpAny M A (letOwnedTupleGo tg (.ref it) u) Q E s:=by
 unfold letOwnedTupleGo;cases tg <;> first
  |exact hDt hQ
  |(cases u <;> first
    |exact hDt hQ
    |(refine hDq (wpAny_load ho ?_);rw[hc,hd];show wpAny M A (if (["enumerate","zip","dict_itemiterator","dict_reverseitemiterator","odict_iterator","itertools.zip_longest","itertools.pairwise"].contains n && vs[0]? == some (rawInt _))=true then _ else _) Q E s;rw[hDv (by intro h;rw[hn,Bool.false_and]at h;cases h)];exact hDt hQ))
def Itl(K:PySem.W.Frag)(a:Addr):It :=
 ⟨λi H=>∃xs x,SqL K H a xs/\xs[i]?=some x,λi H x H'=>H'=H/\∀xs,SqL K H a xs->xs[i]?=some x,λi H=>∃xs,SqL K H a xs/\xs.length<=i⟩
def Itt(K:PySem.W.Frag)(a:Addr):It :=
 ⟨λi H=>∃xs x,SqT K H a xs/\xs[i]?=some x,λi H x H'=>H'=H/\∀xs,SqT K H a xs->xs[i]?=some x,λi H=>∃xs,SqT K H a xs/\xs.length<=i⟩
def Itr(lo:Int)(n:Nat):It:=⟨λi _=>i<n,λi H x H'=>H'=H/\x = .int (lo+i),λi _=>n<=i⟩
theorem qO1{P:Program}{w:World}{K:PySem.W.Frag}{tg:Expr}(a it:Addr):Turn P w K tg (Itl K a) [it] it (λi h=>h.IsListIter it a i) where
 mem:=by simp
 obj:=λi h st b hb=>by
  have e:b=it:=by simpa using hb
  subst e;obtain⟨o,e,c,d⟩:=st;exact⟨o,e,λv z=>by rw[d]at z;cases z⟩
 keep:=λi h h' st k=>st.at λo e=>k it (by simp) o e
 item:=by
  intro X hP hw hK hc i aB s σ H E I hf st hg;subst hP hw hK;obtain⟨xs,x,hq,hx⟩:=hg;obtain⟨its,rv,p,hz⟩:=I.list hq;obtain⟨u,hu,ru⟩:=rv.get hx;obtain⟨f0,f1,f2,f3,f4,f5⟩:=hf it (by simp);refine wpAny_pyNext_list_item st p.isList (x:=u) (by simpa using hu) λh' st' sb=>?_
  have I1:Inv X aB σ H { s with heap:=h' }:=I.turned (t':=s.toks) (λb o hb e=>(sb.2 b hb).trans e) f0 f1 f3 f4 f5;obtain⟨o,e,c,d⟩:=id st';exact⟨u,rfl,qS9 (s:={ s with heap:=h' }) e c d (by decide) ⟨x,H,I1,ru,⟨rfl,λys hy=>by rw[I.list_inj hy hq];exact hx⟩,st',λb hb=>(hf b hb).1⟩⟩
 done:=by
  intro X hP hw hK hc i aB s σ H E I hf st hg;subst hP hw hK;obtain⟨xs,hq,hx⟩:=hg;obtain⟨its,rv,p,hz⟩:=I.list hq;obtain⟨f0,f1,f2,f3,f4,f5⟩:=hf it (by simp);have hl:=rv.length;exact wpAny_pyNext_list_end (I.ok.hd hc) st p.isList (by simp;omega) λh' eb=>⟨rfl,I.turned (t':=s.toks) (λb o hb e=>eb b o hb e) f0 f1 f3 f4 f5⟩
 self:=λ_ _ _ _ _ st h=>wpAny_pyIter_listiter st h
theorem qN0{P:Program}{w:World}{K:PySem.W.Frag}{tg:Expr}(a it:Addr):Turn P w K tg (Itt K a) [it] it (λi h=>h.IsTupleIter it a i) where
 mem:=by simp
 obj:=λi h st b hb=>by
  have e:b=it:=by simpa using hb
  subst e;obtain⟨o,e,c,d⟩:=st;exact⟨o,e,λv z=>by rw[d]at z;cases z⟩
 keep:=λi h h' st k=>st.at λo e=>k it (by simp) o e
 item:=by
  intro X hP hw hK hc i aB s σ H E I hf st hg;subst hP hw hK;obtain⟨xs,x,hq,hx⟩:=hg;obtain⟨its,rv,p,hz⟩:=I.tuple hq;obtain⟨u,hu,ru⟩:=rv.get hx;obtain⟨f0,f1,f2,f3,f4,f5⟩:=hf it (by simp);refine wpAny_pyNext_tuple_item st (show s.heap.IsTuple a its.toArray from p) (x:=u) (by simpa using hu) λh' st' sb=>?_
  have I1:Inv X aB σ H { s with heap:=h' }:=I.turned (t':=s.toks) (λb o hb e=>(sb.2 b hb).trans e) f0 f1 f3 f4 f5;obtain⟨o,e,c,d⟩:=id st';exact⟨u,rfl,qS9 (s:={ s with heap:=h' }) e c d (by decide) ⟨x,H,I1,ru,⟨rfl,λys hy=>by rw[I.tuple_inj hy hq];exact hx⟩,st',λb hb=>(hf b hb).1⟩⟩
 done:=by
  intro X hP hw hK hc i aB s σ H E I hf st hg;subst hP hw hK;obtain⟨xs,hq,hx⟩:=hg;obtain⟨its,rv,p,hz⟩:=I.tuple hq;obtain⟨f0,f1,f2,f3,f4,f5⟩:=hf it (by simp);have hl:=rv.length;exact wpAny_pyNext_tuple_end (I.ok.hd hc) st (show s.heap.IsTuple a its.toArray from p) (by simp;omega) λh' eb=>⟨rfl,I.turned (t':=s.toks) (λb o hb e=>eb b o hb e) f0 f1 f3 f4 f5⟩
 self:=λ_ _ _ _ _ st h=>wpAny_pyIter_tupleiter st h
theorem qN1{P:Program}{w:World}{K:PySem.W.Frag}{tg:Expr}(it:Addr)(lo:Int)(n:Nat):Turn P w K tg (Itr lo n) [it] it (λi h=>IsRangeIter h it (lo+(i:Nat)*1) ((n:Int)-(i:Nat)) 1) where
 mem:=by simp
 obj:=λi h st b hb=>by
  have e:b=it:=by simpa using hb
  subst e;exact⟨_,st,λv z=>by
   have z':Data.fields _=Data.cell v:=z;cases z'⟩
 keep:=λi h h' st k=>k it (by simp) _ st
 item:=by
  intro X hP hw hK hc i aB s σ H E I hf st hg;subst hP hw hK;obtain⟨f0,f1,f2,f3,f4,f5⟩:=hf it (by simp);have W:=Walks.range (prog:=X.prog) (w:=X.w) (I.ok.hd hc) it lo 1 n;refine W.item i s _ _ hg st λv h' tk hv st' kk=>?_
  obtain⟨t,rfl⟩:=hv;have I1:Inv X aB σ H { s with heap:=h',toks:=tk }:=I.turned (λb o hb e=>kk b o (by simpa using hb) e) f0 f1 f3 f4 f5;refine⟨_,rfl,qS9 (s:={ s with heap:=h',toks:=tk }) (n:="range_iterator") st' rfl rfl (by decide) ⟨.int (lo+i),H,I1,⟨t,?_⟩,⟨rfl,rfl⟩,st',λb hb=>(hf b hb).1⟩⟩;rw[Int.mul_one]
 done:=by
  intro X hP hw hK hc i aB s σ H E I hf st hg;subst hP hw hK;obtain⟨f0,f1,f2,f3,f4,f5⟩:=hf it (by simp);exact wpAny_pyNext_range_end (I.ok.hd hc) st (by have:n<=i:=hg;omega) λh' eb=>⟨rfl,I.turned (t':=s.toks) (λb o hb e=>eb b o hb e) f0 f1 f3 f4 f5⟩
 self:=λ_ _ _ _ _ st h=>wpAny_pyIter_rangeiter st h
section
variable{X:Cx}{tg:Expr}
def qZz(K:PySem.W.Frag)(tl:TE):TI:=λσ H R=>tl σ H λx H1=>∃a,x = .ref a/\(∃xs,SqL K H1 a xs)/\R (Itl K a) H1
def zB5(K:PySem.W.Frag)(tl:TE):TI:=λσ H R=>tl σ H λx H1=>∃a,x = .ref a/\(∃xs,SqT K H1 a xs)/\R (Itt K a) H1
theorem qAv{l:Expr}{tl:TE}(hl:PE X l tl):PI X tg l (qZz X.K tl):=by
 intro aB s σ H R I h;refine thn (hl aB s σ H _ I h) λv s1 ⟨x,H1,I1,r1,q1⟩=>?_
 obtain⟨a,e,⟨xs,hq⟩,q⟩:=q1;subst e;cases r1;obtain⟨its,rv,p,hz⟩:=I1.list hq;refine hEi p.isList ?_;refine⟨s1.heap.objs.size,[s1.heap.objs.size],_,_,H1,rfl,I1.kept (t':=s1.toks) λb o e=>Heap.get?_push_of_some _ e,qO1 a _,⟨_,Heap.get?_push_size _ rfl,rfl,rfl⟩,λb hb=>?_,q⟩;have e:b=s1.heap.objs.size:=by simpa using hb
 subst e;exact I1.fpOk (hA3 _) (I1.hok.fresh (hA3 _))
theorem qM7{l:Expr}{tl:TE}(hl:PE X l tl):PI X tg l (zB5 X.K tl):=by
 intro aB s σ H R I h;refine thn (hl aB s σ H _ I h) λv s1 ⟨x,H1,I1,r1,q1⟩=>?_
 obtain⟨a,e,⟨xs,hq⟩,q⟩:=q1;subst e;cases r1;obtain⟨its,rv,p,hz⟩:=I1.tuple hq;refine wpAny_pyIter_tuple (show s1.heap.IsTuple a its.toArray from p) ?_;refine⟨s1.heap.objs.size,[s1.heap.objs.size],_,_,H1,rfl,I1.kept (t':=s1.toks) λb o e=>Heap.get?_push_of_some _ e,qN0 a _,⟨_,Heap.get?_push_size _ rfl,rfl,rfl⟩,λb hb=>?_,q⟩;have e:b=s1.heap.objs.size:=by simpa using hb
 subst e;exact I1.fpOk (hA3 _) (I1.hok.fresh (hA3 _))
theorem qSe{aB:List (Addr×Obj)}{σ:St}{H:Hp}{s:Shared}{R:It->Hp->Prop}{E:Value->Shared->Prop}{lo hi:Int}{t u v:Tok}{tk:Nat}(I:Inv X aB σ H s)(h1:-(2^62)<=lo)(h2:lo<2^62)(h3:-(2^62)<=hi)(h4:hi<2^62)
  (q:R (Itr lo (hi-lo).toNat) H):wpAny (model X.prog X.w) X.A (pyIter (.ref s.heap.objs.size)) (PIE X aB σ tg R) E { s with heap:=s.heap.push { cls:=.type "range",data:=.fields #[.int lo t,.int hi u,.int 1 v] },toks:=tk }:=by
 refine wpAny_pyIter_range (IsRange.new ..) (small_one h1 h2 h3 h4) ?_;have I1:Inv X aB σ H { s with heap:=s.heap.push { cls:=.type "range",data:=.fields #[.int lo t,.int hi u,.int 1 v] },toks:=tk }:=I.kept λb o e=>Heap.get?_push_of_some _ e
 refine⟨(s.heap.push { cls:=.type "range",data:=.fields #[.int lo t,.int hi u,.int 1 v] }).objs.size,[(s.heap.push { cls:=.type "range",data:=.fields #[.int lo t,.int hi u,.int 1 v] }).objs.size],_,_,H,rfl,
  I1.kept (t':=tk) λb o e=>Heap.get?_push_of_some _ e,qN1 _ lo (hi-lo).toNat,?_,λb hb=>?_,q⟩
 ·have e1:lo+((0:Nat):Int)*1=lo:=by simp
  have e2:(((hi-lo).toNat:Nat):Int)-((0:Nat):Int)=Builtin.Range.rangeSize lo hi 1:=by rw[rangeSize_one];split <;> omega
  show IsRangeIter _ _ (lo+((0:Nat):Int)*1) ((((hi-lo).toNat:Nat):Int)-((0:Nat):Int)) 1;rw[e1,e2];exact Heap.get?_push_size _ rfl
 ·have e:b=(s.heap.push { cls:=.type "range",data:=.fields #[.int lo t,.int hi u,.int 1 v] }).objs.size:=by simpa using hb
  subst e;exact I1.fpOk (hA3 _) (I1.hok.fresh (hA3 _))
def zBe(ta:TA):TI:=λσ H R=>ta σ H λvs H1=>∃j:Int,vs=[.int j]/\-(2^62)<=j/\j<2^62/\R (Itr 0 j.toNat) H1
theorem qBg{a:Expr}{ta:TA}{p pos:Pos}(hg:Gl X "range")(hm:X.mg "range"=none)(ha:PA X [a] ta)(hs:starEach [a] X.env=[(false,eval a X.env)]:=by rfl):PI X tg (.Call (.Name "range" p) [a] [] pos) (zBe ta):=by
 intro aB s σ H R I h;refine Call_ (qGy I hg hm boot_range (hCr (thn (ha pos aB s σ H _ I h) λus s1 ⟨vs,H1,I1,r1,q1⟩=>?_) hs rfl));obtain⟨j,e,q1,q2,q⟩:=q1;subst e;cases r1 with
 |cons r rr =>
  cases rr;obtain⟨t,rfl⟩:=r;exact call_range_1 (qSe I1 (by omega) (by omega) q1 q2 (by simpa using q))
def zCd(wi:TI)(g:TG)(tb:TS):TS:=λD σ H=>wi σ H λJ H1=>∃W:Nat->Nat->St->Hp->Prop,(∃m,W 0 m σ H1)/\∀i m σ H,W i m σ H ->
 (J.stop i H/\D.nx σ H)\/(J.go i H/\∃N:St->Hp->Prop,(∀σ' H',N σ' H'->∃m',m'<m/\W (i+1) m' σ' H')/\∀x H',J.yld i H x H'->g x σ H' λσ2 H2=>tb { D with nx:=N,ct:=N,bk:=D.nx } σ2 H2)
def pinsAt(fp:List Addr)(h:Heap):List (Addr×Obj):=fp.filterMap λb=>(h.get? b).map λo=>(b,o)
theorem qB4{fp:List Addr}{h:Heap}{b:Addr}{o:Obj}(hb:b∈fp)(e:h.get? b=some o):(b,o)∈pinsAt fp h:=hD8.mpr ⟨b,hb,by rw[e];rfl⟩
theorem qJ0{fp:List Addr}{h:Heap}{p:Addr×Obj}(hp:p∈pinsAt fp h):p.1∈fp/\h.get? p.1=some p.2:=by
 obtain⟨b,hb,e⟩:=hD8.mp hp;cases q:h.get? b with
 |none=>rw[q]at e;cases e
 |some o =>
  rw[q]at e;have e':(b,o)=p:=hAq e;subst e';exact⟨hb,q⟩
theorem Inv.pinned{aB:List (Addr×Obj)}{σ:St}{H:Hp}{s:Shared}{fp:List Addr}(I:Inv X aB σ H s)(hf:∀b∈fp,qI9 X aB H b)(ho:∀b∈fp,∃o,s.heap.get? b=some o/\∀v,o.data≠.cell v):Inv X (aB++pinsAt fp s.heap) σ H s :=
 I.pins_of λp hp=>(hAf.mp hp).elim (λz=>I.pin p (hAa _ z)) λz=>by
  obtain⟨hb,e⟩:=qJ0 z;obtain⟨f0,f1,f2,_⟩:=hf p.1 hb;obtain⟨o,e',d⟩:=ho p.1 hb;rw[e]at e';cases e';exact⟨e,f0,f1,f2,d⟩
theorem Inv.unpinned{aB pl:List (Addr×Obj)}{σ:St}{H:Hp}{s:Shared}(I:Inv X (aB++pl) σ H s):Inv X aB σ H s:=I.pins_of λp hp=>I.pin p (hAa _ (hAk _ hp))
theorem qBs{iter:Expr}{body:List Stmt}{wi:TI}{g:TG}{tb:TS}{pos:Pos}(hp:PassesOwn (model X.prog X.w) X.A X.env X.xe)(hc:X.calm=true)(hi:PI X tg iter wi)(hg:PG X tg g)(hb:PSs X body tb)
  (hs:∀x,foldedSetIterable iter X.env x=pure x:=by intro _;rfl):PS X (.For tg iter body [] pos) (zCd wi g tb):=by
 intro aB s σ H D I h;refine wpAny_For (thn (hi aB s σ H _ I h) λv s1 h1=>thn h1 λitv s2 h2=>?_) hs;obtain⟨it,fp,tn,J,H2,e,I2,T,st2,f2,W,⟨m0,w0⟩,turn⟩:=h2;subst e;have stat:∀ {H':Hp},(∀b∈fp,H' b=none)->∀b∈fp,qI9 X aB H' b:=λhn b hb=>⟨hn b hb,(f2 b hb).2⟩
 refine codeAny_forLoop_any (λn s'=>∃i σ' H',Inv X aB σ' H' s'/\tn i s'.heap/\(∀b∈fp,H' b=none)/\W i n σ' H') ?_ m0 ⟨0,σ,H2,I2,st2,λb hb=>(f2 b hb).1,w0⟩;rintro n s3 ⟨i,σ3,H3,I3,st3,fr3,w3⟩;rcases turn i n σ3 H3 w3 with ⟨stop,qn⟩|⟨go,N,hN,step⟩
 ·refine hE5 hp (thn (T.done X rfl rfl rfl hc i aB s3 σ3 H3 X.xe I3 (stat fr3) st3 stop) λr s4 ⟨hr,I4⟩=>?_);subst hr;exact hEe ⟨σ3,H3,I4,qn⟩
 ·refine hE5 hp (thn (T.item X rfl rfl rfl hc i aB s3 σ3 H3 X.xe I3 (stat fr3) st3 go) λr s4 ⟨u,hr,h4⟩=>?_);subst hr;refine hE5 hp (thn h4 λ_ s5 ⟨x,H5,I5,r5,y5,st5,fr5⟩=>?_);have I5':=I5.pinned (stat fr5) (T.obj _ _ st5);refine hE5 hp (thn (hg _ s5 σ3 H5 x u _ I5' r5 (step x H5 y5)) λ_ s6 ⟨σ6,H6,I6,q6⟩=>?_);refine hE5 hp (thn (hb _ s6 σ6 H6 _ I6 q6) λf s7 q7=>?_);have again:∀ {σ7:St} {H7:Hp},Inv X (aB++pinsAt fp s5.heap) σ7 H7 s7->N σ7 H7->∃m,m<n/\∃i σ' H',Inv X aB σ' H' s7/\tn i s7.heap/\(∀b∈fp,H' b=none)/\W i m σ' H':=λ{σ7 H7} I7 n7=>by
   obtain⟨m',hm,w7⟩:=hN σ7 H7 n7;refine⟨m',hm,i+1,σ7,H7,I7.unpinned,T.keep _ _ _ st5 λb hb o e=>(I7.pin (b,o) (hAa _ (hAa _ (qB4 hb e)))).1,λb hb=>?_,w7⟩;obtain⟨o,e,d⟩:=T.obj _ _ st5 b hb;exact(I7.pin (b,o) (hAa _ (hAa _ (qB4 hb e)))).2.1
  cases f with
  |next=>obtain⟨σ7,H7,I7,n7⟩:=q7;exact again I7 n7
  |cont=>obtain⟨σ7,H7,I7,n7⟩:=q7;exact again I7 n7
  |brk=>obtain⟨σ7,H7,I7,q7⟩:=q7;exact⟨σ7,H7,I7.unpinned,q7⟩
  |ret v=>obtain⟨x7,σ7,H7,I7,r7,q7⟩:=q7;exact⟨x7,σ7,H7,I7.unpinned,r7,q7⟩
end
theorem qCu{K:PySem.W.Frag}{a:Addr}{xs:List V}{g:TG}{tb:TS}{D:Ends}{σ:St}{H:Hp}(Pv:Nat->St->Hp->Prop)(h0:Pv 0 σ H)(hl:∀i σ H,i<=xs.length->Pv i σ H->SqL K H a xs)
  (hs:∀i x σ H,xs[i]?=some x->Pv i σ H->g x σ H λσ2 H2=>tb { D with nx:=Pv (i+1),ct:=Pv (i+1),bk:=D.nx } σ2 H2) (hd:∀σ H,Pv xs.length σ H->D.nx σ H) :
  ∃W:Nat->Nat->St->Hp->Prop,(∃m,W 0 m σ H)/\∀i m σ H,W i m σ H ->
   ((Itl K a).stop i H/\D.nx σ H)\/((Itl K a).go i H/\∃N:St->Hp->Prop,(∀σ' H',N σ' H'->∃m',m'<m/\W (i+1) m' σ' H')/\∀x H',(Itl K a).yld i H x H'->g x σ H' λσ2 H2=>tb { D with nx:=N,ct:=N,bk:=D.nx } σ2 H2):=by
 refine⟨λi m σ H=>m=xs.length-i/\i<=xs.length/\Pv i σ H,⟨xs.length,by simp,hAs _,h0⟩,?_⟩;rintro i m σ H ⟨rfl,hi,p⟩;have q:=hl i σ H hi p;by_cases hlt:i<xs.length
 ·refine .inr ⟨⟨xs,xs[i],q,by simp[hlt]⟩,Pv (i+1),λσ' H' p'=>⟨xs.length-(i+1),by omega,rfl,hlt,p'⟩,λx H' y=>?_⟩;obtain⟨e,y⟩:=y;subst e;exact hs i x σ _ (y xs q) p
 ·have e:i=xs.length:=by omega
  subst e;exact .inl ⟨⟨xs,q,hA3 _⟩,hd σ H p⟩
theorem qXl{K:PySem.W.Frag}{a:Addr}{xs:List V}{g:TG}{tb:TS}{D:Ends}{σ:St}{H:Hp}(Pv:Nat->St->Hp->Prop)(h0:Pv 0 σ H)(hl:∀i σ H,i<=xs.length->Pv i σ H->SqT K H a xs)
  (hs:∀i x σ H,xs[i]?=some x->Pv i σ H->g x σ H λσ2 H2=>tb { D with nx:=Pv (i+1),ct:=Pv (i+1),bk:=D.nx } σ2 H2) (hd:∀σ H,Pv xs.length σ H->D.nx σ H) :
  ∃W:Nat->Nat->St->Hp->Prop,(∃m,W 0 m σ H)/\∀i m σ H,W i m σ H ->
   ((Itt K a).stop i H/\D.nx σ H)\/((Itt K a).go i H/\∃N:St->Hp->Prop,(∀σ' H',N σ' H'->∃m',m'<m/\W (i+1) m' σ' H')/\∀x H',(Itt K a).yld i H x H'->g x σ H' λσ2 H2=>tb { D with nx:=N,ct:=N,bk:=D.nx } σ2 H2):=by
 refine⟨λi m σ H=>m=xs.length-i/\i<=xs.length/\Pv i σ H,⟨xs.length,by simp,hAs _,h0⟩,?_⟩;rintro i m σ H ⟨rfl,hi,p⟩;have q:=hl i σ H hi p;by_cases hlt:i<xs.length
 ·refine .inr ⟨⟨xs,xs[i],q,by simp[hlt]⟩,Pv (i+1),λσ' H' p'=>⟨xs.length-(i+1),by omega,rfl,hlt,p'⟩,λx H' y=>?_⟩;obtain⟨e,y⟩:=y;subst e;exact hs i x σ _ (y xs q) p
 ·have e:i=xs.length:=by omega
  subst e;exact .inl ⟨⟨xs,q,hA3 _⟩,hd σ H p⟩
theorem qBt{lo:Int}{n:Nat}{g:TG}{tb:TS}{D:Ends}{σ:St}{H:Hp}(Pv:Nat->St->Hp->Prop)(h0:Pv 0 σ H)
  (hs:∀i σ H,i<n->Pv i σ H->g (.int (lo+i)) σ H λσ2 H2=>tb { D with nx:=Pv (i+1),ct:=Pv (i+1),bk:=D.nx } σ2 H2) (hd:∀σ H,Pv n σ H->D.nx σ H) :
  ∃W:Nat->Nat->St->Hp->Prop,(∃m,W 0 m σ H)/\∀i m σ H,W i m σ H ->
   ((Itr lo n).stop i H/\D.nx σ H)\/((Itr lo n).go i H/\∃N:St->Hp->Prop,(∀σ' H',N σ' H'->∃m',m'<m/\W (i+1) m' σ' H')/\∀x H',(Itr lo n).yld i H x H'->g x σ H' λσ2 H2=>tb { D with nx:=N,ct:=N,bk:=D.nx } σ2 H2):=by
 refine⟨λi m σ H=>m=n-i/\i<=n/\Pv i σ H,⟨n,by simp,hAs _,h0⟩,?_⟩;rintro i m σ H ⟨rfl,hi,p⟩;by_cases hlt:i<n
 ·refine .inr ⟨hlt,Pv (i+1),λσ' H' p'=>⟨n-(i+1),by omega,rfl,hlt,p'⟩,λx H' y=>?_⟩;obtain⟨e,y⟩:=y;subst e y;exact hs i σ _ hlt p
 ·have e:i=n:=by omega
  subst e;exact .inl ⟨hA3 _,hd σ H p⟩
abbrev R2:=V->V->Hp->VK->Prop
def OpR(X:Cx)(f:Value->Value->Sem Value)(r:R2):Prop :=
 ∀(aB:List (Addr×Obj)) (s:Shared) (σ:St) (H:Hp) (x y:V) (v u:Value) (Q:VK),Inv X aB σ H s->qC2 x v->qC2 y u->r x y H Q ->
  wpAny (model X.prog X.w) X.A (f v u) (EP X aB σ Q) X.xe s
def UnR(X:Cx)(f:Value->Sem Value)(r:V->Hp->VK->Prop):Prop :=
 ∀(aB:List (Addr×Obj)) (s:Shared) (σ:St) (H:Hp) (x:V) (v:Value) (Q:VK),Inv X aB σ H s->qC2 x v->r x H Q ->
  wpAny (model X.prog X.w) X.A (f v) (EP X aB σ Q) X.xe s
def qB9(X:Cx)(f:Value)(r:List V->Hp->VK->Prop):Prop :=
 ∀(aB:List (Addr×Obj)) (s:Shared) (σ:St) (H:Hp) (xs:List V) (us:List Value) (Q:VK),Inv X aB σ H s->qBf xs us->r xs H Q ->
  wpAny (model X.prog X.w) X.A (call f us) (EP X aB σ Q) X.xe s
def tOp(r:R2)(ta tb:TE):TE:=λσ H Q=>ta σ H λx H1=>tb σ H1 λy H2=>r x y H2 Q
def tUn(r:V->Hp->VK->Prop)(ta:TE):TE:=λσ H Q=>ta σ H λx H1=>r x H1 Q
def rI(C:Int->Int->Prop)(g:Int->Int->V):R2:=λx y H Q=>∃i j,x = .int i/\y = .int j/\C i j/\Q (g i j) H
def rI0(g:Int->Int->V):R2:=λx y H Q=>∃i j,x = .int i/\y = .int j/\Q (g i j) H
def rU(g:Int->V):V->Hp->VK->Prop:=λx H Q=>∃i,x = .int i/\Q (g i) H
section
variable{X:Cx}{a b c:Expr}{ta tb tc:TE}{pos:Pos}
theorem zBm(ha:PE X a ta)(hb:PE X b tb){aB:List (Addr×Obj)}{s:Shared}{σ:St}{H:Hp}{R:V->V->Hp->Prop}(I:Inv X aB σ H s)
  (h:ta σ H λx H1=>tb σ H1 λy H2=>R x y H2) {Q:Value->Shared->Prop} {f:Value->Value->Sem Value}
  (hf:∀v u s2 x y H2,Inv X aB σ H2 s2->qC2 x v->qC2 y u->R x y H2->wpAny (model X.prog X.w) X.A (f v u) Q X.xe s2) :
  wpAny (model X.prog X.w) X.A (eval a X.env) (λv s₁=>wpAny (model X.prog X.w) X.A (eval b X.env) (λu s₂=>wpAny (model X.prog X.w) X.A (f v u) Q X.xe s₂) X.xe s₁) X.xe s:=by
 refine thn (ha aB s σ H _ I h) λv s1 ⟨x,H1,I1,r1,q1⟩=>?_
 refine thn (hb aB s1 σ H1 _ I1 q1) λu s2 ⟨y,H2,I2,r2,q2⟩=>?_
 exact hf v u s2 x y H2 I2 r1 r2 q2
theorem qAg{op:Operator}{r:R2}(ho:OpR X (binaryOp op) r)(ha:PE X a ta)(hb:PE X b tb):PE X (.BinOp a op b pos) (tOp r ta tb):=by
 intro aB s σ H Q I h;exact wpAny_BinOp (zBm ha hb I h λv u s2 x y H2 I2 rx ry q=>ho aB s2 σ H2 x y v u Q I2 rx ry q)
theorem qQg{op:UnaryOp}{r:V->Hp->VK->Prop}(ho:UnR X (unaryOp op) r)(ha:PE X a ta):PE X (.UnaryOp op a pos) (tUn r ta):=by
 intro aB s σ H Q I h;exact UnaryOp_ (thn (ha aB s σ H _ I h) λv s1 ⟨x,H1,I1,r1,q1⟩=>ho aB s1 σ H1 x v Q I1 r1 q1)
theorem opI{f:Value->Value->Sem Value}{C:Int->Int->Prop}{g:Int->Int->Int}
  (rule:∀(i j:Int) (t u:Tok) (s:Shared) (Q:Value->Shared->Prop) (E:Value->Shared->Prop),C i j->Q (.int (g i j) s.toks) { s with toks:=s.toks+1 }->wpAny (model X.prog X.w) X.A (f (.int i t) (.int j u)) Q E s) :
  OpR X f (rI C λi j=>.int (g i j)):=by
 intro aB s σ H x y v u Q I rx ry h;obtain⟨i,j,rfl,rfl,hc,q⟩:=h;obtain⟨t,rfl⟩:=rx;obtain⟨t',rfl⟩:=ry;exact rule i j t t' s _ _ hc ⟨.int (g i j),H,I.tok _,⟨_,rfl⟩,q⟩
theorem qZd{f:Value->Value->Sem Value}{g:Int->Int->Int}
  (rule:∀(i j:Int) (t u:Tok) (s:Shared) (Q:Value->Shared->Prop) (E:Value->Shared->Prop),Q (.int (g i j) s.toks) { s with toks:=s.toks+1 }->wpAny (model X.prog X.w) X.A (f (.int i t) (.int j u)) Q E s) :
  OpR X f (rI0 λi j=>.int (g i j)):=by
 intro aB s σ H x y v u Q I rx ry h;obtain⟨i,j,rfl,rfl,q⟩:=h;obtain⟨t,rfl⟩:=rx;obtain⟨t',rfl⟩:=ry;exact rule i j t t' s _ _ ⟨.int (g i j),H,I.tok _,⟨_,rfl⟩,q⟩
theorem zAi{f:Value->Value->Sem Value}{g:Int->Int->Bool}
  (rule:∀(i j:Int) (t u:Tok) (s:Shared) (Q:Value->Shared->Prop) (E:Value->Shared->Prop),Q (.bool (g i j)) s->wpAny (model X.prog X.w) X.A (f (.int i t) (.int j u)) Q E s) :
  OpR X f (rI0 λi j=>.bl (g i j)):=by
 intro aB s σ H x y v u Q I rx ry h;obtain⟨i,j,rfl,rfl,q⟩:=h;obtain⟨t,rfl⟩:=rx;obtain⟨t',rfl⟩:=ry;exact rule i j t t' s _ _ ⟨.bl (g i j),H,I,rfl,q⟩
def zBu(i j:Int):Prop:=0<j/\j<1073741824
def zB8(i j:Int):Prop:=0<=j/\j<=1000000/\i.natAbs<2^64
def zBt(i j:Int):Prop:=(-(2^64)<i/\i<2^64)\/(-(2^64)<j/\j<2^64)
theorem zBt.ok{i j:Int}(h:zBt i j):IntMulOk i j:=by
 rcases h with ⟨h1,h2⟩|⟨h1,h2⟩
 ·exact .of_left (intBits_le_64 h1 h2)
 ·exact .of_right (intBits_le_64 h1 h2)
theorem qNx(k:Nat):(0:Int)<=2^k:=by
 rw[two_pow_cast];exact hD9 _
theorem qBh:OpR X (binaryOp .Add) (rI0 λi j=>.int (i+j)):=qZd λ_ _ _ _ _ _ _ q=>add_int q
theorem qEm:OpR X (binaryOp .Sub) (rI0 λi j=>.int (i-j)):=qZd λ_ _ _ _ _ _ _ q=>sub_int q
theorem qEn:OpR X (binaryOp .Mult) (rI zBt λi j=>.int (i*j)):=opI λ_ _ _ _ _ _ _ hc q=>mul_int q hc.ok
theorem qA2:OpR X (binaryOp .FloorDiv) (rI zBu λi j=>.int (i / j)):=opI λi j _ _ _ _ _ hc q=>by
 have h1:(0:Int)<j:=hc.1;have h2:j<1073741824:=hc.2;exact floordiv_int (by omega) (by rw[Int.fdiv_eq_ediv_of_nonneg i (by omega)];exact q) (.inl (PyProof.noPylong_small (by omega)))
theorem qA9:OpR X (binaryOp .Mod) (rI (λ_ j=>0<j) λi j=>.int (i % j)):=opI λi j _ _ _ _ _ hc q=>by
 have h1:(0:Int)<j:=hc;exact mod_int' (by omega) (by rw[Int.fmod_eq_emod_of_nonneg i (by omega)];exact q)
theorem qUj:OpR X (binaryOp .Pow) (rI zB8 λi j=>.int (i^j.toNat)):=opI λ_ _ _ _ _ _ _ hc q=>pow_int_small hc.1 hc.2.1 hc.2.2 q
theorem qDb:OpR X (binaryOp .LShift) (rI zB8 λi j=>.int (i*2^j.toNat)):=opI λ_ _ _ _ _ _ _ hc q=>lshift_int_small hc.1 hc.2.1 hc.2.2 q
theorem qHu:OpR X (binaryOp .RShift) (rI (λ_ j=>0<=j) λi j=>.int (i / 2^j.toNat)):=opI λi j _ _ _ _ _ hc q =>
 rshift_int hc (by rw[Int.fdiv_eq_ediv_of_nonneg i (qNx _)];exact q)
theorem qCr:OpR X (binaryOp .BitAnd) (rI0 λi j=>.int (Builtin.bitAnd i j)):=qZd λ_ _ _ _ _ _ _ q=>and_int q
theorem qZa:OpR X (binaryOp .BitOr) (rI0 λi j=>.int (Builtin.bitOr i j)):=qZd λ_ _ _ _ _ _ _ q=>or_int q
theorem qF1:OpR X (binaryOp .BitXor) (rI0 λi j=>.int (Builtin.bitXor i j)):=qZd λ_ _ _ _ _ _ _ q=>xor_int q
theorem unI{f:Value->Sem Value}{g:Int->Int}
  (rule:∀(i:Int) (t:Tok) (s:Shared) (Q:Value->Shared->Prop) (E:Value->Shared->Prop),Q (.int (g i) s.toks) { s with toks:=s.toks+1 }->wpAny (model X.prog X.w) X.A (f (.int i t)) Q E s) :
  UnR X f (rU λi=>.int (g i)):=by
 intro aB s σ H x v Q I rx h;obtain⟨i,rfl,q⟩:=h;obtain⟨t,rfl⟩:=rx;exact rule i t s _ _ ⟨.int (g i),H,I.tok _,⟨_,rfl⟩,q⟩
theorem qJg:UnR X (unaryOp .USub) (rU λi=>.int (-i)):=unI λ_ _ _ _ _ q=>neg_int q
end
def zBx:V->V->Bool
 |.non,.non=>true | .non,.int _=>true | .int _,.non=>true | .non,.bl _=>true | .bl _,.non=>true | .non,.str _=>true | .str _,.non=>true
 |.int _,.int _=>true | .bl _,.bl _=>true | .str _,.str _=>true | .byt _,.byt _=>true
 |.int _,.str _=>true | .str _,.int _=>true | .bl _,.str _=>true | .str _,.bl _=>true
 |_,_=>false
def rEq:R2:=λx y H Q=>zBx x y=true/\Q (.bl (decide (x=y))) H
def rNe:R2:=λx y H Q=>zBx x y=true/\Q (.bl (!decide (x=y))) H
theorem qRj{i j:Int}:decide (V.int i=V.int j)=(i == j):=by
 rw[Bool.eq_iff_iff];simp
theorem qUz{i j:Bool}:decide (V.bl i=V.bl j)=(i == j):=by
 rw[Bool.eq_iff_iff];simp
theorem qRi{i j:Str}:decide (V.str i=V.str j)=(i == j):=by
 rw[Bool.eq_iff_iff];simp
theorem qRk{i j:Array UInt8}:decide (V.byt i=V.byt j)=(i.toList == j.toList):=by
 rw[Bool.eq_iff_iff];cases i;cases j;simp
section
variable{X:Cx}{a b c:Expr}{ta tb tc:TE}{pos:Pos}
theorem qBa{aB:List (Addr×Obj)}{σ:St}{H:Hp}{s:Shared}{Q:VK}{k k':Bool}(I:Inv X aB σ H s)(q:Q (.bl k) H)(e:k=k'):EP X aB σ Q (.bool k') s:=by
 subst e;exact⟨.bl k,H,I,rfl,q⟩
theorem qC7:OpR X (compareOp .Eq) rEq:=by
 intro aB s σ H x y v u Q I rx ry h;obtain⟨hs,q⟩:=h;cases x with
 |non =>
  cases rx;cases y with
  |non=>cases ry;exact PySem.EqNone.eq_none_none (qBa I q (by simp))
  |bl j=>cases ry;exact PySem.EqNone.eq_none_bool (qBa I q (by simp))
  |int j=>obtain⟨t',rfl⟩:=ry;exact PySem.EqNone.eq_none_int (qBa I q (by simp))
  |str j=>obtain⟨t',rfl⟩:=ry;exact PySem.EqNone.eq_none_str (qBa I q (by simp))
  |_=>exact absurd (show false=true from hs) hAm
 |bl i =>
  cases rx;cases y with
  |non=>cases ry;exact PySem.EqNone.eq_bool_none (qBa I q (by simp))
  |bl j=>cases ry;exact eq_bool (qBa I q qUz)
  |str j=>obtain⟨t',rfl⟩:=ry;exact PySem.EqMixed.eq_bool_str (qBa I q (by simp))
  |_=>exact absurd (show false=true from hs) hAm
 |int i =>
  obtain⟨t,rfl⟩:=rx;cases y with
  |non=>cases ry;exact PySem.EqNone.eq_int_none (qBa I q (by simp))
  |int j=>obtain⟨t',rfl⟩:=ry;exact eq_int (qBa I q qRj)
  |str j=>obtain⟨t',rfl⟩:=ry;exact PySem.EqMixed.eq_int_str (qBa I q (by simp))
  |_=>exact absurd (show false=true from hs) hAm
 |str i =>
  obtain⟨t,rfl⟩:=rx;cases y with
  |non=>cases ry;exact PySem.EqNone.eq_str_none (qBa I q (by simp))
  |bl j=>cases ry;exact PySem.EqMixed.eq_str_bool (qBa I q (by simp))
  |int j=>obtain⟨t',rfl⟩:=ry;exact PySem.EqMixed.eq_str_int (qBa I q (by simp))
  |str j=>obtain⟨t',rfl⟩:=ry;exact eq_str (qBa I q qRi)
  |_=>exact absurd (show false=true from hs) hAm
 |byt i =>
  obtain⟨t,rfl⟩:=rx;cases y with
  |byt j=>obtain⟨t',rfl⟩:=ry;exact PySem.W.eq_bytes (qBa I q qRk)
  |_=>exact absurd (show false=true from hs) hAm
 |_=>cases y <;> exact absurd (show false=true from hs) hAm
theorem qFo:OpR X (compareOp .NotEq) rNe:=by
 intro aB s σ H x y v u Q I rx ry h;obtain⟨hs,q⟩:=h;cases x with
 |non =>
  cases rx;cases y with
  |non=>cases ry;exact PySem.EqNone.ne_none_none (qBa I q (by simp))
  |bl j=>cases ry;exact PySem.EqNone.ne_none_bool (qBa I q (by simp))
  |int j=>obtain⟨t',rfl⟩:=ry;exact PySem.EqNone.ne_none_int (qBa I q (by simp))
  |str j=>obtain⟨t',rfl⟩:=ry;exact PySem.EqNone.ne_none_str (qBa I q (by simp))
  |_=>exact absurd (show false=true from hs) hAm
 |bl i =>
  cases rx;cases y with
  |non=>cases ry;exact PySem.EqNone.ne_bool_none (qBa I q (by simp))
  |bl j=>cases ry;exact ne_bool (qBa I q (congrArg not qUz))
  |str j=>obtain⟨t',rfl⟩:=ry;exact PySem.EqMixed.ne_bool_str (qBa I q (by simp))
  |_=>exact absurd (show false=true from hs) hAm
 |int i =>
  obtain⟨t,rfl⟩:=rx;cases y with
  |non=>cases ry;exact PySem.EqNone.ne_int_none (qBa I q (by simp))
  |int j=>obtain⟨t',rfl⟩:=ry;exact ne_int (qBa I q (congrArg not qRj))
  |str j=>obtain⟨t',rfl⟩:=ry;exact PySem.EqMixed.ne_int_str (qBa I q (by simp))
  |_=>exact absurd (show false=true from hs) hAm
 |str i =>
  obtain⟨t,rfl⟩:=rx;cases y with
  |non=>cases ry;exact PySem.EqNone.ne_str_none (qBa I q (by simp))
  |bl j=>cases ry;exact PySem.EqMixed.ne_str_bool (qBa I q (by simp))
  |int j=>obtain⟨t',rfl⟩:=ry;exact PySem.EqMixed.ne_str_int (qBa I q (by simp))
  |str j=>obtain⟨t',rfl⟩:=ry;exact ne_str (qBa I q (congrArg not qRi))
  |_=>exact absurd (show false=true from hs) hAm
 |byt i =>
  obtain⟨t,rfl⟩:=rx;cases y with
  |byt j=>obtain⟨t',rfl⟩:=ry;exact PySem.W.ne_bytes (qBa I q (congrArg not qRk))
  |_=>exact absurd (show false=true from hs) hAm
 |_=>cases y <;> exact absurd (show false=true from hs) hAm
theorem qEt:OpR X (compareOp .Lt) (rI0 λi j=>.bl (decide (i<j))):=zAi λ_ _ _ _ _ _ _ q=>lt_int q
theorem qSj:OpR X (compareOp .LtE) (rI0 λi j=>.bl (decide (i<=j))):=zAi λ_ _ _ _ _ _ _ q=>le_int q
theorem qFp:OpR X (compareOp .Gt) (rI0 λi j=>.bl (decide (j<i))):=zAi λ_ _ _ _ _ _ _ q=>gt_int q
theorem zA8:OpR X (compareOp .GtE) (rI0 λi j=>.bl (decide (j<=i))):=zAi λ_ _ _ _ _ _ _ q=>ge_int q
theorem qQj:OpR X (compareOp .Lt) (λx y H Q=>∃i j,x = .str i/\y = .str j/\Q (.bl (decide (i.cps.toList<j.cps.toList))) H):=by
 intro aB s σ H x y v u Q I rx ry h;obtain⟨i,j,rfl,rfl,q⟩:=h;obtain⟨t,rfl⟩:=rx;obtain⟨t',rfl⟩:=ry;exact lt_str (qBa I q rfl)
theorem qJz:OpR X (compareOp .In) (λx y H Q=>∃i j,x = .str i/\y = .str j/\Q (.bl (!(Builtin.Str.occurrences j i 0 j.length 1).isEmpty)) H):=by
 intro aB s σ H x y v u Q I rx ry h;obtain⟨i,j,rfl,rfl,q⟩:=h;obtain⟨t,rfl⟩:=rx;obtain⟨t',rfl⟩:=ry;exact in_str (qBa I q rfl)
theorem qAp(b:Expr){op:CmpOp}(h:op≠.In:=by decide)(h2:op≠.NotIn:=by decide):behindInMarks op b=false:=by
 have e1:(op == CmpOp.In)=false:=by cases op <;> first|rfl|exact absurd rfl h
 have e2:(op == CmpOp.NotIn)=false:=by cases op <;> first|rfl|exact absurd rfl h2
 cases b <;> simp[behindInMarks,e1,e2]
theorem qCe{op:CmpOp}{r:R2}(ho:OpR X (compareOp op) r)(ha:PE X a ta)(hb:PE X b tb)(hm:behindInMarks op b=false):PE X (.Compare a [op] [b] pos) (tOp r ta tb):=by
 intro aB s σ H Q I h;exact wpAny_Compare1 (zBm ha hb I h λv u s2 x y H2 I2 rx ry q=>ho aB s2 σ H2 x y v u Q I2 rx ry q) hm
def qYe(t:TE):TT:=λσ H Q=>t σ H λx H'=>∃k,x = .bl k/\Q k H'
theorem qAl{op:CmpOp}{r:R2}(ho:OpR X (compareOp op) r)(ha:PE X a ta)(hb:PE X b tb)(hm:behindInMarks op b=false):PT X (.Compare a [op] [b] pos) (qYe (tOp r ta tb)):=by
 intro aB s σ H Q I h;refine wpAny_isTrue_Compare1 (thn (ha aB s σ H _ I h) λv s1 ⟨x,H1,I1,r1,q1⟩=>thn (hb aB s1 σ H1 _ I1 q1) λu s2 ⟨y,H2,I2,r2,q2⟩ =>
  thn (ho aB s2 σ H2 x y v u _ I2 r1 r2 q2) λc s3 ⟨z,H3,I3,r3,k,e,q3⟩=>?_) hm
 subst e;cases r3;exact hE1 ⟨H3,I3,q3⟩
def qTr(r r':R2)(ta tb tc:TE):TE:=λσ H Q=>ta σ H λx H1=>tb σ H1 λy H2=>r x y H2 λz H3=>∃k,z = .bl k /\
 (if k=true then tc σ H3 λw' H4=>r' y w' H4 Q else Q (.bl false) H3)
theorem qSh{op op':CmpOp}{r r':R2}(ho:OpR X (compareOp op) r)(ho':OpR X (compareOp op') r')(ha:PE X a ta)(hb:PE X b tb)(hc:PE X c tc)
  (hm:lastMarks [op,op'] [b,c]=false:=by with_unfolding_all rfl):PE X (.Compare a [op,op'] [b,c] pos) (qTr r r' ta tb tc):=by
 intro aB s σ H Q I h;refine Compare_chain (thn (ha aB s σ H _ I h) λv s1 ⟨x,H1,I1,r1,q1⟩=>chain_link (thn (hb aB s1 σ H1 _ I1 q1) λu s2 ⟨y,H2,I2,r2,q2⟩ =>
  thn (ho aB s2 σ H2 x y v u _ I2 r1 r2 q2) λd s3 ⟨z,H3,I3,r3,k,e,q3⟩=>?_)) hm
 subst e;cases r3;refine hE1 ?_;cases k with
 |false=>exact ite_ff ⟨.bl false,H3,I3,rfl,q3⟩
 |true=>exact ite_tt (chain_last (thn (hc aB s3 σ H3 _ I3 q3) λw' s4 ⟨z',H4,I4,r4,q4⟩=>ho' aB s4 σ H4 y z' u w' Q I4 r2 r4 q4))
theorem qM4{op op':CmpOp}{r r':R2}(ho:OpR X (compareOp op) r)(ho':OpR X (compareOp op') r')(ha:PE X a ta)(hb:PE X b tb)(hc:PE X c tc)
  (hm:lastMarks [op,op'] [b,c]=false:=by with_unfolding_all rfl):PT X (.Compare a [op,op'] [b,c] pos) (qYe (qTr r r' ta tb tc)):=by
 intro aB s σ H Q I h;refine isTrue_chain (thn (ha aB s σ H _ I h) λv s1 ⟨x,H1,I1,r1,q1⟩=>test_link (thn (hb aB s1 σ H1 _ I1 q1) λu s2 ⟨y,H2,I2,r2,q2⟩ =>
  thn (ho aB s2 σ H2 x y v u _ I2 r1 r2 q2) λd s3 ⟨z,H3,I3,r3,k,e,q3⟩=>?_)) hm
 subst e;cases r3;refine hE1 ?_;cases k with
 |false =>
  obtain⟨k',e',q'⟩:=q3;cases e';exact ite_ff ⟨H3,I3,q'⟩
 |true =>
  refine ite_tt (test_last (thn (hc aB s3 σ H3 _ I3 q3) λw' s4 ⟨z',H4,I4,r4,q4⟩=>thn (ho' aB s4 σ H4 y z' u w' _ I4 r2 r4 q4) λd' s5 ⟨z2,H5,I5,r5,k2,e2,q5⟩=>?_));subst e2;cases r5;exact hE1 ⟨H5,I5,q5⟩
theorem qJ6:(sizeLine:Nat)<2^63:=by rw[hEk];decide
theorem qC0:OpR X (binaryOp .Add) (λx y H Q=>∃i j,x = .str i/\y = .str j/\i.length+j.length<=sizeLine/\Q (.str (i++j)) H):=by
 intro aB s σ H x y v u Q I rx ry h;obtain⟨i,j,rfl,rfl,hz,q⟩:=h;obtain⟨t,rfl⟩:=rx;obtain⟨t',rfl⟩:=ry;exact add_str (λt' tk=>⟨.str (i++j),H,I.tok _,⟨_,rfl⟩,q⟩) hz
theorem qD1{x:V}{us:List Value}(r:qBf [x] us):∃u,us=[u]/\qC2 x u:=by
 cases r with
 |cons r1 r2=>cases r2;exact⟨_,rfl,r1⟩
theorem qOz{x y:V}{us:List Value}(r:qBf [x,y] us):∃u w',us=[u,w']/\qC2 x u/\qC2 y w':=by
 cases r with
 |cons r1 r2 =>
  cases r2 with
  |cons r3 r4=>cases r4;exact⟨_,_,rfl,r1,r3⟩
theorem qNs:qB9 X (.builtin "abs") (λxs H Q=>∃i,xs=[.int i]/\Q (.int (if i<0 then -i else i)) H):=by
 intro aB s σ H xs us Q I r h;obtain⟨i,rfl,q⟩:=h;obtain⟨u,rfl,t,rfl⟩:=qD1 r;exact call_abs_int λu tk=>⟨.int (if i<0 then -i else i),H,I.tok _,⟨_,rfl⟩,q⟩
theorem qG7(hc:X.calm=true):qB9 X (.builtin "min") (λxs H Q=>∃i j,xs=[.int i,.int j]/\Q (.int (if j<i then j else i)) H):=by
 intro aB s σ H xs us Q I r h;obtain⟨i,j,rfl,q⟩:=h;obtain⟨u,w',rfl,⟨t,rfl⟩,⟨t',rfl⟩⟩:=qOz r;refine min_two_ints (I.ok.hd hc) λh' tk k=>⟨_,H,I.kept k,?_,q⟩
 by_cases hj:j<i
 ·rw[hDw hj,hDw hj];exact⟨_,rfl⟩
 ·rw[hDv hj,hDv hj];exact⟨_,rfl⟩
theorem qFf:qB9 X (.type "int") (λxs H Q=>(∃i,xs=[.int i]/\Q (.int i) H)\/∃k,xs=[.bl k]/\Q (.int (if k then 1 else 0)) H):=by
 intro aB s σ H xs us Q I r h;rcases h with ⟨i,rfl,q⟩|⟨k,rfl,q⟩
 ·obtain⟨u,rfl,t,rfl⟩:=qD1 r;exact call_int_int ⟨.int i,H,I,⟨_,rfl⟩,q⟩
 ·obtain⟨u,rfl,r1⟩:=qD1 r;cases r1;exact call_int_bool ⟨.int (if k then 1 else 0),H,I.tok _,⟨_,rfl⟩,q⟩
end
structure ObjM(h:Heap)(x dx C:Addr)(mA:Str->Option Value):Prop where
 obj:h.get? x=some (PySem.W.instObj C dx)
 ns:h.Ns1 dx mA
 ne:dx≠x
theorem qQu{h:Heap}{dx:Addr}{mA:Str->Option Value}(n:h.Ns1 dx mA):∃od,h.get? dx=some od/\∀name,PySem.W.lookIn name od=some (mA name):=by
 obtain⟨o,es,ep,ho,hd,hk,_,hm⟩:=n;refine⟨o,ho,λname=>?_⟩;have e:=hm name;unfold nsFind findBy at e;rw[<-Array.find?_toList]at e;unfold PySem.W.lookIn;rw[hd];dsimp only;split
 ·rename_i y q;rw[q]at e;exact congrArg some e
 ·rename_i q;rw[q]at e;have a:es.toList.any (·.refKey)=false:=by
   rw[List.any_eq_false];intro y hy;obtain⟨z,t,hkey⟩:=hk y (Array.mem_toList_iff.mp hy);simp[DictEntry.refKey,hkey]
  have a':¬es.toList.any (·.refKey)=true:=by rw[a];exact hAm
  rw[hDv a'];exact congrArg some e
theorem ObjM.look{h:Heap}{x dx C:Addr}{mA:Str->Option Value}(I:ObjM h x dx C mA):∃od,PySem.W.InstAt h x (PySem.W.instObj C dx) C (some od)/\∀name,PySem.W.lookIn name od=some (mA name) :=
 let ⟨od,ho,hl⟩:=qQu I.ns
 ⟨od,⟨I.obj,rfl,rfl,ho⟩,hl⟩
section
variable{P:Program}{w:World}{H H':Hp}{h h':Heap}{a C dx:Addr}{fs fs':List (Str×V)}
theorem qXg(hok:HOk P w H h)(e:H a=some (.ins C dx fs)):∃mA,ObjM h a dx C mA/\(∀f,zBp (fs.lookup f) (mA f))/\PySem.Within mA (fs.map (·.1))/\fs.length<=1000/\H dx=some (.own a):=by
 obtain⟨d,z,ne,ob,mA,n,r,q⟩:=(show qCg P w H h a (.ins C dx fs) from hok a _ e);exact⟨mA,⟨ob,n,ne⟩,r,q,z,d⟩
end
structure Cls(K:PySem.W.Frag)(C:Addr):Prop where
 pg:PySem.W.plainGet K C Str.empty=true
 hd:PySem.W.hasDictIn K C=true
 po:PySem.W.plainOver K C=true
 sa:PySem.W.findIn K (.ref C) "__setattr__"=some (some (.builtin "object.__setattr__"))
theorem Cls.get{K:PySem.W.Frag}{C:Addr}(c:Cls K C)(f:Str):PySem.W.plainGet K C f=true:=c.pg
structure Con(K:PySem.W.Frag)(C:Addr)(f:Str)(v:V)(u:Value):Prop where
 at_:PySem.W.findIn K (.ref C) f=some (some u)
 rel:qC2 v u
 get:PySem.W.specialIn K u "__get__"=some none
 cp:PySem.W.copiedNames.contains f=false
structure Meth(K:PySem.W.Frag)(C:Addr)(m:Str)(f:Addr):Prop where
 at_:PySem.W.findIn K (.ref C) m=some (some (.ref f))
 fn:PySem.W.isFn K (.ref f)=true
 kp:PySem.W.keepIn K (.ref f)=true
section
variable{X:Cx}{aB:List (Addr×Obj)}{σ:St}{H:Hp}{s:Shared}{A:Around}{E:Value->Shared->Prop}{Q:Value->Shared->Prop}{c:Value}{b:Bool}
inductive TyOf (K:PySem.W.Frag) (H:Hp):V->Value->Prop where
 |non:TyOf K H .non (.type "NoneType")
 |bl (x:Bool):TyOf K H (.bl x) (.type "bool")
 |int (i:Int):TyOf K H (.int i) (.type "int")
 |str (x:Str):TyOf K H (.str x) (.type "str")
 |flt (x:UInt64):TyOf K H (.flt x) (.type "float")
 |lst {a:Addr} {xs:List V} (e:H a=some (.lst xs)):TyOf K H (.ref a) (.type "list")
 |frz {a:Addr} {o:Obj} {xs:List V} (e:H a=some (.frz o (.lst xs))):TyOf K H (.ref a) (.type "list")
 |tup {a:Addr} {xs:List V} (e:H a=some (.tup xs)):TyOf K H (.ref a) (.type "tuple")
 |dK {a:Addr} {kvs:List (Key×V)} (e:H a=some (.dK kvs)):TyOf K H (.ref a) (.type "dict")
 |dT {a:Addr} {kvs:List (List Key×V)} (e:H a=some (.dT kvs)):TyOf K H (.ref a) (.type "dict")
 |ins {a C dx:Addr} {fs:List (Str×V)} (e:H a=some (.ins C dx fs)) (cl:Cls K C) (ha:PySem.W.findIn K (.ref C) "__class__"=some (some (.builtin "object.__class__")))
   (hn:PySem.W.specialIn K (.builtin "object.__class__") "__get__"=some (some (.builtin "getset_descriptor.__get__"))) (htk:PySem.W.takesIn K (.builtin "object.__class__")=some true)
   (hm:PySem.W.mroIn K C (.type "object")=some true):TyOf K H (.ref a) (.ref C)
theorem qQ3{x:V}{u t:Value}(I:Inv X aB σ H s)(rx:qC2 x u)(ty:TyOf X.K H x t)(e:PySem.W.kitOne X.K t c=some b)(h:∀tk,Q (.bool b) { s with toks:=tk }) :
  wpAny (model X.prog X.w) A (call (.builtin "isinstance") [u,c]) Q E s:=by
 cases ty with
 |non=>cases(show u=Value.none from rx);exact hBu PySem.W.kitx_none I.kIn True.intro e (λz=>nomatch z) h
 |bl y=>cases(show u=Value.bool y from rx);exact hBu PySem.W.kitx_bool I.kIn True.intro e (λz=>nomatch z) h
 |int i=>obtain⟨t,q⟩:=(show ∃t,u=Value.int i t from rx);cases q;exact hBu PySem.W.kitx_int I.kIn True.intro e (λz=>nomatch z) h
 |str y=>obtain⟨t,q⟩:=(show ∃t,u=Value.str y t from rx);cases q;exact hBu PySem.W.kitx_str I.kIn True.intro e (λz=>nomatch z) h
 |flt y=>obtain⟨t,q⟩:=(show ∃t,u=Value.float y t from rx);cases q;exact hBu PySem.W.kitx_float I.kIn True.intro e (λz=>nomatch z) h
 |@lst a xs ea =>
  cases(show u=Value.ref a from rx);obtain⟨_,_,n,_,h1⟩:=(show qCg X.prog X.w H s.heap a (.lst xs) from I.hok a _ ea);exact hBu PySem.W.kitx_list I.kIn ⟨_,h1,rfl⟩ e (λz=>nomatch z) h
 |@frz a ob xs ea =>
  cases(show u=Value.ref a from rx);obtain⟨_,_,_,n,_,h1⟩:=(show qCg X.prog X.w H s.heap a (.frz ob (.lst xs)) from I.hok a _ ea);exact hBu PySem.W.kitx_list I.kIn ⟨_,h1,rfl⟩ e (λz=>nomatch z) h
 |@tup a xs ea =>
  cases(show u=Value.ref a from rx);obtain⟨_,_,_,p⟩:=(show qCg X.prog X.w H s.heap a (.tup xs) from I.hok a _ ea);obtain⟨o,h1,h2,_⟩:=p;exact hBu PySem.W.kitx_tuple I.kIn ⟨o,h1,h2⟩ e (λz=>nomatch z) h
 |@dK a kvs ea =>
  cases(show u=Value.ref a from rx);obtain⟨_,_,vs,_,p⟩:=(show qCg X.prog X.w H s.heap a (.dK kvs) from I.hok a _ ea);obtain⟨o,es,ep,h1,h2,_⟩:=p;exact hBu PySem.W.kitx_dict I.kIn ⟨o,h1,h2.1⟩ e (λz=>nomatch z) h
 |@dT a kvs ea =>
  cases(show u=Value.ref a from rx);obtain⟨_,_,xs,_,o,es,ep,h1,h2,_⟩:=(show qCg X.prog X.w H s.heap a (.dT kvs) from I.hok a _ ea);exact hBu PySem.W.kitx_dict I.kIn ⟨o,h1,h2.1⟩ e (λz=>nomatch z) h
 |@ins a C dx fs ea cl ha hn htk hm =>
  cases(show u=Value.ref a from rx);obtain⟨mA,O,_⟩:=qXg I.hok ea;obtain⟨od,J,_⟩:=O.look;exact hBu (PySem.W.kitx_own (cl.get _) cl.hd ha hn htk hm) I.kIn J e (λz=>nomatch z) h
end
structure Room(k:Nat)(A:Around):Prop where
 hd:A.handled=none
 dp:A.depth+3*k+5<recursionLimit
 un:A.units+16*k+200<cLine
 gd:A.guards=some []
theorem Room.mono{j k:Nat}{A:Around}(r:Room k A)(h:j<=k):Room j A:=⟨r.hd,by have:=r.dp;omega,by have:=r.un;omega,r.gd⟩
theorem Room.deeper{k:Nat}{A:Around}(r:Room (k+1) A)(env:Env):Room k (A.deeper env) :=
 ⟨r.hd,by have:=r.dp;show A.depth+1+3*k+5<_;omega,by have:=r.un;show A.units+3+16*k+200<_;omega,r.gd⟩
theorem Room.depth{k:Nat}{A:Around}(r:Room k A):A.depth<recursionLimit:=by have:=r.dp;omega
def qXw:TA:=λ_ H Q=>Q [] H
def qEl(ta:TE)(tr:TA):TA:=λσ H Q=>ta σ H λx H1=>tr σ H1 λxs H2=>Q (x :: xs) H2
section
variable{X:Cx}{e:Expr}{es:List Expr}{te:TE}{t:TA}{pos:Pos}
theorem qA3:PA X [] qXw:=λ_ _ _ _ H Q I h=>Calls.spliced_nil ⟨[],H,I,.nil,h⟩
theorem qAe(ha:PE X e te)(hr:PA X es t)(hs:starEach (e :: es) X.env=(false,eval e X.env) :: starEach es X.env:=by rfl):PA X (e :: es) (qEl te t):=by
 intro pos aB s σ H Q I h;rw[hs];show wpAny _ _ (spliced ((false,eval e X.env) :: backTo pos (starEach es X.env))) _ _ s;refine Calls.spliced_cons (thn (ha aB s σ H _ I h) λu s1 ⟨x,H1,I1,r1,q1⟩=>?_);exact thn (hr pos aB s1 σ H1 _ I1 q1) λus s2 ⟨xs,H2,I2,r2,q2⟩=>⟨x :: xs,H2,I2,.cons r1 r2,q2⟩
theorem pa1{X:Cx}{e:Expr}{te:TE}(ha:PE X e te)(hs:starEach [e] X.env=(false,eval e X.env) :: starEach [] X.env:=by rfl):PA X [e] (qEl te qXw):=qAe ha qA3 hs
def zAg(t:TA):TE:=λσ H Q=>t σ H λxs H1=>xs.length<=sizeLine/\∀p,H1 p=none->Q (.ref p) (upd H1 p (.tup xs))
def zAt(t:TA):TE:=λσ H Q=>t σ H λxs H1=>xs.length<=sizeLine/\∀p,H1 p=none->Q (.ref p) (upd H1 p (.lst xs))
theorem qB2{x1}(h:PA X es t):PE X (.Tuple es x1 pos) (zAg t):=by
 intro aB s σ H Q I hq;refine wpAny_Tuple_spliced (thn (h pos aB s σ H _ I hq) λus s1 ⟨xs,H1,I1,r,z,q⟩=>⟨by rw[<-r.length];exact z,?_⟩);have hf:H1 s1.heap.objs.size=none:=I1.hok.fresh (hA3 _);refine⟨.ref s1.heap.objs.size,upd H1 s1.heap.objs.size (.tup xs),I1.laid (t':=s1.toks) (λb u e=>Heap.get?_push_of_some _ e) (hA3 _) ?_,rfl,q _ hf⟩;exact⟨z,us,r,⟨_,Heap.get?_push_size _ rfl,rfl,_,rfl⟩⟩
theorem qBe(h:PA X es t):PE X (.List es pos) (zAt t):=by
 intro aB s σ H Q I hq;refine wpAny_List_spliced (thn (h pos aB s σ H _ I hq) λus s1 ⟨xs,H1,I1,r,z,q⟩=>⟨by rw[<-r.length];exact z,?_⟩);have hf:H1 s1.heap.objs.size=none:=I1.hok.fresh (hA3 _);refine⟨.ref s1.heap.objs.size,upd H1 s1.heap.objs.size (.lst xs),I1.laid (t':=s1.toks) (λb u e=>Heap.get?_push_of_some _ e) (hA3 _) ?_,rfl,q _ hf⟩;exact⟨z,us,0,r,Heap.get?_push_size _ rfl⟩
end
abbrev Sp:=List V->Hp->VK->XK->Prop
abbrev CXT:=List Env->Hp->Shared->XK->Value->Shared->Prop
structure Env0(P:Program)(w:World)(K:PySem.W.Frag)(mg:Str->Option Value)(base:Heap)(A:Around)(outer:List Env)(s:Shared)(H:Hp):Prop where
 frames:A.frames=some outer
 mod:Mod K mg base
 bs:∀b o,base.get? b=some o->s.heap.get? b=some o/\H b=none
 bsz:base.objs.size<=s.heap.objs.size
 funs:s.heap.FunFrames base outer
 frf:∀b∈frs outer,H b=none
 hok:HOk P w H s.heap
 bare:AllBare s.gens
def CE(outer:List Env)(P:Program)(w:World)(H:Hp)(s:Shared)(Q:VK)(u:Value)(s':Shared):Prop :=
 ∃v H',s'.os=s.os/\AllBare s'.gens/\Un (frs outer) [] H H' s.heap s'.heap/\HOk P w H' s'.heap/\qC2 v u/\Q v H'
def CR(CX:CXT)(outer:List Env)(P:Program)(w:World)(H:Hp)(s:Shared)(Q:VK)(E:XK)(r:Result)(s':Shared):Prop :=
 match r with
 |.ok (.ret u)=>CE outer P w H s Q u s'
 |.ok _=>False
 |.error e=>CX outer H s E e s'
structure FnOk(P:Program)(w:World)(K:PySem.W.Frag)(mg:Str->Option Value)(base:Heap)(CX:CXT)(k:Nat)(f:Addr)(fd:FuncData)(ps:List Str)(sp:Sp):Prop where
 len:∀vs H Q E,sp vs H Q E->vs.length=ps.length
 run:∀(A:Around) (outer:List Env) (s:Shared) (H:Hp) (args:Args) (us:List Value) (vs:List V) (Q:VK) (E:XK),Room k A->Env0 P w K mg base A outer s H->BindsTo s fd args (ps.zip us)->qBf vs us->sp vs H Q E ->
  codeAny (model P w) A (.call (.ref f) args) (CR CX outer P w H s Q E) s
section
variable{X:Cx}{aB:List (Addr×Obj)}{σ:St}{H:Hp}{s s':Shared}
theorem Inv.env0(I:Inv X aB σ H s):Env0 X.prog X.w X.K X.mg X.base X.A X.stack s H :=
 ⟨I.ok.frames,I.ok.mod,I.bs,hAv I.ok.bsz I.sz,I.stack,I.stkFree,I.hok,I.bare⟩
theorem Inv.after{Q:VK}{u:Value}(I:Inv X aB σ H s)(h:CE X.stack X.prog X.w H s Q u s'):EP X aB σ Q u s':=by
 obtain⟨v,H',os,bare,un,hok,r,q⟩:=h;obtain⟨hh,g,d,t,os'⟩:=s';obtain rfl:os'=s.os:=os;exact⟨v,H',I.call (h':=hh) (g':=g) (d':=d) (t':=t) (ch:=[]) un hok bare (λb z=>absurd z (by simp)),r,q⟩
end
def qYg(sp:Sp)(dvs:List V)(E:XK)(t:TA):TE:=λσ H Q=>t σ H λvs H1=>sp (vs++dvs) H1 Q E
def qOs(K:PySem.W.Frag)(fd:FuncData)(ps:List Str)(ds:List Value):Prop :=
 ∀(s:Shared) (us:List Value),K.In s.heap->(us++ds).length=ps.length->BindsTo s fd ⟨us,[]⟩ (ps.zip (us++ds))
theorem qOs.all{K:PySem.W.Frag}{fd:FuncData}{ps:List Str}(h:∀us:List Value,us.length=ps.length->bindArgs fd ⟨us,[]⟩=pure (ps.zip us)):qOs K fd ps []:=λs us _ hl=>by
 rw[hC7]at hl ⊢;exact .of_eq (h us hl)
def qKp(CX:CXT)(X:Cx)(E:XK):Prop:=∀(aB:List (Addr×Obj)) (σ:St) (H:Hp) (s:Shared) (e:Value) (s':Shared),Inv X aB σ H s->CX X.stack H s E e s'->X.xe e s'
section
variable{X:Cx}{CX:CXT}{k:Nat}{f C:Addr}{fd:FuncData}{ps:List Str}{sp:Sp}{dvs:List V}{ds:List Value}{E:XK}{x m:Str}{p pos apos:Pos}{e o:Expr}{es:List Expr}{ta:TE}{t:TA}
theorem qY2{aB:List (Addr×Obj)}{σ:St}{H:Hp}{s:Shared}{Q:VK}{us:List Value}{vs:List V}(F:FnOk X.prog X.w X.K X.mg X.base CX k f fd ps sp)(hr:Room k X.A)(hb:qOs X.K fd ps ds)(hd:qBf dvs ds)(hx:qKp CX X E)
  (I:Inv X aB σ H s) (r:qBf vs us) (h:sp (vs++dvs) H Q E):wpAny (model X.prog X.w) X.A (call (.ref f) us) (EP X aB σ Q) X.xe s:=by
 have r2:qBf (vs++dvs) (us++ds):=r.append hd;have hl:(us++ds).length=ps.length:=by rw[<-r2.length];exact F.len _ _ _ _ h
 refine wpAny_call (hEm (F.run X.A X.stack s H ⟨us,[]⟩ (us++ds) (vs++dvs) Q E hr I.env0 (hb s us I.kIn hl) r2 h) λr s' hq=>?_);cases r with
 |error e=>exact hx aB σ H s e s' I hq
 |ok fl =>
  cases fl with
  |ret u=>exact I.after hq
  |next=>exact False.elim hq
  |brk=>exact False.elim hq
  |cont=>exact False.elim hq
theorem qWb(F:FnOk X.prog X.w X.K X.mg X.base CX k f fd ps sp)(hr:Room k X.A)(hg:Gl X x)(hm:X.mg x=some (.ref f))(hk:PySem.W.keepIn X.K (.ref f)=true)(hb:qOs X.K fd ps ds)(hd:qBf dvs ds)(hx:qKp CX X E)
  (ha:PA X (e :: es) t) (hdb:(x == ("__debug__" : Str))=false:=by decide) (he:starEach (e :: es) X.env=(false,eval e X.env) :: starEach es X.env:=by rfl) (hpl:(backTo pos (starEach es X.env)).any (·.1)=false:=by rfl) :
  PE X (.Call (.Name x p) (e :: es) [] pos) (qYg sp dvs E t):=by
 intro aB s σ H Q I h;refine hEf (qFs I hg hm ?_ hdb);refine PySem.W.callWith_K (h₀:=X.base) I.ok.mod.kin hk (thn (ha pos aB s σ H _ I h) λus s1 ⟨vs,H1,I1,r,q⟩=>⟨I1.kIn,?_⟩) he hpl;exact qY2 F hr hb hd hx I1 r q
structure Mk(K:PySem.W.Frag)(C f:Addr):Prop where
 makes:PySem.W.makesIn K C=true
 init:PySem.W.findIn K (.ref C) "__init__"=some (some (.ref f))
 fn:PySem.W.isFn K (.ref f)=true
 kp:PySem.W.keepIn K (.ref C)=true
end
section
variable{X:Cx}{CX:CXT}{k:Nat}{f C:Addr}{fd:FuncData}{ps ks:List Str}{sp:Sp}{E:XK}{x m:Str}{p pos apos kpos:Pos}{e o:Expr}{es:List Expr}{kws:List Keyword}{te ta:TE}{t tk:TA}{nm:Option Str}
structure KBinds(K:PySem.W.Frag)(fd:FuncData)(ps ks:List Str)(g:List Value->List Value->List Value)(gV:List V->List V->List V):Prop where
 to:∀(s:Shared) (us ws:List Value),K.In s.heap->(g us ws).length=ps.length->BindsTo s fd ⟨us,ks.zip ws⟩ (ps.zip (g us ws))
 rel:∀ {vs:List V} {us:List Value} {zs:List V} {ws:List Value},qBf vs us->qBf zs ws->qBf (gV vs zs) (g us ws)
variable{g:List Value->List Value->List Value}{gV:List V->List V->List V}
end
structure FnScope(N P:List Str)(sc:Scope):Prop where
 kind:sc.kind = .function
 co:sc.isCoroutine=false
 gen:sc.isGenerator=false
 nd:N.Nodup
 pre:N.take P.length=P
 par:∀x∈P,sc.names.lookup x=some .local\/sc.names.lookup x=some .cell
 nofree:∀y∈sc.names,y.2≠.free
theorem fsk{N P:List Str}{sc:Scope}(a:sc.kind = .function:=by rfl)(b:sc.isCoroutine=false:=by rfl)(c:sc.isGenerator=false:=by rfl)(d:N.Nodup:=by decide +kernel)(e:N.take P.length=P:=by rfl)(f:∀x∈P,sc.names.lookup x=some .local\/sc.names.lookup x=some .cell:=by decide +kernel)(g:∀y∈sc.names,y.2≠.free:=by decide +kernel):FnScope N P sc:=⟨a,b,c,d,e,f,g⟩
theorem qKk{kindOf:Str->Option NameKind}{x:Str}:∀ {binds:List (Str×Value)} {m:Str->Option Value},(∀v,(x,v)∉binds)->bindL kindOf binds m x=m x
 |[],_,_=>rfl
 |(n,v) :: r,m,h=>by
  unfold bindL;rw[qKk λw hw=>h w (hA4 _ hw)];split
  ·have:x≠n:=by rintro rfl;exact h v hA5
   simp[this]
  ·rfl
theorem qKm{kindOf:Str->Option NameKind}{x:Str}:∀ {binds:List (Str×Value)} {m:Str->Option Value},(∀v,(x,v)∉binds)->bindC kindOf binds m x=m x
 |[],_,_=>rfl
 |(n,v) :: r,m,h=>by
  unfold bindC;rw[qKm λw hw=>h w (hA4 _ hw)];split
  ·rfl
  ·have:x≠n:=by rintro rfl;exact h v hA5
   simp[this]
theorem qKl{kindOf:Str->Option NameKind}{x:Str}{v:Value}:∀ {P:List Str} {vs:List Value} {i:Nat} {m:Str->Option Value},P.Nodup->P[i]?=some x->vs[i]?=some v->kindOf x=some .local ->
  bindL kindOf (P.zip vs) m x=some v
 |[],_,_,_,_,h,_,_=>by simp at h
 |_ :: _,[],_,_,_,_,h,_=>by simp at h
 |p :: P,w :: vs,0,m,nd,h1,h2,hk=>by
  simp at h1 h2;subst h1;subst h2;show bindL kindOf ((p,w) :: P.zip vs) m p=_;unfold bindL;rw[qKk λv hv=>(hBo.mp nd).1 (List.of_mem_zip hv).1,hDw hk];simp
 |p :: P,w :: vs,i+1,m,nd,h1,h2,hk=>by
  show bindL kindOf ((p,w) :: P.zip vs) m x=_;unfold bindL;exact qKl (i:=i) (hBo.mp nd).2 (by simpa using h1) (by simpa using h2) hk
theorem qKn{kindOf:Str->Option NameKind}{x:Str}{v:Value}:∀ {P:List Str} {vs:List Value} {i:Nat} {m:Str->Option Value},P.Nodup->P[i]?=some x->vs[i]?=some v->kindOf x≠some .local ->
  bindC kindOf (P.zip vs) m x=some v
 |[],_,_,_,_,h,_,_=>by simp at h
 |_ :: _,[],_,_,_,_,h,_=>by simp at h
 |p :: P,w :: vs,0,m,nd,h1,h2,hk=>by
  simp at h1 h2;subst h1;subst h2;show bindC kindOf ((p,w) :: P.zip vs) m p=_;unfold bindC;rw[qKm λv hv=>(hBo.mp nd).1 (List.of_mem_zip hv).1,hDv hk];simp
 |p :: P,w :: vs,i+1,m,nd,h1,h2,hk=>by
  show bindC kindOf ((p,w) :: P.zip vs) m x=_;unfold bindC;exact qKn (i:=i) (hBo.mp nd).2 (by simpa using h1) (by simpa using h2) hk
def start(N:List Str)(vs:List V):St:=vs.map some++List.replicate (N.length-vs.length) none
def qTi(CX:CXT)(P:Program)(w:World)(K:PySem.W.Frag)(mg:Str->Option Value)(base:Heap)(N:List Str)(qual:Str)(scope:Scope)(f:Addr)(cd:Value)(A:Around)(outer:List Env)(s:Shared)(H:Hp)(E:XK):Cx where
 prog:=P
 w:=w
 K:=K
 mg:=mg
 base:=base
 A:=A.deeper (envOfC qual scope s.heap.objs.size f cd)
 N:=N
 s₀:=s
 H₀:=H
 env:=envOfC qual scope s.heap.objs.size f cd
 outer:=outer
 stack:=envOfC qual scope s.heap.objs.size f cd :: outer
 ex:=[]
 calm:=true
 fn:=λ_=>true
 pn:=[]
 xe:=λe s'=>wpAny (model P w) (A.deeper (envOfC qual scope s.heap.objs.size f cd)) (leaving (envOfC qual scope s.heap.objs.size f cd) e) (λ_ s''=>CX outer H s E e s'') (λe' s''=>CX outer H s E e' s'') s'
theorem qNr{sc:Scope}{n:Nat}{x:Str}(h:sc.names.lookup x=some .cell):∃c,(cellsFrom n sc.names []).lookup x=some c:=by
 have q:=hD6 sc.names n [] (.inl h);exact hCk.mp q
theorem qQ4{CX:CXT}{P:Program}{w:World}{K:PySem.W.Frag}{mg:Str->Option Value}{base:Heap}{N ps:List Str}{qual:Str}{scope:Scope}{f:Addr}{cd:Value}{A:Around}{outer:List Env}{s s1:Shared}{H:Hp}{E:XK}{us:List Value}{vs:List V}
  (S:FnScope N ps scope) (hd:A.handled=none) (e0:Env0 P w K mg base A outer s H) (hl:vs.length=ps.length) (r:qBf vs us)
  (x:InCallC s s.heap.objs.size (bindL (envOfC qual scope s.heap.objs.size f cd).kindOf (ps.zip us) λ_=>none) (cellsFrom (s.heap.objs.size+1) scope.names []) (bindC (envOfC qual scope s.heap.objs.size f cd).kindOf (ps.zip us) λ_=>none) s1) :
  Inv (qTi CX P w K mg base N qual scope f cd A outer s H E) [] (start N vs) H s1:=by
 have hpl:ps.length<=N.length:=by have:=congrArg List.length S.pre;rw[hAh]at this;omega
 obtain⟨h1,tk,rfl,hk⟩:=x.done;have noA:∀b:Addr,b∉(qTi CX P w K mg base N qual scope f cd A outer s H E).ex:=λb z=>absurd (show b∈([]:List Addr) from z) (by simp)
 refine⟨⟨e0.mod,S.kind,rfl,rfl,hA3 _,λy z c h1 h2=>?_,λy hy=>?_,λy c _ h=>?_,λ_=>hd,Around.frames_deeper e0.frames,.inr ⟨rfl,rfl⟩,λb z=>absurd z (noA b),e0.bs,e0.bsz,λb _ _=>noA b,λb z=>absurd z (noA b),e0.funs,e0.frf⟩,
  rfl,e0.bare,Un.kept hk,⟨_,x.toInCall.ns,λi y v h1 h2 h3=>?_⟩,λy c h=>⟨_,x.cell y c h⟩,e0.hok.fresh (hA3 _),λy c h=>?_,λp hp=>absurd (show p∈([]:List (Addr×Obj)) from hp) (by simp),e0.hok.kept hk,?_⟩
 ·exact name_of_addr x.apart (hBg h1) (hBg h2)
 ·have hy:scope.names.lookup y=some .cell\/scope.names.lookup y=some .free:=hy;rcases hy with hy|hy
  ·exact qNr hy
  ·exact absurd rfl (S.nofree _ (hBg hy))
 ·exact hB1 (x.above y c (hBg h))
 ·have hi:i<vs.length:=by
   unfold start at h2;by_cases hi:i<vs.length
   ·exact hi
   ·rw[List.getElem?_append_right (by simpa using hi)]at h2;rw[List.getElem?_replicate]at h2;split at h2 <;> cases h2
  have ha:vs[i]?=some v:=by
   unfold start at h2;rw[hCg (by simpa using hi),hAj]at h2;cases e:vs[i]? with
   |none=>rw[e]at h2;cases h2
   |some a=>rw[e]at h2;cases h2;rfl
  obtain⟨u,hu,rv⟩:=r.get ha;have hp:ps[i]?=some y:=by
   rw[<-S.pre,List.getElem?_take_of_lt (by omega)];exact h1
  have ndP:ps.Nodup:=by rw[<-S.pre];exact S.nd.sublist (List.take_sublist _ _)
  refine⟨u,rv,?_⟩;rcases S.par y (hAd hp) with k|k
  ·exact .inl ⟨k,qKl ndP hp hu k⟩
  ·obtain⟨c,e⟩:=qNr (n:=s.heap.objs.size+1) k;refine .inr ⟨.inl k,c,e,?_⟩;have q:=x.cell y c e;rw[qKn ndP hp hu (by show scope.names.lookup y≠_;rw[k];decide)]at q;exact q
 ·exact e0.hok.fresh (hB1 (x.above y c (hBg h)))
 ·unfold start;show _=N.length;rw[hA9,hA1,List.length_replicate];omega
theorem qZ3{CX:CXT}{P:Program}{w:World}{K:PySem.W.Frag}{mg:Str->Option Value}{base:Heap}{k:Nat}{f:Addr}{name qual:Str}{params:Arguments}{body:List Stmt}{scope:Scope}{dV kV doc pm cdv ct oc:Value}{an od:Option Addr}
  {osl:Array (Option Value)} {N ps:List Str} {sp:Sp} (lk:K.lookup f=some ⟨oc,od,.func (PySem.W.fnOf name qual params body scope dV kV doc pm an cdv ct),osl⟩) (hcd:PySem.W.codeIn K cdv qual=true) (S:FnScope N ps scope)
  (len:∀vs H Q E,sp vs H Q E->vs.length=ps.length)
  (hbody:∀(A:Around) (outer:List Env) (s:Shared) (H:Hp) (vs:List V) (Q:VK) (E:XK),Room k (A.deeper (envOfC qual scope s.heap.objs.size f cdv))->sp vs H Q E ->
   ∃t,PSs (qTi CX P w K mg base N qual scope f cdv A outer s H E) body t/\t { nx:=λ_ H'=>Q .non H',rt:=Q } (start N vs) H) :
  FnOk P w K mg base CX (k+1) f (PySem.W.fnOf name qual params body scope dV kV doc pm an cdv ct) ps sp:=by
 refine⟨len,λA outer s H args us vs Q E hr e0 hb r hsp=>?_⟩;have hl:=len _ _ _ _ hsp;have KX:K.In s.heap:=e0.mod.kin.keeps λb o e=>(e0.bs b o e).1
 have lim:s.heap.NoLimit:=e0.mod.nolimit.keeps λb o e=>(e0.bs b o e).1
 have hkind:∀y∈ps.zip us,scope.names.lookup y.1=some .local\/(scope.names.lookup y.1=some .cell/\((cellsFrom (s.heap.objs.size+1) scope.names []).lookup y.1).isSome=true):=λ⟨n,v⟩ hy=>by
  rcases S.par n (List.of_mem_zip hy).1 with q|q
  ·exact .inl q
  ·exact .inr ⟨q,hD6 _ _ _ (.inl q)⟩
 refine codeAny_call_function hr.depth (KX _ _ lk) rfl S.co S.gen rfl (PySem.W.codeRec_of KX hcd) (hb _ _ _ _ ?_);refine wpAny_newFunctionEnv_cells S.kind hkind λenv he s1 x=>?_
 subst he;refine⟨lim.keeps x.toInCall.keep,codeAny_func ?_⟩;obtain⟨t,ht,hq⟩:=hbody A outer s H vs Q E (hr.deeper _) hsp;have I:Inv (qTi CX P w K mg base N qual scope f cdv A outer s H E) [] (start N vs) H s1:=qQ4 S hr.hd e0 hl r x;refine hDy (ht [] s1 (start N vs) H _ I hq) (λfl s' hs=>?_) λe s' hs=>hs
 have fin:∀ {σ':St} {H':Hp} {v:V} {u:Value},Inv (qTi CX P w K mg base N qual scope f cdv A outer s H E) [] σ' H' s'->qC2 v u->Q v H'->CE outer P w H s Q u s' :=
  λ{σ' H' v u} J rv q=>⟨v,H',J.os,J.bare,J.base,J.hok,rv,q⟩
 cases fl with
 |ret u =>
  obtain⟨v,σ',H',J,rv,q⟩:=hs;exact fin J rv q
 |next =>
  obtain⟨σ',H',J,q⟩:=hs;exact fin (v:=V.non) (u:=Value.none) J rfl q
 |brk =>
  obtain⟨_,_,_,q⟩:=hs;exact False.elim q
 |cont =>
  obtain⟨_,_,_,q⟩:=hs;exact False.elim q
section
variable{X:Cx}{x:Str}{p pos:Pos}{e:Expr}{es:List Expr}{t:TA}{id T:String}{r:List V->Hp->VK->Prop}
def tCB(r:List V->Hp->VK->Prop)(t:TA):TE:=λσ H Q=>t σ H λvs H1=>r vs H1 Q
theorem qAf(hc:qB9 X (.builtin id) r)(hg:Gl X x)(hm:X.mg x=none)(hv:bootBuiltins x=some (.builtin id))(ha:PA X (e :: es) t)(hn:x≠"__name__":=by decide)(hdb:(x == ("__debug__" : Str))=false:=by decide)
  (he:starEach (e :: es) X.env=(false,eval e X.env) :: starEach es X.env:=by rfl) (hpl:(backTo pos (starEach es X.env)).any (·.1)=false:=by rfl):PE X (.Call (.Name x p) (e :: es) [] pos) (tCB r t):=by
 intro aB s σ H Q I h;refine hEf (qGy I hg hm hv ?_ hn hdb);exact PyProof.Rows.callWith_builtin1 (thn (ha pos aB s σ H _ I h) λus s1 ⟨vs,H1,I1,r1,q1⟩=>hc aB s1 σ H1 vs us Q I1 r1 q1) he hpl
theorem qBd(hc:qB9 X (.type T) r)(hg:Gl X x)(hm:X.mg x=none)(hv:bootBuiltins x=some (.type T))(ha:PA X (e :: es) t)(hn:x≠"__name__":=by decide)(hdb:(x == ("__debug__" : Str))=false:=by decide)
  (he:starEach (e :: es) X.env=(false,eval e X.env) :: starEach es X.env:=by rfl) (hpl:(backTo pos (starEach es X.env)).any (·.1)=false:=by rfl):PE X (.Call (.Name x p) (e :: es) [] pos) (tCB r t):=by
 intro aB s σ H Q I h;refine hEf (qGy I hg hm hv ?_ hn hdb);exact hCr (thn (ha pos aB s σ H _ I h) λus s1 ⟨vs,H1,I1,r1,q1⟩=>hc aB s1 σ H1 vs us Q I1 r1 q1) he hpl
end
end L2
namespace HT
open PySem PyProof.Rows
section
variable{prog:Program}{w:World}{A:Around}{E:Value->Shared->Prop}{s:Shared}
theorem cat_tup{t b:Addr}{vs ws:List Value}{Q:Value->Shared->Prop}(ht:IsTup s.heap t vs.toArray)(hb:IsTup s.heap b ws.toArray)(hv:vs≠[])
  (h1:ws=[]->Q (.ref t) s) (h2:ws≠[]->Q (.ref s.heap.objs.size) { s with heap:=s.heap.push { cls:=.type "tuple",data:=.seq (vs++ws).toArray } })
  (hsz:vs.length+ws.length<=sizeLine):wpAny (model prog w) A (binaryOp .Add (.ref t) (.ref b)) Q E s:=by
 obtain⟨⟨cls,dd,data,sl⟩,ho,hc,n,hd⟩:=id ht;obtain⟨⟨cls2,dd2,data2,sl2⟩,ho2,hc2,n2,hd2⟩:=id hb;simp only at hc hd hc2 hd2;subst hc hd hc2 hd2;have e:vs.toArray++ws.toArray=(vs++ws).toArray:=by simp
 by_cases hw:ws=[]
 ·exact concat_meets ⟨_,ho,rfl⟩ ⟨_,ho2,rfl⟩ noFill_tuple_add seq_tuple_add PySem.F.slot_tuple_add PySem.F.entry_tuple_add (PySem.F.args_tuple_add_2 _ _)
   (tuple_addW1 t b vs.toArray ws.toArray n n2 dd dd2 sl sl2 (by simpa using hv) (by simp[hw])) ⟨ho,ho2,h1 hw⟩
 ·refine concat_meets ⟨_,ho,rfl⟩ ⟨_,ho2,rfl⟩ noFill_tuple_add seq_tuple_add PySem.F.slot_tuple_add PySem.F.entry_tuple_add (PySem.F.args_tuple_add_2 _ _)
   (tuple_addW2 t b vs.toArray ws.toArray n n2 dd dd2 sl sl2 (by simpa using hv) (by simpa using hw) (by rw[hAl,hAl];exact hsz)) ⟨ho,ho2,?_⟩
  rw[e];exact h2 hw
def sIx(n d:Nat):Option Int->Nat
 |none=>d
 |some v=>if v<0 then (v+(n:Int)).toNat else min v.toNat n
theorem sIx_none(n d:Nat):sIx n d none=d:=rfl
theorem sIx_nat(n d k:Nat):sIx n d (some (k:Int))=min k n:=by
 show(if (k:Int)<0 then ((k:Int)+(n:Int)).toNat else min (k:Int).toNat n)=min k n;rw[hDv (by omega),hBa]
end
end HT
namespace L2
open PySem PySem.Spec PyProof.Rows
abbrev TO:=St->Hp->(Option Int->Hp->Prop)->Prop
def PO(X:Cx)(e:Option Expr)(t:TO):Prop :=
 ∀(aB:List (Addr×Obj)) (s:Shared) (σ:St) (H:Hp) (Q:Option Int->Hp->Prop),Inv X aB σ H s->t σ H Q ->
  wpAny (model X.prog X.w) X.A (evalPart e X.env) (λu s'=>∃o H',Inv X aB σ H' s'/\IsPart u o/\Q o H') X.xe s
def qVd:TO:=λ_ H Q=>Q none H
def zAp(t:TE):TO:=λσ H Q=>t σ H λx H1=>∃i,x = .int i/\Q (some i) H1
section
variable{X:Cx}{e:Expr}{te:TE}{lo hi:Option Expr}{tl th:TO}{pos p2:Pos}
theorem qC5:PO X none qVd:=by
 intro aB s σ H Q I h;rw[evalPart_none];exact hDt ⟨none,H,I,.none,h⟩
theorem qC4(h:PE X e te):PO X (some e) (zAp te):=by
 intro aB s σ H Q I hw;rw[evalPart_some];refine thn (h aB s σ H _ I hw) λu s1 ⟨x,H1,I1,r1,q1⟩=>?_
 obtain⟨i,rfl,q⟩:=q1;obtain⟨t,rfl⟩:=r1;exact⟨some i,H1,I1,.int i t,q⟩
def SlR(X:Cx)(r:V->Option Int->Option Int->Hp->VK->Prop):Prop :=
 ∀(aB:List (Addr×Obj)) (s:Shared) (σ:St) (H:Hp) (x:V) (v vl vu:Value) (lo hi:Option Int) (sl:Addr) (Q:VK),Inv X aB σ H s->qC2 x v->s.heap.IsSliceOf sl vl vu .none->IsPart vl lo->IsPart vu hi->r x lo hi H Q ->
  ∃T id,typeLookup (.type T) "__getitem__"=pure (some (.builtin id))/\s.TypeIs v T/\wpAny (model X.prog X.w) X.A (getItem v (.ref sl)) (EP X aB σ Q) X.xe s
def tSl(r:V->Option Int->Option Int->Hp->VK->Prop)(te:TE)(tl th:TO):TE:=λσ H Q=>te σ H λx H1=>tl σ H1 λl H2=>th σ H2 λu H3=>r x l u H3 Q
theorem qB6{r:V->Option Int->Option Int->Hp->VK->Prop}(hr:SlR X r)(he:PE X e te)(hl:PO X lo tl)(hu:PO X hi th):PE X (.Subscript e (.Slice lo hi none p2) pos) (tSl r te tl th):=by
 intro aB s σ H Q I h;refine Subscript_ (thn (he aB s σ H _ I h) λv s1 ⟨x,H1,I1,r1,q1⟩=>?_);refine wpAny_Slice (thn (hl aB s1 σ H1 _ I1 q1) λvl s2 ⟨l,H2,I2,pl,q2⟩=>thn (hu aB s2 σ H2 _ I2 q2) λvu s3 ⟨u,H3,I3,pu,q3⟩=>?_);rw[evalPart_none];refine hDt ?_;have I4:Inv X aB σ H3 { s3 with heap:=s3.heap.push { cls:=.type "slice",data:=.fields #[vl,vu,.none] } }:=I3.kept (t':=s3.toks) λb ob q=>Heap.get?_push_of_some _ q
 obtain⟨T,id,hT,ht,hg⟩:=hr aB { s3 with heap:=s3.heap.push { cls:=.type "slice",data:=.fields #[vl,vu,.none] } } σ H3 x v vl vu l u s3.heap.objs.size Q I4 r1 (Heap.IsSliceOf.new ..) pl pu q3;show wpAny (model X.prog X.w) X.A (subscriptTail e (.Slice lo hi none p2) v (.ref s3.heap.objs.size)) (EP X aB σ Q) X.xe { s3 with heap:=s3.heap.push { cls:=.type "slice",data:=.fields #[vl,vu,.none] } };exact tail_any (ops:=[.ref s3.heap.objs.size,v]) ht hT hg (by with_unfolding_all rfl)
def qOq(xs:List V)(lo hi:Option Int):List V:=(xs.drop (HT.sIx xs.length 0 lo)).take (HT.sIx xs.length xs.length hi-HT.sIx xs.length 0 lo)
theorem qL2(xs:List V)(lo hi:Option Int):(qOq xs lo hi).length<=xs.length:=by
 unfold qOq;rw[hAh,hCn];omega
def zA4(K:PySem.W.Frag):R2:=λx y H Q=>∃a b xs ys,x = .ref a/\y = .ref b/\SqT K H a xs/\SqT K H b ys/\xs≠[]/\xs.length+ys.length<=sizeLine /\
 (ys=[]->Q (.ref a) H)/\(ys≠[]->∀p,H p=none->Q (.ref p) (upd H p (.tup (xs++ys))))
theorem qBf.nil_iff{xs:List V}{us:List Value}(r:qBf xs us):us=[]↔xs=[]:=by
 cases r with
 |nil=>simp
 |cons _ _=>simp
theorem qWd:OpR X (binaryOp .Add) (zA4 X.K):=by
 intro aB s σ H x y v u Q I rx ry h;obtain⟨a,b,xs,ys,rfl,rfl,ha,hb,hx,hz,q1,q2⟩:=h;cases rx;cases ry;obtain⟨its,r1,p1,_⟩:=I.tuple ha;obtain⟨its2,r2,p2,_⟩:=I.tuple hb;refine HT.cat_tup p1 p2 (λz=>hx (r1.nil_iff.mp z)) (λz=>⟨.ref a,H,I,rfl,q1 (r2.nil_iff.mp z)⟩) (λz=>?_) (by rw[<-r1.length,<-r2.length];exact hz);refine⟨.ref s.heap.objs.size,_,I.laid (t':=s.toks) (o:=.tup (xs++ys)) (λb ob q=>Heap.get?_push_of_some _ q) (hA3 _) ?_,rfl,q2 (λw=>z (r2.nil_iff.mpr w)) _ (I.hok.fresh (hA3 _))⟩;exact⟨by rw[hA9];exact hz,_,r1.append r2,IsTup.new _ _⟩
end
def ixN(n:Nat)(i:Int):Option Nat:=if 0<=i then (if i<n then some i.toNat else none) else if -(n:Int)<=i then some (i+n).toNat else none
def atI{α:Type}(xs:List α)(i:Int):Option α:=(ixN xs.length i).bind λj=>xs[j]?
theorem qXe{n:Nat}{i:Int}{j:Nat}(h:ixN n i=some j):seqIndex? i n=some j/\j<n/\-(n:Int)<=i/\i<n:=by
 unfold ixN at h;by_cases h0:0<=i
 ·rw[hDw h0]at h;by_cases h1:i<n
  ·rw[hDw h1]at h;have e:i.toNat=j:=hAq h;exact⟨by rw[seqIndex_of h0 h1,e],by omega,by omega,h1⟩
  ·rw[hDv h1]at h;cases h
 ·rw[hDv h0]at h;by_cases h1:-(n:Int)<=i
  ·rw[hDw h1]at h;have e:(i+n).toNat=j:=hAq h;exact⟨by rw[seqIndex_neg (by omega) h1,e],by omega,h1,by omega⟩
  ·rw[hDv h1]at h;cases h
theorem qL7{α:Type}{xs:List α}{i:Int}{v:α}(h:atI xs i=some v):∃j,seqIndex? i xs.length=some j/\xs[j]?=some v/\j<xs.length/\-(xs.length:Int)<=i/\i<xs.length:=by
 unfold atI at h;cases e:ixN xs.length i with
 |none=>rw[e]at h;cases h
 |some j =>
  rw[e]at h;obtain⟨h1,h2,h3,h4⟩:=qXe e;exact⟨j,h1,h,h2,h3,h4⟩
theorem qA5{α:Type}{xs:List α}{j:Nat}{v:α}(h:xs[j]?=some v):atI xs (j:Int)=some v:=by
 have hj:j<xs.length:=(hAi.mp h).1;have e:ixN xs.length (j:Int)=some j:=by
  unfold ixN;rw[hDw (by omega),hDw (by omega)];simp
 unfold atI;rw[e];exact h
def qXu(b:Expr):Prop:=∀o i,subscripted b false o i=operate [o,i] (getItem o i)
def IxR(X:Cx)(r:R2):Prop :=
 ∀(value slice:Expr) (aB:List (Addr×Obj)) (s:Shared) (σ:St) (H:Hp) (x y:V) (v u:Value) (Q:VK),Inv X aB σ H s->qC2 x v->qC2 y u->r x y H Q ->
  subscripted slice false v u=operate [v,u] (getItem v u)->wpAny (model X.prog X.w) X.A (subscriptTail value slice v u) (EP X aB σ Q) X.xe s
def MtR(X:Cx)(id:String)(r:V->List V->Hp->VK->Prop):Prop :=
 ∀(aB:List (Addr×Obj)) (s:Shared) (σ:St) (H:Hp) (x:V) (xs:List V) (v:Value) (us:List Value) (Q:VK),Inv X aB σ H s->qC2 x v->qBf xs us->r x xs H Q ->
  wpAny (model X.prog X.w) X.A (call (.builtin id) (v :: us)) (EP X aB σ Q) X.xe s
section
variable{X:Cx}{a b:Expr}{ta tb:TE}{pos:Pos}
theorem qBm{r:R2}(hr:IxR X r)(ha:PE X a ta)(hb:PE X b tb)(hs:qXu b):PE X (.Subscript a b pos) (tOp r ta tb):=by
 intro aB s σ H Q I h;exact Subscript_ (zBm ha hb I h λv u s2 x y H2 I2 rx ry q=>hr a b aB s2 σ H2 x y v u Q I2 rx ry q (hs _ _))
def zAh(K:PySem.W.Frag):R2:=λx y H Q=>∃p xs i v,x = .ref p/\y = .int i/\SqL K H p xs/\atI xs i=some v/\Q v H
def qUc(K:PySem.W.Frag):R2:=λx y H Q=>∃p xs i v,x = .ref p/\y = .int i/\SqT K H p xs/\atI xs i=some v/\Q v H
def zCk:R2:=λx y H Q=>∃z i c,x = .str z/\y = .int i/\z.length<=sizeLine/\atI z.cps.toList i=some c/\Q (.str ⟨#[c]⟩) H
theorem qB0:IxR X (zAh X.K):=by
 intro value slice aB s σ H x y v u Q I rx ry h hs;obtain⟨p,xs,i,z,rfl,rfl,hq,he,q⟩:=h;cases rx;obtain⟨t,rfl⟩:=ry;obtain⟨its,r,pl,hz⟩:=I.list hq;obtain⟨j,h1,h2,h3,h4,h5⟩:=qL7 he;obtain⟨w,ew,rw'⟩:=r.get h2;have hl:=r.length;have hn:=qJ6;have fin:EP X aB σ Q w s:=⟨z,H,I,rw',q⟩;by_cases h0:0<=i
 ·have hj:i.toNat=j:=by
   rw[seqIndex_of h0 h5]at h1;exact hAq h1
  exact item_listR pl.isList h0 (by omega) (by rw[hj];simpa using ew) fin hs
 ·have hj:(i+(its.toArray.size:Int)).toNat=j:=by
   rw[seqIndex_neg (by omega) h4]at h1;rw[hAl,<-hl];exact hAq h1
  exact subscriptTail_builtinR (x:=w) pl.isList.typeIs slot_list_getitem.lookup
   (wpAny_getItem_list_neg (Q:=λr s'=>r=w/\EP X aB σ Q r s') pl.isList (by omega) (by rw[hAl] <;> omega) (by omega) (by rw[hj];simpa using ew) ⟨rfl,fin⟩) hs
theorem qCb:IxR X (qUc X.K):=by
 intro value slice aB s σ H x y v u Q I rx ry h hs;obtain⟨p,xs,i,z,rfl,rfl,hq,he,q⟩:=h;cases rx;obtain⟨t,rfl⟩:=ry;obtain⟨its,r,pl,hz⟩:=I.tuple hq;obtain⟨j,h1,h2,h3,h4,h5⟩:=qL7 he;obtain⟨w,ew,rw'⟩:=r.get h2;have hl:=r.length;have hn:=qJ6;have fin:EP X aB σ Q w s:=⟨z,H,I,rw',q⟩;exact subscriptTail_builtinR (x:=w) pl.typeIs slot_tuple_getitem.lookup
  (getItem_tuple (j:=j) (Q:=λr s'=>r=w/\EP X aB σ Q r s') pl (by omega) (by omega) (by rw[hAl,<-hl];exact h1) (by simpa using ew) ⟨rfl,fin⟩) hs
theorem qQ1:IxR X zCk:=by
 intro value slice aB s σ H x y v u Q I rx ry h hs;obtain⟨z,i,c,rfl,rfl,hz,he,q⟩:=h;obtain⟨t,rfl⟩:=rx;obtain⟨t',rfl⟩:=ry;obtain⟨j,h1,h2,h3,h4,h5⟩:=qL7 he;have hl:z.cps.toList.length=z.length:=by simp[Str.length]
 rw[hl]at h1 h4 h5;have hn:=qJ6;exact tail_any (hEo s z t) slot_str_getitem.lookup (getItem_str (c:=c) (by
  have e1:decide (i < -(2^63:Int))=false:=hDs (by omega);have e2:decide (i >= 2^63)=false:=hDs (by omega);rw[e1,e2,Bool.or_false]) (by rw[h1];simpa using h2) ⟨.str ⟨#[c]⟩,H,I.tok _,⟨_,rfl⟩,q⟩) hs
theorem qJp(lo hi:Option Int)(n:Nat):(sliceBounds lo hi none n).1=((HT.sIx n 0 lo:Nat):Int)/\(sliceBounds lo hi none n).2.1=((HT.sIx n n hi:Nat):Int)/\(sliceBounds lo hi none n).2.2=1:=by
 refine⟨?_,?_,rfl⟩
 ·cases lo with
  |none=>simp[sliceBounds,HT.sIx]
  |some i =>
   simp only[sliceBounds,HT.sIx,Option.getD_none,show(1:Int) > 0 by decide,if_true];by_cases h:i<0
   ·simp only[h,if_true] <;> omega
   ·simp only[h,if_false] <;> omega
 ·cases hi with
  |none=>simp[sliceBounds,HT.sIx]
  |some i =>
   simp only[sliceBounds,HT.sIx,Option.getD_none,show(1:Int) > 0 by decide,if_true];by_cases h:i<0
   ·simp only[h,if_true] <;> omega
   ·simp only[h,if_false] <;> omega
theorem qH8(its:List Value)(lo hi:Option Int):slicePick its.toArray lo hi none=((its.drop (HT.sIx its.length 0 lo)).take (HT.sIx its.length its.length hi-HT.sIx its.length 0 lo)).toArray:=by
 obtain⟨h1,h2,h3⟩:=qJp lo hi its.toArray.size;unfold slicePick;rw[h1,h2,h3];simp only[sliceRange_one,pick_run,hAl] <;> rfl
def zCj(K:PySem.W.Frag):V->Option Int->Option Int->Hp->VK->Prop:=λx lo hi H Q=>∃a xs,x = .ref a/\SqL K H a xs/\∀p,H p=none->Q (.ref p) (upd H p (.lst (qOq xs lo hi)))
theorem qEr:SlR X (zCj X.K):=by
 intro aB s σ H x v vl vu lo hi sl Q I rx hs pl pu h;obtain⟨a,xs,rfl,hx,q⟩:=h;cases rx;obtain⟨its,r,ht,hz⟩:=I.list hx;have hlen:=r.length;refine⟨"list",_,slot_list_getitem.lookup,ht.isList.typeIs,?_⟩;refine wpAny_getItem_list_slice ht.isList hs pl pu .none (by simp) ?_ (by rw[hAl] <;> omega);rw[qH8,<-hlen];refine⟨.ref s.heap.objs.size,_,I.laid (t':=s.toks) (o:=.lst (qOq xs lo hi)) (λb ob q=>Heap.get?_push_of_some _ q) (hA3 _) ?_,rfl,q _ (I.hok.fresh (hA3 _))⟩;exact⟨hAv (qL2 xs lo hi) hz,_,0,(r.drop (HT.sIx xs.length 0 lo)).take (HT.sIx xs.length xs.length hi-HT.sIx xs.length 0 lo),Heap.get?_push_size _ rfl⟩
def qI0:V->Bool
 |.non=>true
 |.bl _=>true
 |.int _=>true
 |.str _=>true
 |_=>false
def eqV:V->V->Bool
 |.non,.non=>true
 |.bl a,.bl b=>a == b
 |.bl a,.int b=>(if a then 1 else 0) == b
 |.int a,.bl b=>a == (if b then 1 else 0)
 |.int a,.int b=>a == b
 |.str a,.str b=>a == b
 |_,_=>false
theorem qZ7{A:Around}{s:Shared}{y x:V}{u v:Value}(ry:qC2 y u)(rx:qC2 x v)(fy:qI0 y=true)(fx:qI0 x=true):SeqAt.EqAt A s u v (eqV y x):=by
 cases y with
 |non =>
  cases ry;cases x with
  |non=>cases rx;exact SeqAt.EqAt.same _
  |bl b=>cases rx;exact SeqAt.EqAt.none_bool b
  |int b=>obtain⟨t,rfl⟩:=rx;exact SeqAt.EqAt.none_int b t
  |str b=>obtain⟨t,rfl⟩:=rx;exact SeqAt.EqAt.none_str b t
  |_=>exact absurd (show false=true from fx) hAm
 |bl a =>
  cases ry;cases x with
  |non=>cases rx;exact SeqAt.EqAt.bool_none a
  |bl b=>cases rx;exact SeqAt.EqAt.bool_bool a b
  |int b=>obtain⟨t,rfl⟩:=rx;exact SeqAt.EqAt.bool_int a b t
  |str b=>obtain⟨t,rfl⟩:=rx;exact SeqAt.EqAt.bool_str a b t
  |_=>exact absurd (show false=true from fx) hAm
 |int a =>
  obtain⟨t',rfl⟩:=ry;cases x with
  |non=>cases rx;exact SeqAt.EqAt.int_none a t'
  |bl b=>cases rx;exact SeqAt.EqAt.int_bool a t' b
  |int b=>obtain⟨t,rfl⟩:=rx;exact SeqAt.EqAt.int_int a t' b t
  |str b=>obtain⟨t,rfl⟩:=rx;exact SeqAt.EqAt.int_str a t' b t
  |_=>exact absurd (show false=true from fx) hAm
 |str a =>
  obtain⟨t',rfl⟩:=ry;cases x with
  |non=>cases rx;exact SeqAt.EqAt.str_none a t'
  |bl b=>cases rx;exact SeqAt.EqAt.str_bool a t' b
  |int b=>obtain⟨t,rfl⟩:=rx;exact SeqAt.EqAt.str_int a t' b t
  |str b=>obtain⟨t,rfl⟩:=rx;exact SeqAt.EqAt.str_str a t' b t
  |_=>exact absurd (show false=true from fx) hAm
 |_=>exact absurd (show false=true from fy) hAm
def eqU(x:V)(u:Value):Bool:=match u with
 |.none=>eqV .non x
 |.bool b=>eqV (.bl b) x
 |.int i _=>eqV (.int i) x
 |.str z _=>eqV (.str z) x
 |_=>false
theorem qUs{x y:V}{u:Value}(r:qC2 y u)(f:qI0 y=true):eqU x u=eqV y x:=by
 cases y with
 |non=>cases r;rfl
 |bl b=>cases r;rfl
 |int i=>obtain⟨t,rfl⟩:=r;rfl
 |str z=>obtain⟨t,rfl⟩:=r;rfl
 |_=>exact absurd (show false=true from f) hAm
theorem qL8{x:V}:∀ {xs:List V} {us:List Value},qBf xs us->xs.all qI0=true->us.any (eqU x)=xs.any λy=>eqV y x
 |_,_,.nil,_=>rfl
 |y :: xs,u :: us,.cons r t,f=>by
  rw[List.all_cons,hBe]at f;rw[List.any_cons,List.any_cons,qUs r f.1,qL8 t f.2]
theorem qIt{A:Around}{s:Shared}{x:V}{v:Value}(rx:qC2 x v)(fx:qI0 x=true):∀ {xs:List V} {us:List Value},qBf xs us->xs.all qI0=true->∀u∈us,SeqAt.EqAt A s u v (eqU x u)
 |_,_,.nil,_=>λu hu=>by cases hu
 |y :: xs,u :: us,.cons r t,f=>λu' hu=>by
  rw[List.all_cons,hBe]at f;rcases hAc.mp hu with rfl|hu
  ·rw[qUs r f.1];exact qZ7 r rx f.1 fx
  ·exact qIt rx fx t f.2 u' hu
def inV(x:V)(xs:List V):Bool:=xs.any λy=>eqV y x
def rIn(K:PySem.W.Frag)(neg:Bool):R2:=λx y H Q=>∃p xs,y = .ref p/\(SqL K H p xs\/SqT K H p xs)/\qI0 x=true/\xs.all qI0=true/\Q (.bl (if neg then !inV x xs else inV x xs)) H
theorem qE5:OpR X (compareOp .In) (rIn X.K false):=by
 intro aB s σ H x y v u Q I rx ry h;obtain⟨p,xs,rfl,hq,fx,fs,q⟩:=h;cases ry;rcases hq with hq|hq
 ·obtain⟨its,r,pl,hz⟩:=I.list hq;refine SeqAt.in_listAt (eqU x) pl.isList (λw hw=>qIt rx fx r fs w (by simpa using hw)) ⟨.bl _,H,I,rfl,?_⟩;rw[show its.toArray.any (eqU x)=its.any (eqU x) by simp,qL8 r fs];exact q
 ·obtain⟨its,r,pl,hz⟩:=I.tuple hq;refine SeqAt.in_tupleAt (eqU x) pl (λw hw=>qIt rx fx r fs w (by simpa using hw)) ⟨.bl _,H,I,rfl,?_⟩;rw[show its.toArray.any (eqU x)=its.any (eqU x) by simp,qL8 r fs];exact q
theorem qAm:qB9 X (.builtin "len") (λxs H Q=>∃p ys,xs=[.ref p]/\(SqL X.K H p ys\/SqT X.K H p ys)/\Q (.int ys.length) H):=by
 intro aB s σ H xs us Q I r h;obtain⟨p,ys,rfl,hq,q⟩:=h;obtain⟨u,rfl,rx⟩:=qD1 r;cases rx;have hn:=qJ6;rcases hq with hq|hq
 ·obtain⟨its,r',pl,hz⟩:=I.list hq;have hlen:=r'.length;exact Calls.call_len_list pl.isList (by simp only[hAl] <;> omega) ⟨.int ys.length,H,I.tok _,⟨s.toks+1,by rw[hAl,hlen]⟩,q⟩
 ·obtain⟨its,r',pl,hz⟩:=I.tuple hq;have hlen:=r'.length;exact len_tuple pl (by simp only[hAl] <;> omega) ⟨.int ys.length,H,I.tok _,⟨s.toks+1,by rw[hAl,hlen]⟩,q⟩
theorem qCn:qB9 X (.builtin "len") (λxs H Q=>∃z,xs=[.str z]/\z.length<=sizeLine/\Q (.int z.length) H):=by
 intro aB s σ H xs us Q I r h;obtain⟨z,rfl,hz,q⟩:=h;obtain⟨u,rfl,t,rfl⟩:=qD1 r;have hn:=qJ6;exact len_str (by omega) ⟨.int z.length,H,I.tok _,⟨_,rfl⟩,q⟩
theorem qF4:qB9 X (.type "list") (λxs H Q=>∃p ys,xs=[.ref p]/\(SqL X.K H p ys\/SqT X.K H p ys)/\∀l,H l=none->Q (.ref l) (upd H l (.lst ys))):=by
 intro aB s σ H xs us Q I r h;obtain⟨p,ys,rfl,hq,q⟩:=h;obtain⟨u,rfl,rx⟩:=qD1 r;cases rx;have fin:∀(its:List Value),qBf ys its->ys.length<=sizeLine->∀(h':Heap) (c':Nat),(∀b o',s.heap.get? b=some o'->h'.get? b=some o') ->
   h'.get? s.heap.objs.size=some { cls:=.type "list",dict:=none,data:=.seq its.toArray c',slots:=#[] }->EP X aB σ Q (.ref s.heap.objs.size) { s with heap:=h' }:=λits r' hz h' c' kp e =>
  ⟨.ref s.heap.objs.size,_,I.laid (t':=s.toks) kp (hA3 _) (show qCg X.prog X.w _ h' _ (.lst ys) from ⟨hz,its,c',r',e⟩),rfl,q _ (I.hok.fresh (hA3 _))⟩
 rcases hq with hq|hq
 ·obtain⟨its,r',pl,hz⟩:=I.list hq;have hlen:=r'.length;obtain⟨o,ho,hc,n,hd⟩:=pl.isList;exact call_list_seq p (.inl rfl) ho hc hd (λh' c' kp e=>fin its r' hz h' c' kp e) (by simp only[hAl] <;> omega)
 ·obtain⟨its,r',pl,hz⟩:=I.tuple hq;have hlen:=r'.length;obtain⟨o,ho,hc,n,hd⟩:=pl;exact call_list_seq p (.inr rfl) ho hc hd (λh' c' kp e=>fin its r' hz h' c' kp e) (by simp only[hAl] <;> omega)
theorem qCw:qB9 X (.type "tuple") (λxs H Q=>∃p ys,xs=[.ref p]/\((SqL X.K H p ys/\∀l,H l=none->Q (.ref l) (upd H l (.tup ys)))\/(SqT X.K H p ys/\Q (.ref p) H))):=by
 intro aB s σ H xs us Q I r h;obtain⟨p,ys,rfl,h⟩:=h;obtain⟨u,rfl,rx⟩:=qD1 r;cases rx;rcases h with ⟨hq,q⟩|⟨hq,q⟩
 ·obtain⟨its,r',pl,hz⟩:=I.list hq;have hlen:=r'.length;refine call_tuple_list pl.isList (λh' kp=>?_) (by simp only[hAl] <;> omega);have I1:Inv X aB σ H { s with heap:=h' }:=I.kept (t':=s.toks) kp;have I2:Inv X aB σ (upd H h'.objs.size (.tup ys)) { s with heap:=h'.push { cls:=.type "tuple",data:=.seq its.toArray } } :=
   I1.laid (t':=s.toks) (λb o e=>Heap.get?_push_of_some _ e) (hA3 _) (show qCg X.prog X.w _ _ _ (.tup ys) from ⟨hz,its,r',IsTup.new _ _⟩)
  exact⟨.ref h'.objs.size,_,I2,rfl,q _ (I1.hok.fresh (hA3 _))⟩
 ·obtain⟨its,r',pl,hz⟩:=I.tuple hq;exact call_tuple_same pl ⟨.ref p,H,I,rfl,q⟩
def tyV(K:PySem.W.Frag)(T:String)(x:V)(H:Hp):Prop:=match x with
 |.str _=>T = "str"
 |.int _=>T = "int"
 |.ref p=>(T = "list"/\∃xs,SqL K H p xs)\/(T = "tuple"/\∃o,K.lookup p=some o/\o.cls = .type "tuple"/\o.dict=none) \/
   (T = "dict"/\((∃kvs,H p=some (.dK kvs))\/∃kvs,H p=some (.dT kvs)))\/(T = "set"/\∃S n,H p=some (.set S n))
 |_=>False
theorem qTq{aB:List (Addr×Obj)}{σ:St}{H:Hp}{s:Shared}{T:String}{x:V}{v:Value}(I:Inv X aB σ H s)(r:qC2 x v)(ty:tyV X.K T x H) :
  s.TypeIs v T/\∀a,v = .ref a->∃ob,s.heap.get? a=some ob/\ob.dict=none:=by
 cases x with
 |str z =>
  obtain⟨t,rfl⟩:=r;cases(show T = "str" from ty);exact⟨hEo s z t,λ_ e=>nomatch e⟩
 |int i =>
  obtain⟨t,rfl⟩:=r;cases(show T = "int" from ty);exact⟨typeIs_int s i t,λ_ e=>nomatch e⟩
 |ref p =>
  cases r;rcases ty with ⟨rfl,xs,hq⟩|⟨rfl,o,hk,hc,hd⟩|⟨rfl,hk⟩|⟨rfl,S,n,hk⟩
  ·obtain⟨its,_,pl,_⟩:=I.list hq;refine⟨pl.isList.typeIs,λa e=>?_⟩;cases e;obtain⟨o,n,e,c,hd,_⟩:=pl;exact⟨o,e,hd⟩
  ·refine⟨⟨o,I.kIn p o hk,hc⟩,λa e=>?_⟩;cases e;exact⟨o,I.kIn _ o hk,hd⟩
  ·have z:∃o,s.heap.get? p=some o/\o.ExactDict:=by
    rcases hk with ⟨kvs,hk⟩|⟨kvs,hk⟩
    ·obtain⟨_,_,_,_,o,_,_,e,ex,_⟩:=I.hok p _ hk;exact⟨o,e,ex⟩
    ·obtain⟨_,_,_,_,o,_,_,e,ex,_⟩:=I.hok p _ hk;exact⟨o,e,ex⟩
   obtain⟨o,e,ex⟩:=z;refine⟨⟨o,e,ex.1⟩,λa e2=>?_⟩;cases e2;exact⟨o,e,ex.2.1⟩
  ·obtain⟨o,_,_,_,e,ex,_⟩:=I.hok p _ hk;refine⟨⟨o,e,ex.1⟩,λa e2=>?_⟩;cases e2;exact⟨o,e,ex.2.1⟩
 |_=>exact False.elim ty
def zCf(K:PySem.W.Frag)(T:String)(r:V->List V->Hp->VK->Prop)(to:TE):TE:=λσ H Q=>to σ H λx H1=>tyV K T x H1/\r x [] H1 Q
def tBM(K:PySem.W.Frag)(T:String)(r:V->List V->Hp->VK->Prop)(to:TE)(t:TA):TE:=λσ H Q=>to σ H λx H1=>tyV K T x H1/\t σ H1 λxs H2=>r x xs H2 Q
variable{o e:Expr}{es:List Expr}{to:TE}{t:TA}{name:Str}{apos cpos:Pos}{T id:String}{r:V->List V->Hp->VK->Prop}
theorem qY7(pa:PlainAttrs T)(slot:Slot T name id)(hty:typeOf (.builtin id)=pure (.type "method_descriptor"))(hm:MtR X id r)(ho:PE X o to)
  (hbase:attributeBase o name X.env (eval o X.env)=eval o X.env:=by rfl) (hline:(apos.endLine == cpos.line)=true:=by rfl):PE X (.Call (.Attribute o name apos) [] [] cpos) (zCf X.K T r to):=by
 intro aB s σ H Q I h;refine wpAny_Call_method0_late hbase hline (thn (ho aB s σ H _ I h) λv s1 ⟨x,H1,I1,r1,ty,q1⟩=>?_);obtain⟨h1,h2⟩:=qTq I1 r1 ty;exact⟨T,id,pa,slot,hty,h1,h2,Calls.callWith_builtin rfl (PySem.evalArgs_none (hm aB s1 σ H1 x [] v [] Q I1 r1 .nil q1))⟩
theorem qB8(pa:PlainAttrs T)(slot:Slot T name id)(hty:typeOf (.builtin id)=pure (.type "method_descriptor"))(hm:MtR X id r)(ho:PE X o to)(ha:PA X (e :: es) t)
  (hbase:attributeBase o name X.env (eval o X.env)=eval o X.env:=by rfl)
  (hfew:((backTo cpos (starEach (e :: es) X.env)).all (λx=>!x.1) && (backToKw cpos (keywordEach [] X.env)).all (λx=>x.1.isSome)
   && decide ((e :: es).length+([]:List Keyword).length+(if ([]:List Keyword).isEmpty then 0 else 1)<30))=true:=by rfl)
  (hline:(apos.endLine == cpos.line)=true:=by rfl) (hs:starEach (e :: es) X.env=(false,eval e X.env) :: starEach es X.env:=by rfl) (hplain:(backTo cpos (starEach es X.env)).any (·.1)=false:=by rfl) :
  PE X (.Call (.Attribute o name apos) (e :: es) [] cpos) (tBM X.K T r to t):=by
 intro aB s σ H Q I h;refine wpAny_Call_method_late hbase hfew hline rfl (thn (ho aB s σ H _ I h) λv s1 ⟨x,H1,I1,r1,ty,q1⟩=>?_);obtain⟨h1,h2⟩:=qTq I1 r1 ty;refine⟨T,id,pa,slot,hty,h1,h2,?_⟩;have hA:=ha cpos aB s1 σ H1 _ I1 q1;rw[hs]at hA ⊢;refine Calls.callWith_builtin (by show(false || (backTo cpos (starEach es X.env)).any (·.1))=false;rw[hplain] <;> rfl) (Calls.evalArgs_plain ?_);exact thn hA λus s2 ⟨vs,H2,I2,r2,q2⟩=>hm aB s2 σ H2 x vs v us Q I2 r1 r2 q2
end
def MtM(X:Cx)(id:String)(r:V->List V->Hp->VK->Prop):Prop :=
 ∀(aB:List (Addr×Obj)) (s:Shared) (σ:St) (H:Hp) (x:V) (xs:List V) (v:Value) (us:List Value) (Q:VK),Inv X aB σ H s->qC2 x v->qBf xs us->r x xs H Q ->
  wpAny (model X.prog X.w) X.A (call (.builtin id) (v :: us)) (EP X aB σ Q) X.xe s
theorem qBf.one:∀ {x:V} {us:List Value},qBf [x] us->∃u,us=[u]/\qC2 x u
 |_,_,.cons r .nil=>⟨_,rfl,r⟩
theorem qBf.zero:∀ {us:List Value},qBf [] us->us=[]
 |_,.nil=>rfl
section
variable{X:Cx}{aB:List (Addr×Obj)}{σ:St}{H:Hp}{s:Shared}{l b:Addr}{xs ys zs:List V}
theorem Inv.lset{its its':List Value}{n:Nat}{f:Array Value->Array Value}{t':Nat}(I:Inv X aB σ H s)(hH:H l=some (.lst xs))
  (e:s.heap.get? l=some { cls:=.type "list",data:=.seq its.toArray n }) (hf:f its.toArray=its'.toArray) (hv:qBf ys its') (hz:ys.length<=sizeLine) :
  Inv X aB σ (upd H l (.lst ys)) { s with heap:=s.heap.update l (Obj.mapSeq f),toks:=t' }:=by
 have q:=PySem.IsL.update e f;rw[hf]at q;refine I.write (x:=l) (e:=l) (by rw[hH];exact trivial) (.inl rfl) (λb' u hb hu=>(Heap.get?_update_other s.heap (Obj.mapSeq f) (Ne.symm hb)).trans hu) ⟨_,q⟩ ?_;exact⟨hz,its',_,hv,q⟩
theorem Inv.lnew{its:List Value}{t':Nat}(I:Inv X aB σ H s)(hv:qBf ys its)(hz:ys.length<=sizeLine) :
  Inv X aB σ (upd H s.heap.objs.size (.lst ys)) { s with heap:=s.heap.push { cls:=.type "list",data:=.seq its.toArray },toks:=t' } :=
 I.laid (λ_ _ q=>Heap.get?_push_of_some _ q) (hA3 _) ⟨hz,its,0,hv,Heap.get?_push_size _ rfl⟩
theorem Inv.fresh(I:Inv X aB σ H s):H s.heap.objs.size=none:=I.hok.fresh (hA3 _)
theorem Inv.lstM(I:Inv X aB σ H s)(hH:H l=some (.lst xs)):xs.length<=sizeLine/\∃(its:List Value) (n:Nat),qBf xs its/\xs.length=its.length/\s.heap.get? l=some { cls:=.type "list",data:=.seq its.toArray n }:=by
 obtain⟨z,its,n,r,e⟩:=I.hok l _ hH;exact⟨z,its,n,r,r.length,e⟩
end
section
variable{X:Cx}
def qV1:V->List V->Hp->VK->Prop:=λx vs H Q=>∃l xs y,x = .ref l/\vs=[y]/\H l=some (.lst xs)/\xs.length<sizeLine/\Q .non (upd H l (.lst (xs++[y])))
theorem qB1:MtM X "list.append" qV1:=by
 intro aB s σ H x vs v us Q I rx rv h;obtain⟨l,xs,y,rfl,rfl,hH,hz,q⟩:=h;cases rx;obtain⟨u,rfl,ru⟩:=rv.one;obtain⟨z,its,n,r,hl,e⟩:=I.lstM hH;refine hEp F.slot_list_append ⟨_,e,rfl⟩ F.entry_list_append (F.args_list_append_2 _ _) (PySem.list_append l its.toArray n u (by rw[hAl];omega)) ⟨e,?_⟩;refine⟨.non,_,I.lset (its':=its++[u]) hH e (by simp) (r.append (.cons ru .nil)) ?_,rfl,q⟩;rw[hA9,List.length_singleton];omega
def zCm:R2:=λx y H Q=>∃l b xs zs,x = .ref l/\y = .ref b/\H l=some (.lst xs)/\H b=some (.lst zs)/\xs.length+zs.length<=sizeLine/\∀p,H p=none->Q (.ref p) (upd H p (.lst (xs++zs)))
theorem qF2:OpR X (binaryOp .Add) zCm:=by
 intro aB s σ H x y v u Q I rx ry h;obtain⟨l,b,xs,zs,rfl,rfl,hH,hB,hz,q⟩:=h;cases rx;cases ry;obtain⟨z,its,n,r,hl,e⟩:=I.lstM hH;obtain⟨z2,its2,n2,r2,hl2,e2⟩:=I.lstM hB;refine PySem.P.add_list e e2 ?_ (by rw[hAl,hAl];omega);have ea:its.toArray++its2.toArray=(its++its2).toArray:=by simp
 rw[ea];exact⟨.ref _,_,I.lnew (t':=s.toks) (r.append r2) (by rw[hA9];omega),rfl,q _ I.fresh⟩
end
end L2
namespace Att
open PySem PySem.W PySem.Calls PyProof.Rows
theorem qG0{P:Params}{h:Heap}:∀(ns:List Int) (vs:List Value),WellAll P h vs (ns.map WData.int)->IntsAre vs ns:=by
 intro ns
 induction ns with
 |nil =>
  intro vs w;rw[List.map_nil]at w;cases w;exact .nil
 |cons n ns ih =>
  intro vs w;rw[hAu]at w;cases w with
  |cons a b =>
   cases a;exact .cons _ _ (ih _ b)
theorem qPs{l:OpenLaw}{n:Nat}(hn:l.most=some n){P:Params}{h:Heap}{args:List WData}{vals:List Value}
  (hpre:l.row.toRowW.claim.pre args=true) (hwl:WellAll P h vals args) :
  ∃a vs ns,vals=[Value.ref a]/\args=[WData.list (ns.map WData.int)]/\h.get? a=some { cls:=.type "list",data:=.seq vs.toArray }/\IntsAre vs ns/\ns.length<=n:=by
 have hsh:WShape.hasAll [] args [.list .int]=true:=(pre_splitW hpre).1;have hc:l.pre.holds [] { args:=args }=true:=(pre_splitW hpre).2;obtain⟨d,r,rfl,h1,h2⟩:=hasAllW_cons hsh;obtain rfl:=hasAllW_nil h2;obtain⟨xs,rfl,h3⟩:=hasW_list h1;obtain⟨ns,rfl⟩:=items_int h3;have hlen:ns.length<=n:=by
  unfold OpenLaw.pre at hc;have h4:(WTm.not (.lt (.lit (.int (n:Int))) (.len (.arg 0)))).holds [] { args:=[.list (ns.map .int)] }=true:=by
   have h4:=(holds_andW hc).1;rw[hn]at h4;exact h4
  have h5:=condW_of h4 (w_not (w_lt w_lit (w_len_list (w_arg rfl))));rw[hA1]at h5;refine Nat.le_of_not_lt λq=>?_
  have q':(n:Int)<((ns.length:Nat):Int):=by omega
  first
   |(rw[hDr q']at h5;exact absurd h5 (by decide))
   |(simp at h5;omega)
 cases hwl with
 |cons w1 w2 =>
  cases w2;cases w1 with
  |list ho hall=>exact⟨_,_,ns,rfl,rfl,ho,qG0 ns _ hall,hlen⟩
theorem qQe(l:OpenLaw)(args:List WData):l.row.toRowW.claim.post args (.bool true) args=true :=
 postW_of (r:=l.row.toRowW) (X:=(true == true))
  (show WShape.has [] (.bool true) .bool=true by first|rfl|decide|simp[WShape.has,WShape.arms,WShape.armsAll])
  (show(WTm.eq .res (.lit (.bool true))).value [] { args:=args,res:=some (.bool true),after:=args }=some (.bool (true == true)) from w_eq_bool (w_res rfl) w_lit) rfl
theorem attach_call{l:OpenLaw}{n:Nat}{q:Program}{loose:List Str}{XP:(Str->Option Value)->Heap->Prop}{YP:World->Heap->Prop}{d:DefRec}
  (hn:l.most=some n) (hdf:d.params.defaults=[])
  (call:∀(w:World) (s₀ s₁:Shared) (mg mb:Str->Option Value) (fa:Addr) (o:Obj) (pm cd doc:Value) (a:Addr) (vs:List Value) (ns:List Int),
   Ground q loose [] XP w s₀ mg mb s₁.heap->YP w s₁.heap ->
   s₁.heap.get? fa=some o->o.data = .func (docDef d.name d.params d.body d.scope pm cd doc)->s₁.heap.CodeRec cd d.name->mg d.name=some (.ref fa) ->
   s₁.heap.get? a=some { cls:=.type "list",data:=.seq vs.toArray }->IntsAre vs ns->ns.length<=n->s₁.gens=#[] ->
   codeAny (model l.prog w) callerA (.call (.ref fa) ⟨[.ref a],[]⟩) (λr s'=>r = .ok (.ret (.bool true))/\OldK s₁.heap s'.heap/\s'.os=s₁.os/\AllBare s'.gens) s₁) :
  WalkO q loose XP YP l.row.toRowW d [] (λf vs=>PySem.call f vs):=by
 intro w s₀ s₁ mg mb G Y fa o pm cd doc dV kV ho hd hcd hD hmg hg args vals as hpre hlay hrd hwl hlo;obtain rfl:dV = .none:=Dflts.none hD hdf;obtain rfl:kV = .none:=Dflts.noKw hD;obtain⟨a,vs,ns,rfl,rfl,hobj,hints,hlen⟩:=qPs hn hpre hwl;refine enter_call (hEm (call w s₀ s₁ mg mb fa o pm cd doc a vs ns G Y ho (fd_plain hd) hcd hmg hobj hints hlen hg) λr s' hq=>?_);obtain⟨rfl,h2,h3,h4⟩:=hq;exact⟨.inl ⟨.bool true,.bool true,[],rfl,λ_=>rfl,.bool true,qQe l _,λ_=>⟨List.Pairwise.nil,λ_ hm=>(nomatch hm)⟩⟩,h2,h3,h4⟩
section
variable{prog:Program}{w:World}{A:Around}{E:Value->Shared->Prop}{s:Shared}{K:Frag}
def zB3(h:Heap)(L d:Addr):List (Addr×Obj):=(List.range h.objs.size).filterMap λa=>if a=L\/a=d then none else (h.get? a).map λo=>(a,o)
end
end Att
namespace L2
open PySem PySem.Spec PyProof.Rows
theorem qJf:∀ {vs:List Value} {ns:List Int},IntsAre vs ns->qBf (ns.map V.int) vs
 |_,_,.nil=>.nil
 |_,_,.cons n t h=>.cons ⟨t,rfl⟩ (qJf h)
def zBq(H:Hp):Prop:=∀b,H b=none\/∃o xs,H b=some (.frz o (.lst xs))
theorem qS2{P:Program}{w:World}{K:PySem.W.Frag}{mg mb:Str->Option Value}{CX:CXT}{k:Nat}{fa a:Addr}{fd:FuncData}{x:Str}{sp:Sp}{s₁:Shared}{vs:List Value}{ns:List Int}
  (KX:K.In s₁.heap) (hns:s₁.heap.Ns mainGlobals mg) (hb:s₁.heap.Ns builtinsNs mb) (hbb:∀x:Str,x≠"__name__"->mb x=bootBuiltins x) (hlim:s₁.heap.NoLimit) (hg:s₁.gens=#[])
  (ha:s₁.heap.get? a=some { cls:=.type "list",data:=.seq vs.toArray }) (hi:IntsAre vs ns) (hl:ns.length<=sizeLine) (hr:Room k callerA)
  (F:∀base:Heap,K.In base->base.Ns mainGlobals mg->FnOk P w K mg base CX k fa fd [x] sp) (hbind:∀(s:Shared) (u:Value),BindsTo s fd ⟨[u],[]⟩ [(x,u)])
  (hsp:∀H:Hp,zBq H->SqL K H a (ns.map V.int)->sp [.ref a] H (λv _=>v = .bl true) λ_ _ _=>False)
  (hCX:∀H e s',CX [] H s₁ (λ_ _ _=>False) e s'->False) :
  codeAny (model P w) callerA (.call (.ref fa) ⟨[.ref a],[]⟩) (λr s'=>r = .ok (.ret (.bool true))/\OldK s₁.heap s'.heap/\s'.os=s₁.os/\AllBare s'.gens) s₁:=by
 have rv:=qJf hi;have lenV:=hi.length;have core:∀H:Hp,zBq H->SqL K H a (ns.map V.int)->HOk P w H s₁.heap->(∀b,H b≠none->b=a)->(H a≠none->K.lookup a=none) ->
   codeAny (model P w) callerA (.call (.ref fa) ⟨[.ref a],[]⟩) (λr s'=>r = .ok (.ret (.bool true))/\OldK s₁.heap s'.heap/\s'.os=s₁.os/\AllBare s'.gens) s₁:=by
  intro H hO hS hok hA hK;have base_of:∀ {b:Addr} {o:Obj},s₁.heap.get? b=some o->H b=none->(qS8 s₁.heap H).get? b=some o:=λe n=>qS7 e n
  have noA:∀ {b:Addr} {o:Obj} {es:Array DictEntry} {ep:Nat},s₁.heap.get? b=some o->o.data = .dict es ep->H b=none:=λ{b o es ep} e d=>by
   cases q:H b with
   |none=>rfl
   |some u =>
    have e':b=a:=hA b (by rw[q];simp);subst e';rw[ha]at e;cases e;have d':Data.seq vs.toArray _=Data.dict es ep:=d;cases d'
  have nsK:∀ {b:Addr} {m:Str->Option Value},s₁.heap.Ns b m->(qS8 s₁.heap H).Ns b m:=λ{b m} ⟨o,es,ep,e,d,r⟩=>⟨o,es,ep,base_of e (noA e d),d,r⟩
  have hKb:K.In (qS8 s₁.heap H):=λb o e=>base_of (KX b o e) (by
   cases q:H b with
   |none=>rfl
   |some u =>
    have e':b=a:=hA b (by rw[q];simp);subst e';rw[hK (by rw[q];simp)]at e;cases e)
  have hM:Mod K mg (qS8 s₁.heap H):=⟨hKb,nsK hns,⟨mb,nsK hb,hbb⟩,let ⟨mc,h1,h2⟩:=hlim;⟨mc,nsK h1,h2⟩⟩;have e0:Env0 P w K mg (qS8 s₁.heap H) callerA [] s₁ H:=⟨rfl,hM,λb o e=>qW3 e,Nat.le_of_eq (qQ7 _ _),trivial,λb hb=>absurd (show b∈([]:List Addr) from hb) (by simp),hok,.of_eq hg⟩;refine hEm ((F _ hKb (nsK hns)).run callerA [] s₁ H ⟨[.ref a],[]⟩ [.ref a] [.ref a] _ _ hr e0 (hbind s₁ (.ref a)) (.cons rfl .nil) (hsp H hO hS)) λr s' h=>?_
  cases r with
  |error e=>exact(hCX H e s' h).elim
  |ok fl =>
   cases fl with
   |next=>exact False.elim h
   |brk=>exact False.elim h
   |cont=>exact False.elim h
   |ret u =>
    obtain⟨v,H',os,bare,un,hok',r',q⟩:=h;have q':v = .bl true:=q;subst q';obtain rfl:u=Value.bool true:=r';refine⟨rfl,OldK.of_keep λb o e=>?_,os,bare⟩;cases q:H b with
    |none=>exact un.keep b o e q (by intro z;exact absurd (show b∈([]:List Addr) from z) (by simp)) (by simp)
    |some u =>
     rcases hO b with z|⟨ob,xs,z⟩
     ·rw[q]at z;cases z
     ·have z2:=un.frzs b ob _ z;obtain⟨e1,_⟩:=hok b _ z;obtain⟨e2,_⟩:=hok' b _ z2;rw[e]at e1;cases e1;exact e2
 cases hk:K.lookup a with
 |some o =>
  have e:=KX a o hk;rw[ha]at e;cases e;refine core (λ_=>none) (λ_=>.inl rfl) (.inr ⟨_,vs.toArray,_,hk,rfl,rfl,rfl,by rw[hAl,lenV];exact hl,by simpa using rv⟩) (λb u z=>by have z':(none:Option HO)=some u:=z;cases z') (λb z=>absurd rfl z) λz=>absurd rfl z
 |none =>
  refine core (λb=>if b=a then some (.frz { cls:=.type "list",data:=.seq vs.toArray } (.lst (ns.map V.int))) else none) (λb=>?_) (.inl (.inr ⟨{ cls:=.type "list",data:=.seq vs.toArray },hDw rfl⟩)) (λb u z=>?_) (λb z=>?_) λ_=>hk
  ·by_cases hb:b=a
   ·exact .inr ⟨_,_,hDw hb⟩
   ·exact .inl (hDv hb)
  ·by_cases hb:b=a
   ·have z':=(hDw hb).symm.trans z;cases z';subst hb;exact⟨ha,by rw[hA1];exact hl,vs,_,rv,ha⟩
   ·have z':=(hDv hb).symm.trans z;cases z'
  ·by_cases hb:b=a
   ·exact hb
   ·exact absurd (hDv hb) z
theorem walk_of{l:PySem.W.OpenLaw}{n k:Nat}{q:Program}{loose:List Str}{XP:(Str->Option Value)->Heap->Prop}{YP:World->Heap->Prop}{d:DefRec}{K:Params->PySem.W.Frag}{CX:World->CXT}{sp:World->Sp}{x:Str}
  (hn:l.most=some n) (hn2:n<=sizeLine) (hdf:d.params.defaults=[]) (hr:Room k callerA)
  (hY:∀(w:World) (h:Heap),YP w h->(K w.params).In h)
  (F:∀(w:World) (mg:Str->Option Value) (fa:Addr) (h:Heap),(K w.params).In h->h.Ns mainGlobals mg->mg d.name=some (.ref fa) ->
   ∃fd:FuncData,(∀(s:Shared) (u:Value),BindsTo s fd ⟨[u],[]⟩ [(x,u)]) /\
    ∀base:Heap,(K w.params).In base->base.Ns mainGlobals mg->FnOk l.prog w (K w.params) mg base (CX w) k fa fd [x] (sp w))
  (hsp:∀(w:World) (H:Hp) (a:Addr) (ns:List Int),ns.length<=n->zBq H->SqL (K w.params) H a (ns.map V.int)->sp w [.ref a] H (λv _=>v = .bl true) λ_ _ _=>False)
  (hCX:∀(w:World) (H:Hp) (s:Shared) (e:Value) (s':Shared),CX w [] H s (λ_ _ _=>False) e s'->False) :
  PySem.W.WalkO q loose XP YP l.row.toRowW d [] (λf vs=>PySem.call f vs):=by
 refine Att.attach_call hn hdf λw s₀ s₁ mg mb fa o pm cd doc a vs ns G Y ho hd hcd hmg hobj hints hlen hg=>?_
 have KX:=hY w _ Y;obtain⟨fd,hb,hF⟩:=F w mg fa _ KX G.T.g hmg;exact qS2 KX G.T.g G.T.b G.T.builtins G.T.nolimit hg hobj hints (hAv hlen hn2) hr hF hb (λH hO hS=>hsp w H a ns hlen hO hS) λH e s'=>hCX w H s₁ e s'
end L2
namespace L2
open PySem PySem.Spec PyProof.Rows
def qAq(s:Stmt):Arguments:=match s with
 |.FunctionDef _ a _ _ _ _ _ _ _ _=>a
 |_=>{ posonlyargs:=[],args:=[],vararg:=none,kwonlyargs:=[],kw_defaults:=[],kwarg:=none,defaults:=[] }
def qAn(s:Stmt):List Stmt:=match s with
 |.FunctionDef _ _ b _ _ _ _ _ _ _=>b
 |_=>[]
def qAa(s:Stmt):Scope:=match s with
 |.FunctionDef _ _ _ _ _ _ sc _ _ _=>sc
 |_=>{ kind:=.function,names:=[],isGenerator:=false,isCoroutine:=false }
abbrev CX0:CXT:=λ_ _ _ _ _ _=>False
abbrev E0:XK:=λ_ _ _=>False
theorem qAz{X:Cx}:qKp CX0 X E0:=λ_ _ _ _ _ _ _ h=>h.elim
structure Fun(K:PySem.W.Frag)(x qual:Str)(st:Stmt)(f:Addr)(fd:FuncData):Prop where
 ex:∃(oc:Value) (od:Option Addr) (kV doc pm:Value) (an:Option Addr) (cdv ct:Value) (osl:Array (Option Value)),
  fd=PySem.W.fnOf x qual (qAq st) (qAn st) (qAa st) .none kV doc pm an cdv ct/\K.lookup f=some ⟨oc,od,.func fd,osl⟩/\PySem.W.codeIn K cdv qual=true
 kp:PySem.W.keepIn K (.ref f)=true
section
variable{P:Program}{w:World}{K:PySem.W.Frag}{mg:Str->Option Value}{base:Heap}
theorem Fun.ok{x qual:Str}{st:Stmt}{f:Addr}{fd:FuncData}{N ps:List Str}{k:Nat}{sp:Sp}(F:Fun K x qual st f fd)(S:FnScope N ps (qAa st))(len:∀vs H Q E,sp vs H Q E->vs.length=ps.length)
  (hbody:∀(cdv:Value) (A:Around) (outer:List Env) (s:Shared) (H:Hp) (vs:List V) (Q:VK) (E:XK),Room k (A.deeper (envOfC qual (qAa st) s.heap.objs.size f cdv))->sp vs H Q E ->
   ∃t,PSs (qTi CX0 P w K mg base N qual (qAa st) f cdv A outer s H E).nox (qAn st) t/\t { nx:=λ_ H'=>Q .non H',rt:=Q } (start N vs) H):v6 (k+1) f fd ps sp:=by
 obtain⟨oc,od,kV,doc,pm,an,cdv,ct,osl,rfl,lk,hcd⟩:=F.ex;refine qZ3 lk hcd S len λA outer s H vs Q E hr hsp=>?_
 obtain⟨t,h,q⟩:=hbody cdv A outer s H vs Q E hr hsp;exact⟨t,h.nox,q⟩
theorem Fun.okA{x qual:Str}{st:Stmt}{f:Addr}{fd:FuncData}{N ps:List Str}{k:Nat}{sp:Sp}(F:Fun K x qual st f fd)(S:FnScope N ps (qAa st))
  (hbody:∀(cdv:Value) (A:Around) (outer:List Env) (s:Shared) (H:Hp) (vs:List V) (Q:VK) (E:XK),Room k (A.deeper (envOfC qual (qAa st) s.heap.objs.size f cdv))->sp vs H Q E ->
   ∃t,PSs (qTi CX0 P w K mg base N qual (qAa st) f cdv A outer s H E).nox (qAn st) t/\t { nx:=λ_ H'=>Q .non H',rt:=Q } (start N vs) H)
  (len:∀vs H Q E,sp vs H Q E->vs.length=ps.length:=by intro vs H Q E h;repeat (first|(obtain⟨e,_⟩:=h;subst e;rfl)|(obtain⟨_,h⟩:=h))):v6 (k+1) f fd ps sp:=Fun.ok F S len hbody
theorem Fun.binds{x qual:Str}{st:Stmt}{f:Addr}{fd:FuncData}{ps:List Str}(F:Fun K x qual st f fd)
  (h:∀(kV doc pm:Value) (an:Option Addr) (cdv ct:Value) (us:List Value),us.length=ps.length->bindArgs (PySem.W.fnOf x qual (qAq st) (qAn st) (qAa st) .none kV doc pm an cdv ct) ⟨us,[]⟩=pure (ps.zip us)):qOs K fd ps []:=by
 obtain⟨oc,od,kV,doc,pm,an,cdv,ct,osl,rfl,lk,hcd⟩:=F.ex;exact .all (h kV doc pm an cdv ct)
theorem qA0{x qual:Str}{st:Stmt}{f:Addr}{oc:Value}{od an:Option Addr}{osl:Array (Option Value)}{kV doc pm cdv ct:Value}(l:K.lookup f=some ⟨oc,od,.func (PySem.W.fnOf x qual (qAq st) (qAn st) (qAa st) .none kV doc pm an cdv ct),osl⟩)
  (c:PySem.W.codeIn K cdv qual=true) (k:PySem.W.keepIn K (.ref f)=true):Fun K x qual st f (PySem.W.fnOf x qual (qAq st) (qAn st) (qAa st) .none kV doc pm an cdv ct):=⟨⟨oc,od,kV,doc,pm,an,cdv,ct,osl,rfl,l,c⟩,k⟩
end
theorem qAi{n:Nat}(h:n<=1000):n<sizeLine:=Nat.lt_of_le_of_lt h (by decide)
section
variable{X:Cx}
theorem pv(i:Nat){x:Str}{pos:Pos}(hN:X.N[i]?=some x:=by rfl)(hv:Vis X.env.scope x:=by first|exact Or.inl rfl|exact Or.inr (Or.inl rfl)|exact Or.inr (Or.inr rfl))(hd:(x == ("__debug__" : Str))=false:=by decide)
  (hcd:(x == ("__classdict__" : Str))=false:=by decide):PE X (.Name x pos) (zBw i):=qY5 hN hv hd hcd
end
theorem qEo{A B:Prop}(h:B):if false=true then A else B:=by
 rw[hDv hAm];exact h
theorem iteT{A B:Prop}(h:A):if true=true then A else B:=by
 rw[hDw rfl];exact h
theorem qBp{c A B:Prop}[Decidable c](h1:c->A)(h2:¬c->B):if c then A else B:=by
 by_cases h:c
 ·rw[hDw h];exact h1 h
 ·rw[hDv h];exact h2 h
end L2
set_option linter.all false
namespace L2
open PySem PySem.Spec PyProof.Rows
section
variable{X:Cx}{aB:List (Addr×Obj)}{σ:St}{H:Hp}{s:Shared}{a:Addr}{y v:V}{u r:Value}{o:Option V}{A:Around}{E:Value->Shared->Prop}
theorem Inv.big(I:Inv X aB σ H s):sysModules<s.heap.objs.size:=by
 have h:mainGlobals<s.heap.objs.size:=(I.mod.glob.keeps I.bk).lt;exact Nat.lt_trans (by decide) h
end
structure M1(X:Cx)(o:Expr)(m:Str)(apos:Pos)(e:Expr)(cpos:Pos):Prop where
 base:attributeBase o m X.env (eval o X.env)=eval o X.env
 few:((backTo cpos (starEach [e] X.env)).all (λx=>!x.1) && (backToKw cpos (keywordEach [] X.env)).all (λx=>x.1.isSome)
  && decide (([e]:List Expr).length+([]:List Keyword).length+(if ([]:List Keyword).isEmpty then 0 else 1)<30))=true
 line:(apos.endLine == cpos.line)=true
 trees:backTo cpos (starEach [e] X.env)=[(false,eval e X.env)]
structure M2(X:Cx)(o:Expr)(m:Str)(apos:Pos)(e f:Expr)(cpos:Pos):Prop where
 base:attributeBase o m X.env (eval o X.env)=eval o X.env
 few:((backTo cpos (starEach [e,f] X.env)).all (λx=>!x.1) && (backToKw cpos (keywordEach [] X.env)).all (λx=>x.1.isSome)
  && decide (([e,f]:List Expr).length+([]:List Keyword).length+(if ([]:List Keyword).isEmpty then 0 else 1)<30))=true
 line:(apos.endLine == cpos.line)=true
 trees:backTo cpos (starEach [e,f] X.env)=[(false,eval e X.env),(false,eval f X.env)]
def qCv(cells:List (Str×Addr)):List (Str×NameKind)->List (Str×Addr)->List (Str×Addr)
 |[],acc=>acc
 |(n,k) :: r,acc=>if k == .free then qCv cells r ((n,(cells.lookup n).getD 0) :: acc) else qCv cells r acc
theorem qH0(env:Env)(f:Str×NameKind->List (Str×Addr)->Sem (ForInStep (List (Str×Addr))))
  (hf:∀n k cs,f (n,k) cs=if k == .free then (do let a ← cellOf env n;pure (.yield ((n,a) :: cs))) else pure (.yield cs)) :
  ∀(aA:List (Str×NameKind)) (acc:List (Str×Addr)),(∀x∈aA,x.2 = .free->∃c,env.cells.lookup x.1=some c)->forIn aA acc f=pure (qCv env.cells aA acc)
 |[],acc,_=>by rw[List.forIn_nil];rfl
 |(n,k) :: r,acc,h=>by
  have ih:=qH0 env f hf r;rw[List.forIn_cons,hf];unfold qCv;by_cases hk:(k == NameKind.free)=true
  ·rw[hDw hk,hDw hk];obtain⟨c,hc⟩:=h (n,k) hA5 (by simpa using hk);have e:cellOf env n=pure c:=by unfold cellOf;rw[hc]
   rw[e,hc];exact ih _ λx hx=>h x (hA4 _ hx)
  ·rw[hDv hk,hDv hk];exact ih _ λx hx=>h x (hA4 _ hx)
theorem qI4(h:∀x∈scope.names,x.2 = .free->∃c,env.cells.lookup x.1=some c):closureFor scope env=pure (qCv env.cells scope.names []):=by
 simp only[closureFor];rw[qH0 env _ (λn k cs=>by cases hk:k == NameKind.free <;> simp[hk]) scope.names [] h];rfl
theorem qG4:∀ {aA:List (Str×NameKind)} {acc:List (Str×Addr)} {x:Str} {c:Addr},(x,c)∈qCv cells aA acc->(x,c)∈acc\/((x,NameKind.free)∈aA/\c=(cells.lookup x).getD 0)
 |[],acc,x,c,h=>.inl h
 |(n,k) :: r,acc,x,c,h=>by
  unfold qCv at h;by_cases hk:(k == NameKind.free)=true
  ·rw[hDw hk]at h;rcases qG4 h with q|⟨q,e⟩
   ·rcases hAc.mp q with z|z
    ·cases z;exact .inr ⟨by rw[show NameKind.free=k from (by simpa using hk:k=NameKind.free).symm];exact hA5,rfl⟩
    ·exact .inl z
   ·exact .inr ⟨hA4 _ q,e⟩
  ·rw[hDv hk]at h;rcases qG4 h with q|⟨q,e⟩
   ·exact .inl q
   ·exact .inr ⟨hA4 _ q,e⟩
theorem qF7{α:Type}{x n:Str}{c:α}{l:List (Str×α)}(h:(l.lookup x).isSome=true):(((n,c) :: l).lookup x).isSome=true:=by
 rw[hCv];cases x == n <;> simp[h]
theorem qEk{cells:List (Str×Addr)}{x:Str}:∀ {aA:List (Str×NameKind)} {acc:List (Str×Addr)},((x,NameKind.free)∈aA\/(acc.lookup x).isSome=true)->((qCv cells aA acc).lookup x).isSome=true
 |[],acc,h=>by
  rcases h with h|h
  ·cases h
  ·exact h
 |(n,k) :: r,acc,h=>by
  unfold qCv;by_cases hk:(k == NameKind.free)=true
  ·rw[hDw hk];refine qEk ?_;rcases h with h|h
   ·rcases hAc.mp h with z|z
    ·cases z;exact .inr (by rw[hCv];simp)
    ·exact .inl z
   ·exact .inr (qF7 h)
  ·rw[hDv hk];refine qEk ?_;rcases h with h|h
   ·rcases hAc.mp h with z|z
    ·cases z;exact absurd rfl hk
    ·exact .inl z
   ·exact .inr h
theorem qDx:∀ {aA:List (Str×NameKind)} {n:Nat} {acc:List (Str×Addr)} {x:Str} {c:Addr},(x,c)∈cellsFrom n aA acc->(x,c)∈acc\/(x,NameKind.cell)∈aA
 |[],_,_,_,_,h=>.inl h
 |(y,k) :: r,n,acc,x,c,h=>by
  unfold cellsFrom at h;by_cases hk:(k == NameKind.cell)=true
  ·rw[hDw hk]at h;rcases qDx h with q|q
   ·rcases hAc.mp q with z|z
    ·cases z;exact .inr (by rw[show NameKind.cell=k from (by simpa using hk:k=NameKind.cell).symm];exact hA5)
    ·exact .inl z
   ·exact .inr (hA4 _ q)
  ·rw[hDv hk]at h;rcases qDx h with q|q
   ·exact .inl q
   ·exact .inr (hA4 _ q)
structure CellsTwo(h:Heap)(lo:Nat)(acc cs:List (Str×Addr)):Prop where
 part:∀x c,(x,c)∈cs->(x,c)∈acc\/(h.IsCell c none/\lo<=c)
 inj:∀x y c,lo<=c->(x,c)∈cs->(y,c)∈cs->x=y
theorem qDw:∀(aA:List (Str×NameKind)) (h:Heap) (lo:Nat) (acc:List (Str×Addr)),CellsTwo h lo acc0 acc->(∀x c,(x,c)∈acc->c<h.objs.size)->lo<=h.objs.size ->
  CellsTwo (pushCells h aA) lo acc0 (cellsFrom h.objs.size aA acc)
 |[],_,_,_,x,_,_=>x
 |(name,kind) :: r,h,lo,acc,x,hl,hlo=>by
  unfold pushCells cellsFrom;split
  ·have:=qDw (acc0:=acc0) r (h.push { cls:=.type "cell",data:=.cell none }) lo ((name,h.objs.size) :: acc)
    ⟨λn c hm=>by
      rcases hAc.mp hm with e|hm
      ·cases e;exact .inr ⟨⟨_,Heap.get?_push_size _ rfl,rfl⟩,hlo⟩
      ·rcases x.part n c hm with q|q
       ·exact .inl q
       ·exact .inr ⟨q.1.keeps λb o e=>Heap.get?_push_of_some _ e,q.2⟩,
     λa b c hc h1 h2=>by
      rcases hAc.mp h1 with e1|h1 <;> rcases hAc.mp h2 with e2|h2
      ·cases e1;cases e2;rfl
      ·cases e1;exact absurd (hl _ _ h2) (hBz _)
      ·cases e2;exact absurd (hl _ _ h1) (hBz _)
      ·exact x.inj a b c hc h1 h2⟩
    (λn c hm=>by
     rw[Heap.size_push];rcases hAc.mp hm with e|hm
     ·cases e;exact hBk _
     ·exact hBp (hl n c hm)) (by rw[Heap.size_push];omega)
   rwa [Heap.size_push]at this
  ·exact qDw r h lo acc x hl hlo
def qB7(env:Env)(scope:Scope)(C:Addr):Env :=
 { scope:=relabel scope env,locals:=C,globals:=env.globals,cells:=cellsFrom (C+1) scope.names (qCv env.cells scope.names []),qual:=env.qual,func:=none,code:=env.code,frame:=env.frame,builtins:=env.builtins }
theorem qEv
  (hQ:Q { scope:=scope,locals:=s.heap.objs.size,globals:=env.globals,cells:=cellsFrom (s.heap.objs.size+1) scope.names cl,qual:=env.qual,func:=none,code:=env.code,frame:=env.frame,builtins:=env.builtins }
   { s with heap:=pushCells (s.heap.push { cls:=.type "dict",data:=.dict #[] }) scope.names }) :
  wpAny M A (newFunctionEnv scope env.globals cl [] env.qual none .none (some env)) Q E s:=by
 simp only[newFunctionEnv,Option.isSome_some,if_true];refine hDq (wpAny_alloc ?_);refine hDq (wpAny_layCells _ (λname kind cells=>by cases hkc:kind == NameKind.cell <;> simp[hkc]) _ _ _ _ ?_);rw[show({ s with heap:=s.heap.push { cls:=.type "dict",data:=.dict #[] } }:Shared).heap.objs.size=s.heap.objs.size+1 from Heap.size_push ..];rw[List.forIn_nil];exact hDq (hDt (hDt hQ))
theorem qKg(I:Nat->Shared->Prop)
  (turn:∀n s,I n s->wpAny (model prog w) A (pyNext it) (λr s₁=>match r with
   |none=>R (.ok .next) s₁
   |some v=>wpAny (model prog w) A (letOwnedTupleGo target it v) (λ_ s₁'=>wpAny (model prog w) A (assign target env v) (λ_ s₂ =>
     wpAny (model prog w) A (forIn ifs true λc r=>if r=true then do let ok ← isTrue c env (eval c env);pure (ForInStep.yield ok) else pure (ForInStep.yield r)) (λok s₃ =>
      if ok=true then wpAny (model prog w) A (eval elt env) (λx s₄ =>
       wpAny (model prog w) A (call (.builtin "list.append") [acc,x]) (λ_ s₅=>∃m,m<n/\I m s₅) (λ_ _=>False) s₄) (λ_ _=>False) s₃
      else ∃m,m<n/\I m s₃) (λ_ _=>False) s₂) (λ_ _=>False) s₁') (λ_ _=>False) s₁) (λ_ _=>False) s)
  (n:Nat) (h:I n s) :
  codeAny (model prog w) A (.compLoop (.ListComp elt [⟨target,iter,ifs,0⟩] scope pos) 0 it acc env) R s:=by
 refine codeAny_loop rfl I (λn s hI=>?_) n h;show wpAny _ A ((compTurn (.ListComp elt [⟨target,iter,ifs,0⟩] scope pos) 0 it acc env).onRaise (λx=>do noteFrame x env;theTreesLotGoes x)) _ _ s;refine wpAny_noted ?_;rw[compTurn_list];refine hDq (hEc (hDq (hDy (turn n s hI) (λr s₁ h₁=>?_) λ_ _ h'=>h'.elim)));cases r with
 |none=>exact hDt h₁
 |some v =>
  refine hDq (hDy h₁ (λ_ s₁' h₁=>?_) λ_ _ h'=>h'.elim);refine hDq (hDy h₁ (λ_ s₂ h₂=>hDq (hDy h₂ (λok s₃ h₃=>?_) λ_ _ h'=>h'.elim)) λ_ _ h'=>h'.elim);cases ok with
  |false=>exact hDt ⟨rfl,h₃⟩
  |true =>
   exact hDq (hDq (hDy h₃ (λx s₄ h₄=>hDq (hDy h₄ (λ_ s₅ h₅=>hDt (hDt ⟨rfl,h₅⟩)) λ_ _ h'=>h'.elim)) λ_ _ h'=>h'.elim))
def qBn(X:Cx)(scope:Scope)(N':List Str)(C:Addr)(s:Shared)(H:Hp)(fp:List Addr):Cx :=
 { X with N:=N',s₀:=s,H₀:=H,env:=qB7 X.env scope C,outer:=X.stack,stack:=X.stack,ex:=fp,fn:=λx=>!(scope.names.lookup x == some .free),pn:=[],xe:=λ_ _=>False }
def subσ(sub:List (Option Nat))(σ:St):St:=sub.map λo=>o.bind λi=>(σ[i]?).join
def qU1(N:List Str)(sc:Scope)(N':List Str)(scope:Scope)(sub:List (Option Nat)):Bool :=
 scope.kind == .function && decide ((scope.names.map (·.1)).Nodup) && decide N'.Nodup && sub.length == N'.length &&
 (scope.names.all λx=>!(x.2 == .free) || sc.names.lookup x.1 == some .cell || sc.names.lookup x.1 == some .free) &&
 ((sub.zip N').all λp=>match p.1 with
  |none=>true
  |some i=>N[i]? == some p.2 && scope.names.lookup p.2 == some .free)
structure CmpOk(N:List Str)(sc:Scope)(N':List Str)(scope:Scope)(sub:List (Option Nat)):Prop where
 kind:scope.kind = .function
 nd:(scope.names.map (·.1)).Nodup
 nd':N'.Nodup
 len:sub.length=N'.length
 free:∀x∈scope.names,x.2 = .free->sc.names.lookup x.1=some .cell\/sc.names.lookup x.1=some .free
 sub:∀(j i:Nat) (x:Str),sub[j]?=some (some i)->N'[j]?=some x->N[i]?=some x/\scope.names.lookup x=some .free
theorem CmpOk.of{N:List Str}{sc:Scope}{N':List Str}{scope:Scope}{sub:List (Option Nat)}(h:qU1 N sc N' scope sub=true):CmpOk N sc N' scope sub:=by
 unfold qU1 at h;simp only[hBe]at h;obtain⟨⟨⟨⟨⟨h1,h2⟩,h3⟩,h4⟩,h5⟩,h6⟩:=h;refine⟨by simpa using h1,hDu h2,hDu h3,by simpa using h4,λx hx hf=>?_,λj i x hj hx=>?_⟩
 ·have q:=hC0.mp h5 x hx;rw[hf]at q;simp only[hEd,Bool.not_true,Bool.false_or,Bool.or_eq_true]at q;rcases q with q|q
  ·exact .inl (by simpa using q)
  ·exact .inr (by simpa using q)
 ·have q:=hC0.mp h6 (some i,x) (by
   refine hAd (i:=j) ?_;rw[List.getElem?_zip_eq_some];exact⟨hj,hx⟩)
  simp only[hBe]at q;exact⟨by simpa using q.1,by simpa using q.2⟩
theorem qBx:∀ {l:List (Str×α)} {x:Str} {c:α},(l.map (·.1)).Nodup->(x,c)∈l->l.lookup x=some c
 |(y,d) :: r,x,c,nd,h=>by
  rw[hCv];rcases hAc.mp h with e|h
  ·cases e;simp
  ·have ne:x≠y:=λe=>by
    rw[hAu]at nd;exact(hBo.mp nd).1 (by rw[<-e];exact hAb.mpr ⟨(x,c),h,rfl⟩)
   rw[show(x == y)=false from by simpa using ne];exact qBx (hBo.mp nd).2 h
theorem qD7{sc:Scope}:∀ {aA:List (Str×NameKind)} {x:Str},
  ((aA.map λ(n,k)=>if (k == NameKind.free && sc.kind == .function && sc.names.lookup n == some .cell) then (n,NameKind.cell) else (n,k)).lookup x) =
   (aA.lookup x).map λk=>if (k == NameKind.free && sc.kind == .function && sc.names.lookup x == some .cell) then NameKind.cell else k
 |[],x=>rfl
 |(n,k) :: r,x=>by
  have ih:=@qD7 sc r x;rw[hAu];show List.lookup x ((if (k == NameKind.free && sc.kind == .function && sc.names.lookup n == some .cell)=true then (n,NameKind.cell) else (n,k)) :: _)=_;by_cases hc:(k == NameKind.free && sc.kind == .function && sc.names.lookup n == some .cell)=true
  ·rw[hDw hc,hCv,hCv];by_cases hx:x=n
   ·subst hx;rw[show(x == x)=true from hEd x];show some NameKind.cell=Option.map _ (some k);rw[hDa,hDw hc]
   ·rw[show(x == n)=false by simpa using hx];exact ih
  ·rw[hDv hc,hCv,hCv];by_cases hx:x=n
   ·subst hx;rw[show(x == x)=true from hEd x];show some k=Option.map _ (some k);rw[hDa,hDv hc]
   ·rw[show(x == n)=false by simpa using hx];exact ih
section
variable{X:Cx}{aB:List (Addr×Obj)}{σ:St}{H H':Hp}{s:Shared}
theorem qHy(I:Inv X aB σ H s)(hb:b∈frs X.stack)(n1:b≠X.env.locals):b∈X.fs:=(hAc.mp (I.stkSub b hb)).elim (λe=>absurd e n1) id
theorem qG5{N':List Str}{scope:Scope}{sub:List (Option Nat)}{h3:Heap}(I:Inv X aB σ H s)(O:CmpOk X.N X.env.scope N' scope sub)
  (hk:∀b o,s.heap.get? b=some o->h3.get? b=some o) :
  (∀x c,(cellsFrom (h3.objs.size+1) scope.names (qCv X.env.cells scope.names [])).lookup x=some c ->
   (((pushCells (h3.push { cls:=.type "dict",data:=.dict #[] }) scope.names).IsCell c none/\h3.objs.size+1<=c/\(x,NameKind.cell)∈scope.names)\/((x,NameKind.free)∈scope.names/\X.env.cells.lookup x=some c))) /\
  (∀x y c,(cellsFrom (h3.objs.size+1) scope.names (qCv X.env.cells scope.names [])).lookup x=some c->(cellsFrom (h3.objs.size+1) scope.names (qCv X.env.cells scope.names [])).lookup y=some c->x=y):=by
 have hin:∀x c,(x,c)∈qCv X.env.cells scope.names []->(x,NameKind.free)∈scope.names/\X.env.cells.lookup x=some c:=λx c h=>by
  rcases qG4 h with q|⟨q,e⟩
  ·cases q
  ·have hx:∃c,X.env.cells.lookup x=some c:=by
    refine I.ok.has x ?_;rcases O.free _ q rfl with z|z
    ·exact .inl z
    ·exact .inr z
   obtain⟨c',hc'⟩:=hx;rw[hc']at e;exact⟨q,by rw[hc',e];rfl⟩
 have hlt:∀x c,(x,c)∈qCv X.env.cells scope.names []->c<h3.objs.size:=λx c h=>by
  obtain⟨v,o,ho,_⟩:=I.cell x c (hin x c h).2;exact Heap.lt_size (hk _ _ ho)
 have two:=qDw (acc0:=qCv X.env.cells scope.names []) scope.names (h3.push { cls:=.type "dict",data:=.dict #[] }) (h3.objs.size+1) (qCv X.env.cells scope.names [])
  ⟨λx c h=>.inl h,λx y c hc h1 _=>absurd (hlt x c h1) (Nat.not_lt.mpr (Nat.le_of_succ_le hc))⟩ (λx c h=>by rw[Heap.size_push];exact hBp (hlt x c h)) (by rw[Heap.size_push];exact hA3 _)
 rw[Heap.size_push]at two;refine⟨λx c h=>?_,λx y c h1 h2=>?_⟩
 ·have m:=hBg h;rcases two.part x c m with q|q
  ·exact .inr (hin x c q)
  ·refine .inl ⟨q.1,q.2,?_⟩;rcases qDx m with z|z
   ·exact absurd (hlt x c z) (Nat.not_lt.mpr (Nat.le_of_succ_le q.2))
   ·exact z
 ·have m1:=hBg h1;have m2:=hBg h2;by_cases hc:h3.objs.size+1<=c
  ·exact two.inj x y c hc m1 m2
  ·rcases two.part x c m1 with q1|q1
   ·rcases two.part y c m2 with q2|q2
    ·exact I.ok.inj x y c (hin x c q1).2 (hin y c q2).2
    ·exact absurd q2.2 hc
   ·exact absurd q1.2 hc
theorem qS5{N':List Str}{scope:Scope}{sub:List (Option Nat)}{fp:List Addr}(I:Inv X aB σ H s)(O:CmpOk X.N X.env.scope N' scope sub)(hf:∀b∈fp,qI9 X aB H b)
  (hfl:∀b∈fp,b<s.heap.objs.size) :
  Inv (qBn X scope N' (s.heap.objs.size+1) s H fp) [(s.heap.objs.size,{ cls:=.type "list",data:=.seq #[] })] (subσ sub σ) H
   { s with heap:=pushCells ((s.heap.push { cls:=.type "list",data:=.seq #[] }).push { cls:=.type "dict",data:=.dict #[] }) scope.names }:=by
 have hk3:∀b o,s.heap.get? b=some o->(s.heap.push { cls:=.type "list",data:=.seq #[] }).get? b=some o:=λb o e=>Heap.get?_push_of_some _ e
 have sz3:(s.heap.push { cls:=.type "list",data:=.seq #[] }).objs.size=s.heap.objs.size+1:=Heap.size_push ..;have hk:∀b o,s.heap.get? b=some o->(pushCells ((s.heap.push { cls:=.type "list",data:=.seq #[] }).push { cls:=.type "dict",data:=.dict #[] }) scope.names).get? b=some o :=
  λb o e=>hE4 _ _ b o (Heap.get?_push_of_some _ (hk3 b o e))
 have cf:=qG5 (h3:=s.heap.push { cls:=.type "list",data:=.seq #[] }) I O hk3;rw[sz3]at cf;have hC:H (s.heap.objs.size+1)=none:=I.hok.fresh (hB8 _);have nsC:(pushCells ((s.heap.push { cls:=.type "list",data:=.seq #[] }).push { cls:=.type "dict",data:=.dict #[] }) scope.names).Ns (s.heap.objs.size+1) (λ_=>none):=by
  rw[<-sz3];exact(Heap.Ns.new _ _).keeps (hE4 _ _)
 have has:∀x,(scope.names.lookup x=some .cell\/scope.names.lookup x=some .free)->∃c,(cellsFrom (s.heap.objs.size+1+1) scope.names (qCv X.env.cells scope.names [])).lookup x=some c:=λx hx=>by
  refine hCk.mp (hD6 _ _ _ ?_);rcases hx with z|z
  ·exact .inl z
  ·exact .inr (qEk (.inl (hBg z)))
 have kindB:∀x,(qB7 X.env scope (s.heap.objs.size+1)).kindOf x=(scope.names.lookup x).map λk=>if (k == NameKind.free && X.env.scope.kind == .function && X.env.scope.names.lookup x == some .cell) then NameKind.cell else k:=λx=>qD7
 have cellOk:∀x c,(qB7 X.env scope (s.heap.objs.size+1)).cells.lookup x=some c->∃v,(pushCells ((s.heap.push { cls:=.type "list",data:=.seq #[] }).push { cls:=.type "dict",data:=.dict #[] }) scope.names).IsCell c v:=λx c h=>by
  rcases cf.1 x c h with q|q
  ·exact⟨_,q.1⟩
  ·obtain⟨v,z⟩:=I.cell x c q.2;exact⟨v,z.keeps hk⟩
 refine⟨⟨I.ok.mod,O.kind,I.ok.glob,I.ok.blt,hB8 _,λx y c h1 h2=>cf.2 x y c h1 h2,λx hx=>?_,λx c hx h=>?_,I.ok.hd,I.ok.frames,.inl rfl,λb hb=>?_,λb o e=>I.bs b o e,hAv I.ok.bsz I.sz,λb o e hb=>?_,λb hb=>?_,I.stack,I.stkFree⟩,
  rfl,I.bare,Un.kept hk,⟨λ_=>none,nsC,λi x v h1 h2 h3=>?_⟩,cellOk,hC,λx c h=>?_,λp hp=>?_,I.hok.kept hk,?_⟩
 ·-- has
  refine has x ?_;have hx:(qB7 X.env scope (s.heap.objs.size+1)).kindOf x=some .cell\/(qB7 X.env scope (s.heap.objs.size+1)).kindOf x=some .free:=hx;rw[kindB]at hx;cases e:scope.names.lookup x with
  |none=>rw[e]at hx;rcases hx with z|z <;> cases z
  |some k =>
   rw[e]at hx;cases k with
   |cell=>exact .inl rfl
   |free=>exact .inr rfl
   |_=>exfalso;rcases hx with z|z <;> simp at z
 ·-- cab
  rcases cf.1 x c h with q|q
  ·have:=q.2.1;show s.heap.objs.size<=c;omega
  ·exfalso;have e:=qBx O.nd q.1;have hx':(!(scope.names.lookup x == some NameKind.free))=true:=hx;rw[e]at hx';exact absurd hx' (by decide)
 ·-- exf
  obtain⟨f0,f1,f2,f3,f4,f5⟩:=hf b hb;have lt:=hfl b hb;refine⟨λe=>?_,λx c h e=>?_⟩
  ·have e':b=s.heap.objs.size+1:=e;rw[e']at lt;exact absurd lt (Nat.not_lt.mpr (hB8 _))
  ·rcases cf.1 x c h with q|q
   ·have z:=q.2.1;rw[e]at z;exact absurd lt (Nat.not_lt.mpr (hAv (hAv (hB8 _) (hB8 _)) z))
   ·exact f4 x c q.2 e
 ·-- noex
  obtain⟨f0,f1,f2,f3,f4,f5⟩:=hf b hb;rcases f3 with z|z
  ·exact I.ok.noex b o e z
  ·exact absurd (hAo (Heap.lt_size (I.ok.bs b o e).1) z) (hBz _)
 ·-- exfs
  obtain⟨f0,f1,f2,f3,f4,f5⟩:=hf b hb;exact λz=>f2 (qHy I z f1)
 ·-- loc
  have h1':N'[i]?=some x:=h1;have hsub:∃k,sub[i]?=some (some k)/\(σ[k]?).join=some v:=by
   unfold subσ at h2;rw[hAj]at h2;cases e:sub[i]? with
   |none=>rw[e]at h2;cases h2
   |some o =>
    rw[e]at h2;cases o with
    |none=>cases h2
    |some k=>exact⟨k,rfl,by simpa using h2⟩
  obtain⟨k,hk1,hk2⟩:=hsub;obtain⟨nk,fx⟩:=O.sub i k x hk1 h1';have sk:σ[k]?=some (some v):=by
   cases e:σ[k]? with
   |none=>rw[e]at hk2;cases hk2
   |some o=>rw[e]at hk2;cases o with
    |none=>cases hk2
    |some y=>cases hk2;rfl
  have cx:=O.free _ (hBg fx) rfl;obtain⟨m,hn,hl⟩:=I.loc;obtain⟨u,ru,lk⟩:=hl k x v nk sk (by
   rcases cx with z|z
   ·exact .inr (.inl z)
   ·exact .inr (.inr z))
  refine⟨u,ru,.inr ⟨?_,?_⟩⟩
  ·show(qB7 X.env scope (s.heap.objs.size+1)).kindOf x=some .cell\/(qB7 X.env scope (s.heap.objs.size+1)).kindOf x=some .free;rw[kindB,fx];by_cases hc:(NameKind.free == NameKind.free && X.env.scope.kind == .function && X.env.scope.names.lookup x == some .cell)=true
   ·exact .inl (by rw[hDa,hDw hc])
   ·exact .inr (by rw[hDa,hDv hc])
  ·rcases lk with ⟨kl,_⟩|⟨_,c,hc,hcell⟩
   ·exfalso;have kl':X.env.scope.names.lookup x=some .local:=kl;rcases cx with z|z <;> rw[kl']at z <;> cases z
   ·obtain⟨c',hc'⟩:=has x (.inr fx);refine⟨c',hc',?_⟩;rcases cf.1 x c' hc' with q|q
    ·exfalso;have e:=qBx O.nd q.2.2;rw[fx]at e;cases e
    ·rw[hc]at q;have e:c=c':=hAq q.2;subst e;exact hcell.keeps hk
 ·-- freeC
  rcases cf.1 x c h with q|q
  ·exact I.hok.fresh (by have:=q.2.1;omega)
  ·exact I.freeC x c q.2
 ·-- pin
  have hp':p=(s.heap.objs.size,({ cls:=.type "list",data:=.seq #[] }:Obj)):=by
   have:p∈([]++[(s.heap.objs.size,({ cls:=.type "list",data:=.seq #[] }:Obj))]:List (Addr×Obj)):=hp
   simpa using this
  subst hp';refine⟨hE4 _ _ _ _ (Heap.get?_push_of_some _ (Heap.get?_push_size _ rfl)),I.hok.fresh (hA3 _),hAt (hBk _),λz=>?_,λv z=>?_⟩
  ·rcases hAc.mp (I.stkSub _ z) with e|e
   ·exact absurd I.lt (by rw[<-e];exact hBz _)
   ·exact I.nofs (hA3 _) e
  ·cases z
 ·-- len
  show(subσ sub σ).length=N'.length;unfold subσ;rw[hA1,O.len]
end
def Sle(σ σ2:St):Prop:=σ2.length=σ.length/\∀(i:Nat) (v:V),σ[i]?=some (some v)->σ2[i]?=some (some v)
theorem Sle.refl(σ:St):Sle σ σ:=⟨rfl,λ_ _ h=>h⟩
theorem Sle.set(v:V)(h:Sle σ σ2)(hi:∀u,σ[i]?≠some (some u)):Sle σ (σ2.set i (some v)):=by
 refine⟨by rw[List.length_set];exact h.1,λj u hj=>?_⟩;have ne:i≠j:=λe=>hi u (by rw[e];exact hj)
 rw[hD0 ne];exact h.2 j u hj
theorem sls{σ:St}{i:Nat}{v:V}(h:∀u,σ[i]?≠some (some u):=by intro u z;cases z):Sle σ (σ.set i (some v)):=Sle.set _ (Sle.refl _) h
def PTs(X:Cx)(ifs:List Expr)(t:TT):Prop :=
 ∀(aB:List (Addr×Obj)) (s:Shared) (σ:St) (H:Hp) (Q:Bool->Hp->Prop),Inv X aB σ H s->t σ H Q ->
  wpAny (model X.prog X.w) X.A (forIn ifs true λc r=>if r=true then do let ok ← isTrue c X.env (eval c X.env);pure (ForInStep.yield ok) else pure (ForInStep.yield r)) (TP X aB σ Q) X.xe s
def qVc:TT:=λ_ H Q=>Q true H
theorem qAx:PTs X [] qVc:=λaB s σ H Q I h=>wpAny_tests_nil ⟨H,I,h⟩
theorem qD5(h:PT X c t):PTs X [c] t:=λaB s σ H Q I hw=>wpAny_tests_one (h aB s σ H Q I hw)
def qDm(J:It)(σ0:St)(g:TG)(tt:TT)(te:TE)(Q:List V->Hp->Prop)(H1:Hp):Prop :=
 ∃W:Nat->Nat->List V->Hp->Prop,(∃m,W 0 m [] H1)/\∀i m ys H,W i m ys H ->
  (J.stop i H/\Q ys H) \/
  (J.go i H/\∀x H',J.yld i H x H'->g x σ0 H' λσ2 H2=>Sle σ0 σ2/\tt σ2 H2 λb H3 =>
   if b=true then te σ2 H3 (λv H4=>ys.length<sizeLine/\∃m',m'<m/\W (i+1) m' (ys++[v]) H4) else ∃m',m'<m/\W (i+1) m' ys H3)
section
variable{X:Cx}{aB:List (Addr×Obj)}{σ:St}{H:Hp}{s:Shared}
theorem qKe{target iter elt:Expr}{ifs:List Expr}{scope:Scope}{pos:Pos}{N':List Str}{sub:List (Option Nat)}{J:It}{fp:List Addr}{it:Addr}{tn:Nat->Heap->Prop}{g:TG}{tt:TT}{te:TE}
  {Qe:List V->Hp->Prop} {E:Value->Shared->Prop} {RR:Value->Addr->Result->Shared->Prop}
  {c:Cx->Prop} (hc:∀X',X'.A=X.A->X'.calm=X.calm->c X') (I:Inv X aB σ H s) (O:CmpOk X.N X.env.scope N' scope sub) (T:Turn X.prog X.w X.K target J fp it tn c) (st:tn 0 s.heap) (hf:∀b∈fp,qI9 X aB H b)
  (B:∀C s H fp,PG (qBn X scope N' C s H fp) target g/\PTs (qBn X scope N' C s H fp) ifs tt/\PE (qBn X scope N' C s H fp) elt te)
  (rd:qDm J (subσ sub σ) g tt te Qe H)
  (hRR:∀(acc C:Addr) (ys:List V) (H':Hp) (s':Shared),Inv X aB σ (upd H' acc (.lst ys)) s'->qI9 X aB (upd H' acc (.lst ys)) C->(∃m,s'.heap.Ns C m)->H' acc=none->Qe ys H'->RR (.ref acc) C (.ok .next) s') :
  wpAny (model X.prog X.w) X.A (newList []) (λacc s₃=>wpAny (model X.prog X.w) X.A (newFunctionEnv scope X.env.globals (qCv X.env.cells scope.names []) [] X.env.qual none .none (some X.env)) (λcenv s₄ =>
   codeAny (model X.prog X.w) X.A (.compStart (.ListComp elt [⟨target,iter,ifs,0⟩] scope pos) 0 (.ref it) acc { cenv with scope:=relabel scope X.env }) (RR acc cenv.locals) s₄) E s₃) E s:=by
 refine hE2 (qEv ?_);have hfl:∀b∈fp,b<s.heap.objs.size:=λb hb=>by
  obtain⟨o,e,_⟩:=T.obj _ _ st b hb;exact Heap.lt_size e
 have I0:=qS5 (sub:=sub) I O hf hfl;have sz3:(s.heap.push { cls:=.type "list",data:=.seq #[] }).objs.size=s.heap.objs.size+1:=Heap.size_push ..;dsimp only;show codeAny _ _ (.compStart _ 0 (.ref it) (.ref s.heap.objs.size) { scope:=relabel scope X.env,locals:=(s.heap.push { cls:=.type "list",data:=.seq #[] }).objs.size,globals:=X.env.globals,cells:=cellsFrom ((s.heap.push { cls:=.type "list",data:=.seq #[] }).objs.size+1) scope.names (qCv X.env.cells scope.names []),qual:=X.env.qual,func:=none,code:=X.env.code,frame:=X.env.frame,builtins:=X.env.builtins })
  (RR (.ref s.heap.objs.size) (s.heap.push { cls:=.type "list",data:=.seq #[] }).objs.size) { s with heap:=pushCells ((s.heap.push { cls:=.type "list",data:=.seq #[] }).push { cls:=.type "dict",data:=.dict #[] }) scope.names }
 rw[sz3];show codeAny _ _ (.compStart _ 0 (.ref it) (.ref s.heap.objs.size) (qB7 X.env scope (s.heap.objs.size+1))) (RR (.ref s.heap.objs.size) (s.heap.objs.size+1)) _;generalize hs0:({ s with heap:=pushCells ((s.heap.push { cls:=.type "list",data:=.seq #[] }).push { cls:=.type "dict",data:=.dict #[] }) scope.names }:Shared)=s0 at I0 ⊢;have hk0:∀b o,s.heap.get? b=some o->s0.heap.get? b=some o:=λb o e=>by
  rw[<-hs0];exact hE4 _ _ b o (Heap.get?_push_of_some _ (Heap.get?_push_of_some _ e))
 have st0:tn 0 s0.heap:=T.keep _ _ _ st λb hb o e=>hk0 b o e
 clear hs0 sz3;generalize hX:qBn X scope N' (s.heap.objs.size+1) s H fp=X' at I0;have xp:X'.prog=X.prog:=by rw[<-hX];rfl
 have xw:X'.w=X.w:=by rw[<-hX];rfl
 have xK:X'.K=X.K:=by rw[<-hX];rfl
 have xA:X'.A=X.A:=by rw[<-hX];rfl
 have xc:c X':=hc X' xA (by rw[<-hX];rfl);have xe:X'.env=qB7 X.env scope (s.heap.objs.size+1):=by rw[<-hX];rfl
 have xx:X'.ex=fp:=by rw[<-hX];rfl
 have xo:X'.outer=X.stack:=by rw[<-hX];rfl
 have xf:X'.fs=frs X.stack:=by rw[<-hX];rfl
 have xpn:X'.pn=[]:=by rw[<-hX];rfl
 have x0:X'.s₀=s:=by rw[<-hX];rfl
 have xh:X'.H₀=H:=by rw[<-hX];rfl
 have xxe:X'.xe=λ_ _=>False:=by rw[<-hX];rfl
 obtain⟨hg,ht,he⟩:=B (s.heap.objs.size+1) s H fp;rw[hX]at hg ht he;clear hX;have stat:∀ {pl:List (Addr×Obj)} {H':Hp},(∀p∈pl,p.1=s.heap.objs.size)->(∀b∈fp,H' b=none)->∀b∈fp,qI9 X' pl H' b:=λ{pl H'} hp hn b hb=>by
  obtain⟨f0,f1,f2,f3,f4,f5⟩:=hf b hb;refine⟨hn b hb,(I0.ok.exf b (by rw[xx];exact hb)).1,I0.ok.exfs b (by rw[xx];exact hb),.inl (by rw[xx];exact hb),(I0.ok.exf b (by rw[xx];exact hb)).2,λp hp'=>?_⟩;rw[xpn,List.nil_append]at hp';rw[hp p hp'];exact hDn (hfl b hb)
 obtain⟨W,⟨m0,w0⟩,turn⟩:=rd;have loop:∀s3:Shared,s3=s0->codeAny (model X.prog X.w) X.A (.compLoop (.ListComp elt [⟨target,iter,ifs,0⟩] scope pos) 0 (.ref it) (.ref s.heap.objs.size) (qB7 X.env scope (s.heap.objs.size+1))) (RR (.ref s.heap.objs.size) (s.heap.objs.size+1)) s3:=by
  intro s3 e3;refine qKg (λn s'=>∃(i:Nat) (ys:List V) (H':Hp) (its:List Value) (k:Nat),Inv X' [(s.heap.objs.size,{ cls:=.type "list",data:=.seq its.toArray k })] (subσ sub σ) H' s'/\qBf ys its/\ys.length<=sizeLine/\tn i s'.heap/\(∀b∈fp,H' b=none)/\W i n ys H') ?_ m0
   ⟨0,[],H,[],0,by rw[e3];exact I0,.nil,hAs _,by rw[e3];exact st0,λb hb=>(hf b hb).1,w0⟩
  rintro n s4 ⟨i,ys,H4,its,k,I4,rv,hz,st4,fr4,w4⟩;have pe:∀p∈([(s.heap.objs.size,({ cls:=.type "list",data:=.seq its.toArray k }:Obj))]:List (Addr×Obj)),p.1=s.heap.objs.size:=λp hp=>by
   rw[hAe]at hp;rw[hp]
  rcases turn i n ys H4 w4 with ⟨stop,q⟩|⟨go,step⟩
  ·-- the end
   have td:=T.done X' xp xw xK xc i _ s4 (subσ sub σ) H4 (λ_ _=>False) I4 (stat pe fr4) st4 stop;rw[xA]at td;refine thn td λr s5 ⟨hr,I5⟩=>?_
   subst hr;have pa:=I5.pin (s.heap.objs.size,{ cls:=.type "list",data:=.seq its.toArray k }) (by rw[xpn];simp);have nacc:H4 s.heap.objs.size=none:=pa.2.1;have nC:H4 (s.heap.objs.size+1)=none:=by have z:=I5.free;rw[xe]at z;exact z
   have un:Un (frs X.stack) fp H H4 s.heap s5.heap:=by have z:=I5.base;rw[xf,xx,xh,x0]at z;exact z
   have un2:Un (frs X.stack) fp H (upd H4 s.heap.objs.size (.lst ys)) s.heap s5.heap:=by
    refine⟨un.keep,un.slot,λb o e n hx=>?_,un.there,λb xs e=>?_,λb o u e=>?_,λb ps e=>?_⟩
    ·rw[qAs (hAt (Heap.lt_size e))];exact un.free b o e n hx
    ·have z:=un.tups b xs e;rw[qAs (qAw z nacc)];exact z
    ·have z:=un.frzs b o u e;rw[qAs (qAw z nacc)];exact z
    ·obtain⟨more,z⟩:=un.tbls b ps e;exact⟨more,by rw[qAs (qAw z nacc)];exact z⟩
   have hok5:HOk X.prog X.w H4 s5.heap:=by have z:=I5.hok;rw[xp,xw]at z;exact z
   have hok2:HOk X.prog X.w (upd H4 s.heap.objs.size (.lst ys)) s5.heap:=λb u e=>by
    by_cases hb:b=s.heap.objs.size
    ·subst hb;rw[upd_same]at e;cases e;exact⟨hz,its,k,rv,pa.1⟩
    ·rw[qAs hb]at e;exact(hok5 b u e).stay (λ_ _ _ q=>q) (λc q=>by rw[qAs (qAw q nacc)];exact q) λc xs q=>by rw[qAs (qAw q nacc)];exact q
   have os5:s5.os=s.os:=by have z:=I5.os;rw[x0]at z;exact z
   have J5:Inv X aB σ (upd H4 s.heap.objs.size (.lst ys)) s5:=I.call' os5 un2 hok2 I5.bare λb hb=>by
    obtain⟨f0,f1,f2,f3,f4,f5⟩:=hf b hb;exact⟨f3,f1,f4,f5⟩
   refine hRR _ _ ys H4 s5 J5 (I.fpOk (hB8 _) ?_) ?_ nacc q
   ·rw[qAs (Nat.succ_ne_self _)];exact nC
   ·obtain⟨m,hn,_⟩:=I5.loc;rw[xe]at hn;exact⟨m,hn⟩
  ·-- one turn
   have ti:=T.item X' xp xw xK xc i _ s4 (subσ sub σ) H4 (λ_ _=>False) I4 (stat pe fr4) st4 go;rw[xA]at ti;refine thn ti λr s5 ⟨u,hr,h5⟩=>?_
   subst hr;refine thn h5 λ_ s6 ⟨x,H6,I6,r6,y6,st6,fr6⟩=>?_
   have I6':=I6.pinned (stat pe fr6) (T.obj _ _ st6);have tg:=hg _ s6 (subσ sub σ) H6 x u _ I6' r6 (step x H6 y6);rw[xp,xw,xA,xe,xxe]at tg;refine thn tg λ_ s7 ⟨σ7,H7,I7,le7,q7⟩=>?_
   have tts:=ht _ s7 σ7 H7 _ I7 q7;rw[xp,xw,xA,xe,xxe]at tts;refine thn tts λb s8 ⟨H8,I8,q8⟩=>?_
   cases b with
   |false =>
    rw[hDv hAm]at q8 ⊢;obtain⟨m',hm',w8⟩:=q8;have I9:Inv X' ([(s.heap.objs.size,{ cls:=.type "list",data:=.seq its.toArray k })]++pinsAt fp s6.heap) (subσ sub σ) H8 s8:=I8.weak le7.1.symm le7.2;refine⟨m',hm',i+1,ys,H8,its,k,I9.unpinned,rv,hz,T.keep _ _ _ st6 λb hb o e=>(I9.pin (b,o) (hAa _ (hAa _ (qB4 hb e)))).1,λb hb=>?_,w8⟩;obtain⟨o,e,d⟩:=T.obj _ _ st6 b hb;exact(I9.pin (b,o) (hAa _ (hAa _ (qB4 hb e)))).2.1
   |true =>
    rw[hDw rfl]at q8 ⊢;have tee:=he _ s8 σ7 H8 _ I8 q8;rw[xp,xw,xA,xe,xxe]at tee;refine thn tee λvv s9 ⟨v,H9,I9,r9,lz,m',hm',w9⟩=>?_
    have I10:Inv X' ([(s.heap.objs.size,{ cls:=.type "list",data:=.seq its.toArray k })]++pinsAt fp s6.heap) (subσ sub σ) H9 s9:=I9.weak le7.1.symm le7.2;have pa:=I10.pin (s.heap.objs.size,{ cls:=.type "list",data:=.seq its.toArray k }) (by rw[xpn];simp);have hlen:=rv.length;refine wpAny_list_append_plain (items:=its.toArray) ⟨k,pa.1⟩ (λh' pl sb=>?_) (by rw[hAl];omega);obtain⟨k',pl⟩:=pl;have keepIt:∀b∈fp,∀o,s6.heap.get? b=some o->h'.get? b=some o:=λb hb o e=>by
     have nb:b≠s.heap.objs.size:=hAt (hfl b hb);exact(sb.2 b nb).trans (I10.pin (b,o) (hAa _ (hAa _ (qB4 hb e)))).1
    have I11:Inv X' [] (subσ sub σ) H9 s9:=I10.pins_of λp hp=>absurd hp (by simp)
    have sacc:s.heap.objs.size≠X'.env.locals:=pa.2.2.1;have I12:Inv X' [] (subσ sub σ) H9 { s9 with heap:=h' }:=I11.turned (t':=s9.toks) (it:=s.heap.objs.size) (λb o hb e=>(sb.2 b hb).trans e) pa.2.1 sacc (.inr (by rw[x0];exact hA3 _))
     (λy c hy z=>by
      obtain⟨w',o',ho',hd'⟩:=I10.cell y c hy;rw[z,pa.1]at ho';have z2:=hAq ho';rw[<-z2]at hd';cases hd') (λp hp=>absurd hp (by rw[xpn];simp))
    refine⟨m',hm',i+1,ys++[v],H9,its++[vv],k',I12.pins_of (λp hp=>?_),rv.append (.cons r9 .nil),by rw[hA9,List.length_singleton];omega,T.keep _ _ _ st6 keepIt,λb hb=>?_,w9⟩
    ·rw[hAe]at hp;subst hp;refine⟨?_,pa.2.1,sacc,pa.2.2.2.1,λv z=>by cases z⟩;show h'.get? s.heap.objs.size=_;rw[pl];simp
    ·obtain⟨o,e,d⟩:=T.obj _ _ st6 b hb;exact(I10.pin (b,o) (hAa _ (hAa _ (qB4 hb e)))).2.1
 exact codeAny_compStart_list (loop _ rfl) (T.self _ 0 _ _ _ st0 (loop _ rfl))
end
def qN2(sub:List (Option Nat))(wi:TI)(g:TG)(tt:TT)(te:TE):TE:=λσ H Q=>wi σ H λJ H1 =>
 qDm J (subσ sub σ) g tt te (λys H'=>∀r,H' r=none->Q (.ref r) (upd H' r (.lst ys))) H1
section
variable{X:Cx}{target iter elt:Expr}{ifs:List Expr}{scope:Scope}{pos:Pos}{N':List Str}{sub:List (Option Nat)}{wi:TI}{g:TG}{tt:TT}{te:TE}
theorem qL4(I:Inv X aB σ H s)(O:CmpOk X.N X.env.scope N' scope sub):closureFor scope X.env=pure (qCv X.env.cells scope.names []) :=
 qI4 λx hx hf=>I.ok.has x.1 (by rcases O.free x hx hf with z|z;exact .inl z;exact .inr z)
theorem qIr(O:CmpOk X.N X.env.scope N' scope sub):∀y∈scope.names,y.2 = .local->scope.names.lookup y.1=some .local:=λy hy e=>by
 obtain⟨n,k⟩:=y;cases e;exact qBx O.nd hy
theorem qWa(hc:X.calm=true)(O:CmpOk X.N X.env.scope N' scope sub)(hi:PI X target iter wi)
  (B:∀C s H fp,PG (qBn X scope N' C s H fp) target g/\PTs (qBn X scope N' C s H fp) ifs tt/\PE (qBn X scope N' C s H fp) elt te)
  (hs:∀x,foldedSetIterable iter X.env x=pure x:=by intro _;rfl):PE X (.ListComp elt [⟨target,iter,ifs,0⟩] scope pos) (qN2 sub wi g tt te):=by
 intro aB s σ H Q I h;rw[eval_ListComp];refine wpAny_comprehension_free (use:=none) rfl hs (qL4 I O) O.kind (qIr O) (thn (hi aB s σ H _ I h) λv s1 h1=>thn h1 λitv s2 h2=>?_);obtain⟨it,fp,tn,J,H2,e,I2,T,st2,f2,rd⟩:=h2;subst e;refine qKe (RR:=λacc C=>compPost (model X.prog X.w) X.A X.xe none (EP X aB σ Q) acc C) (λX' _ e=>e.trans hc) I2 O T st2 f2 B rd λacc C ys H' s' I' fC hn na q=>?_
 obtain⟨m,hn⟩:=hn;obtain⟨f0,f1,f3,f4,f5,f6⟩:=fC;refine⟨m,hn,λh' sb=>?_⟩;exact⟨.ref acc,upd H' acc (.lst ys),I'.turned (t':=s'.toks) (it:=C) (λb o hb e=>(sb.2 b hb).trans e) f0 f1 f4 f5 f6,rfl,q acc na⟩
theorem qV3(hc:X.calm=true)(O:CmpOk X.N X.env.scope N' scope sub)(hi:PI X target iter wi)
  (B:∀C s H fp,PG (qBn X scope N' C s H fp) target g/\PTs (qBn X scope N' C s H fp) ifs tt/\PE (qBn X scope N' C s H fp) elt te)
  (hN:X.N.Nodup) (hy:X.N[i]?=some y) (hx:Loc X.env.scope y)
  (hsw:swapsWith (.ListComp elt [⟨target,iter,ifs,0⟩] scope pos) (some (.Name y py)) spos.line X.env=pure true)
  (hs:∀x,foldedSetIterable iter X.env x=pure x:=by intro _;rfl) (hf:X.fn y=true\/X.env.scope.names.lookup y=some .local:=by first|exact .inl rfl|exact .inr rfl|assumption) :
  PS X (.Assign [.Name y py] (.ListComp elt [⟨target,iter,ifs,0⟩] scope pos) spos) (qYh (qN2 sub wi g tt te) (qL0 i)):=by
 intro aB s σ H D I h;rw[exec_Assign_Name_used _ _ _ _ hsw];refine hDq (hEc (hDq ?_));show wpAny _ _ (do let _ ← comprehension (.ListComp elt [⟨target,iter,ifs,0⟩] scope pos) scope X.env _ (newList []) false (eval iter X.env) (some (assign (.Name y py) X.env))) _ _ s;refine hDq (hDy (wpAny_comprehension_free (use:=some (assign (.Name y py) X.env)) (Q:=λ_ s'=>SP X aB D .next s') rfl hs (qL4 I O) O.kind (qIr O)
  (thn (hi aB s σ H _ I h) λv s1 h1=>thn h1 λitv s2 h2=>?_)) (λ_ s' hq=>hDt (hDt hq)) λ_ _ e=>e)
 obtain⟨it,fp,tn,J,H2,e,I2,T,st2,f2,rd⟩:=h2;subst e;refine qKe (RR:=λacc C=>compPost (model X.prog X.w) X.A X.xe (some (assign (.Name y py) X.env)) (λ_ s'=>SP X aB D .next s') acc C) (λX' _ e=>e.trans hc) I2 O T st2 f2 B rd λacc C ys H' s' I' fC hn na q=>?_
 obtain⟨m,hn⟩:=hn;obtain⟨f0,f1,f3,f4,f5,f6⟩:=fC;show wpAny _ _ (assign (.Name y py) X.env (.ref acc)) _ _ s';refine wpAny_assign_Name (qJl (v:=.ref acc) I' hN hy hx rfl (λs'' I'' ⟨a,sb,ha⟩=>?_) hf);have nCa:C≠a:=by
  rcases ha with z|z
  ·rw[z];exact f1
  ·exact λe=>f5 _ _ z e.symm
 refine⟨m,hn.sameBut sb nCa,λh' sb'=>?_⟩;exact⟨_,upd H' acc (.lst ys),I''.turned (t':=s''.toks) (it:=C) (λb o hb e=>(sb'.2 b hb).trans e) f0 f1 f4 f5 f6,q acc na⟩
end
section
variable{σ0:St}{g:TG}{tt:TT}{te:TE}{Q:List V->Hp->Prop}{H1:Hp}
def Nxt(n i:Nat)(Pv:Nat->List V->Hp->Prop)(ys:List V)(H:Hp):Prop:=∃m',m'<n-i/\m'=n-(i+1)/\i+1<=n/\Pv (i+1) ys H
theorem nxt(hi:i<n)(h:Pv (i+1) ys H):Nxt n i Pv ys H:=⟨_,by omega,rfl,hi,h⟩
theorem qAt{K:PySem.W.Frag}{a:Addr}{xs:List V}(Pv:Nat->List V->Hp->Prop)(h0:Pv 0 [] H1)(hl:∀i ys H,i<=xs.length->Pv i ys H->SqL K H a xs)
  (hs:∀i x ys H,xs[i]?=some x->Pv i ys H->g x σ0 H λσ2 H2=>Sle σ0 σ2/\tt σ2 H2 λb H3=>if b=true then te σ2 H3 (λv H4=>ys.length<sizeLine/\Nxt xs.length i Pv (ys++[v]) H4) else Nxt xs.length i Pv ys H3)
  (hd:∀ys H,Pv xs.length ys H->Q ys H):qDm (Itl K a) σ0 g tt te Q H1:=by
 refine⟨λi m ys H=>m=xs.length-i/\i<=xs.length/\Pv i ys H,⟨xs.length,by simp,hAs _,h0⟩,?_⟩;rintro i m ys H ⟨rfl,hi,p⟩;have q:=hl i ys H hi p;by_cases hlt:i<xs.length
 ·refine .inr ⟨⟨xs,xs[i],q,by simp[hlt]⟩,λx H' y=>?_⟩;obtain⟨e,y⟩:=y;subst e;exact hs i x ys _ (y xs q) p
 ·have e:i=xs.length:=by omega
  subst e;exact .inl ⟨⟨xs,q,hA3 _⟩,hd ys H p⟩
theorem qGc{lo:Int}{n:Nat}(Pv:Nat->List V->Hp->Prop)(h0:Pv 0 [] H1)
  (hs:∀i ys H,i<n->Pv i ys H->g (.int (lo+i)) σ0 H λσ2 H2=>Sle σ0 σ2/\tt σ2 H2 λb H3=>if b=true then te σ2 H3 (λv H4=>ys.length<sizeLine/\Nxt n i Pv (ys++[v]) H4) else Nxt n i Pv ys H3)
  (hd:∀ys H,Pv n ys H->Q ys H):qDm (Itr lo n) σ0 g tt te Q H1:=by
 refine⟨λi m ys H=>m=n-i/\i<=n/\Pv i ys H,⟨n,by simp,hAs _,h0⟩,?_⟩;rintro i m ys H ⟨rfl,hi,p⟩;by_cases hlt:i<n
 ·refine .inr ⟨hlt,λx H' y=>?_⟩;obtain⟨e,y⟩:=y;subst e y;exact hs i ys _ hlt p
 ·have e:i=n:=by omega
  subst e;exact .inl ⟨hA3 _,hd ys H p⟩
end
end L2
namespace L2
open PySem PySem.Spec PyProof.Rows PySem.SeqAt
mutual
inductive DR (K:PySem.W.Frag) (H:Hp):V->PyData->Prop
 |non:DR K H .non .none
 |bl (b:Bool):DR K H (.bl b) (.bool b)
 |int (i:Int):DR K H (.int i) (.int i)
 |str (x:Str):DR K H (.str x) (.str x)
 |lst {a:Addr} {xs:List V} {ds:List PyData}:SqL K H a xs->DRs K H xs ds->DR K H (.ref a) (.list ds)
 |tup {a:Addr} {xs:List V} {ds:List PyData}:SqT K H a xs->DRs K H xs ds->DR K H (.ref a) (.tuple ds)
inductive DRs (K:PySem.W.Frag) (H:Hp):List V->List PyData->Prop
 |nil:DRs K H [] []
 |cons {v:V} {d:PyData} {vs:List V} {ds:List PyData}:DR K H v d->DRs K H vs ds->DRs K H (v :: vs) (d :: ds)
end
section
variable{X:Cx}{aB:List (Addr×Obj)}{σ:St}{H:Hp}{s:Shared}
mutual
theorem DR.reads(I:Inv X aB σ H s):∀ {v:V} {d:PyData} {u:Value},DR X.K H v d->qC2 v u->∃as,Reads s.heap u d as
 |_,_,_,.non,r=>by cases r;exact⟨_,.none⟩
 |_,_,_,.bl b,r=>by cases r;exact⟨_,.bool b⟩
 |_,_,_,.int i,r=>by obtain⟨t,rfl⟩:=r;exact⟨_,.int i t⟩
 |_,_,_,.str x,r=>by obtain⟨t,rfl⟩:=r;exact⟨_,.str x t⟩
 |_,_,_,.lst hq hd,r=>by
  cases r;obtain⟨its,rv,⟨o,n,e,c,_,dt⟩,_⟩:=I.list hq;obtain⟨as,ra⟩:=DRs.reads I hd rv;exact⟨_,.list e c dt ra⟩
 |_,_,_,.tup hq hd,r=>by
  cases r;obtain⟨its,rv,⟨o,e,c,n,dt⟩,_⟩:=I.tuple hq;obtain⟨as,ra⟩:=DRs.reads I hd rv;exact⟨_,.tuple e c dt ra⟩
theorem DRs.reads(I:Inv X aB σ H s):∀ {vs:List V} {ds:List PyData} {us:List Value},DRs X.K H vs ds->qBf vs us->∃as,ReadsAll s.heap us ds as
 |_,_,_,.nil,r=>by cases r;exact⟨_,.nil⟩
 |_,_,_,.cons h t,r=>by
  cases r with
  |cons r rr =>
   obtain⟨a1,q1⟩:=DR.reads I h r;obtain⟨a2,q2⟩:=DRs.reads I t rr;exact⟨_,.cons q1 q2⟩
end
end
def zBy(K:PySem.W.Frag)(neg:Bool):R2:=λx y H Q=>∃dx dy,DR K H x dx/\DR K H y dy/\shaped dx=true/\shaped dy=true/\Q (.bl (if neg then !PyData.eqv dx dy else PyData.eqv dx dy)) H
section
variable{X:Cx}
theorem qZc(hu:X.A.units+64<cLine):OpR X (compareOp .Eq) (zBy X.K false):=by
 intro aB s σ H x y v u Q I rx ry h;obtain⟨dx,dy,hx,hy,sx,sy,q⟩:=h;obtain⟨a1,r1⟩:=DR.reads I hx rx;obtain⟨a2,r2⟩:=DR.reads I hy ry;exact eq_dataH r1 r2 sx sy hu ⟨.bl (PyData.eqv dx dy),H,I,rfl,q⟩
theorem qM9(hu:X.A.units+64<cLine):OpR X (compareOp .NotEq) (zBy X.K true):=by
 intro aB s σ H x y v u Q I rx ry h;obtain⟨dx,dy,hx,hy,sx,sy,q⟩:=h;obtain⟨a1,r1⟩:=DR.reads I hx rx;obtain⟨a2,r2⟩:=DR.reads I hy ry;exact ne_dataH r1 r2 sx sy hu ⟨.bl (!PyData.eqv dx dy),H,I,rfl,q⟩
theorem qDg:∀ {us:List Value},qBf (ss.map V.str) us->StrsAre us ss:=by
 induction ss with
 |nil=>intro us r;cases r;exact .nil
 |cons a l ih =>
  intro us r;cases r with
  |cons r rr =>
   obtain⟨t,rfl⟩:=r;exact .cons a t (ih rr)
theorem qHv:∀ {us:List Value},StrsAre us ss->qBf (ss.map V.str) us:=by
 induction ss with
 |nil=>intro us r;cases r;exact .nil
 |cons a l ih =>
  intro us r;cases r with
  |cons _ _ r=>exact .cons ⟨_,rfl⟩ (ih r)
theorem qF3:qB9 X (.builtin "sorted") (λxs H Q=>∃p ss,xs=[.ref p]/\SqL X.K H p (ss.map V.str)/\ss.length<64/\∀r ss',H r=none->ss'.Perm ss->sortedS ss'=true->Q (.ref r) (upd H r (.lst (ss'.map V.str)))):=by
 intro aB s σ H xs us Q I r h;obtain⟨p,ss,rfl,hq,h64,q⟩:=h;obtain⟨u,rfl,rx⟩:=qD1 r;cases rx;obtain⟨its,rv,pl,hz⟩:=I.list hq;have hl:=rv.length;rw[hA1]at hl;refine sorted_strs pl.isList (qDg rv) (by omega) λout ss' h1 h2 h3=>?_
 obtain⟨e,he⟩:=sortedAll_at s.heap its out;have nz:H (s.heap.objs.size+1)=none:=I.hok.fresh (hB8 _);refine⟨.ref (s.heap.objs.size+1),_,I.laid (t':=s.toks) (a:=s.heap.objs.size+1) (o:=.lst (ss'.map V.str)) (λb o eb=>sortedAll_old eb) (hB8 _) ?_,rfl,q _ ss' nz h2 h3⟩;refine⟨?_,out.toList,e,qHv h1,by simpa using he⟩;rw[hA1,h2.length_eq];exact hB1 (qAi (by omega))
end
end L2
namespace L2
open PySem PySem.Spec PyProof.Rows
section
variable{X:Cx}
theorem qMl:SlR X (λx lo hi H Q=>∃z:Str,x = .str z/\z.length<=sizeLine/\Q (.str (Txt.slice z lo hi)) H):=by
 intro aB s σ H x v vl vu lo hi sl Q I rx hs pl pu h;obtain⟨z,rfl,hz,q⟩:=h;obtain⟨t,rfl⟩:=rx;refine⟨"str",_,F.slot_str_getitem.lookup,hEo _ _ _,?_⟩;obtain⟨o,ho,hc,hd⟩:=hs;have fin:∀t' k,EP X aB σ Q (.str (Txt.slice z lo hi) t') { s with toks:=k }:=λt' k=>⟨.str (Txt.slice z lo hi),H,I.tok k,⟨t',rfl⟩,q⟩
 cases pl with
 |none =>
  cases pu with
  |none=>exact hE8 (l:=none) (u:=none) (st:=none) ⟨o,ho,hc,hd⟩ rfl (hEl ⟨hAv (Txt.slice_le z _ _) hz,fin⟩)
  |int j uj=>exact hE8 (l:=none) (u:=some (j,uj)) (st:=none) ⟨o,ho,hc,hd⟩ rfl (hEl ⟨hAv (Txt.slice_le z _ _) hz,fin⟩)
 |int i ui =>
  cases pu with
  |none=>exact hE8 (l:=some (i,ui)) (u:=none) (st:=none) ⟨o,ho,hc,hd⟩ rfl (hEl ⟨hAv (Txt.slice_le z _ _) hz,fin⟩)
  |int j uj=>exact hE8 (l:=some (i,ui)) (u:=some (j,uj)) (st:=none) ⟨o,ho,hc,hd⟩ rfl (hEl ⟨hAv (Txt.slice_le z _ _) hz,fin⟩)
theorem qLs(h1:x.length<=100)(h2:0<=n)(h3:n<=100):PySem.MulOk x n:=by
 refine⟨?_,λh _=>?_,λh _=>?_⟩
 ·rw[Bool.or_eq_false_iff];exact⟨hDs (by omega),hDs (by omega)⟩
 ·have e:((2^63-1:Int) / n) >= 100:=by
   apply Int.le_ediv_of_mul_le (by omega);omega
  omega
 ·unfold Builtin.Str.tooLong;have:x.length*n.toNat<=100*100:=Nat.mul_le_mul h1 (by omega);exact hDs (by have:sizeLine > 10000:=(by decide);omega)
theorem qEj:OpR X (binaryOp .Mult) (λx y H Q=>∃(z:Str) (n:Int),x = .str z/\y = .int n/\z.length<=100/\0<=n/\n<=100/\Q (.str (Txt.mul z n)) H):=by
 intro aB s σ H x y v u Q I rx ry h;obtain⟨z,n,rfl,rfl,h1,h2,h3,q⟩:=h;obtain⟨t,rfl⟩:=rx;obtain⟨t',rfl⟩:=ry;exact SB.mul (qLs h1 h2 h3) λt' k=>⟨.str (Txt.mul z n),H,I.tok k,⟨t',rfl⟩,q⟩
theorem qBl:qB9 X (.builtin "isinstance") (λxs H Q=>∃x t c b,xs=[x,.ty c]/\TyOf X.K H x t/\PySem.W.kitOne X.K t (.type c)=some b/\Q (.bl b) H):=by
 intro aB s σ H xs us Q I r h;obtain⟨x,t,c,b,rfl,ty,e,q⟩:=h;obtain⟨u,w',rfl,rx,rc⟩:=qOz r;cases(show w'=Value.type c from rc);exact qQ3 I rx ty e λtk=>⟨.bl b,H,I.tok tk,rfl,q⟩
end
section
variable{X:Cx}
theorem qTb(bs:List Bool)(d:Bool):(List.range bs.length).all (λi=>bs.getD i d)=bs.all id:=by
 induction bs with
 |nil=>rfl
 |cons b r ih =>
  rw[hB2,List.range_succ_eq_map,List.all_cons,hDo,List.all_cons];have e:((λi=>(b :: r).getD i d)∘Nat.succ)=λi=>r.getD i d:=by
   funext i;simp
  rw[e,ih];simp
theorem qYa{P:Program}{w:World}{A:Around}{bs:List Bool}{its:List Value}(rv:qBf (bs.map V.bl) its)(d:Bool):TruthOf P w A (λi v=>its.toArray[i]?=some v) (λi=>bs.getD i d):=by
 intro i v s Q E hv hQ;have hv':its[i]?=some v:=by simpa using hv
 have hi:i<its.length:=(hAi.mp hv').1;have hl:=rv.length;rw[hA1]at hl;have hb:(bs.map V.bl)[i]?=some (V.bl bs[i]):=by rw[hAj,hA2 (by omega)];rfl
 obtain⟨u,hu,ru⟩:=rv.get hb;rw[hv']at hu;have e:v=Value.bool bs[i]:=(hAq hu).trans ru;rw[e];have e2:bs.getD i d=bs[i]:=by rw[hA8,hA2 (by omega)];rfl
 have hQ:Q (bs.getD i d) s:=hQ;rw[e2]at hQ;exact hE1 hQ
theorem qBu(hc:X.calm=true):qB9 X (.builtin "all") (λxs H Q=>∃(p:Addr) (bs:List Bool),xs=[.ref p]/\SqL X.K H p (bs.map V.bl)/\Q (.bl (bs.all id)) H):=by
 intro aB s σ H xs us Q I r h;obtain⟨p,bs,rfl,hq,q⟩:=h;obtain⟨u,rfl,rx⟩:=qD1 r;cases rx;obtain⟨its,rv,pl,hz⟩:=I.list hq;have hl:=rv.length;rw[hA1]at hl;have hne:p≠s.heap.objs.size:=by
  obtain⟨o,n,e,_⟩:=pl;exact hAt (Heap.lt_size e)
 have hh:=I.ok.hd hc;refine call_all_walk (hEi pl.isList ?_);refine⟨s.heap.objs.size,_,_,_,_,_,λi=>bs.getD i true,rfl,Walks.list (by exact hh) _ p hne its.toArray,⟨⟨_,Heap.get?_push_size _ rfl,rfl,rfl⟩,pl.isList.at λo e=>Heap.get?_push_of_some _ e⟩,qYa rv true,λh' tk hk=>?_⟩;refine⟨.bl (bs.all id),H,I.kept (t':=tk) λb o e=>hk b o ?_ (Heap.get?_push_of_some _ e),?_,q⟩
 ·intro z;rw[hAe]at z;exact absurd (Heap.lt_size e) (by rw[z];exact hBz _)
 ·show Value.bool _=Value.bool _;rw[hAl,<-hl,qTb]
def Itv(n:Nat)(xv:Nat->V):It:=⟨λi _=>i<n,λi H x H'=>H'=H/\x=xv i,λi _=>n=i⟩
theorem qO0{P:Program}{w:World}{K:PySem.W.Frag}{tg:Expr}(it:Addr)(n:Nat)(xv:Nat->V)(Pv:Nat->Value->Prop)(St:Nat->Heap->Prop)(ty:String)
  (W:∀A:Around,A.handled=none->Walks P w A it [it] [it] n Pv St) (hv:∀i v,Pv i v->qC2 (xv i) v)
  (ho:∀i h,St i h->∃o vs,h.get? it=some o/\o.cls = .type ty/\o.data = .fields vs)
  (hn:["enumerate","zip","dict_itemiterator","dict_reverseitemiterator","odict_iterator","itertools.zip_longest","itertools.pairwise"].contains ty=false)
  (hself:∀(A:Around) (i:Nat) (s:Shared) (Q:Value->Shared->Prop) (E:Value->Shared->Prop),St i s.heap->Q (.ref it) s->wpAny (model P w) A (pyIter (.ref it)) Q E s):Turn P w K tg (Itv n xv) [it] it St where
 mem:=by simp
 obj:=λi h st b hb=>by
  have e:b=it:=by simpa using hb
  subst e;obtain⟨o,vs,e,c,d⟩:=ho i h st;exact⟨o,e,λv z=>by rw[d]at z;cases z⟩
 keep:=λi h h' st k=>(W { handled:=none } rfl).frame i h h' st k
 item:=by
  intro X hP hw hK hc i aB s σ H E I hf st hg;subst hP hw hK;obtain⟨f0,f1,f2,f3,f4,f5⟩:=hf it (by simp);refine(W X.A (I.ok.hd hc)).item i s _ _ hg st λv h' tk pv st' kk=>?_
  have I1:Inv X aB σ H { s with heap:=h',toks:=tk }:=I.turned (λb o hb e=>kk b o (by simpa using hb) e) f0 f1 f3 f4 f5;obtain⟨o,vs,e,c,d⟩:=ho (i+1) h' st';exact⟨v,rfl,qS9 (s:={ s with heap:=h',toks:=tk }) e c d hn ⟨xv i,H,I1,hv i v pv,⟨rfl,rfl⟩,st',λb hb=>(hf b hb).1⟩⟩
 done:=by
  intro X hP hw hK hc i aB s σ H E I hf st hg;subst hP hw hK;obtain⟨f0,f1,f2,f3,f4,f5⟩:=hf it (by simp);have hg':n=i:=hg;subst hg';refine(W X.A (I.ok.hd hc)).done s _ _ st λh' tk kk=>⟨rfl,?_⟩
  exact I.turned (λb o hb e=>kk b o (by simpa using hb) e) f0 f1 f3 f4 f5
 self:=hself
def zAx(x:Str)(i:Nat):V:=.str ⟨#[x.cps.toList.getD i 0]⟩
def zCz(t:TE):TI:=λσ H R=>t σ H λv H1=>∃x:Str,v = .str x/\R (Itv x.cps.size (zAx x)) H1
theorem qVi(h:SignAt x i v):qC2 (zAx x i) v:=by
 obtain⟨c,u,hc,rfl⟩:=h;refine⟨u,?_⟩;have:x.cps.toList.getD i 0=c:=by
  rw[hA8,hBv,hc];rfl
 rw[this]
theorem qUg{e tg:Expr}{t:TE}(he:PE X e t):PI X tg e (zCz t):=by
 intro aB s σ H R I h;refine thn (he aB s σ H _ I h) λv s1 ⟨y,H1,I1,r1,q1⟩=>?_
 obtain⟨x,rfl,q⟩:=q1;obtain⟨tk,rfl⟩:=r1;have fin:∀(o:Obj) (ty:String),o={ cls:=.type ty,data:=.fields #[.str x tk,.int 0 0] }->(["enumerate","zip","dict_itemiterator","dict_reverseitemiterator","odict_iterator","itertools.zip_longest","itertools.pairwise"].contains ty=false) ->
   (∀A:Around,A.handled=none->Walks X.prog X.w A s1.heap.objs.size [s1.heap.objs.size] [s1.heap.objs.size] x.cps.size (SignAt x) (λi h=>h.IsStrIter s1.heap.objs.size ty x tk i)) ->
   (∀(A:Around) (i:Nat) (s:Shared) (Q:Value->Shared->Prop) (E:Value->Shared->Prop),s.heap.IsStrIter s1.heap.objs.size ty x tk i->Q (.ref s1.heap.objs.size) s->wpAny (model X.prog X.w) A (pyIter (.ref s1.heap.objs.size)) Q E s) ->
   PIE X aB σ tg R (.ref s1.heap.objs.size) { s1 with heap:=s1.heap.push o }:=by
  intro o ty eo hn W self;subst eo;refine⟨s1.heap.objs.size,[s1.heap.objs.size],_,_,H1,rfl,I1.kept (t':=s1.toks) λb o e=>Heap.get?_push_of_some _ e,qO0 s1.heap.objs.size x.cps.size (zAx x) _ _ ty W (λi v=>qVi) (λi h st=>?_) hn self,⟨_,Heap.get?_push_size _ rfl,rfl,rfl⟩,λb hb=>?_,q⟩
  ·obtain⟨o,h1,h2,h3⟩:=st;exact⟨o,_,h1,h2,h3⟩
  ·have e:b=s1.heap.objs.size:=by simpa using hb
   subst e;exact I1.fpOk (hA3 _) (I1.hok.fresh (hA3 _))
 cases ha:x.cps.all (· < 128)
 ·exact wpAny_pyIter_wide ha (fin _ "str_iterator" rfl (by decide) (λA hA=>Walks.strWide hA _ x tk) (λA i s Q E st hQ=>wpAny_pyIter_striter_wide st hQ))
 ·exact wpAny_pyIter_ascii ha (fin _ "str_ascii_iterator" rfl (by decide) (λA hA=>Walks.strAscii hA _ x tk) (λA i s Q E st hQ=>wpAny_pyIter_striter_ascii st hQ))
theorem qJh(Pv:Nat->List V->Hp->Prop)(h0:Pv 0 [] H1)
  (hs:∀i ys H,i<n->Pv i ys H->g (xv i) σ0 H λσ2 H2=>Sle σ0 σ2/\tt σ2 H2 λb H3=>if b=true then te σ2 H3 (λv H4=>ys.length<sizeLine/\Nxt n i Pv (ys++[v]) H4) else Nxt n i Pv ys H3)
  (hd:∀ys H,Pv n ys H->Q ys H):qDm (Itv n xv) σ0 g tt te Q H1:=by
 refine⟨λi m ys H=>m=n-i/\i<=n/\Pv i ys H,⟨n,by simp,hAs _,h0⟩,?_⟩;rintro i m ys H ⟨rfl,hi,p⟩;by_cases hlt:i<n
 ·refine .inr ⟨hlt,λx H' y=>?_⟩;obtain⟨e,y⟩:=y;subst e y;exact hs i ys _ hlt p
 ·have e:i=n:=by omega
  subst e;exact .inl ⟨rfl,hd ys H p⟩
end
theorem qLq(t:SetTable)(n:Nat):(t.orStandIn n).led=t.led:=by
 unfold SetTable.orStandIn;split <;> rfl
theorem qOp(t:SetTable)(es:Array (Int×Value))(h:Int)(x:Value):(layNew t es h x).2.1.led=t.led:=by
 unfold layNew;split
 ·exact qLq _ _
 ·rfl
theorem qP7(t:SetTable)(es:Array (Int×Value))(k:Nat):(relayAll t es k).2.1.led=t.led:=by
 unfold relayAll;split
 ·rename_i u order e;have eu:u.led=t.led:=by
   unfold SetTable.relaid SetTable.laid at e;cases hc:SetTable.layClean (SetTable.sizeAbove k-1) (es.map (·.1)) with
   |none=>rw[hc]at e;cases e
   |some o =>
    rw[hc]at e;injection e with e
    injection e with e1 e2
    rw[<-e1]
  dsimp only;split
  ·exact eu
  ·rfl
 ·rfl
theorem qLn(t:SetTable)(es:Array (Int×Value))(k:Nat)(hp:t.plain=false):(relayAll t es k).2.1.plain=false:=by
 unfold relayAll;split
 ·rename_i u order e;have eu:u.plain=t.plain:=by
   unfold SetTable.relaid SetTable.laid at e;cases hc:SetTable.layClean (SetTable.sizeAbove k-1) (es.map (·.1)) with
   |none=>rw[hc]at e;cases e
   |some o =>
    rw[hc]at e;injection e with e
    injection e with e1 e2
    rw[<-e1]
  dsimp only;split
  ·exact eu.trans hp
  ·rfl
 ·rfl
def qBq(P:Program)(w:World)(h:Heap)(a:Addr)(ss:List Str):Prop :=
 ∃(es:Array (Int×Value)) (ep:Nat) (t:SetTable),h.get? a=some { cls:=.type "set",dict:=none,data:=.set es ep t,slots:=#[] }/\ElemsOf (PySem.strKind P w) es.toList /\
  StrsAre (es.toList.map (·.2)) ss/\es.size<scanBound/\t.fits es.size=true/\t.led=!w.params.followText "set-order"/\(es.size≠0->t.plain=false)
theorem qH5:∀ {vs:List Value} {ss:List Str},StrsAre vs ss->((∃v∈vs,Value.isStrOf x v=true)↔x∈ss)
 |_,_,.nil=>by simp
 |_,_,.cons y t r=>by
  have ih:=qH5 (x:=x) r;have hy:Value.isStrOf x (.str y t)=true↔x=y:=by
   constructor
   ·intro h;obtain⟨u,e⟩:=Value.isStrOf_shape h;cases e;rfl
   ·rintro rfl;simp[Value.isStrOf]
  constructor
  ·rintro⟨v,hv,hp⟩;rcases hAc.mp hv with rfl|hv
   ·rw[hy.mp hp];exact hA5
   ·exact hA4 _ (ih.mp ⟨v,hv,hp⟩)
  ·intro h;rcases hAc.mp h with h|h
   ·exact⟨_,hA5,hy.mpr h⟩
   ·obtain⟨v,hv,hp⟩:=ih.mpr h;exact⟨v,hA4 _ hv,hp⟩
theorem qO7{es es1:List (Int×Value)}{ss:List Str}{k:Int}{x:Str}{t:Tok}(hS:StrsAre (es.map (·.2)) ss)(p:es1.Perm (es++[(k,.str x t)])):∃ss1,StrsAre (es1.map (·.2)) ss1/\ss1.Perm (ss++[x]):=by
 have hall:∀v,v∈es1.map (·.2)->∃y u,v = .str y u:=by
  intro v hv;obtain⟨e,he,rfl⟩:=hAb.mp hv;rcases hAf.mp (p.mem_iff.mp he) with z|z
  ·exact hS.all _ (hB3 z)
  ·rw[hAe]at z;subst z;exact⟨x,t,rfl⟩
 refine⟨_,strsAre_map _ hall,?_⟩;have q:=(p.map (·.2)).map strOf;rw[hA7,hA7,hS.strs]at q;exact q
theorem qFl{es es1:List (Int×Value)}{ss:List Str}(hS:StrsAre (es.map (·.2)) ss)(p:es1.Perm es):∃ss1,StrsAre (es1.map (·.2)) ss1/\ss1.Perm ss:=by
 have hall:∀v,v∈es1.map (·.2)->∃y u,v = .str y u:=by
  intro v hv;obtain⟨e,he,rfl⟩:=hAb.mp hv;exact hS.all _ (hB3 (p.mem_iff.mp he))
 refine⟨_,strsAre_map _ hall,?_⟩;have q:=(p.map (·.2)).map strOf;rw[hS.strs]at q;exact q
section
variable{P:Program}{w:World}{A:Around}{E:Value->Shared->Prop}{s:Shared}{a:Addr}{ss:List Str}
theorem qHl(ho:s.heap.get? a=some { cls:=.type "set",dict:=none,data:=.set es ep t,slots:=#[] }) :
  (s.heap.update a (Obj.putSet es' t')).get? a=some { cls:=.type "set",dict:=none,data:=.set es' (ep+1) t',slots:=#[] }:=by
 have q:=Heap.get?_update_self (Obj.putSet es' t') ho (by rw[putSet_of es' t' rfl];rfl);rw[putSet_of es' t' rfl]at q;exact q
theorem qJj{g:Bool->Sem Unit}(hg:∀(b:Bool) (s1:Shared) (Q':Unit->Shared->Prop),Q' () s1->wpAny (model P w) A (g b) Q' E s1){es es1:Array (Int×Value)}{ep:Nat}{t t2:SetTable}{ss1:List Str}
  (ho:s.heap.get? a=some { cls:=.type "set",dict:=none,data:=.set es ep t,slots:=#[] }) (e1:ElemsOf (PySem.strKind P w) es1.toList) (e2:StrsAre (es1.toList.map (·.2)) ss1) (e3:es1.size<scanBound) (e4:t2.fits es1.size=true)
  (e5:t2.led=!w.params.followText "set-order") (e6:t2.plain=false) {wasD:Bool} {R:Option Bool->Shared->Prop} (h:∀h' ss',Heap.SameBut a s.heap h'->qBq P w h' a ss'->ss'.Perm ss1->R (some true) { s with heap:=h' }) :
  wpAny (model P w) A (do
    storeSet a es1 t2
    if (!wasD && t2.tooFull)=true then do
      g (relayAll t2 es1 (SetTable.grown es1.size)).2.2
      storeSet a (relayAll t2 es1 (SetTable.grown es1.size)).1 (relayAll t2 es1 (SetTable.grown es1.size)).2.1
      pure (some true)
     else pure (some true)) R E s:=by
 refine hDq (wpAny_storeSet_of ho rfl ?_ (hEj e3));have o1:(s.heap.update a (Obj.putSet es1 t2)).get? a=_:=qHl (s:=s) ho;have b1:=Heap.SameBut.update s.heap a (Obj.putSet es1 t2);split
 ·have p:=relayAll_perm t2 es1 (SetTable.grown es1.size);have f:=relayAll_fits t2 es1 (SetTable.grown es1.size);have l:=qP7 t2 es1 (SetTable.grown es1.size);have pl:=qLn t2 es1 (SetTable.grown es1.size) e6;generalize relayAll t2 es1 (SetTable.grown es1.size)=Rl at p f l pl ⊢;obtain⟨es2,t3,gv⟩:=Rl;dsimp only at p f l pl ⊢;have z2:es2.size=es1.size:=by rw[<-hBr,p.length_eq,hBr]
  obtain⟨ss2,q1,q2⟩:=qFl e2 p;refine hDq (hg _ _ _ (hDq (wpAny_storeSet_of o1 rfl ?_ (hEj (by rw[z2];exact e3)))));have o2:((s.heap.update a (Obj.putSet es1 t2)).update a (Obj.putSet es2 t3)).get? a=_:=qHl (s:={ s with heap:=s.heap.update a (Obj.putSet es1 t2) }) o1;exact hDt (h _ ss2 (b1.trans (Heap.SameBut.update _ a _)) ⟨es2,_,t3,o2,e1.perm p,q1,by rw[z2];exact e3,f,l.trans e5,λ_=>pl⟩ q2)
 ·exact hDt (h _ ss1 b1 ⟨es1,_,t2,o1,e1,e2,e3,e4,e5,λ_=>e6⟩ (List.Perm.refl _))
theorem qMa(hS:qBq P w s.heap a ss)(room:ss.length+1<scanBound)
  (h:∀h' ss',Heap.SameBut a s.heap h'->qBq P w h' a ss'->(if x∈ss then ss'=ss else ss'.Perm (ss++[x]))->Q (!decide (x∈ss)) { s with heap:=h' }) :
  wpAny (model P w) A (setAddHashed a (.str x tk) ((PySem.strKind P w).hash x)) Q E s:=by
 obtain⟨es,ep,t,ho,e1,e2,e3,e4,e5,e6⟩:=hS;have hk:(PySem.strKind P w).is x (.str x tk)=true:=strKind_is P w x tk;have hsc:Value.scannable (.str x tk)=true:=rfl;have hz:ss.length=es.size:=by rw[<-e2.strs,hA1,hA1,hBr]
 unfold setAddHashed setAddHashedIn;refine hDx (hDq (hE6 ho rfl e4 ?_));dsimp only;rw[byScan_of hsc e3 e1,hDw rfl];unfold setAddByScan;refine hDq (hDq (wpAny_rule (hDq (wpAny_setScan_of hk ho rfl e4 e1 ?_))));cases hr:List.findIdx? (λe=>(PySem.strKind P w).is x e.2) es.toList with
 |some j =>
  dsimp only;obtain⟨hj,hp,_⟩:=List.findIdx?_eq_some_iff_getElem.mp hr;have hm:x∈ss:=(qH5 e2).mp ⟨_,hB3 (hBl hj),hp⟩;have q:=h s.heap ss (Heap.SameBut.refl a _) ⟨es,ep,t,ho,e1,e2,e3,e4,e5,e6⟩ (by rw[hDw hm]);rw[hDr hm]at q;exact hDt (hDt q)
 |none =>
  dsimp only;have hm:¬x∈ss:=λz=>by
   obtain⟨v,hv,hp⟩:=(qH5 e2).mpr z;obtain⟨e,he,rfl⟩:=hAb.mp hv;have q:=List.findIdx?_eq_none_iff.mp hr e he;rw[show(PySem.strKind P w).is x e.2=true from hp]at q;cases q
  have gw:∀(b:Bool) (s1:Shared) (Q':Unit->Shared->Prop),Q' () s1->wpAny (model P w) A (match b with|true=>rule "set.scan.the-table-gave-way" |false=>pure ()) Q' E s1:=λb s1 Q' hq=>by
   cases b
   ·exact hDt hq
   ·exact wpAny_rule hq
  have p:=layNew_perm t es ((PySem.strKind P w).hash x) (.str x tk);have f:=layNew_fits t es ((PySem.strKind P w).hash x) (.str x tk);have l:=qOp t es ((PySem.strKind P w).hash x) (.str x tk);generalize layNew t es ((PySem.strKind P w).hash x) (.str x tk)=L at p f l ⊢;obtain⟨es1,t1,wasD,gv⟩:=L;dsimp only at p f l ⊢;rw[Array.toList_push]at p;have d1:ElemsOf (PySem.strKind P w) es1.toList:=(e1.push hk hsc).perm p;obtain⟨ss1,d2,d3⟩:=qO7 e2 p;have z1:es1.size=es.size+1:=by rw[<-hBr,p.length_eq,hA9,hBr];rfl
  have d4:es1.size<scanBound:=by rw[z1,<-hz];exact room
  have fin:∀h' ss',Heap.SameBut a s.heap h'->qBq P w h' a ss'->ss'.Perm ss1->Q true { s with heap:=h' }:=λh' ss' b1 b2 b3=>by
   have q:=h h' ss' b1 b2 (by rw[hDv hm];exact b3.trans d3);rw[hDs hm]at q;exact q
  refine hDq (gw _ _ _ ?_);split
  ·rename_i hpl;refine hDq ?_;rw[hashByValue_scannable 8 hsc];refine hDt ?_;refine qJj gw ho d1 d2 d4 (SetTable.fits_plain_off f) (l.trans e5) rfl λh' ss' b1 b2 b3=>?_
   exact hDt (fin h' ss' b1 b2 b3)
  ·rename_i hpl;refine hDq (hDt ?_);rw[hDw rfl];refine qJj gw ho d1 d2 d4 f (l.trans e5) (by simpa using hpl) λh' ss' b1 b2 b3=>?_
   exact hDt (fin h' ss' b1 b2 b3)
end
theorem qBq.at(x:qBq P w h a ss)(k:∀o,h.get? a=some o->h'.get? a=some o):qBq P w h' a ss:=by
 obtain⟨es,ep,t,ho,r⟩:=x;exact⟨es,ep,t,k _ ho,r⟩
def qRv(val:Nat->Str)(i:Nat)(ss:List Str):Prop:=ss.Nodup/\ss.length<=i/\∀x,x∈ss↔∃j,j<i/\val j=x
theorem qRv.zero(val:Nat->Str):qRv val 0 []:=⟨List.nodup_nil,hA3 _,λx=>by simp⟩
theorem qRv.next(h:qRv val i ss)(e:if val i∈ss then ss'=ss else ss'.Perm (ss++[val i])):qRv val (i+1) ss':=by
 obtain⟨h1,h2,h3⟩:=h;by_cases hm:val i∈ss
 ·rw[hDw hm]at e;subst e;refine⟨h1,by omega,λx=>(h3 x).trans ⟨λ⟨j,a,b⟩=>⟨j,by omega,b⟩,λ⟨j,a,b⟩=>?_⟩⟩;by_cases hj:j<i
  ·exact⟨j,hj,b⟩
  ·have:j=i:=by omega
   subst this;subst b;exact(h3 _).mp hm
 ·rw[hDv hm]at e;refine⟨e.nodup_iff.mpr ?_,?_,λx=>?_⟩
  ·rw[List.nodup_append];exact⟨h1,by simp,λy hy z hz=>by rw[hAe]at hz;subst hz;rintro rfl;exact hm hy⟩
  ·rw[e.length_eq,hA9]
   simpa using h2
  ·rw[e.mem_iff,hAf,h3 x,hAe];constructor
   ·rintro(⟨j,a,b⟩|rfl)
    ·exact⟨j,by omega,b⟩
    ·exact⟨i,by omega,rfl⟩
   ·rintro⟨j,a,b⟩;by_cases hj:j<i
    ·exact .inl ⟨j,hj,b⟩
    ·have:j=i:=by omega
     subst this;exact .inr b.symm
section
variable{P:Program}{w:World}{A:Around}{R:Result->Shared->Prop}{I:Addr}{fp wr:List Addr}{G:Array GenState->Array GenState->Prop}{n:Nat}{Pv:Nat->Value->Prop}{St:Nat->Shared->Prop}
theorem qO4(W:WalksS P w A.in1 I fp wr G n Pv St)(S:Addr)(nS:S∉fp)(val:Nat->Str)(hv:∀i v,Pv i v->∃t,v = .str (val i) t)(nb:n+1<scanBound):∀(k i:Nat) (s:Shared) (ss:List Str),n-i=k->i<=n->St i s->qBq P w s.heap S ss->qRv val i ss ->
  (∀s' ss',Moved (S :: wr) G s s'->qBq P w s'.heap S ss'->qRv val n ss'->R (.ok (.ret .none)) s')->codeAny (model P w) A (.builtin "set.update.loop" ⟨[.ref S,.ref I],[]⟩) R s:=by
 have nw:S∉wr:=λz=>nS (W.sub _ z)
 have sub:∀b∈wr,b∈S :: wr:=λb z=>hA4 _ z
 intro k
 induction k with
 |zero =>
  intro i s ss hk hi st hS ho r;have e:i=n:=by omega
  subst e;refine hE7 PyProof.Rows.F.entry_set_update_loop ?_;rw[Around.under_plainId PyProof.Rows.F.plain_set_update_loop _];show wpAny _ A.in1 (pyNext (.ref I) >>= _) _ _ _;refine hDq (W.done s _ _ st λs1 m1=>hDt (r s1 ss (m1.mono sub) (hS.at λo z=>m1.heap S o nw z) ho))
 |succ k ih =>
  intro i s ss hk hi st hS ho r;have lt:i<n:=by omega
  refine hE7 PyProof.Rows.F.entry_set_update_loop ?_;rw[Around.under_plainId PyProof.Rows.F.plain_set_update_loop _];show wpAny _ A.in1 (pyNext (.ref I) >>= _) _ _ _;refine hDq (W.item i s _ _ lt st λv s1 pv st1 m1=>?_);obtain⟨t,rfl⟩:=hv i v pv;have hS1:qBq P w s1.heap S ss:=hS.at λo z=>m1.heap S o nw z
  show wpAny _ A.in1 (holding [Value.str (val i) t] (setAdd S (.str (val i) t)) >>= _) _ _ s1;refine hDq (hDx ?_);unfold setAdd;refine hDx (hDq ((PySem.strKind P w).pyHash (strKind_is P w _ _) ?_));refine qMa (s:={ s1 with toks:=s1.toks+1 }) hS1 (by have:=ho.2.1;omega) λh2 ss2 sb2 hS2 q2=>?_
  refine hDt ⟨plainId_quiet PyProof.Rows.F.plain_set_update_loop _,ih (i+1) _ ss2 (by omega) lt (W.frame _ s1 _ _ st1 (hB8 _) λb hb o e=>?_) hS2 (ho.next q2) λs3 ss3 m3 hS3 o3=>?_⟩
  ·rw[sb2.2 b (λz:b=S=>nS (by rw[<-z];exact hb))];exact e
  ·refine r s3 ss3 (Moved.trans W.gtrans ((m1.mono sub).then_heap (hB8 _) λb o hb e=>?_) m3) hS3 o3;rw[sb2.2 b (λz:b=S=>hb (by rw[z];exact hA5))];exact e
end
section
variable{P:Program}{w:World}{A:Around}{E:Value->Shared->Prop}{s:Shared}
abbrev qN7(w:World):Obj:={ cls:=.type "set",dict:=none,data:=.set #[] 0 (.fresh 0 0 (!w.params.followText "set-order")),slots:=#[] }
theorem qPq(P:Program)(w:World)(e:h.get? a=some (qN7 w)):qBq P w h a []:=⟨#[],0,_,e,λe he=>by simp at he,.nil,by show 0<scanBound;decide,by rfl,rfl,λz=>absurd rfl z⟩
theorem qRn(v:Value)(h:Q1 (.ref s.heap.objs.size) { s with heap:=s.heap.push (qN7 w) }):codeAny (model P w) A (.call (.builtin "set.__new__") ⟨[.type "set",v],[]⟩) (wants Q1 E) s:=by
 refine codeAny_of_tree ?_;show wpAny _ A.in1 (do checkBuiltinCall "set.__new__" ⟨[.type "set",v],[]⟩;again (.builtin "set.__new__" ⟨[.type "set",v],[]⟩)) _ _ s;refine hDq (wpAny_of_eq (PySem.F.newCall_set_1 v) (hDt ⟨plainId_quiet PySem.F.plain_set_new _,hE7 PySem.F.entry_set_new ?_⟩));rw[Around.under_plainId PySem.F.plain_set_new _];unfold Builtin.«set.__new__» Builtin.Frozenset.newClass;have hsub:=sub_set_self;obtain⟨hp,g,d,tk,os⟩:=s;dsimp only
 wp_walk
 refine hE3 (hDt ?_);dsimp only;simp only[newObj];exact hDq (wpAny_alloc (hDt (hDt h)))
theorem qRo(hh:A.handled=none)(hl:s.heap.IsList l items)(hi:StrsAre items.toList ss0)(hb:items.size+1<scanBound)
  (h:∀(h':Heap) (tk:Nat) (ss:List Str),qBq P w h' s.heap.objs.size ss->qRv (λi=>ss0.getD i default) items.size ss->(∀b o,b<s.heap.objs.size->s.heap.get? b=some o->h'.get? b=some o)->Q (.ref s.heap.objs.size) { s with heap:=h',toks:=tk }) :
  wpAny (model P w) A (call (.type "set") [.ref l]) Q E s:=by
 obtain⟨c,tl,hmro⟩:=hC8.mro;have hmade:=hC8.made;have hsub:=hC8.sub;refine wpAny_call (codeAny_of_tree ?_);show wpAny _ _ (callAny (.type "set") _) _ _ _;refine hDt ⟨Code.quiet_builtin _ (by decide +kernel),hE7 PySem.F.entry_type_call ?_⟩;rw[Around.under_plain (weight_type_call_type "set" [.ref l] []) rfl];have h1:=hC8.notType;have h2:=hC8.canCreate;have hct:=PySem.F.typeCall_set_1 (.ref l)
 repeat (any_goals (first|assumption|wp_step))
 refine hEm (qRn (.ref l) (E:=E) (Q1:=λobj s1=>obj = .ref s.heap.objs.size/\s1={ s with heap:=s.heap.push (qN7 w) }) ⟨rfl,rfl⟩) λr s1 hr=>?_
 cases r with
 |error e=>exact hr
 |ok fl =>
  cases fl with
  |ret obj =>
   obtain⟨rfl,rfl⟩:=hr;have hS:(s.heap.push (qN7 w)).get? s.heap.objs.size=some (qN7 w):=Heap.get?_push_size _ rfl;have hT:Shared.TypeIs { s with heap:=s.heap.push (qN7 w) } (.ref s.heap.objs.size) "set":=⟨_,hS,rfl⟩;have hli:=hC8.init.lookup;have hbi:=hC8.init.bind (.ref s.heap.objs.size)
   repeat (any_goals (first|assumption|wp_step))
   refine hEm (codeAny_call_builtin (R:=wants (λr s2=>r = .none/\∃h' tk ss,s2={ s with heap:=h',toks:=tk }/\qBq P w h' s.heap.objs.size ss/\qRv (λi=>ss0.getD i default) items.size ss /\
     (∀b o,b<s.heap.objs.size->s.heap.get? b=some o->h'.get? b=some o)) E) hC8.init.plain PySem.F.entry_set_init (check_set_init_1 hT ?_)) λr2 s2 hr2=>?_
   ·obtain⟨ol,hol,hcl,nl,hdl⟩:=hl;obtain⟨ocls,odict,odata,oslots⟩:=ol;simp only at hcl hdl;subst hcl;subst hdl;have hol':(s.heap.push (qN7 w)).get? l=some { cls:=.type "list",dict:=odict,data:=.seq items nl,slots:=oslots }:=Heap.get?_push_of_some _ hol;have hsls:=PySem.F.sub_list_set;have hslf:=PySem.F.sub_list_frozenset;have hne:(Value.type "list" == Value.type "dict")=false:=by decide
    have hl1:(s.heap.push (qN7 w)).IsList l items:=⟨_,hol',rfl,nl,rfl⟩;unfold Builtin.«set.__init__» noKeywords Builtin.Frozenset.updateFrom;generalize hPI:pyIter=PI
    wp_walk
    subst hPI;refine hEi hl1 (hDq (wpAny_runValue ?_));have lS:l<s.heap.objs.size:=Heap.lt_size hol;have h3:A.in1.in1.in1.handled=none:=by simp[hh]
    have nI:l≠(s.heap.push (qN7 w)).objs.size:=by
     rw[Heap.size_push];exact hAt (hBp lS)
    have nF:s.heap.objs.size∉[(s.heap.push (qN7 w)).objs.size,l]:=by
     rw[Heap.size_push];simp only[hAc,hAe,hBf,hEa,not_or];exact⟨hAt (hBk _),hDn lS⟩
    have hval:∀(i:Nat) (v:Value),items[i]?=some v->∃t,v = .str ((λi=>ss0.getD i default) i) t:=λi v hv=>by
     have hv':items.toList[i]?=some v:=by rw[hBv];exact hv
     obtain⟨x,t,rfl⟩:=hi.all v (hAd hv');refine⟨t,?_⟩;have e:=congrArg (λz=>z[i]?) hi.strs;simp only[hAj,hv']at e;show Value.str x t=Value.str (ss0.getD i default) t;rw[hA8,<-e];rfl
    refine qO4 ((Walks.list h3 _ l nI items).toS) s.heap.objs.size nF (λi=>ss0.getD i default) hval hb (items.size-0) 0 _ [] (by omega) (hAs _) ⟨⟨_,Heap.get?_push_size _ rfl,rfl,rfl⟩,(hl1.push _)⟩ (qPq P w (Heap.get?_push_of_some _ hS)) (qRv.zero _) λs' ss' hm hS' hO=>?_
    obtain⟨h',g',d',tk',os'⟩:=s';cases(show g'=s.gens from hm.gens);cases(show d'=s.drawn from hm.drawn);cases(show os'=s.os from hm.os);show wpAny _ _ _ _ _ _;refine hDt ?_;show wpAny _ _ (ret Value.none) _ _ _;refine hDt ⟨rfl,h',tk',ss',rfl,hS',hO,λb o hb e=>?_⟩;have b1:b≠s.heap.objs.size:=hAt hb;have b2:b≠(s.heap.push (qN7 w)).objs.size:=by
     rw[Heap.size_push];exact hAt (hBp hb)
    exact hm.heap b o (by simp only[hAc,hAe,hBf,hEa,not_or];exact⟨b1,b2⟩) (Heap.get?_push_of_some _ (Heap.get?_push_of_some _ e))
   ·cases r2 with
    |error e=>exact hr2
    |ok fl2 =>
     cases fl2 with
     |ret r =>
      obtain⟨rfl,h',tk,ss,rfl,hS',hO,hk'⟩:=hr2
      repeat (any_goals (first|assumption|wp_step))
      exact h _ _ _ hS' hO hk'
     |_=>exact hr2.elim
  |_=>exact hr.elim
end
namespace FS
theorem entry_set_iter':entryFor table "set.__iter__"=some Builtin.«frozenset.__iter__»:=entryFor_alias (id':="frozenset.__iter__") (by kernel_rfl) rfl (by decide +kernel) (by kernel_rfl)
theorem slot_sin:Slot "set_iterator" "__next__" "set_iterator.__next__":=.of (owner:="set_iterator") (n:="__next__") (by rw[typeLookup_type,builtinLookup_eq_fast];kernel_rfl) (by decide +kernel) (by decide +kernel) (by decide +kernel) (by first|exact .inl (by decide +kernel)|exact .inr (by decide +kernel)) (by rw[isSubtype_type];kernel_rfl)
theorem entry_sin:entryFor table "set_iterator.__next__"=some Builtin.«set_iterator.__next__»:=entryFor_of_tree (by kernel_rfl)
theorem qM8:Manifest.owners.lookup (String.ofList ['r','o','t','a','r','e','t','i','_','t','e','s'].reverse)=some Manifest.sig_set_iterator:=by kernel_rfl
theorem args_sin(a:Value):argsOk "set_iterator.__next__" ⟨[a],[]⟩:=by
 unfold argsOk;rw[signature?_of (id:="set_iterator.__next__") (n:=['_','_','t','x','e','n','_','_']) (o:=['r','o','t','a','r','e','t','i','_','t','e','s']) (by kernel_rfl) qM8];kernel_rfl
theorem slot_sii:Slot "set_iterator" "__iter__" "set_iterator.__iter__":=.of (owner:="set_iterator") (n:="__iter__") (by rw[typeLookup_type,builtinLookup_eq_fast];kernel_rfl) (by decide +kernel) (by decide +kernel) (by decide +kernel) (by first|exact .inl (by decide +kernel)|exact .inr (by decide +kernel)) (by rw[isSubtype_type];kernel_rfl)
theorem entry_sii:entryFor table "set_iterator.__iter__"=some Builtin.«dict_keyiterator.__iter__»:=entryFor_alias (id':="dict_keyiterator.__iter__") (by kernel_rfl) (by first|rfl|decide +kernel|(unfold String.splitOn;simp +decide [String.splitOnAux])) (by decide +kernel) (by kernel_rfl)
theorem args_sii(a:Value):argsOk "set_iterator.__iter__" ⟨[a],[]⟩:=by
 unfold argsOk;rw[signature?_of (id:="set_iterator.__iter__") (n:=['_','_','r','e','t','i','_','_']) (o:=['r','o','t','a','r','e','t','i','_','t','e','s']) (by kernel_rfl) qM8];kernel_rfl
end FS
theorem qFt:∀(l:List α) (i:Nat) (x:α),l[i]?=some x->(x :: l.eraseIdx i).Perm l
 |[],i,x,h=>by simp at h
 |y :: l,0,x,h=>by simp at h;subst h;exact List.Perm.refl _
 |y :: l,i+1,x,h=>by
  have q:=qFt l i x (by simpa using h);rw[List.eraseIdx_cons_succ];exact(List.Perm.swap y x _).trans (q.cons y)
section
variable{M:Model}{A:Around}{E:Value->Shared->Prop}{s:Shared}
theorem qOv(hn:n≠0)(h:∀i d,i<n->Q i { s with drawn:=d }):wpAny M A (choose src n) Q E s:=fun Γ p _=>⟨hn,h _ _ (Nat.mod_lt _ (Nat.pos_of_ne_zero hn))⟩
theorem qFw:∀(n:Nat) (xs:List α) (s:Shared) (Q:List α->Shared->Prop),xs.length=n->(∀ys d,ys.Perm xs->Q ys { s with drawn:=d })->wpAny M A (drawOrder n xs) Q E s
 |0,xs,s,Q,hl,h=>by
  have e:xs=[]:=List.length_eq_zero_iff.mp hl;subst e;exact hDt (h [] s.drawn (List.Perm.refl _))
 |n+1,[],s,Q,hl,h=>by simp at hl
 |n+1,y :: ys,s,Q,hl,h=>by
  show wpAny M A (choose .order (y :: ys).length >>= _) Q E s;refine hDq (qOv (by simp) λi d hi=>?_);have e:(y :: ys)[i]?=some (y :: ys)[i]:=hA2 hi;rw[e];dsimp only;have p:=qFt (y :: ys) i _ e;refine hDq (qFw n ((y :: ys).eraseIdx i) _ _ ?_ λzs d2 pz=>hDt (h _ d2 ((pz.cons _).trans p)));have:=p.length_eq;simp only[hB2]at this hl ⊢;omega
end
theorem qQf(next:Nat->Nat):∀(n k:Nat) (left:List α) (out:Array α),left.length=n->(pickOrder.go next n k left out).toList.Perm (out.toList++left)
 |0,k,left,out,hl=>by
  have e:left=[]:=List.length_eq_zero_iff.mp hl;subst e;rw[pickOrder.go,hC7]
 |n+1,k,left,out,hl=>by
  rw[pickOrder.go];have hi:next k % left.length<left.length:=Nat.mod_lt _ (by omega);have e:left[next k % left.length]?=some left[next k % left.length]:=hA2 hi;rw[e];dsimp only;have p:=qFt left _ _ e;have l:=p.length_eq;simp only[hB2]at l;refine(qQf next n (k+1) _ _ (by omega)).trans ?_;rw[Array.toList_push,List.append_assoc];exact List.Perm.append_left _ p
theorem pick_perm(next:Nat->Nat)(xs:Array α):(pickOrder next xs).toList.Perm xs.toList:=by
 have q:=qQf next xs.size 0 xs.toList #[] (by simp)
 simpa [pickOrder] using q
section
variable{P:Program}{w:World}{A:Around}{E:Value->Shared->Prop}{s:Shared}{a:Addr}{es:Array (Int×Value)}{ep:Nat}{t:SetTable}
theorem qKu(ho:s.heap.get? a=some { cls:=.type "set",dict:=none,data:=.set es ep t,slots:=#[] })(hf:t.fits es.size=true)(h:Q (!w.params.followText "set-order" && (!t.plain && decide (es.size > 1))) s):wpAny (model P w) A (setDrawn a) Q E s:=by
 unfold setDrawn;refine hDq (hE6 ho rfl hf ?_);unfold setsByText;exact hDq (hDq (hE3 (hDt (hDt h))))
theorem qKs(ho:s.heap.get? a=some { cls:=.type "set",dict:=none,data:=.set es ep t,slots:=#[] })(hf:t.fits es.size=true)(hb:w.params.followText "set-order"=true)
  (h:Q (((pickOrder (w.params.setOrder a ep) es)[i]?).map λe=>(e.2,slot)) s):wpAny (model P w) A (setNext a slot i ep) Q E s:=by
 unfold setNext;refine hDq (hE6 ho rfl hf ?_);unfold setsByText;refine hDq (hDq (hE3 (hDt ?_)));show wpAny _ _ (if (w.params.followText "set-order")=true then _ else _) _ _ _;rw[hDw hb];rw[hDv (by simp)];unfold setWalk;refine hDq (hDq (hE6 ho rfl hf ?_));unfold setsByText;refine hDq (hDq (hE3 (hDt ?_)));show wpAny _ _ (if (w.params.followText "set-order")=true then _ else _) _ _ _;rw[hDw hb];exact hDq (hE3 (hDt (hDt h)))
theorem qKt(ho:s.heap.get? a=some { cls:=.type "set",dict:=none,data:=.set es ep t,slots:=#[] })(hf:t.fits es.size=true)(hb:w.params.followText "set-order"=false)(h1:es.size<=1)(hl:t.led=true)
  (h:Q (match es[SetTable.below t.place slot]?,t.place[SetTable.below t.place slot]? with|some (_,x),some j=>some (x,j+1)|_,_=>none) s):wpAny (model P w) A (setNext a slot i ep) Q E s:=by
 unfold setNext;refine hDq (hE6 ho rfl hf ?_);unfold setsByText;refine hDq (hDq (hE3 (hDt ?_)));show wpAny _ _ (if (w.params.followText "set-order")=true then _ else _) _ _ _;rw[hDv (by rw[hb];exact hAm)];show wpAny _ _ (if (!t.plain && decide (es.size > 1))=true then _ else _) _ _ _;rw[hDv (by rw[hBe];rintro⟨_,z⟩;have:=hDu z;omega)];refine hDq ?_;show wpAny _ _ (if (!t.led && !es.isEmpty)=true then _ else _) _ _ _;rw[hDv (by rw[hl];simp)];exact hDt (hDt h)
end
end L2
namespace L2
open PySem PySem.Spec PyProof.Rows
abbrev sIt(a:Addr)(f0:Value)(i n ep:Nat):Obj:={ cls:=.type "set_iterator",dict:=none,data:=.fields #[f0,rawInt i,.ref a,rawInt n,rawInt ep],slots:=#[] }
abbrev sOb(es:Array (Int×Value))(ep:Nat)(t:SetTable):Obj:={ cls:=.type "set",dict:=none,data:=.set es ep t,slots:=#[] }
section
variable{P:Program}{w:World}{A:Around}{E:Value->Shared->Prop}{s:Shared}{a I:Addr}{es:Array (Int×Value)}{ep:Nat}{t:SetTable}
theorem qMn{T:Obj}{Q:Fin->Shared->Prop}{f0:Value}{i n:Nat}{pre:Sem Unit}(hh:A.handled=none)(hI:s.heap.get? I=some (sIt a f0 i n ep))
  (hp:∀ {Q':Unit->Shared->Prop},(∀h1,Heap.SameBut I s.heap h1->(∃g0,h1.get? I=some (sIt a g0 i n ep))->Q' () { s with heap:=h1 })->wpAny (model P w) A pre Q' E s)
  (hE:∀h' e,Heap.ExtBut I s.heap h'->(∃o,h'.get? e=some o/\o.cls = .type "StopIteration")->E (.ref e) { s with heap:=h' }) :
  wpAny (model P w) A (do pre;setField (.ref I) 2 .none;raiseNew (← newExc (.type "StopIteration") [])) Q E s:=by
 refine hDq (hp λh1 b1 hg=>?_);obtain⟨g0,hI1⟩:=hg;refine hDq (hEb hI1 (by simp) λh2 hI2 b2=>?_);show wpAny _ _ (newExc (.type "StopIteration") [] >>= λe=>raiseNew e) _ _ _;refine hDq ?_;simp only[newExc,newTuple];refine hDq (hE2 ?_ (by size_fits));refine hDq (m:=firstArgMember _ _) (wpAny_of_eq (a:=Value.none) (by first|rfl|(simp only[firstArgMember];rfl)) ?_);refine hE2 ?_ (by size_fits);simp only[raiseNew];refine hDq (wpAny_handled ?_);rw[hh];exact hDq (hDt (wpAny_throw (hE _ _ (((b1.trans b2).extBut.push _).push _) ⟨_,Heap.get?_push_size _ rfl,rfl⟩)))
end
section
variable{P:Program}{w:World}{a I:Addr}{es:Array (Int×Value)}{ep:Nat}{t:SetTable}
theorem qJc(hne:a≠I)(hf:t.fits es.size=true)(order:List Value)(sl:Nat->Nat)
  (nx:∀(A:Around) (E:Value->Shared->Prop) (s:Shared) (Q:Option (Value×Nat)->Shared->Prop) (i:Nat),i<=order.length->s.heap.get? a=some (sOb es ep t)->Q ((order[i]?).map λx=>(x,sl (i+1))) s->wpAny (model P w) A (setNext a (sl i) i ep) Q E s) :
  ∀A:Around,A.handled=none->Walks P w A I [I,a] [I] order.length (λi v=>order[i]?=some v) (λi h=>h.get? I=some (sIt a (rawInt (sl i)) i es.size ep)/\h.get? a=some (sOb es ep t)):=λA hh=>{
 sub:=λb hb=>by simp at hb ⊢;exact .inl hb
 frame:=λi h h' st k=>⟨k I (by simp) _ st.1,k a (by simp) _ st.2⟩
 item:=λi s Q E hi st hQ=>by
  obtain⟨hI,ho⟩:=st;have hT:s.TypeIs (.ref I) "set_iterator":=⟨_,hI,rfl⟩;unfold pyNext;refine hDq (hEg (wpAny_callSpecial?_slot (name:=Str.ofString "__next__") hT FS.slot_sin (hDz FS.slot_sin hT FS.entry_sin ?_ (FS.args_sin _))));unfold Builtin.«set_iterator.__next__»;refine hDq (hDt (hDq (hEn hI rfl ?_)));show wpAny _ _ (setEntries a >>= _) _ _ _;refine hDq (hE9 ho rfl hf ?_);rw[hDv (by simp)];show wpAny _ _ (setNext a (sl i) i ep >>= _) _ _ _;refine hDq (nx _ _ s _ i (hB1 hi) ho ?_);rw[hA2 hi];show wpAny _ _ (setField (.ref I) 0 (rawInt (sl (i+1))) >>= _) _ _ _;refine hDq (hEb hI (by simp) λh1 hI1 b1=>hDq (hEb hI1 (by simp) λh2 hI2 b2=>?_));refine hDt ⟨_,rfl,hDt (hQ _ h2 s.toks (hA2 hi) ⟨hI2,?_⟩ λb o hb e=>?_)⟩
  ·exact b2.extBut _ _ hne (b1.extBut _ _ hne ho)
  ·have nb:b≠I:=by simpa using hb
   exact b2.extBut _ _ nb (b1.extBut _ _ nb e)
 done:=λs Q E st hQ=>by
  obtain⟨hI,ho⟩:=st;have hT:s.TypeIs (.ref I) "set_iterator":=⟨_,hI,rfl⟩;unfold pyNext;refine hDq (hEg (wpAny_callSpecial?_slot (name:=Str.ofString "__next__") hT FS.slot_sin (hDz FS.slot_sin hT FS.entry_sin ?_ (FS.args_sin _))));unfold Builtin.«set_iterator.__next__»;refine hDq (hDt (hDq (hEn hI rfl ?_)));show wpAny _ _ (setEntries a >>= _) _ _ _;refine hDq (hE9 ho rfl hf ?_);rw[hDv (by simp)];show wpAny _ _ (setNext a (sl order.length) order.length ep >>= _) _ _ _;refine hDq (nx _ _ s _ order.length (hA3 _) ho ?_);rw[hBd (hA3 _)];refine qMn (pre:=pure ()) (T:=sOb es ep t) (by exact hh) hI (λq=>hDt (q _ (Heap.SameBut.refl ..) ⟨_,hI⟩)) λh' e k he=>?_
  obtain⟨oe,h1,h2⟩:=he;refine hDq (wpAny_isInstance (T:="StopIteration") (b:=true) ⟨oe,h1,h2⟩ isSubtype_stop (hDt (hQ _ s.toks λb o hb e=>k _ _ (by simpa using hb) e)))
 self:=λi s Q E st hQ=>by
  have hT:s.TypeIs (.ref I) "set_iterator":=⟨_,st.1,rfl⟩;refine wpAny_pyIter_slot hT FS.slot_sii (hDz FS.slot_sii hT FS.entry_sii ?_ (FS.args_sii _));exact hDt ⟨_,rfl,"set_iterator",_,hT,FS.slot_sin.lookup,hQ⟩ }
end
abbrev tOb(xs:Array Value):Obj:={ cls:=.type "tuple",data:=.seq xs }
section
variable{P:Program}{w:World}{a I T:Addr}{es:Array (Int×Value)}{ep:Nat}{t:SetTable}
theorem qOy(hne:a≠I)(hT0:T≠I)(hf:t.fits es.size=true)(ps:List Nat)(order:List Value)(hl:order.length=ps.length)(hp:∀(i p:Nat),ps[i]?=some p->∃k x,es[p]?=some (k,x)/\order[i]?=some x) :
  ∀A:Around,A.handled=none->Walks P w A I [I,a,T] [I] order.length (λi v=>order[i]?=some v) (λi h=>h.get? I=some (sIt a (.ref T) i es.size ep)/\h.get? a=some (sOb es ep t)/\h.get? T=some (tOb (ps.map λ(p:Nat)=>rawInt p).toArray)):=λA hh=>{
 sub:=λb hb=>by simp at hb ⊢;exact .inl hb
 frame:=λi h h' st k=>⟨k I (by simp) _ st.1,k a (by simp) _ st.2.1,k T (by simp) _ st.2.2⟩
 item:=λi s Q E hi st hQ=>by
  obtain⟨hI,ho,hTt⟩:=st;have hT:s.TypeIs (.ref I) "set_iterator":=⟨_,hI,rfl⟩;unfold pyNext;refine hDq (hEg (wpAny_callSpecial?_slot (name:=Str.ofString "__next__") hT FS.slot_sin (hDz FS.slot_sin hT FS.entry_sin ?_ (FS.args_sin _))));unfold Builtin.«set_iterator.__next__»;refine hDq (hDt (hDq (hEn hI rfl ?_)));show wpAny _ _ (setEntries a >>= _) _ _ _;refine hDq (hE9 ho rfl hf ?_);rw[hDv (by simp)];show wpAny _ _ (seqItems? (.ref T) >>= _) _ _ _;refine hDq (wpAny_seqItems hTt rfl ?_);have hip:i<ps.length:=by rw[<-hl];exact hi
  obtain⟨k,x,h1,h2⟩:=hp i _ (hA2 hip);have e1:((ps.map λ(p:Nat)=>rawInt p).toArray)[i]?=some (rawInt ((ps[i]:Nat):Int)):=by simp[hip]
  show wpAny _ _ (match ((ps.map λ(p:Nat)=>rawInt p).toArray)[((i:Int)).toNat]? with|some (.int place _)=>_|some _=>_|none=>_) _ _ _;rw[hBa,e1];show wpAny _ _ (setNextDrawn a ps[i] ep >>= _) _ _ _;unfold setNextDrawn;refine hDq (hDq (hE6 ho rfl hf ?_));dsimp only;rw[hDv (by simp),h1];refine hDt (hDq (hEb hI (by simp) λh3 hI3 b3=>?_));refine hDt ⟨_,rfl,hDt (hQ _ h3 s.toks h2 ⟨hI3,b3.extBut _ _ hne ho,b3.extBut _ _ hT0 hTt⟩ λb o hb e=>b3.extBut _ _ (by simpa using hb) e)⟩
 done:=λs Q E st hQ=>by
  obtain⟨hI,ho,hTt⟩:=st;have hT:s.TypeIs (.ref I) "set_iterator":=⟨_,hI,rfl⟩;unfold pyNext;refine hDq (hEg (wpAny_callSpecial?_slot (name:=Str.ofString "__next__") hT FS.slot_sin (hDz FS.slot_sin hT FS.entry_sin ?_ (FS.args_sin _))));unfold Builtin.«set_iterator.__next__»;refine hDq (hDt (hDq (hEn hI rfl ?_)));show wpAny _ _ (setEntries a >>= _) _ _ _;refine hDq (hE9 ho rfl hf ?_);rw[hDv (by simp)];show wpAny _ _ (seqItems? (.ref T) >>= _) _ _ _;refine hDq (wpAny_seqItems hTt rfl ?_);have e1:((ps.map λ(p:Nat)=>rawInt p).toArray)[order.length]?=none:=by simp[hl]
  show wpAny _ _ (match ((ps.map λ(p:Nat)=>rawInt p).toArray)[((order.length:Int)).toNat]? with|some (.int place _)=>_|some _=>_|none=>_) _ _ _;rw[hBa,e1];refine qMn (pre:=setField (.ref I) 0 (rawInt 0)) (T:=sOb es ep t) (by exact hh) hI (λq=>hEb hI (by simp) λh1 hI1 b1=>q _ b1 ⟨_,hI1⟩) λh' e k he=>?_
  obtain⟨oe,h1,h2⟩:=he;refine hDq (wpAny_isInstance (T:="StopIteration") (b:=true) ⟨oe,h1,h2⟩ isSubtype_stop (hDt (hQ _ s.toks λb o hb e=>k _ _ (by simpa using hb) e)))
 self:=λi s Q E st hQ=>by
  have hT:s.TypeIs (.ref I) "set_iterator":=⟨_,st.1,rfl⟩;refine wpAny_pyIter_slot hT FS.slot_sii (hDz FS.slot_sii hT FS.entry_sii ?_ (FS.args_sii _));exact hDt ⟨_,rfl,"set_iterator",_,hT,FS.slot_sin.lookup,hQ⟩ }
end
theorem qTm(h:j<=p):SetTable.below #[p] j=0:=by
 unfold SetTable.below;show SetTable.below.go #[p] j 1 0 1=0;unfold SetTable.below.go;have e:¬(#[p]:Array Nat).getD ((0+1) / 2) j<j:=by show ¬p<j;omega
 rw[hDw (by decide)];dsimp only;rw[hDv e];rfl
theorem qTn(h:p<j):SetTable.below #[p] j=1:=by
 unfold SetTable.below;show SetTable.below.go #[p] j 1 0 1=1;unfold SetTable.below.go;have e:(#[p]:Array Nat).getD ((0+1) / 2) j<j:=by show p<j;omega
 rw[hDw (by decide)];dsimp only;rw[hDw e];rfl
theorem qRs(j:Nat):SetTable.below #[] j=0:=rfl
section
variable{P:Program}{w:World}{A:Around}{E:Value->Shared->Prop}{s:Shared}{a:Addr}{ss:List Str}
theorem qQ2(hS:qBq P w s.heap a ss)
  (h:∀(I:Addr) (fp:List Addr) (vs:List Value) (ss1:List Str) (St:Nat->Heap->Prop) (h1:Heap) (d:Drawn),StrsAre vs ss1->ss1.Perm ss->(∀b o,s.heap.get? b=some o->h1.get? b=some o)->(∀A:Around,A.handled=none->Walks P w A I fp [I] vs.length (λi v=>vs[i]?=some v) St) ->
   St 0 h1->I∈fp->(∀b∈fp,b<h1.objs.size/\(b=a\/s.heap.objs.size<=b))->s.heap.objs.size<=I->s.heap.objs.size<=h1.objs.size->Q (.ref I) { s with heap:=h1,drawn:=d }):wpAny (model P w) A (pyIter (.ref a)) Q E s:=by
 obtain⟨es,ep,t,ho,e1,e2,e3,e4,e5,e6⟩:=hS;have hT:s.TypeIs (.ref a) "set":=⟨_,ho,rfl⟩;have ha:a<s.heap.objs.size:=Heap.lt_size ho;have hp4:t.place.size=es.size:=by
  unfold SetTable.fits at e4;rw[hBe]at e4;exact eq_of_beq e4.1
 refine wpAny_pyIter_slot hT PySem.F.slot_set_iter (hDz PySem.F.slot_set_iter hT FS.entry_set_iter' ?_ (PySem.F.args_set_iter_1 _));unfold Builtin.«frozenset.__iter__» Builtin.Frozenset.slot0;refine hDq (hDq (hDt (hDt ?_)));unfold Builtin.Frozenset.sizeOf;refine hDq (hDq (hE9 ho rfl e4 (hDt ?_)));refine hDq (qKu ho e4 ?_);dsimp only;cases hb:w.params.followText "set-order" with
 |true =>
  rw[hDv (by simp)];refine hDq (hDt (hDq (wpAny_setEpoch_of ho rfl e4 ?_)));show wpAny _ _ (newFields "set_iterator" _ >>= _) _ _ _;refine hDq (hE2 (hDt ⟨_,rfl,"set_iterator",_,⟨_,Heap.get?_push_size _ rfl,rfl⟩,FS.slot_sin.lookup,?_⟩) (by show 5<=_;decide));have p:=pick_perm (w.params.setOrder a ep) es;obtain⟨ss1,q1,q2⟩:=qFl e2 p;refine h s.heap.objs.size [s.heap.objs.size,a] _ ss1 _ _ s.drawn q1 q2 (λb o e=>Heap.get?_push_of_some _ e) (qJc (ep:=ep) (es:=es) (t:=t) (hAt ha) e4 _ (λ_=>0) ?_) ⟨Heap.get?_push_size _ rfl,Heap.get?_push_of_some _ ho⟩ (by simp) ?_ (hA3 _) (by rw[Heap.size_push];exact hB8 _)
  ·intro A' E' s' Q' i hi ho' hq;refine qKs ho' e4 hb ?_;rw[hAj,hBv,Option.map_map]at hq;exact hq
  ·intro b hbm;rw[Heap.size_push];simp at hbm;rcases hbm with rfl|rfl
   ·exact⟨hBk _,.inr (hA3 _)⟩
   ·exact⟨hBp ha,.inl rfl⟩
 |false =>
  have led:t.led=true:=by rw[e5,hb];rfl
  by_cases hz:es.size > 1
  ·have pl:t.plain=false:=e6 (by omega);rw[hDw (by rw[pl,hDr hz];rfl)];refine hDq (qFw es.size (List.range es.size) s _ (by simp) λps d pp=>?_);refine hDq (wpAny_newTuple (s:={ s with drawn:=d }) ?_ (by rw[hA1,pp.length_eq,hBq];exact hEj e3));have ho1:(s.heap.push (tOb (ps.map λ(p:Nat)=>rawInt p).toArray)).get? a=some (sOb es ep t):=Heap.get?_push_of_some _ ho;refine hDq (wpAny_setEpoch_of (s:={ s with heap:=s.heap.push (tOb (ps.map λ(p:Nat)=>rawInt p).toArray),drawn:=d }) ho1 rfl e4 ?_);show wpAny _ _ (newFields "set_iterator" _ >>= _) _ _ _;refine hDq (hE2 (hDt ⟨_,rfl,"set_iterator",_,⟨_,Heap.get?_push_size _ rfl,rfl⟩,FS.slot_sin.lookup,?_⟩) (by show 5<=_;decide));have hlt:∀p∈ps,p<es.size:=λp hm=>hB9.mp (pp.mem_iff.mp hm)
   have ep1:(ps.filterMap λp=>es[p]?).Perm es.toList:=by
    have q:=pp.filterMap λp=>es[p]?
    rw[filterMap_getElem?_range]at q;exact q
   have hfm:∀l:List Nat,(∀p∈l,p<es.size)->(l.filterMap λp=>es[p]?).length=l.length/\∀(i p:Nat),l[i]?=some p->∃k x,es[p]?=some (k,x)/\((l.filterMap λp=>es[p]?).map (·.2))[i]?=some x:=by
    intro l
    induction l with
    |nil=>intro _;exact⟨rfl,λi p z=>by simp at z⟩
    |cons c l ih =>
     intro hm;obtain⟨i1,i2⟩:=ih λp hp=>hm p (hA4 _ hp)
     have hcl:c<es.size:=hm c hA5;have hc:es[c]?=some es[c]:=hCy hcl;rw[hCf,hc];refine⟨by simp[i1],λi p z=>?_⟩;cases i with
     |zero =>
      have e:c=p:=by simpa using z
      subst e;exact⟨_,_,hc,by simp⟩
     |succ i =>
      obtain⟨k,x,a1,a2⟩:=i2 i p (by simpa using z);exact⟨k,x,a1,by simpa using a2⟩
   obtain⟨f1,f2⟩:=hfm ps hlt;obtain⟨ss1,q1,q2⟩:=qFl e2 ep1;have sz1:(s.heap.push (tOb (ps.map λ(p:Nat)=>rawInt p).toArray)).objs.size=s.heap.objs.size+1:=Heap.size_push ..;refine h (s.heap.push (tOb (ps.map λ(p:Nat)=>rawInt p).toArray)).objs.size [(s.heap.push (tOb (ps.map λ(p:Nat)=>rawInt p).toArray)).objs.size,a,s.heap.objs.size] _ ss1 _ _ d q1 q2 (λb o e=>Heap.get?_push_of_some _ (Heap.get?_push_of_some _ e))
    (qOy (ep:=ep) (es:=es) (t:=t) (T:=s.heap.objs.size) ?_ ?_ e4 ps _ (by rw[hA1,f1]) f2) ⟨Heap.get?_push_size _ rfl,Heap.get?_push_of_some _ ho1,Heap.get?_push_of_some _ (Heap.get?_push_size _ rfl)⟩ (by simp) ?_ ?_ ?_
   ·rw[sz1];exact hAt (hBp ha)
   ·rw[sz1];exact hAt (hBk _)
   ·intro b hbm;rw[Heap.size_push,sz1];rw[sz1]at hbm;simp at hbm;rcases hbm with rfl|rfl|rfl
    ·exact⟨hBk _,.inr (hB8 _)⟩
    ·exact⟨hBp (hBp ha),.inl rfl⟩
    ·exact⟨hBp (hBk _),.inr (hA3 _)⟩
   ·rw[sz1];exact hB8 _
   ·rw[Heap.size_push,sz1];exact Nat.le_succ_of_le (hB8 _)
  ·rw[hDv (by rw[hDs hz];simp)];refine hDq (hDt (hDq (wpAny_setEpoch_of ho rfl e4 ?_)));show wpAny _ _ (newFields "set_iterator" _ >>= _) _ _ _;refine hDq (hE2 (hDt ⟨_,rfl,"set_iterator",_,⟨_,Heap.get?_push_size _ rfl,rfl⟩,FS.slot_sin.lookup,?_⟩) (by show 5<=_;decide));refine h s.heap.objs.size [s.heap.objs.size,a] _ ss _ _ s.drawn e2 (List.Perm.refl _) (λb o e=>Heap.get?_push_of_some _ e) (qJc (ep:=ep) (es:=es) (t:=t) (hAt ha) e4 _ (λi=>if i=0 then 0 else t.place.getD 0 0+1) ?_) ⟨Heap.get?_push_size _ rfl,Heap.get?_push_of_some _ ho⟩ (by simp) ?_ (hA3 _) (by rw[Heap.size_push];exact hB8 _)
   ·intro A' E' s' Q' i hi ho' hq;refine qKt ho' e4 hb (by omega) led ?_;rw[hA1,hBr]at hi;rcases hDp es.size 1 with z0|z1
    ·have e0:es=#[]:=Array.eq_empty_of_size_eq_zero (by omega);have p0:t.place=#[]:=Array.eq_empty_of_size_eq_zero (by omega);subst e0;rw[p0]at hq ⊢;rw[qRs]
     simpa using hq
    ·have z:es.size=1:=by omega
     obtain⟨x,e0⟩:∃x,es=#[x]:=by
      have:=Array.size_eq_one_iff.mp z;exact this
     obtain⟨p,p0⟩:∃p,t.place=#[p]:=Array.size_eq_one_iff.mp (by omega);subst e0;rw[p0]at hq ⊢;obtain⟨k,x⟩:=x;by_cases i0:i=0
     ·subst i0;rw[hDw rfl,qTm (hAs _)]
      simpa using hq
     ·have i1:i=1:=by simp at hi;omega
      subst i1;rw[hDv (by decide)];show Q' (match (#[(k,x)]:Array (Int×Value))[SetTable.below #[p] (p+1)]?,(#[p]:Array Nat)[SetTable.below #[p] (p+1)]? with|some (_,x),some j=>some (x,j+1)|_,_=>none) s';rw[qTn (hBk _)]
      simpa using hq
   ·intro b hbm;rw[Heap.size_push];simp at hbm;rcases hbm with rfl|rfl
    ·exact⟨hBk _,.inr (hA3 _)⟩
    ·exact⟨hBp ha,.inl rfl⟩
end
section
variable{X:Cx}{aB:List (Addr×Obj)}{σ:St}{H:Hp}{s:Shared}{h':Heap}
theorem Inv.turnedT{t':Nat}{d':Drawn}{ch:List Addr}{a:Addr}{o:HO}(I:Inv X aB σ H s)(k:∀b u,b∉ch->s.heap.get? b=some u->h'.get? b=some u)(f:∀b∈ch,qI9 X aB H b)(hp:s.heap.objs.size<=a)(new:qCg X.prog X.w (upd H a o) h' a o) :
  Inv X aB σ (upd H a o) { s with heap:=h',toks:=t',drawn:=d' }:=by
 have nit:∀b u,H b=some u->b∉ch:=λb u e z=>by rw[(f b z).1]at e;cases e
 have hn:H a=none:=I.hok.fresh hp;refine I.step (g':=s.gens) (d':=d') (ch:=ch) (λb hb=>?_) (λb u _ _ hc e _=>k b u hc e) (λb u _ _ hc e _=>⟨u.slots,k b u hc e⟩) (λb u _ e n=>?_) (λb u hc e=>⟨u,k b u hc e⟩) (λb xs q=>by rw[qAs (qAw q hn)];exact q) (λb u v q=>by rw[qAs (qAw q hn)];exact q)
  (λb ps q=>⟨#[],by rw[qAs (qAw q hn),q];simp⟩) (λm hm=>?_) (λb u e=>?_) I.bare
 ·obtain⟨_,f1,_,f3,f4,f5⟩:=f b hb;exact⟨f3,f1,f4,f5⟩
 ·rw[qAs (hAt (hAo (Heap.lt_size e) hp))];exact n
 ·obtain⟨ob,es,ep,ho,r⟩:=hm;exact⟨ob,es,ep,k _ ob (λz=>(f _ z).2.1 rfl) ho,r⟩
 ·by_cases hb:b=a
  ·subst hb;rw[upd_same]at e;cases e;exact new
  ·rw[qAs hb]at e;refine(I.hok b u e).stay (λc v hc q=>k c v ?_ q) (λc q=>by rw[qAs (qAw q hn)];exact q) λc xs q=>by rw[qAs (qAw q hn)];exact q
   rcases hc with z|z
   ·rw[z];exact nit b u e
   ·exact nit c _ z
end
section
variable{P:Program}{w:World}{A:Around}{E:Value->Shared->Prop}{s:Shared}{a:Addr}{ss:List Str}
theorem qKh(hh:A.handled=none)(hS:qBq P w s.heap a ss)
  (h:∀(vs:List Value) (ss1:List Str) (h1:Heap) (tk:Nat) (d:Drawn),StrsAre vs ss1->ss1.Perm ss->(∀b o,s.heap.get? b=some o->h1.get? b=some o)->s.heap.objs.size<=h1.objs.size->Q vs { s with heap:=h1,toks:=tk,drawn:=d }):wpAny (model P w) A (collect (.ref a)) Q E s:=by
 unfold collect;refine hDq (wpAny_runValue (hE7 PySem.F.entry_proto_collect ?_));rw[Around.under_plainId PySem.F.plain_proto_collect _];show wpAny _ A.in1 (newList [] >>= λl=>again (.builtin "list.__iadd__" ⟨[l,.ref a],[]⟩)) _ _ _;refine hDq (hE2 ?_);refine hDt ⟨plainId_quiet PySem.F.plain_list_iadd _,hE7 PySem.F.entry_list_iadd ?_⟩;rw[Around.under_plainId PySem.F.plain_list_iadd _];have hS1:qBq P w (s.heap.push (seqObj "list" #[] 0)) a ss:=hS.at λo e=>Heap.get?_push_of_some _ e
 have hL1:(s.heap.push (seqObj "list" #[] 0)).get? s.heap.objs.size=some (seqObj "list" #[] 0):=Heap.get?_push_size _ rfl;have hT:∀s':Shared,qBq P w s'.heap a ss->s'.TypeIs (.ref a) "set":=λs' z=>by
  obtain⟨es,ep,t,ho,_⟩:=z;exact⟨_,ho,rfl⟩
 have ha:a<s.heap.objs.size:=by
  obtain⟨es,ep,t,ho,_⟩:=hS;exact Heap.lt_size ho
 have hz:ss.length<scanBound:=by
  obtain⟨es,ep,t,_,_,e2,e3,_⟩:=hS;rw[<-e2.strs,hA1,hA1,hBr];exact e3
 have hne:Builtin.List.listSameRef (.ref s.heap.objs.size) (.ref a)=false:=by
  show(s.heap.objs.size == a)=false;exact beq_eq_false_iff_ne.mpr (hDn ha)
 show wpAny _ A.in1 (Builtin.List.listExtendWith (.ref s.heap.objs.size) (.ref a) (.ref s.heap.objs.size)) _ _ { s with heap:=s.heap.push (seqObj "list" #[] 0) };unfold Builtin.List.listExtendWith;refine hDq (wpAny_typeOf (hT _ hS1) ?_);rw[hDv (by rw[hne];decide)];refine hDq (qQ2 hS1 λI fp vs ss1 St h1 d q1 q2 q3 W st hI hfp hge hsz=>?_);have hS2:qBq P w h1 a ss:=hS1.at λo e=>q3 _ _ e
 have hL2:h1.get? s.heap.objs.size=some (seqObj "list" #[] 0):=q3 _ _ hL1;refine hDq (hDx ?_);unfold Builtin.List.listLengthHint;refine hDq (wpAny_specialOf (hT { s with heap:=h1,drawn:=d } hS2) PySem.F.slot_set_len.lookup ?_);dsimp only;rw[show splitId "set.__len__"=some ("set","__len__") from by decide +kernel];dsimp only;refine hDq (wpAny_isInstance (b:=true) (hT { s with heap:=h1,drawn:=d } hS2) sub_set_self ?_);rw[hDv (by decide),hDw (by decide +kernel)];refine hDq (wpAny_typeOf (hT { s with heap:=h1,drawn:=d } hS2) (hDt ?_));rw[hDw (by decide +kernel)];refine hDq (wpAny_rule ?_);unfold Builtin.List.listTouch;have hL3:=get?_update_seq hL2 (·.push .none);have hL4:=get?_update_seq hL3 (·.pop);refine hDq (hDq (listUpdate_at (s:={ s with heap:=h1,drawn:=d }) hL2 rfl (listUpdate_at (s:={ s with heap:=h1.update s.heap.objs.size (Obj.mapSeq (·.push .none)),drawn:=d }) hL3 rfl ?_)));have nS:s.heap.objs.size∉fp:=λz=>by
  rcases(hfp _ z).2 with e|e
  ·exact absurd e (hDn ha)
  ·rw[size_push']at e;exact absurd e (Nat.not_succ_le_self _)
 have upd2:∀b o,b≠s.heap.objs.size->h1.get? b=some o->((h1.update s.heap.objs.size (Obj.mapSeq (·.push .none))).update s.heap.objs.size (Obj.mapSeq (·.pop))).get? b=some o:=λb o hb e=>by
  rw[Heap.get?_update_ne _ _ _ _ hb,Heap.get?_update_ne _ _ _ _ hb];exact e
 have hv:vs.length<=sizeLine:=by
  have e1:=q2.length_eq;have e2:vs.length=ss1.length:=by rw[<-q1.strs,hA1]
  rw[e2,e1];exact hEj hz
 have st3:=(W A.in1.in1.in1 (by exact hh)).frame 0 _ ((h1.update s.heap.objs.size (Obj.mapSeq (·.push .none))).update s.heap.objs.size (Obj.mapSeq (·.pop))) st λb hb o e=>upd2 b o (λz=>nS (z▸hb)) e
 refine hDt ⟨plainId_quiet PySem.F.plain_extend_loop _,codeAny_extend_loopS ((W _ (by exact hh)).toS) hv _ nS _ vs.length 0 _ _ _ rfl (hAs _) st3 hL4 (ItemsOf.nil _) λs' acc' c' hm hS' hacc=>?_⟩;show wpAny _ A (load s.heap.objs.size >>= _) _ _ s';refine hDq (wpAny_load hS' ?_);have eacc:acc'.toList=vs:=by
  refine hDf λi=>?_
  by_cases hi:i<vs.length
  ·have hi':i<acc'.size:=by rw[hacc.1];exact hi
   rw[hBv,hCy hi'];exact(hacc.2 i _ (hCy hi')).symm
  ·rw[hBv,Array.getElem?_eq_none (by rw[hacc.1];omega),hBd (by omega)]
 show wpAny _ A (pure acc'.toList) _ _ s';rw[eacc];obtain⟨h5,g5,d5,tk5,os5⟩:=s';cases(show g5=s.gens from hm.gens);cases(show d5=d from hm.drawn);cases(show os5=s.os from hm.os);have keep:∀b o,h1.get? b=some o->b≠s.heap.objs.size->b≠I->h5.get? b=some o:=λb o e n1 n2=>hm.heap b o (by simp only[hAc,hBf,hEa,not_or];exact⟨n1,n2⟩) (upd2 b o n1 e)
 refine hDt (h vs ss1 h5 tk5 d q1 q2 (λb o e=>?_) ?_)
 ·have lt:=Heap.lt_size e;refine keep b o (q3 b o (Heap.get?_push_of_some _ e)) (hAt lt) (hAt (hAo lt ?_));rw[size_push']at hge;exact Nat.le_of_succ_le hge
 ·exact hB1 (Heap.lt_size hS')
end
def qX3(P:Program)(w:World)(a:Addr)(ss:List Str):HO:=.ext λh=>qBq P w h a ss
section
variable{X:Cx}
theorem qG6(hc:X.calm=true):qB9 X (.type "set") (λxs H Q=>∃(p:Addr) (ss0:List Str),xs=[.ref p]/\SqL X.K H p (ss0.map V.str)/\ss0.length<1000/\∀(r:Addr) (ss:List Str),H r=none->ss.Nodup->ss.length<=ss0.length->(∀x,x∈ss↔x∈ss0)->Q (.ref r) (upd H r (qX3 X.prog X.w r ss))):=by
 intro aB s σ H xs us Q I r h;obtain⟨p,ss0,rfl,hq,hl,q⟩:=h;obtain⟨u,rfl,rx⟩:=qD1 r;cases rx;obtain⟨its,rv,pl,hz⟩:=I.list hq;have hlen:=rv.length;rw[hA1]at hlen;refine qRo (I.ok.hd hc) pl.isList (by simpa using qDg rv) (by have:scanBound=4096:=rfl;simp;omega) λh' tk ss hS hO hk=>?_
 obtain⟨o1,o2,o3⟩:=hO;rw[hAl,<-hlen]at o2 o3;refine⟨.ref s.heap.objs.size,_,I.laid (t':=tk) (a:=s.heap.objs.size) (o:=qX3 X.prog X.w s.heap.objs.size ss) (λb o e=>hk b o (Heap.lt_size e) e) (hA3 _) ⟨hS,?_,λh1 h2 z k=>z.at k⟩,rfl,q _ ss (I.hok.fresh (hA3 _)) o1 o2 λx=>?_⟩
 ·obtain⟨es,ep,t,ho,_⟩:=hS;exact⟨_,ho⟩
 ·rw[o3 x,List.mem_iff_getElem?];constructor
  ·rintro⟨j,hj,rfl⟩;exact⟨j,by show ss0[j]?=some (ss0.getD j default);rw[hA8,hA2 hj];rfl⟩
  ·rintro⟨j,hj⟩;exact⟨j,(hAi.mp hj).1,by show ss0.getD j default=x;rw[hA8,hj];rfl⟩
theorem qCj(hc:X.calm=true):qB9 X (.builtin "sorted") (λxs H Q=>∃(p:Addr) (ss:List Str),xs=[.ref p]/\H p=some (qX3 X.prog X.w p ss)/\ss.length<64/\∀(r:Addr) (ss':List Str),H r=none->ss'.Perm ss->sortedS ss'=true->Q (.ref r) (upd H r (.lst (ss'.map V.str)))):=by
 intro aB s σ H xs us Q I r h;obtain⟨p,ss,rfl,hp,h64,q⟩:=h;obtain⟨u,rfl,rx⟩:=qD1 r;cases rx;have hS:qBq X.prog X.w s.heap p ss:=(I.hok p _ hp).1;refine Calls.call_function_entry kind_sorted plain_sorted entry_sorted (args_sorted1 _) ?_;unfold Builtin.«sorted»;refine hDq (m:=checkCount "sorted" 1 1 _) (hDt (hDq (qKh (I.ok.hd hc) hS λvs ss1 h1 tk d a1 a2 a3 a4=>?_)));have hvl:vs.length=ss1.length:=by rw[<-a1.strs,hA1]
 have hl64:vs.length<64:=by rw[hvl,a2.length_eq];exact h64
 refine hDq (wpAny_newList ?_ (by have:sizeLine > 64:=(by decide);omega));have hoL:(h1.push (seqObj "list" vs.toArray 0)).get? h1.objs.size=some (seqObj "list" vs.toArray 0):=Heap.get?_push_size _ rfl;refine hDq (hDx (hDz slot_list_sort ⟨_,hoL,rfl⟩ entry_list_sort (list_sort_treeK strKind_oneLt hoL a1.keysOf (λv1 v2 rest e=>keyKind_strs (by rw[<-e];exact a1)) hl64 λst' b1 b2=>⟨_,rfl,?_⟩) (args_list_sort _)));obtain⟨ss',c1,c2,c3⟩:=sorted_out_str a1 b1 b2;refine hDt ⟨_,rfl,?_⟩;have nz:H h1.objs.size=none:=I.hok.fresh a4;obtain⟨e,he⟩:=sortedHeap_at (out:=(arrOf st').map (·.2)) hoL;refine⟨.ref h1.objs.size,_,I.turnedT (t':=tk) (d':=d) (ch:=[]) (a:=h1.objs.size) (o:=.lst (ss'.map V.str)) (λb o _ eb=>?_) (λb z=>nomatch z) a4 ?_,rfl,q _ ss' nz (c2.trans a2) c3⟩
 ·have e1:=a3 b o eb;have lt:=Heap.lt_size e1;rw[sortedHeap_old (hAt lt) (by rw[size_push'];exact hBp lt)];exact Heap.get?_push_of_some _ e1
 ·refine⟨?_,((arrOf st').map (·.2)).toList,e,qHv c1,he⟩;rw[hA1,c2.length_eq,a2.length_eq];exact hB1 (qAi (by omega))
end
section
variable{X:Cx}{aB:List (Addr×Obj)}{σ:St}{H:Hp}{s:Shared}{h':Heap}
theorem Inv.turnedL{t':Nat}{ch:List Addr}(I:Inv X aB σ H s)(k:∀b u,b∉ch->s.heap.get? b=some u->h'.get? b=some u)(f:∀b∈ch,qI9 X aB H b):Inv X aB σ H { s with heap:=h',toks:=t' }:=by
 have nit:∀b u,H b=some u->b∉ch:=λb u e z=>by rw[(f b z).1]at e;cases e
 refine I.step (g':=s.gens) (d':=s.drawn) (ch:=ch) (λb hb=>?_) (λb u _ _ hc e _=>k b u hc e) (λb u _ _ hc e _=>⟨u.slots,k b u hc e⟩) (λb u _ e n=>n) (λb u hc e=>⟨u,k b u hc e⟩) (λb xs q=>q) (λb u v q=>q) (λb ps q=>⟨#[],by rw[q];simp⟩) (λm hm=>?_) (λb u e=>?_) I.bare
 ·obtain⟨_,f1,_,f3,f4,f5⟩:=f b hb;exact⟨f3,f1,f4,f5⟩
 ·obtain⟨ob,es,ep,ho,r⟩:=hm;exact⟨ob,es,ep,k _ ob (λz=>(f _ z).2.1 rfl) ho,r⟩
 ·refine(I.hok b u e).stay (λc v hc q=>k c v ?_ q) (λc q=>q) λc xs q=>q
  rcases hc with z|z
  ·rw[z];exact nit b u e
  ·exact nit c _ z
end
def Itp(n:Nat)(Ls:Hp->Prop)(xv:Nat->List V):It:=⟨λi H=>Ls H/\i<n,λi H x H'=>∃T,H T=none/\H'=upd H T (.tup (xv i))/\x = .ref T,λi H=>Ls H/\i=n⟩
theorem qHk{P:Program}{w:World}{K:PySem.W.Frag}{elts:List Expr}{ct:Nat}{pos:Pos}(it:Addr)(fp fpW wr:List Addr)(n:Nat)(Ls:Hp->Prop)(xv:Nat->List V)(tn:Nat->Heap->Prop)
  (hit:it∈fp) (hwr:∀b∈wr,b∈fp) (hobj:∀i h,tn i h->∀b∈fp,∃o,h.get? b=some o/\∀v,o.data≠.cell v) (hkeep:∀i h h',tn i h->(∀b∈fp,∀o,h.get? b=some o->h'.get? b=some o)->tn i h')
  (hx:∀i,(xv i).length<=sizeLine) {c:Cx->Prop}
  (W:∀(X:Cx),X.prog=P->X.w=w->X.K=K->c X->∀(aB:List (Addr×Obj)) (s:Shared) (σ:L2.St) (H:Hp),Inv X aB σ H s->Ls H->∃(Pt:Nat->Array Value->Prop) (St:Nat->Heap->Prop) (Mid:Nat->Addr->Heap->Prop),WalksT P w X.A it fpW wr n Pt St Mid/\(∀i,tn i s.heap->St i s.heap)/\(∀i h,St i h->tn i h) /\
   (∀i vals,Pt i vals->qBf (xv i) vals.toList))
  (hself:∀(A:Around) (i:Nat) (s:Shared) (Q:Value->Shared->Prop) (E:Value->Shared->Prop),tn i s.heap->Q (.ref it) s->wpAny (model P w) A (pyIter (.ref it)) Q E s):Turn P w K (.Tuple elts ct pos) (Itp n Ls xv) fp it tn c where
 mem:=hit
 obj:=hobj
 keep:=hkeep
 item:=by
  intro X hP hw hK hc i aB s σ H E I hf st hg;obtain⟨hL,hi⟩:=hg;obtain⟨Pt,St,Mid,Wt,w1,w2,w3⟩:=W X hP hw hK hc aB s σ H I hL;subst hP hw hK;refine Wt.item i s _ _ hi (w1 i st) λT vals h1 tk pv hT ht mid k1=>?_
  have hTw:T∉wr:=Wt.apart i T h1 mid;refine⟨_,rfl,Wt.go elts ct pos i T _ _ _ mid λh2 st2 k2=>?_⟩;have ht2:IsTup h2 T (vals.toList).toArray:=by
   obtain⟨o,a1,a2,nn,a3⟩:=ht;exact⟨o,k2 _ _ hTw a1,a2,nn,by simpa using a3⟩
  refine⟨.ref T,upd H T (.tup (xv i)),I.turnedT (t':=tk) (d':=s.drawn) (ch:=wr) (λb u hb e=>k2 b u hb (k1 b u hb e)) (λb hb=>hf b (hwr b hb)) hT ⟨hx i,vals.toList,w3 i vals pv,ht2⟩,rfl,⟨T,I.hok.fresh hT,rfl,rfl⟩,w2 _ _ st2,λb hb=>?_⟩;have e:b≠T:=by
   obtain⟨o,ho,_⟩:=hobj i _ st b hb;exact hAt (hAo (Heap.lt_size ho) hT)
  rw[qAs e];exact(hf b hb).1
 done:=by
  intro X hP hw hK hc i aB s σ H E I hf st hg;obtain⟨hL,hi⟩:=hg;obtain⟨Pt,St,Mid,Wt,w1,w2,w3⟩:=W X hP hw hK hc aB s σ H I hL;subst hP hw hK hi;exact Wt.done s _ _ (w1 _ st) λh1 tk k1=>⟨rfl,I.turnedL (ch:=wr) (λb u hb e=>k1 b u hb e) λb hb=>hf b (hwr b hb)⟩
 self:=hself
theorem qOu(n a b:Nat)(h1:a<n)(h2:b<n):ZipApart (n+4) (n+2) (n+3) n (n+1) a b:=by
 constructor <;> (show @Ne Nat _ _;omega)
section
variable{X:Cx}
def zCy(K:PySem.W.Frag)(ta:TA):TI:=λσ H R=>ta σ H λvs H1=>∃(a b:Addr) (xs ys:List V),vs=[.ref a,.ref b]/\SqL K H1 a xs/\SqL K H1 b ys/\R (Itp (min xs.length ys.length) (λH=>SqL K H a xs/\SqL K H b ys) (λi=>[xs.getD i .non,ys.getD i .non])) H1
theorem qTl:bootBuiltins "zip"=some (.type "zip"):=by decide +kernel
theorem qUf{a b:Expr}{ta:TA}{p pos tpos:Pos}{elts:List Expr}{ct:Nat}(hg:Gl X "zip")(hm:X.mg "zip"=none)(ha:PA X [a,b] ta)(hs:starEach [a,b] X.env=[(false,eval a X.env),(false,eval b X.env)]:=by rfl)(hs2:starEach [b] X.env=[(false,eval b X.env)]:=by rfl) :
  PI X (.Tuple elts ct tpos) (.Call (.Name "zip" p) [a,b] [] pos) (zCy X.K ta):=by
 intro aB s σ H R I h;refine Call_ (qGy I hg hm qTl (hCr (thn (ha pos aB s σ H _ I h) λus s1 ⟨vs,H1,I1,r1,q1⟩=>?_) (by rw[hs,hs2]) (by rw[hs2];rfl)));obtain⟨l1,l2,xs,ys,e,hx,hy,q⟩:=q1;subst e;obtain⟨u1,u2,rfl,r1,r2⟩:=qOz r1;cases r1;cases r2;obtain⟨it1,rv1,pl1,hz1⟩:=I1.list hx;obtain⟨it2,rv2,pl2,hz2⟩:=I1.list hy;have n1:=rv1.length;have n2:=rv2.length;have b1:l1<s1.heap.objs.size:=by obtain⟨o,n,e,_⟩:=pl1;exact Heap.lt_size e
 have b2:l2<s1.heap.objs.size:=by obtain⟨o,n,e,_⟩:=pl2;exact Heap.lt_size e
 refine call_zip_2 pl1.isList pl2.isList λh1 z1 z2 z3 z4 z5 z6 z7=>?_
 refine wpAny_pyIter_zip z1 ?_;have D:=qOu s1.heap.objs.size l1 l2 b1 b2;have hfp:∀b∈[s1.heap.objs.size+4,s1.heap.objs.size+2,s1.heap.objs.size+3,s1.heap.objs.size,s1.heap.objs.size+1],s1.heap.objs.size<=b:=λb hb=>by
  simp only[hAc,hBf,hEa]at hb;rcases hb with rfl|rfl|rfl|rfl|rfl
  ·exact hCw _ _
  ·exact hCw _ _
  ·exact hCw _ _
  ·exact hA3 _
  ·exact hCw _ _
 refine⟨s1.heap.objs.size+4,[s1.heap.objs.size+4,s1.heap.objs.size+2,s1.heap.objs.size+3,s1.heap.objs.size,s1.heap.objs.size+1],
  λi h=>IsZip h (s1.heap.objs.size+4) (s1.heap.objs.size+2) (s1.heap.objs.size+3) .none/\IsPair h (s1.heap.objs.size+2) (.ref s1.heap.objs.size) (.ref (s1.heap.objs.size+1))/\(∃a b,IsPair h (s1.heap.objs.size+3) a b)/\h.IsListIter s1.heap.objs.size l1 i/\h.IsListIter (s1.heap.objs.size+1) l2 i,
  _,H1,rfl,I1.kept (t':=s1.toks) z7,
  qHk (s1.heap.objs.size+4) _ [s1.heap.objs.size+4,s1.heap.objs.size+2,s1.heap.objs.size+3,s1.heap.objs.size,s1.heap.objs.size+1,l1,l2] [s1.heap.objs.size+4,s1.heap.objs.size+3,s1.heap.objs.size,s1.heap.objs.size+1] _ _ _ _ (by simp) (λb hb=>?_) (λi h st b hb=>?_) (λi h h' st k=>?_) (λi=>by show 2<=sizeLine;decide) ?_ (λA i s' Q E st hQ=>wpAny_pyIter_zip st.1 hQ),
  ⟨z1,z2,⟨_,_,z3⟩,z4,z5⟩,λb hb=>I1.fpOk (hfp b hb) (I1.hok.fresh (hfp b hb)),q⟩
 ·simp only[hAc,hBf,hEa]at hb ⊢;rcases hb with h|h|h|h
  ·exact .inl h
  ·exact .inr (.inr (.inl h))
  ·exact .inr (.inr (.inr (.inl h)))
  ·exact .inr (.inr (.inr (.inr h)))
 ·obtain⟨a1,a2,⟨c,d,a3⟩,⟨o4,a4,c4,d4⟩,⟨o5,a5,c5,d5⟩⟩:=st;simp only[hAc,hBf,hEa]at hb;rcases hb with rfl|rfl|rfl|rfl|rfl
  ·exact⟨_,a1,λv z=>by cases z⟩
  ·exact⟨_,a2,λv z=>by cases z⟩
  ·exact⟨_,a3,λv z=>by cases z⟩
  ·exact⟨_,a4,λv z=>by rw[d4]at z;cases z⟩
  ·exact⟨_,a5,λv z=>by rw[d5]at z;cases z⟩
 ·obtain⟨a1,a2,⟨c,d,a3⟩,a4,a5⟩:=st;exact⟨k _ (by simp) _ a1,k _ (by simp) _ a2,⟨c,d,k _ (by simp) _ a3⟩,a4.at λo e=>k _ (by simp) o e,a5.at λo e=>k _ (by simp) o e⟩
 ·intro X' hP hw hK hc pins' s' σ' H' I' hL;obtain⟨hx',hy'⟩:=hL;rw[<-hK]at hx' hy';obtain⟨jt1,sv1,ql1,_⟩:=I'.list hx';obtain⟨jt2,sv2,ql2,_⟩:=I'.list hy';have m1:=sv1.length;have m2:=sv2.length;have Wz:=WalksT.zip2 (prog:=X.prog) (w:=X.w) (I'.ok.hd hc) _ _ _ _ _ l1 l2 D jt1.toArray jt2.toArray;rw[show min jt1.toArray.size jt2.toArray.size=min xs.length ys.length by show min jt1.length jt2.length=_;rw[m1,m2]]at Wz;refine⟨_,_,_,Wz,λi st=>?_,λi h st=>?_,λi vals pv=>?_⟩
  ·obtain⟨a1,a2,a3,a4,a5⟩:=st;exact⟨a1,a2,a3,a4,a5,ql1.isList,ql2.isList⟩
  ·obtain⟨a1,a2,a3,a4,a5,_⟩:=st;exact⟨a1,a2,a3,a4,a5⟩
  ·obtain⟨x,y,e1,e2,rfl⟩:=pv;have e1:jt1[i]?=some x:=by simpa using e1
   have e2:jt2[i]?=some y:=by simpa using e2
   have c1:i<xs.length:=by rw[m1];exact(hAi.mp e1).1
   have c2:i<ys.length:=by rw[m2];exact(hAi.mp e2).1
   obtain⟨u,d1,d2⟩:=sv1.get (hA2 c1);obtain⟨v,f1,f2⟩:=sv2.get (hA2 c2);rw[e1]at d1;rw[e2]at f1;cases d1;cases f1;show qBf [xs.getD i .non,ys.getD i .non] [x,y];rw[hA8,hA2 c1,hA8,hA2 c2];exact .cons d2 (.cons f2 .nil)
end
section
variable{σ0:St}{g:TG}{tt:TT}{te:TE}{Q:List V->Hp->Prop}{H1:Hp}
theorem qEw(Pv:Nat->List V->Hp->Prop)(h0:Pv 0 [] H1)(hl:∀i ys H,i<=n->Pv i ys H->Ls H)
  (hs:∀i ys H T,i<n->Pv i ys H->H T=none->g (.ref T) σ0 (upd H T (.tup (xv i))) λσ2 H2=>Sle σ0 σ2/\tt σ2 H2 λb H3=>if b=true then te σ2 H3 (λv H4=>ys.length<sizeLine/\Nxt n i Pv (ys++[v]) H4) else Nxt n i Pv ys H3)
  (hd:∀ys H,Pv n ys H->Q ys H):qDm (Itp n Ls xv) σ0 g tt te Q H1:=by
 refine⟨λi m ys H=>m=n-i/\i<=n/\Pv i ys H,⟨n,by simp,hAs _,h0⟩,?_⟩;rintro i m ys H ⟨rfl,hi,p⟩;have q:=hl i ys H hi p;by_cases hlt:i<n
 ·refine .inr ⟨⟨q,hlt⟩,λx H' y=>?_⟩;obtain⟨T,e1,e2,e3⟩:=y;subst e2 e3;exact hs i ys H T hlt p e1
 ·have e:i=n:=by omega
  subst e;exact .inl ⟨⟨q,rfl⟩,hd ys H p⟩
end
section
variable{X:Cx}{aB:List (Addr×Obj)}{σ:St}{H H':Hp}{s:Shared}
theorem qQ5(I:Inv X aB σ H s)(O:CmpOk X.N X.env.scope N' scope sub)(hf:∀b∈fp,qI9 X aB H b)
  (hfl:∀b∈fp,b<s.heap.objs.size) (nf:o0.isFreed=false) (nc:∀v,o0.data≠.cell v) :
  Inv (qBn X scope N' (s.heap.objs.size+1) s H fp) [(s.heap.objs.size,o0)] (subσ sub σ) H
   { s with heap:=pushCells ((s.heap.push o0).push { cls:=.type "dict",data:=.dict #[] }) scope.names }:=by
 have hk3:∀b o,s.heap.get? b=some o->(s.heap.push o0).get? b=some o:=λb o e=>Heap.get?_push_of_some _ e
 have sz3:(s.heap.push o0).objs.size=s.heap.objs.size+1:=Heap.size_push ..;have hk:∀b o,s.heap.get? b=some o->(pushCells ((s.heap.push o0).push { cls:=.type "dict",data:=.dict #[] }) scope.names).get? b=some o :=
  λb o e=>hE4 _ _ b o (Heap.get?_push_of_some _ (hk3 b o e))
 have cf:=qG5 (h3:=s.heap.push o0) I O hk3;rw[sz3]at cf;have hC:H (s.heap.objs.size+1)=none:=I.hok.fresh (hB8 _);have nsC:(pushCells ((s.heap.push o0).push { cls:=.type "dict",data:=.dict #[] }) scope.names).Ns (s.heap.objs.size+1) (λ_=>none):=by
  rw[<-sz3];exact(Heap.Ns.new _ _).keeps (hE4 _ _)
 have has:∀x,(scope.names.lookup x=some .cell\/scope.names.lookup x=some .free)->∃c,(cellsFrom (s.heap.objs.size+1+1) scope.names (qCv X.env.cells scope.names [])).lookup x=some c:=λx hx=>by
  refine hCk.mp (hD6 _ _ _ ?_);rcases hx with z|z
  ·exact .inl z
  ·exact .inr (qEk (.inl (hBg z)))
 have kindB:∀x,(qB7 X.env scope (s.heap.objs.size+1)).kindOf x=(scope.names.lookup x).map λk=>if (k == NameKind.free && X.env.scope.kind == .function && X.env.scope.names.lookup x == some .cell) then NameKind.cell else k:=λx=>qD7
 have cellOk:∀x c,(qB7 X.env scope (s.heap.objs.size+1)).cells.lookup x=some c->∃v,(pushCells ((s.heap.push o0).push { cls:=.type "dict",data:=.dict #[] }) scope.names).IsCell c v:=λx c h=>by
  rcases cf.1 x c h with q|q
  ·exact⟨_,q.1⟩
  ·obtain⟨v,z⟩:=I.cell x c q.2;exact⟨v,z.keeps hk⟩
 refine⟨⟨I.ok.mod,O.kind,I.ok.glob,I.ok.blt,hB8 _,λx y c h1 h2=>cf.2 x y c h1 h2,λx hx=>?_,λx c hx h=>?_,I.ok.hd,I.ok.frames,.inl rfl,λb hb=>?_,λb o e=>I.bs b o e,hAv I.ok.bsz I.sz,λb o e hb=>?_,λb hb=>?_,I.stack,I.stkFree⟩,
  rfl,I.bare,Un.kept hk,⟨λ_=>none,nsC,λi x v h1 h2 h3=>?_⟩,cellOk,hC,λx c h=>?_,λp hp=>?_,I.hok.kept hk,?_⟩
 ·-- has
  refine has x ?_;have hx:(qB7 X.env scope (s.heap.objs.size+1)).kindOf x=some .cell\/(qB7 X.env scope (s.heap.objs.size+1)).kindOf x=some .free:=hx;rw[kindB]at hx;cases e:scope.names.lookup x with
  |none=>rw[e]at hx;rcases hx with z|z <;> cases z
  |some k =>
   rw[e]at hx;cases k with
   |cell=>exact .inl rfl
   |free=>exact .inr rfl
   |_=>exfalso;rcases hx with z|z <;> simp at z
 ·-- cab
  rcases cf.1 x c h with q|q
  ·have:=q.2.1;show s.heap.objs.size<=c;omega
  ·exfalso;have e:=qBx O.nd q.1;have hx':(!(scope.names.lookup x == some NameKind.free))=true:=hx;rw[e]at hx';exact absurd hx' (by decide)
 ·-- exf
  obtain⟨f0,f1,f2,f3,f4,f5⟩:=hf b hb;have lt:=hfl b hb;refine⟨λe=>?_,λx c h e=>?_⟩
  ·have e':b=s.heap.objs.size+1:=e;rw[e']at lt;exact absurd lt (Nat.not_lt.mpr (hB8 _))
  ·rcases cf.1 x c h with q|q
   ·have z:=q.2.1;rw[e]at z;exact absurd lt (Nat.not_lt.mpr (hAv (hAv (hB8 _) (hB8 _)) z))
   ·exact f4 x c q.2 e
 ·-- noex
  obtain⟨f0,f1,f2,f3,f4,f5⟩:=hf b hb;rcases f3 with z|z
  ·exact I.ok.noex b o e z
  ·exact absurd (hAo (Heap.lt_size (I.ok.bs b o e).1) z) (hBz _)
 ·-- exfs
  obtain⟨f0,f1,f2,f3,f4,f5⟩:=hf b hb;exact λz=>f2 (qHy I z f1)
 ·-- loc
  have h1':N'[i]?=some x:=h1;have hsub:∃k,sub[i]?=some (some k)/\(σ[k]?).join=some v:=by
   unfold subσ at h2;rw[hAj]at h2;cases e:sub[i]? with
   |none=>rw[e]at h2;cases h2
   |some o =>
    rw[e]at h2;cases o with
    |none=>cases h2
    |some k=>exact⟨k,rfl,by simpa using h2⟩
  obtain⟨k,hk1,hk2⟩:=hsub;obtain⟨nk,fx⟩:=O.sub i k x hk1 h1';have sk:σ[k]?=some (some v):=by
   cases e:σ[k]? with
   |none=>rw[e]at hk2;cases hk2
   |some o=>rw[e]at hk2;cases o with
    |none=>cases hk2
    |some y=>cases hk2;rfl
  have cx:=O.free _ (hBg fx) rfl;obtain⟨m,hn,hl⟩:=I.loc;obtain⟨u,ru,lk⟩:=hl k x v nk sk (by
   rcases cx with z|z
   ·exact .inr (.inl z)
   ·exact .inr (.inr z))
  refine⟨u,ru,.inr ⟨?_,?_⟩⟩
  ·show(qB7 X.env scope (s.heap.objs.size+1)).kindOf x=some .cell\/(qB7 X.env scope (s.heap.objs.size+1)).kindOf x=some .free;rw[kindB,fx];by_cases hc:(NameKind.free == NameKind.free && X.env.scope.kind == .function && X.env.scope.names.lookup x == some .cell)=true
   ·exact .inl (by rw[hDa,hDw hc])
   ·exact .inr (by rw[hDa,hDv hc])
  ·rcases lk with ⟨kl,_⟩|⟨_,c,hc,hcell⟩
   ·exfalso;have kl':X.env.scope.names.lookup x=some .local:=kl;rcases cx with z|z <;> rw[kl']at z <;> cases z
   ·obtain⟨c',hc'⟩:=has x (.inr fx);refine⟨c',hc',?_⟩;rcases cf.1 x c' hc' with q|q
    ·exfalso;have e:=qBx O.nd q.2.2;rw[fx]at e;cases e
    ·rw[hc]at q;have e:c=c':=hAq q.2;subst e;exact hcell.keeps hk
 ·-- freeC
  rcases cf.1 x c h with q|q
  ·exact I.hok.fresh (by have:=q.2.1;omega)
  ·exact I.freeC x c q.2
 ·-- pin
  have hp':p=(s.heap.objs.size,o0):=by
   have:p∈([]++[(s.heap.objs.size,o0)]:List (Addr×Obj)):=hp
   simpa using this
  subst hp';refine⟨hE4 _ _ _ _ (Heap.get?_push_of_some _ (Heap.get?_push_size _ nf)),I.hok.fresh (hA3 _),hAt (hBk _),λz=>?_,λv z=>?_⟩
  ·rcases hAc.mp (I.stkSub _ z) with e|e
   ·exact absurd I.lt (by rw[<-e];exact hBz _)
   ·exact I.nofs (hA3 _) e
  ·exact nc v z
 ·-- len
  show(subσ sub σ).length=N'.length;unfold subσ;rw[hA1,O.len]
theorem Inv.repin(I:Inv X ((acc,o) :: aB) σ H s)(k:∀b u,b≠acc->s.heap.get? b=some u->h'.get? b=some u)(e:h'.get? acc=some o')(nc:∀v,o'.data≠.cell v)(hx:acc∈X.ex\/X.s₀.heap.objs.size<=acc)(np:∀p∈X.pn++aB,p.1≠acc) :
  Inv X ((acc,o') :: aB) σ H { s with heap:=h',toks:=t' }:=by
 have pa:=I.pin (acc,o) (hAa _ hA5);have I1:Inv X aB σ H s:=I.pins_of λp hp=>I.pin p (hAa _ (hA4 _ hp))
 have I2:Inv X aB σ H { s with heap:=h',toks:=t' }:=I1.turned (t':=t') (it:=acc) k pa.2.1 pa.2.2.1 hx
  (λy c hy z=>by
   obtain⟨w',o2,ho2,hd2⟩:=I.cell y c hy;rw[z,pa.1]at ho2;exact pa.2.2.2.2 _ (by cases ho2;exact hd2)) np
 refine I2.pins_of λp hp=>?_
 rcases hAc.mp hp with z|z
 ·subst z;exact⟨e,pa.2.1,pa.2.2.1,pa.2.2.2.1,nc⟩
 ·exact I2.pin p (hAa _ z)
end
def qC9(tpos:Pos)(it:Value)(target:Expr)(env:Env)(ifs:List Expr)(body:Sem Unit)(k:Sem Fin):Sem Fin:=do
 standAt tpos
 match ← pyNext it with
 |none=>pure (.done .next)
 |some v =>
  letOwnedTupleGo target it v
  assign target env v
  let mut ok:=true
  for c in ifs do
   if ok then ok ← isTrue c env (eval c env)
  if ok then
   body
  k
theorem qKf(hsh:compTurn e d it acc env=qC9 tpos it target env ifs body (again (.compLoop e d it acc env)))(hdn:∀(A:Around) (Q:PySem.Fin->Shared->Prop) (E:Value->Shared->Prop) (s:Shared),wpAny (model prog w) A ((compTurn e d it acc env).onRaise (λx=>do noteFrame x env;theTreesLotGoes x)) Q E s->wpAny (model prog w) (A.under (.compLoop e d it acc env)) ((model prog w).den (.compLoop e d it acc env)) Q E s)(I:Nat->Shared->Prop)
  (turn:∀n s,I n s->wpAny (model prog w) A (pyNext it) (λr s₁=>match r with
   |none=>R (.ok .next) s₁
   |some v=>wpAny (model prog w) A (letOwnedTupleGo target it v) (λ_ s₁'=>wpAny (model prog w) A (assign target env v) (λ_ s₂ =>
     wpAny (model prog w) A (forIn ifs true λc r=>if r=true then do let ok ← isTrue c env (eval c env);pure (ForInStep.yield ok) else pure (ForInStep.yield r)) (λok s₃ =>
      if ok=true then wpAny (model prog w) A body (λ_ s₅=>∃m,m<n/\I m s₅) (λ_ _=>False) s₃
      else ∃m,m<n/\I m s₃) (λ_ _=>False) s₂) (λ_ _=>False) s₁') (λ_ _=>False) s₁) (λ_ _=>False) s)
  (n:Nat) (h:I n s):codeAny (model prog w) A (.compLoop e d it acc env) R s:=by
 refine codeAny_loop rfl I (λn s hI=>?_) n h;refine hdn _ _ _ _ (wpAny_noted ?_);rw[hsh];unfold qC9;refine hDq (hEc (hDq (hDy (turn n s hI) (λr s₁ h₁=>?_) λ_ _ h'=>h'.elim)));cases r with
 |none=>exact hDt h₁
 |some v =>
  refine hDq (hDy h₁ (λ_ s₁' h₁=>?_) λ_ _ h'=>h'.elim);refine hDq (hDy h₁ (λ_ s₂ h₂=>hDq (hDy h₂ (λok s₃ h₃=>?_) λ_ _ h'=>h'.elim)) λ_ _ h'=>h'.elim);cases ok with
  |false=>exact hDt ⟨rfl,h₃⟩
  |true=>exact hDq (hDy h₃ (λ_ s₅ h₅=>hDt ⟨rfl,h₅⟩) λ_ _ h'=>h'.elim)
section
variable{AS:Type}
abbrev TB(AS:Type):=AS->St->Hp->(AS->St->Hp->Prop)->Prop
def PBd(X:Cx)(AO:AS->Obj->Prop)(acc:Addr)(body:Sem Unit)(tb:TB AS):Prop :=
 ∀(aB:List (Addr×Obj)) (s:Shared) (σ:St) (H:Hp) (a:AS) (o:Obj) (Q:AS->St->Hp->Prop),Inv X ((acc,o) :: aB) σ H s->(∀p∈X.pn++aB,p.1≠acc)->(acc∈X.ex\/X.s₀.heap.objs.size<=acc)->AO a o->tb a σ H Q ->
  wpAny (model X.prog X.w) X.A body (λ_ s'=>∃(a':AS) (o':Obj) (σ':St) (H':Hp),Inv X ((acc,o') :: aB) σ' H' s'/\AO a' o'/\Q a' σ' H') (λ_ _=>False) s
def qHx(J:It)(g:TG)(tt:TT)(tb:TB AS)(Q:AS->St->Hp->Prop)(a0:AS)(σ0:St)(H0:Hp):Prop :=
 ∃W:Nat->Nat->AS->St->Hp->Prop,(∃m,W 0 m a0 σ0 H0)/\∀i m a σ H,W i m a σ H ->
  (J.stop i H/\Q a σ H) \/
  (J.go i H/\∀x H',J.yld i H x H'->g x σ H' λσ2 H2=>tt σ2 H2 λb H3 =>
   if b=true then tb a σ2 H3 (λa' σ' H'=>∃m',m'<m/\W (i+1) m' a' σ' H') else ∃m',m'<m/\W (i+1) m' a σ2 H3)
theorem qZ0
  (hc:X.calm=true) (xxe:X.xe=λ_ _=>False) (hsh:compTurn e d (.ref it) (.ref acc) X.env=qC9 tpos (.ref it) target X.env ifs body (again (.compLoop e d (.ref it) (.ref acc) X.env))) (hdn:∀(A:Around) (Q:PySem.Fin->Shared->Prop) (E:Value->Shared->Prop) (s:Shared),wpAny (model X.prog X.w) A ((compTurn e d (.ref it) (.ref acc) X.env).onRaise (λx=>do noteFrame x X.env;theTreesLotGoes x)) Q E s->wpAny (model X.prog X.w) (A.under (.compLoop e d (.ref it) (.ref acc) X.env)) ((model X.prog X.w).den (.compLoop e d (.ref it) (.ref acc) X.env)) Q E s)
  (T:Turn X.prog X.w X.K target J fp it tn) (st:tn 0 s.heap) (hf:∀b∈fp,qI9 X ((acc,o) :: aB) H b) (hg:PG X target g) (ht:PTs X ifs tt) (hb:PBd X AO acc body tb)
  (I:Inv X ((acc,o) :: aB) σ H s) (np:∀p∈X.pn++aB,p.1≠acc) (hx:acc∈X.ex\/X.s₀.heap.objs.size<=acc) (ha:AO a o) (rd:qHx J g tt tb Q a σ H)
  (hR:∀(s':Shared) (a':AS) (o':Obj) (σ':St) (H':Hp),Inv X ((acc,o') :: aB) σ' H' s'->AO a' o'->Q a' σ' H'->(∀b∈fp,H' b=none)->R (.ok .next) s') :
  codeAny (model X.prog X.w) X.A (.compLoop e d (.ref it) (.ref acc) X.env) R s:=by
 obtain⟨W,⟨m0,w0⟩,turn⟩:=rd;have stat:∀ {o':Obj} {H':Hp},(∀b∈fp,H' b=none)->∀b∈fp,qI9 X ((acc,o') :: aB) H' b:=λ{o' H'} hn b hb=>by
  obtain⟨f0,f1,f2,f3,f4,f5⟩:=hf b hb;refine⟨hn b hb,f1,f2,f3,f4,λp hp=>?_⟩;rcases hAf.mp hp with z|z
  ·exact f5 p (hAk _ z)
  ·rcases hAc.mp z with z|z
   ·rw[z];exact f5 (acc,o) (hAa _ hA5)
   ·exact f5 p (hAa _ (hA4 _ z))
 refine qKf hsh hdn (λn s'=>∃(i:Nat) (a':AS) (o':Obj) (σ':St) (H':Hp),Inv X ((acc,o') :: aB) σ' H' s'/\AO a' o'/\tn i s'.heap/\(∀b∈fp,H' b=none)/\W i n a' σ' H') ?_ m0 ⟨0,a,o,σ,H,I,ha,st,λb hb=>(hf b hb).1,w0⟩;rintro n s4 ⟨i,a4,o4,σ4,H4,I4,ha4,st4,fr4,w4⟩;rcases turn i n a4 σ4 H4 w4 with ⟨stop,q⟩|⟨go,step⟩
 ·refine thn (T.done X rfl rfl rfl hc i _ s4 σ4 H4 (λ_ _=>False) I4 (stat fr4) st4 stop) λr s5 ⟨hr,I5⟩=>?_
  subst hr;exact hR s5 a4 o4 σ4 H4 I5 ha4 q fr4
 ·refine thn (T.item X rfl rfl rfl hc i _ s4 σ4 H4 (λ_ _=>False) I4 (stat fr4) st4 go) λr s5 ⟨u,hr,h5⟩=>?_
  subst hr;refine thn h5 λ_ s6 ⟨x,H6,I6,r6,y6,st6,fr6⟩=>?_
  have I6':=I6.pinned (stat fr6) (T.obj _ _ st6);have back:∀ {o':Obj} {σ':St} {H':Hp} {s':Shared},Inv X ((acc,o') :: (aB++pinsAt fp s6.heap)) σ' H' s'->Inv X ((acc,o') :: aB) σ' H' s'/\tn (i+1) s'.heap/\∀b∈fp,H' b=none:=λ{o' σ' H' s'} I'=>by
   refine⟨Inv.unpinned (pl:=pinsAt fp s6.heap) I',T.keep _ _ _ st6 λb hb o e=>?_,λb hb=>?_⟩
   ·exact(I'.pin (b,o) (hAa _ (hA4 _ (hAa _ (qB4 hb e))))).1
   ·obtain⟨o,e,d⟩:=T.obj _ _ st6 b hb;exact(I'.pin (b,o) (hAa _ (hA4 _ (hAa _ (qB4 hb e))))).2.1
  have np':∀p∈X.pn++(aB++pinsAt fp s6.heap),p.1≠acc:=λp hp=>by
   rcases hAf.mp hp with z|z
   ·exact np p (hAk _ z)
   ·rcases hAf.mp z with z|z
    ·exact np p (hAa _ z)
    ·obtain⟨hb,_⟩:=qJ0 z;exact Ne.symm ((stat (o':=o4) fr6 p.1 hb).2.2.2.2.2 (acc,o4) (hAa _ hA5))
  have tg:=hg _ s6 σ4 H6 x u _ I6' r6 (step x H6 y6);rw[xxe]at tg;refine thn tg λ_ s7 ⟨σ7,H7,I7,q7⟩=>?_
  have tts:=ht _ s7 σ7 H7 _ I7 q7;rw[xxe]at tts;refine thn tts λb s8 ⟨H8,I8,q8⟩=>?_
  cases b with
  |false =>
   rw[hDv hAm]at q8 ⊢;obtain⟨m',hm',w8⟩:=q8;obtain⟨b1,b2,b3⟩:=back I8;exact⟨m',hm',i+1,a4,o4,σ7,H8,b1,ha4,b2,b3,w8⟩
  |true =>
   rw[hDw rfl]at q8 ⊢;refine thn (hb _ s8 σ7 H8 a4 o4 _ I8 np' hx ha4 q8) λ_ s9 ⟨a9,o9,σ9,H9,I9,ha9,m',hm',w9⟩=>?_
   obtain⟨b1,b2,b3⟩:=back I9;exact⟨m',hm',i+1,a9,o9,σ9,H9,b1,ha9,b2,b3,w9⟩
end
theorem qFd(hcl:(clausesOf e)[d]?=some g)(hga:g.is_async=0)
  (hdn:∀(A:Around) (Q:PySem.Fin->Shared->Prop) (E:Value->Shared->Prop) (s:Shared),wpAny (model prog w) A ((compStart e d it acc env).onRaise (λx=>do noteFrame x env;standAt theWindowsPlace)) Q E s->wpAny (model prog w) (A.under (.compStart e d it acc env)) ((model prog w).den (.compStart e d it acc env)) Q E s)
  (hq:∀it',(Code.compLoop e d it' acc env).quiet=true)
  (h0:codeAny (model prog w) A (.compLoop e d it acc env) R s)
  (h:wpAny (model prog w) A (pyIter it) (λit' s'=>codeAny (model prog w) A (.compLoop e d it' acc env) R s') (λ_ _=>False) s):codeAny (model prog w) A (.compStart e d it acc env) R s:=by
 refine codeAny_of_tree (hdn _ _ _ _ (wpAny_notedAt ?_));unfold compStart;rw[hcl];show wpAny _ _ (if (g.is_async != 0)=true then _ else _) _ _ s;rw[hDv (by rw[hga];decide)];refine hDq (hE3 (wpAny_ite ?_));split
 ·first
   |exact hDq (hDt (hDt (And.intro (hq _) h0)))
   |exact hDt (And.intro (hq _) h0)
 ·exact hDq (wpAny_rule (hDq (hEc (hDq (hDy h (λit' s' h'=>hDt (And.intro (hq _) h')) λ_ _ x=>x.elim)))))
section
variable{X:Cx}{aB:List (Addr×Obj)}{σ:St}{H:Hp}{s:Shared}{AS:Type}
theorem zBg{e target:Expr}{gcl:Comprehension}{tpos:Pos}{ifs:List Expr}{scope:Scope}{N':List Str}{sub:List (Option Nat)}{J:It}{fp:List Addr}{it:Addr}{tn:Nat->Heap->Prop}{g:TG}{tt:TT}{tb:TB AS}{o0:Obj}{a0:AS}{AO:AS->Obj->Prop}{HOf:Addr->AS->HO}{newAcc:Sem Value}{body:Addr->Env->Sem Unit}
  {Qe:AS->Hp->Prop} {E:Value->Shared->Prop} {RR:Value->Addr->Result->Shared->Prop}
  (hnew:∀(A:Around) (s:Shared) (Q:Value->Shared->Prop) (E:Value->Shared->Prop),Q (.ref s.heap.objs.size) { s with heap:=s.heap.push o0 }->wpAny (model X.prog X.w) A newAcc Q E s) (nf:o0.isFreed=false) (nc:∀a o,AO a o->∀v,o.data≠.cell v) (hA0:AO a0 o0)
  (hHO:∀(H':Hp) (h:Heap) (acc:Addr) (a:AS) (o:Obj),sysModules<acc->AO a o->h.get? acc=some o->qCg X.prog X.w H' h acc (HOf acc a))
  (hcl:(clausesOf e)[0]?=some gcl) (hga:gcl.is_async=0)
  (hdnS:∀(it acc:Value) (env:Env) (A:Around) (Q:PySem.Fin->Shared->Prop) (E:Value->Shared->Prop) (s:Shared),wpAny (model X.prog X.w) A ((compStart e 0 it acc env).onRaise (λx=>do noteFrame x env;standAt theWindowsPlace)) Q E s->wpAny (model X.prog X.w) (A.under (.compStart e 0 it acc env)) ((model X.prog X.w).den (.compStart e 0 it acc env)) Q E s)
  (hdnL:∀(it acc:Value) (env:Env) (A:Around) (Q:PySem.Fin->Shared->Prop) (E:Value->Shared->Prop) (s:Shared),wpAny (model X.prog X.w) A ((compTurn e 0 it acc env).onRaise (λx=>do noteFrame x env;theTreesLotGoes x)) Q E s->wpAny (model X.prog X.w) (A.under (.compLoop e 0 it acc env)) ((model X.prog X.w).den (.compLoop e 0 it acc env)) Q E s)
  (hq:∀it acc env,(Code.compLoop e 0 it acc env).quiet=true)
  (hsh:∀(it acc:Addr) (env:Env),compTurn e 0 (.ref it) (.ref acc) env=qC9 tpos (.ref it) target env ifs (body acc env) (again (.compLoop e 0 (.ref it) (.ref acc) env)))
  (hc:X.calm=true) (I:Inv X aB σ H s) (O:CmpOk X.N X.env.scope N' scope sub) (T:Turn X.prog X.w X.K target J fp it tn) (st:tn 0 s.heap) (hf:∀b∈fp,qI9 X aB H b)
  (B:∀C s H fp,PG (qBn X scope N' C s H fp) target g/\PTs (qBn X scope N' C s H fp) ifs tt/\∀acc,PBd (qBn X scope N' C s H fp) AO acc (body acc (qBn X scope N' C s H fp).env) tb)
  (rd:qHx J g tt tb (λa _ H'=>Qe a H') a0 (subσ sub σ) H)
  (hRR:∀(acc C:Addr) (a:AS) (H':Hp) (s':Shared),Inv X aB σ (upd H' acc (HOf acc a)) s'->qI9 X aB (upd H' acc (HOf acc a)) C->(∃m,s'.heap.Ns C m)->H' acc=none->Qe a H'->RR (.ref acc) C (.ok .next) s') :
  wpAny (model X.prog X.w) X.A newAcc (λacc s₃=>wpAny (model X.prog X.w) X.A (newFunctionEnv scope X.env.globals (qCv X.env.cells scope.names []) [] X.env.qual none .none (some X.env)) (λcenv s₄ =>
   codeAny (model X.prog X.w) X.A (.compStart e 0 (.ref it) acc { cenv with scope:=relabel scope X.env }) (RR acc cenv.locals) s₄) E s₃) E s:=by
 refine hnew _ _ _ _ (qEv ?_);have hfl:∀b∈fp,b<s.heap.objs.size:=λb hb=>by
  obtain⟨o,e,_⟩:=T.obj _ _ st b hb;exact Heap.lt_size e
 have I0:=qQ5 (o0:=o0) (sub:=sub) I O hf hfl nf (nc a0 o0 hA0);have sz3:(s.heap.push o0).objs.size=s.heap.objs.size+1:=Heap.size_push ..;dsimp only;show codeAny _ _ (.compStart _ 0 (.ref it) (.ref s.heap.objs.size) { scope:=relabel scope X.env,locals:=(s.heap.push o0).objs.size,globals:=X.env.globals,cells:=cellsFrom ((s.heap.push o0).objs.size+1) scope.names (qCv X.env.cells scope.names []),qual:=X.env.qual,func:=none,code:=X.env.code,frame:=X.env.frame,builtins:=X.env.builtins })
  (RR (.ref s.heap.objs.size) (s.heap.push o0).objs.size) { s with heap:=pushCells ((s.heap.push o0).push { cls:=.type "dict",data:=.dict #[] }) scope.names }
 rw[sz3];show codeAny _ _ (.compStart _ 0 (.ref it) (.ref s.heap.objs.size) (qB7 X.env scope (s.heap.objs.size+1))) (RR (.ref s.heap.objs.size) (s.heap.objs.size+1)) _;generalize hs0:({ s with heap:=pushCells ((s.heap.push o0).push { cls:=.type "dict",data:=.dict #[] }) scope.names }:Shared)=s0 at I0 ⊢;have hk0:∀b o,s.heap.get? b=some o->s0.heap.get? b=some o:=λb o e=>by
  rw[<-hs0];exact hE4 _ _ b o (Heap.get?_push_of_some _ (Heap.get?_push_of_some _ e))
 have st0:tn 0 s0.heap:=T.keep _ _ _ st λb hb o e=>hk0 b o e
 clear hs0 sz3;generalize hX:qBn X scope N' (s.heap.objs.size+1) s H fp=X' at I0;have xp:X'.prog=X.prog:=by rw[<-hX];rfl
 have xw:X'.w=X.w:=by rw[<-hX];rfl
 have xK:X'.K=X.K:=by rw[<-hX];rfl
 have xA:X'.A=X.A:=by rw[<-hX];rfl
 have xc:X'.calm=true:=by rw[<-hX];exact hc
 have xe:X'.env=qB7 X.env scope (s.heap.objs.size+1):=by rw[<-hX];rfl
 have xx:X'.ex=fp:=by rw[<-hX];rfl
 have xf:X'.fs=frs X.stack:=by rw[<-hX];rfl
 have xpn:X'.pn=[]:=by rw[<-hX];rfl
 have x0:X'.s₀=s:=by rw[<-hX];rfl
 have xh:X'.H₀=H:=by rw[<-hX];rfl
 have xxe:X'.xe=λ_ _=>False:=by rw[<-hX];rfl
 obtain⟨hg,ht,hbd⟩:=B (s.heap.objs.size+1) s H fp;rw[hX]at hg ht hbd;clear hX;have f0':∀b∈fp,qI9 X' [(s.heap.objs.size,o0)] H b:=λb hb=>by
  obtain⟨f0,f1,f2,f3,f4,f5⟩:=hf b hb;refine⟨f0,(I0.ok.exf b (by rw[xx];exact hb)).1,I0.ok.exfs b (by rw[xx];exact hb),.inl (by rw[xx];exact hb),(I0.ok.exf b (by rw[xx];exact hb)).2,λp hp'=>?_⟩;rw[xpn,List.nil_append,hAe]at hp';rw[hp'];exact hDn (hfl b hb)
 have loop:codeAny (model X.prog X.w) X.A (.compLoop e 0 (.ref it) (.ref s.heap.objs.size) (qB7 X.env scope (s.heap.objs.size+1))) (RR (.ref s.heap.objs.size) (s.heap.objs.size+1)) s0:=by
  have T':Turn X'.prog X'.w X'.K target J fp it tn:=by rw[xp,xw,xK];exact T
  have hb0:=hbd s.heap.objs.size;have key:=qZ0 (X:=X') (AO:=AO) (e:=e) (d:=0) (tpos:=tpos) (R:=RR (.ref s.heap.objs.size) (s.heap.objs.size+1)) (aB:=[]) (a:=a0) (o:=o0) (acc:=s.heap.objs.size) xc xxe (hsh it s.heap.objs.size X'.env) (by rw[xp,xw];exact hdnL _ _ _) T' st0 f0' hg ht hb0 I0 (by rw[xpn];exact λp hp=>absurd hp (by simp)) (.inr (by rw[x0];exact hA3 _)) hA0 rd ?_
  ·rw[xp,xw,xA,xe]at key;exact key
  intro s5 a5 o5 σ5 H4 I5 ha5 q fr5;have pa:=I5.pin (s.heap.objs.size,o5) (by rw[xpn];simp);have nacc:H4 s.heap.objs.size=none:=pa.2.1;have nC:H4 (s.heap.objs.size+1)=none:=by have z:=I5.free;rw[xe]at z;exact z
  have un:Un (frs X.stack) fp H H4 s.heap s5.heap:=by have z:=I5.base;rw[xf,xx,xh,x0]at z;exact z
  have un2:Un (frs X.stack) fp H (upd H4 s.heap.objs.size (HOf s.heap.objs.size a5)) s.heap s5.heap:=by
   refine⟨un.keep,un.slot,λb o e n hx=>?_,un.there,λb xs e=>?_,λb o u e=>?_,λb ps e=>?_⟩
   ·rw[qAs (hAt (Heap.lt_size e))];exact un.free b o e n hx
   ·have z:=un.tups b xs e;rw[qAs (qAw z nacc)];exact z
   ·have z:=un.frzs b o u e;rw[qAs (qAw z nacc)];exact z
   ·obtain⟨more,z⟩:=un.tbls b ps e;exact⟨more,by rw[qAs (qAw z nacc)];exact z⟩
  have hok5:HOk X.prog X.w H4 s5.heap:=by have z:=I5.hok;rw[xp,xw]at z;exact z
  have hok2:HOk X.prog X.w (upd H4 s.heap.objs.size (HOf s.heap.objs.size a5)) s5.heap:=λb u e=>by
   by_cases hb:b=s.heap.objs.size
   ·subst hb;rw[upd_same]at e;cases e;exact hHO _ _ _ _ _ I.big ha5 pa.1
   ·rw[qAs hb]at e;exact(hok5 b u e).stay (λ_ _ _ q=>q) (λc q=>by rw[qAs (qAw q nacc)];exact q) λc xs q=>by rw[qAs (qAw q nacc)];exact q
  have os5:s5.os=s.os:=by have z:=I5.os;rw[x0]at z;exact z
  have J5:Inv X aB σ (upd H4 s.heap.objs.size (HOf s.heap.objs.size a5)) s5:=I.call' os5 un2 hok2 I5.bare λb hb=>by
   obtain⟨f0,f1,f2,f3,f4,f5⟩:=hf b hb;exact⟨f3,f1,f4,f5⟩
  refine hRR _ _ a5 H4 s5 J5 (I.fpOk (hB8 _) ?_) ?_ nacc q
  ·rw[qAs (Nat.succ_ne_self _)];exact nC
  ·obtain⟨m,hn,_⟩:=I5.loc;rw[xe]at hn;exact⟨m,hn⟩
 exact qFd hcl hga (hdnS _ _ _) (λit'=>hq _ _ _) loop (T.self _ 0 _ _ _ st0 loop)
end
def qGa(e iter2:Expr)(acc:Addr)(env:Env):Sem Unit:=do
 let x ← eval iter2 env
 standAt iter2.pos
 let x ← foldedSetIterable iter2 env x
 let _ ← runOwn (.compStart e 1 (← holding [x] (pyIter x)) (.ref acc) env) env
def zAs{AS:Type}(wi:TI)(g:TG)(tt:TT)(tb:TB AS):TB AS:=λa σ H Q=>wi σ H λJ H1=>qHx J g tt tb Q a σ H1
theorem qSi{X:Cx}{AS:Type}{AO:AS->Obj->Prop}{acc:Addr}{e iter2 target2:Expr}{ifs2:List Expr}{tpos2:Pos}{gcl:Comprehension}{body:Sem Unit}{wi:TI}{g:TG}{tt:TT}{tb:TB AS}(hc:X.calm=true)(xxe:X.xe=λ_ _=>False)
  (hi:PI X target2 iter2 wi) (hg:PG X target2 g) (ht:PTs X ifs2 tt) (hb:PBd X AO acc body tb) (hfold:∀x,foldedSetIterable iter2 X.env x=pure x)
  (hcl:(clausesOf e)[1]?=some gcl) (hga:gcl.is_async=0)
  (hsh:∀it:Addr,compTurn e 1 (.ref it) (.ref acc) X.env=qC9 tpos2 (.ref it) target2 X.env ifs2 body (again (.compLoop e 1 (.ref it) (.ref acc) X.env)))
  (hdnS:∀(it:Value) (A:Around) (Q:PySem.Fin->Shared->Prop) (E:Value->Shared->Prop) (s:Shared),wpAny (model X.prog X.w) A ((compStart e 1 it (.ref acc) X.env).onRaise (λx=>do noteFrame x X.env;standAt theWindowsPlace)) Q E s->wpAny (model X.prog X.w) (A.under (.compStart e 1 it (.ref acc) X.env)) ((model X.prog X.w).den (.compStart e 1 it (.ref acc) X.env)) Q E s)
  (hdnL:∀(it:Value) (A:Around) (Q:PySem.Fin->Shared->Prop) (E:Value->Shared->Prop) (s:Shared),wpAny (model X.prog X.w) A ((compTurn e 1 it (.ref acc) X.env).onRaise (λx=>do noteFrame x X.env;theTreesLotGoes x)) Q E s->wpAny (model X.prog X.w) (A.under (.compLoop e 1 it (.ref acc) X.env)) ((model X.prog X.w).den (.compLoop e 1 it (.ref acc) X.env)) Q E s)
  (hq:∀it,(Code.compLoop e 1 it (.ref acc) X.env).quiet=true):PBd X AO acc (qGa e iter2 acc X.env) (zAs wi g tt tb):=by
 intro aB s σ H a o Q I np hx ha h;have h0:=hi _ s σ H _ I h;rw[xxe]at h0;unfold qGa;refine hDq (thn h0 λv s1 h1=>hDq (hEc (hDq (wpAny_of_eq (hfold v) (hDq (hDx (thn h1 λitv s2 h2=>?_)))))));obtain⟨it,fp,tn,J,H2,e2,I2,T,st2,f2,rd⟩:=h2;subst e2;refine hDq (wpAny_runOwn ?_);have loop:=qZ0 (X:=X) (AO:=AO) (e:=e) (d:=1) (tpos:=tpos2) (R:=λr s'=>match r with
   |.ok f=>wpAny (model X.prog X.w) X.A (pure ():Sem Unit) (λ_ s'=>∃(a':AS) (o':Obj) (σ':St) (H':Hp),Inv X ((acc,o') :: aB) σ' H' s'/\AO a' o'/\Q a' σ' H') (λ_ _=>False) s'
   |.error e=>cameBackBy (model X.prog X.w) X.A X.env (λ_ _=>False) e s') hc xxe (hsh it) (hdnL _) T st2 f2 hg ht hb I2 np hx ha rd
  (λs' a' o' σ' H' I' ha' q' _=>hDt ⟨a',o',σ',H',I',ha',q'⟩)
 exact qFd hcl hga (hdnS _) hq loop (T.self _ 0 _ _ _ st2 loop)
def qHb(P:Program)(w:World)(ss:List Str)(o:Obj):Prop :=
 ∃(es:Array (Int×Value)) (ep:Nat) (t:SetTable),o=sOb es ep t/\ElemsOf (PySem.strKind P w) es.toList/\StrsAre (es.toList.map (·.2)) ss/\es.size<scanBound/\t.fits es.size=true/\t.led=!w.params.followText "set-order"/\(es.size≠0->t.plain=false)
theorem qHb.set(x:qHb P w ss o)(e:h.get? a=some o):qBq P w h a ss:=by
 obtain⟨es,ep,t,rfl,r⟩:=x;exact⟨es,ep,t,e,r⟩
theorem qBq.obj(x:qBq P w h a ss):∃o,h.get? a=some o/\qHb P w ss o:=by
 obtain⟨es,ep,t,e,r⟩:=x;exact⟨_,e,es,ep,t,rfl,r⟩
theorem qHb.nocell(x:qHb P w ss o):∀v,o.data≠.cell v:=by
 obtain⟨es,ep,t,rfl,_⟩:=x;intro v z;cases z
def qPr(elt:Expr)(acc:Addr)(env:Env):Sem Unit:=do
 let v ← eval elt env
 standAt elt.pos
 let _ ← call (.builtin "set.add") [.ref acc,v]
def zCa(te:TE):TB (List Str):=λss σ H Q=>te σ H λv H'=>∃x:Str,v = .str x/\ss.length<1000/\∀ss',(if x∈ss then ss'=ss else ss'.Perm (ss++[x]))->Q ss' σ H'
theorem qWc(xxe:X.xe=λ_ _=>False)(he:PE X elt te):PBd X (qHb X.prog X.w) acc (qPr elt acc X.env) (zCa te):=by
 intro aB s σ H a o Q I np hx ha h;have h0:=he _ s σ H _ I h;rw[xxe]at h0;unfold qPr;refine hDq (thn h0 λv s1 ⟨y,H1,I1,r1,x,ex,hl,q⟩=>hDq (hEc (hDq ?_)));subst ex;obtain⟨tk,rfl⟩:=r1;have pa:=I1.pin (acc,o) (hAa _ hA5);have hS:qBq X.prog X.w s1.heap acc a:=ha.set pa.1;have hT:s1.TypeIs (.ref acc) "set":=by
  obtain⟨es,ep,t,ho,_⟩:=hS;exact⟨_,ho,rfl⟩
 refine hDz PySem.F.slot_set_add hT PySem.F.entry_set_add ?_ (PySem.F.args_set_add_2 _ _);unfold Builtin.«set.add» Builtin.Frozenset.oneOther;simp only[List.isEmpty_nil,bind_assoc];unfold Builtin.Frozenset.addrOf setAdd;refine hDq (hDt ?_);try dsimp only
 refine hDq (hDt ?_);try dsimp only
 refine hDq (hDx (hDq ((PySem.strKind X.prog X.w).pyHash (strKind_is X.prog X.w x tk) ?_)));refine qMa (s:={ s1 with toks:=s1.toks+1 }) hS (by have:scanBound=4096:=rfl;omega) λh2 ss2 sb2 hS2 q2=>?_
 show wpAny _ _ (ret Value.none) _ _ _;refine hDt ⟨_,rfl,hDt ?_⟩;obtain⟨o2,e2,ho2⟩:=hS2.obj;exact⟨ss2,o2,σ,H1,I1.repin (t':=s1.toks+1) (λb u hb e=>(sb2.2 b hb).trans e) e2 ho2.nocell hx np,ho2,q ss2 q2⟩
structure GC(P:Program)(w:World){AS:Type}(e target iter:Expr)(ifs:List Expr)(scope:Scope)(tpos:Pos)(newAcc:Sem Value)(body:Addr->Env->Sem Unit)(o0:Obj)(a0:AS)(AO:AS->Obj->Prop)(HOf:Addr->AS->HO):Prop where
 new:∀(A:Around) (s:Shared) (Q:Value->Shared->Prop) (E:Value->Shared->Prop),Q (.ref s.heap.objs.size) { s with heap:=s.heap.push o0 }->wpAny (model P w) A newAcc Q E s
 nf:o0.isFreed=false
 nc:∀a o,AO a o->∀v,o.data≠.cell v
 hA0:AO a0 o0
 hHO:∀(H':Hp) (h:Heap) (acc:Addr) (a:AS) (o:Obj),sysModules<acc->AO a o->h.get? acc=some o->qCg P w H' h acc (HOf acc a)
 cl:∃gs,clausesOf e=⟨target,iter,ifs,0⟩ :: gs
 dnS:∀(it acc:Value) (env:Env) (A:Around) (Q:PySem.Fin->Shared->Prop) (E:Value->Shared->Prop) (s:Shared),wpAny (model P w) A ((compStart e 0 it acc env).onRaise (λx=>do noteFrame x env;standAt theWindowsPlace)) Q E s->wpAny (model P w) (A.under (.compStart e 0 it acc env)) ((model P w).den (.compStart e 0 it acc env)) Q E s
 dnL:∀(it acc:Value) (env:Env) (A:Around) (Q:PySem.Fin->Shared->Prop) (E:Value->Shared->Prop) (s:Shared),wpAny (model P w) A ((compTurn e 0 it acc env).onRaise (λx=>do noteFrame x env;theTreesLotGoes x)) Q E s->wpAny (model P w) (A.under (.compLoop e 0 it acc env)) ((model P w).den (.compLoop e 0 it acc env)) Q E s
 q:∀it acc env,(Code.compLoop e 0 it acc env).quiet=true
 sh:∀(it acc:Addr) (env:Env),compTurn e 0 (.ref it) (.ref acc) env=qC9 tpos (.ref it) target env ifs (body acc env) (again (.compLoop e 0 (.ref it) (.ref acc) env))
def zAu{AS:Type}(sub:List (Option Nat))(wi:TI)(g:TG)(tt:TT)(tb:TB AS)(a0:AS)(HOf:Addr->AS->HO):TE:=λσ H Q=>wi σ H λJ H1 =>
 qHx J g tt tb (λa _ H'=>∀r,H' r=none->Q (.ref r) (upd H' r (HOf r a))) a0 (subσ sub σ) H1
section
variable{X:Cx}{AS:Type}{e target iter:Expr}{ifs:List Expr}{scope sc:Scope}{pos tpos cpos:Pos}{N N':List Str}{sub:List (Option Nat)}{wi:TI}{g:TG}{tt:TT}{tb:TB AS}{newAcc:Sem Value}{body:Addr->Env->Sem Unit}{o0:Obj}{a0:AS}{AO:AS->Obj->Prop}{HOf:Addr->AS->HO}
theorem zCs(GG:GC X.prog X.w e target iter ifs scope tpos newAcc body o0 a0 AO HOf)(hev:eval e X.env=comprehension e scope X.env cpos newAcc false (eval iter X.env))(hN:X.N=N)(hsc:X.env.scope=sc)(O:CmpOk N sc N' scope sub)(hc:X.calm=true)(hi:PI X target iter wi)
  (B:∀C s H fp,PG (qBn X scope N' C s H fp) target g/\PTs (qBn X scope N' C s H fp) ifs tt/\∀acc,PBd (qBn X scope N' C s H fp) AO acc (body acc (qBn X scope N' C s H fp).env) tb)
  (hs:∀x,foldedSetIterable iter X.env x=pure x:=by intro _;rfl):PE X e (zAu sub wi g tt tb a0 HOf):=by
 subst hN hsc;intro aB s σ H Q I h;rw[hev];obtain⟨gs,hcl⟩:=GG.cl;refine wpAny_comprehension_free (use:=none) hcl hs (qL4 I O) O.kind (qIr O) (thn (hi aB s σ H _ I h) λv s1 h1=>thn h1 λitv s2 h2=>?_);obtain⟨it,fp,tn,J,H2,e,I2,T,st2,f2,rd⟩:=h2;subst e;refine zBg (RR:=λacc C=>compPost (model X.prog X.w) X.A X.xe none (EP X aB σ Q) acc C) GG.new GG.nf GG.nc GG.hA0 GG.hHO (by rw[hcl];rfl) rfl GG.dnS GG.dnL GG.q GG.sh hc I2 O T st2 f2 B rd λacc C a H' s' I' fC hn na q=>?_
 obtain⟨m,hn⟩:=hn;obtain⟨f0,f1,f3,f4,f5,f6⟩:=fC;refine⟨m,hn,λh' sb=>?_⟩;exact⟨.ref acc,upd H' acc (HOf acc a),I'.turned (t':=s'.toks) (it:=C) (λb o hb e=>(sb.2 b hb).trans e) f0 f1 f4 f5 f6,rfl,q acc na⟩
end
section
variable{P:Program}{w:World}{target iter target2 iter2 elt kx vx:Expr}{ifs ifs2:List Expr}{scope:Scope}{pos:Pos}
theorem qXj:GC P w (.SetComp elt [⟨target,iter,ifs,0⟩,⟨target2,iter2,ifs2,0⟩] scope pos) target iter ifs scope iter.pos (newSet (.type "set")) (qGa (.SetComp elt [⟨target,iter,ifs,0⟩,⟨target2,iter2,ifs2,0⟩] scope pos) iter2) (qN7 w) ([]:List Str) (qHb P w) (qX3 P w) where
 new:=λA s Q E h=>by
  unfold newSet setsByText;refine hDq (hDq (hE3 (hDt ?_)));dsimp only;simp only[newObj];exact hDq (wpAny_alloc (hDt h))
 nf:=rfl
 nc:=λa o h=>h.nocell
 hA0:=by
  obtain⟨o,e,r⟩:=(qPq P w (h:=(({}:Heap).push (qN7 w))) (a:=({}:Heap).objs.size) (Heap.get?_push_size _ rfl)).obj;rw[Heap.get?_push_size _ rfl]at e;cases e;exact r
 hHO:=λH' h acc a o _ x e=>⟨x.set e,⟨o,e⟩,λh1 h2 z k=>z.at k⟩
 cl:=⟨_,rfl⟩
 dnS:=λ_ _ _ _ _ _ _ h=>h
 dnL:=λ_ _ _ _ _ _ _ h=>h
 q:=λ_ _ _=>rfl
 sh:=λit acc env=>by
  unfold qC9 qGa;simp only[bind_assoc];rfl
end
end L2
namespace L2
open PySem PySem.Spec PyProof.Rows PySem.W
abbrev Rng(n:Nat):Array Nat:=List.toArray (List.range n)
def Gd(n:Nat)(p:Array Nat):Prop:=p.Perm (Rng n)
theorem Gd.lt(h:Gd n p)(h0:0<n)(i:Nat):p.getD i 0<n:=by
 by_cases hi:i<p.size
 ·have e:p.getD i 0=p[i]:=by simp[Array.getD,hi]
  rw[e];have m:p[i]∈p.toList:=by simp
  have m2:=(hCd.mp h).mem_iff.mp m
  simpa using m2
 ·have e:p.getD i 0=0:=by simp[Array.getD,hi]
  rw[e];exact h0
theorem Gd.rev(h:Gd n p)(i j:Nat):Gd n (kas_rev p i j):=(mirror_perm _ _ _ _).trans h
theorem Gd.bub(h:Gd n p)(i j:Nat):Gd n (bubble p i j):=(bubble_perm _ _ _).trans h
section
variable{n:Nat}{cmp:Nat->Nat->(Bool->Shared->Prop)->Shared->Prop}{s:Shared}(hask:∀i j C,i<n->j<n->(∀b,C b s)->cmp i j C s)(h0:0<n)
include hask h0
end
def zAj(h:Heap)(v:Value)(t:List Str):Prop:=∃a its,v = .ref a/\IsTup h a its/\StrsAre its.toList t/\t≠[]
section
variable{P:Program}{w:World}{A:Around}{E:Value->Shared->Prop}{s:Shared}
theorem qGd(k:∀b o,b≠a->h.get? b=some o->h'.get? b=some o):∀ {vs:List Value} {ts:List (List Str)},Paired (zAj h) vs ts->(∀v∈vs,v≠.ref a)->∃fs:List Value,KatTups h' vs fs/\fs.length=vs.length/\∀f∈fs,∃x t,f=Value.str x t
 |_,_,.nil,_=>⟨[],trivial,rfl,λf hf=>by cases hf⟩
 |_,_,@Paired.cons _ _ _ v t l1 l2 hh tt,hn=>by
  obtain⟨fs,q1,q2,q3⟩:=qGd k tt λu hu=>hn u (hA4 _ hu)
  obtain⟨b,its,rfl,⟨o,g,c,n,d⟩,st,ne⟩:=hh;have nb:b≠a:=λz=>hn _ hA5 (by rw[z])
  cases t with
  |nil=>exact absurd rfl ne
  |cons x r =>
   have e:=st.strs;cases hi:its.toList with
   |nil=>rw[hi]at e;cases e
   |cons f fr =>
    have hf:its[0]?=some f:=by rw[<-hBv,hi];rfl
    refine⟨f :: fs,.cons (k b o nb g) c d hf q1,by simp[q2],λg' hg'=>?_⟩;rcases hAc.mp hg' with z|z
    ·subst z;exact st.all _ (by rw[hi];exact hA5)
    ·exact q3 g' z
end
section
variable{X:Cx}
theorem qP8:∀ {as:List Addr} {us:List Value},qBf (as.map V.ref) us->us=as.map Value.ref
 |[],_,r=>by cases r;rfl
 |a :: as,_,r=>by
  cases r with
  |cons h t=>cases h;rw[qP8 t];rfl
theorem qJe:∀as:List Addr,qBf (as.map V.ref) (as.map Value.ref)
 |[]=>.nil
 |a :: as=>.cons rfl (qJe as)
theorem qO2(I:Inv X aB σ H s)(k:∀b o,s.heap.get? b=some o->h'.get? b=some o):∀ {as:List Addr} {ts:List (List Str)},Paired (λa t=>SqT X.K H a (t.map V.str)/\t≠[]) as ts->Paired (zAj h') (as.map Value.ref) ts
 |_,_,.nil=>.nil
 |_,_,.cons h t=>by
  obtain⟨h1,h2⟩:=h;obtain⟨its,rv,⟨o,g,c,n,d⟩,_⟩:=I.tuple h1;exact .cons ⟨_,its.toArray,rfl,⟨o,k _ _ g,c,n,d⟩,by simpa using qDg rv,h2⟩ (qO2 I k t)
theorem qO3(I:Inv X aB σ H s):∀ {as:List Addr} {ts:List (List Str)},Paired (λa t=>SqT X.K H a (t.map V.str)/\t≠[]) as ts->∀b∈as,b<s.heap.objs.size
 |_,_,.nil,b,hb=>by cases hb
 |_,_,.cons h t,b,hb=>by
  rcases hAc.mp hb with z|z
  ·subst z;obtain⟨its,rv,⟨o,g,_⟩,_⟩:=I.tuple h.1;exact Heap.lt_size g
  ·exact qO3 I t b z
end
section
variable{AS:Type}{g:TG}{tt:TT}{tb:TB AS}{Q:AS->St->Hp->Prop}{a0:AS}{σ0:St}{H0:Hp}
def NxG(n i:Nat)(Pv:Nat->AS->St->Hp->Prop)(a:AS)(σ:St)(H:Hp):Prop:=∃m',m'<n-i/\m'=n-(i+1)/\i+1<=n/\Pv (i+1) a σ H
theorem nxg(hi:i<n)(h:Pv (i+1) a σ H):NxG n i Pv a σ H:=⟨_,by omega,rfl,hi,h⟩
theorem qZ1{K:PySem.W.Frag}{p:Addr}{xs:List V}(Pv:Nat->AS->St->Hp->Prop)(h0:Pv 0 a0 σ0 H0)(hl:∀i a σ H,i<=xs.length->Pv i a σ H->SqL K H p xs)
  (hs:∀i x a σ H,xs[i]?=some x->Pv i a σ H->g x σ H λσ2 H2=>tt σ2 H2 λb H3=>if b=true then tb a σ2 H3 (NxG xs.length i Pv) else NxG xs.length i Pv a σ2 H3)
  (hd:∀a σ H,Pv xs.length a σ H->Q a σ H):qHx (Itl K p) g tt tb Q a0 σ0 H0:=by
 refine⟨λi m a σ H=>m=xs.length-i/\i<=xs.length/\Pv i a σ H,⟨xs.length,by simp,hAs _,h0⟩,?_⟩;rintro i m a σ H ⟨rfl,hi,pv⟩;have q:=hl i a σ H hi pv;by_cases hlt:i<xs.length
 ·refine .inr ⟨⟨xs,xs[i],q,by simp[hlt]⟩,λx H' y=>?_⟩;obtain⟨e,y⟩:=y;subst e;exact hs i x a σ _ (y xs q) pv
 ·have e:i=xs.length:=by omega
  subst e;exact .inl ⟨⟨xs,q,hA3 _⟩,hd a σ H pv⟩
theorem qXk{K:PySem.W.Frag}{p:Addr}{xs:List V}(Pv:Nat->AS->St->Hp->Prop)(h0:Pv 0 a0 σ0 H0)(hl:∀i a σ H,i<=xs.length->Pv i a σ H->SqT K H p xs)
  (hs:∀i x a σ H,xs[i]?=some x->Pv i a σ H->g x σ H λσ2 H2=>tt σ2 H2 λb H3=>if b=true then tb a σ2 H3 (NxG xs.length i Pv) else NxG xs.length i Pv a σ2 H3)
  (hd:∀a σ H,Pv xs.length a σ H->Q a σ H):qHx (Itt K p) g tt tb Q a0 σ0 H0:=by
 refine⟨λi m a σ H=>m=xs.length-i/\i<=xs.length/\Pv i a σ H,⟨xs.length,by simp,hAs _,h0⟩,?_⟩;rintro i m a σ H ⟨rfl,hi,pv⟩;have q:=hl i a σ H hi pv;by_cases hlt:i<xs.length
 ·refine .inr ⟨⟨xs,xs[i],q,by simp[hlt]⟩,λx H' y=>?_⟩;obtain⟨e,y⟩:=y;subst e;exact hs i x a σ _ (y xs q) pv
 ·have e:i=xs.length:=by omega
  subst e;exact .inl ⟨⟨xs,q,hA3 _⟩,hd a σ H pv⟩
end
section
variable{X:Cx}
theorem qKi:qB9 X (.type "range") (λxs H Q=>∃j:Int,xs=[.int j]/\0<=j/\j<=1000/\∀r,H r=none->Q (.ref r) (upd H r (.rng 0 j))):=by
 intro aB s σ H xs us Q I r h;obtain⟨j,rfl,h0,h1,q⟩:=h;obtain⟨u,rfl,t,rfl⟩:=qD1 r;refine call_range_1 ?_;exact⟨.ref s.heap.objs.size,_,I.laid (a:=s.heap.objs.size) (o:=.rng 0 j) (λb o e=>Heap.get?_push_of_some _ e) (hA3 _) ⟨_,_,_,Heap.get?_push_size _ rfl⟩,rfl,q _ (I.hok.fresh (hA3 _))⟩
theorem qJ9:∀ {its:List Value} {n:Nat} (k:Nat),its.length=n->(∀i v,its[i]?=some v->∃t,v=Value.int ((k+i:Nat):Int) t)->qBf ((List.range' k n).map λ(i:Nat)=>V.int (i:Int)) its
 |[],n,k,hl,_=>by
  have e:n=0:=hl.symm;subst e;exact .nil
 |v :: r,n,k,hl,h=>by
  obtain⟨m,rfl⟩:∃m,n=m+1:=⟨n-1,by simp at hl;omega⟩;rw[List.range'_succ,hAu];refine .cons ?_ (qJ9 (k+1) (by simpa using hl) λi v hv=>?_)
  ·obtain⟨t,e⟩:=h 0 v rfl;exact⟨t,by rw[e,Nat.add_zero]⟩
  ·obtain⟨t,e⟩:=h (i+1) v (by simpa using hv);exact⟨t,by rw[e,show k+(i+1)=k+1+i by omega]⟩
theorem qI6(hc:X.calm=true):qB9 X (.type "list") (λxs H Q=>∃(r:Addr) (j:Int),xs=[.ref r]/\H r=some (.rng 0 j)/\0<=j/\j<=1000/\∀l,H l=none->Q (.ref l) (upd H l (.lst ((List.range j.toNat).map λ(i:Nat)=>V.int (i:Int))))):=by
 intro aB s σ H xs us Q I r h;obtain⟨p,j,rfl,hp,h0,h1,q⟩:=h;obtain⟨u,rfl,rx⟩:=qD1 r;cases rx;obtain⟨t,u,v,e⟩:=I.hok p _ hp;refine call_list_range (n:=j.toNat) (a:=0) (b:=j) (c:=1) (I.ok.hd hc) e (small_one (by decide) (by decide) (by omega) (by omega)) (by rw[rangeSize_one];split <;> omega) (by omega) λh' tk acc' c' hk hS hacc=>?_
 refine⟨.ref s.heap.objs.size,_,I.laid (t':=tk) (a:=s.heap.objs.size) (o:=.lst ((List.range j.toNat).map λ(i:Nat)=>V.int (i:Int))) (λb o e=>hk b o e) (hA3 _) ⟨?_,acc'.toList,c',?_,by rw[Array.toArray_toList];exact hS⟩,rfl,q _ (I.hok.fresh (hA3 _))⟩
 ·rw[hA1,hBq];exact hB1 (qAi (by omega))
 ·rw[List.range_eq_range'];refine qJ9 0 (by rw[hBr];exact hacc.1) λi v hv=>?_
  obtain⟨t,e⟩:=hacc.2 i v (by rw[<-hBv];exact hv);exact⟨t,by rw[e];congr 1;omega⟩
end
structure Ordr(lt:Nat->Nat->Bool):Prop where
 asym:∀a b,lt a b=true->lt b a=false
 tr:∀a b c,lt b a=false->lt c b=false->lt c a=false
theorem Ordr.irr(o:Ordr lt)(a:Nat):lt a a=false:=by
 cases h:lt a a with
 |false=>rfl
 |true=>exact(o.asym a a h).symm.trans h▸rfl
def SPk(lt:Nat->Nat->Bool)(p:Array Nat)(k:Nat):Prop:=∀i j,i<j->j<k->lt (p.getD j 0) (p.getD i 0)=false
def DPk(lt:Nat->Nat->Bool)(p:Array Nat)(k:Nat):Prop:=∀i j,i<j->j<k->lt (p.getD i 0) (p.getD j 0)=false
def ERk(lt:Nat->Nat->Bool)(p:Array Nat)(a b:Nat):Prop:=∀i j,a<=i->i<b->a<=j->j<b->lt (p.getD i 0) (p.getD j 0)=false
theorem Gd.size(h:Gd n p):p.size=n:=by
 have:=Array.Perm.size_eq h
 simpa using this
theorem qHr(hj:j<=p.size)(k:Nat):(kas_rev p i j).getD k 0=if i<=k/\k<j then p.getD (i+j-1-k) 0 else p.getD k 0:=by
 unfold kas_rev;rw[hBw,getElem?_mirror_all hj];split <;> rw[<-hBw]
theorem qU2(hk:k<p.size)(hl:l<=k)(i:Nat):(bubble p k (k-l)).getD i 0=if i=l then p.getD k 0 else if l<i/\i<=k then p.getD (i-1) 0 else p.getD i 0:=by
 rw[hBw,getElem?_bubble hk _ (by omega)];have e:k-(k-l)=l:=by omega
 rw[e];by_cases e1:i=l
 ·rw[hDw e1,hDw e1,<-hBw]
 ·rw[hDv e1,hDv e1];by_cases e2:l<i/\i<=k
  ·rw[hDw e2,hDw e2,<-hBw]
  ·rw[hDv e2,hDv e2,<-hBw]
section
variable{lt:Nat->Nat->Bool}(o:Ordr lt)
include o
theorem SPk.snoc(h:SPk lt p k)(h1:1<=k)(hk:lt (p.getD k 0) (p.getD (k-1) 0)=false):SPk lt p (k+1):=λi j hij hj=>by
 by_cases e:j=k
 ·subst e;by_cases e2:i=j-1
  ·subst e2;exact hk
  ·exact o.tr _ _ _ (h i (j-1) (by omega) (by omega)) hk
 ·exact h i j hij (by omega)
theorem DPk.snoc(h:DPk lt p k)(h1:1<=k)(hk:lt (p.getD (k-1) 0) (p.getD k 0)=false):DPk lt p (k+1):=λi j hij hj=>by
 by_cases e:j=k
 ·subst e;by_cases e2:i=j-1
  ·subst e2;exact hk
  ·exact o.tr _ _ _ hk (h i (j-1) (by omega) (by omega))
 ·exact h i j hij (by omega)
omit o in
theorem DPk.rev(h:DPk lt p k)(hb:b<=p.size)(hbk:b<=k)(e:ERk lt p a b):DPk lt (kas_rev p a b) k:=λi j hij hj=>by
 rw[qHr hb,qHr hb];split
 ·split
  ·exact e _ _ (by omega) (by omega) (by omega) (by omega)
  ·exact h _ _ (by omega) (by omega)
 ·split
  ·exact h _ _ (by omega) (by omega)
  ·exact h _ _ (by omega) (by omega)
omit o in
theorem DPk.turn(h:DPk lt p k)(hk:k<=p.size):SPk lt (kas_rev p 0 k) k:=λi j hij hj=>by
 rw[qHr hk,qHr hk,hDw (by omega),hDw (by omega)];exact h _ _ (by omega) (by omega)
variable{n:Nat}{cmp:Nat->Nat->(Bool->Shared->Prop)->Shared->Prop}{s:Shared}(hask:∀i j C,i<n->j<n->C (lt i j) s->cmp i j C s)(h0:0<n)
include hask h0
theorem qPm(g:Gd n p)(N:Nat)(hq:∀m,SPk lt p m->1<=m->m<=N->(m<N->lt (p.getD m 0) (p.getD (m-1) 0)=true)->Q m s):∀f m,1<=m->m+f=N->SPk lt p m->(kas_asc p f m).kasWp cmp Q s
 |0,m,h1,hN,sp=>hq m sp h1 (by omega) (λz=>by omega)
 |f+1,m,h1,hN,sp=>by
  refine hask _ _ _ (g.lt h0 _) (g.lt h0 _) ?_;dsimp only;split
  ·rename_i c;exact hq m sp h1 (by omega) λ_=>c
  ·rename_i c;exact qPm g N hq f (m+1) (by omega) (by omega) (sp.snoc o h1 (by simpa using c))
theorem qIa(N:Nat)(hN:N<=n)(hq:∀p m q,Gd n p->1<=m->q+1<=m->m<=N->DPk lt p m->ERk lt p (m-(q+1)) m->Q (p,m,q) s):∀f p m q,Gd n p->1<=m->q+1<=m->m+f=N->DPk lt p m->ERk lt p (m-(q+1)) m->(kas_desc f p m q).kasWp cmp Q s
 |0,p,m,q,g,h1,h2,h3,dp,er=>hq p m q g h1 h2 (by omega) dp er
 |f+1,p,m,q,g,h1,h2,h3,dp,er=>by
  have sz:=g.size;refine hask _ _ _ (g.lt h0 _) (g.lt h0 _) ?_;dsimp only;split
  ·rename_i c;have dp':=dp.snoc o h1 (o.asym _ _ c);have one:∀p':Array Nat,ERk lt p' (m+1-(0+1)) (m+1):=λp' i j hi hi' hj hj'=>by
    have e1:i=m:=by omega
    have e2:j=m:=by omega
    subst e1 e2;exact o.irr _
   split
   ·exact qIa N hN hq f _ (m+1) 0 (g.rev _ _) (by omega) (by omega) (by omega) (dp'.rev (by omega) (by omega) er) (one _)
   ·exact qIa N hN hq f p (m+1) 0 g (by omega) (by omega) (by omega) dp' (one _)
  ·rename_i c;refine hask _ _ _ (g.lt h0 _) (g.lt h0 _) ?_;dsimp only;split
   ·exact hq p m q g h1 h2 (by omega) dp er
   ·rename_i d;have c':lt (p.getD m 0) (p.getD (m-1) 0)=false:=by simpa using c
    have d':lt (p.getD (m-1) 0) (p.getD m 0)=false:=by simpa using d
    refine qIa N hN hq f p (m+1) (q+1) g (by omega) (by omega) (by omega) (dp.snoc o h1 d') λi j hi hi' hj hj'=>?_
    by_cases ei:i=m
    ·subst ei;by_cases ej:j=i
     ·subst ej;exact o.irr _
     ·exact o.tr _ _ _ (er (i-1) j (by omega) (by omega) (by omega) (by omega)) c'
    ·by_cases ej:j=m
     ·subst ej;exact o.tr _ _ _ d' (er i (j-1) (by omega) (by omega) (by omega) (by omega))
     ·exact er i j (by omega) (by omega) (by omega) (by omega)
theorem qMm(g:Gd n p)(N:Nat)(hN:N<=n)(hq:∀m p,Gd n p->SPk lt p m->1<=m->m<=N->Q (m,p) s)(m:Nat)(h1:1<=m)(h2:m<=N)(dp:DPk lt p m):(kas_tail3 m N p).kasWp cmp Q s:=by
 unfold kas_tail3;rw[KasT.kasWp_bind];have sz:=g.size;exact qPm o hask h0 (g.rev _ _) N (λm' sp a b _=>hq m' _ (g.rev _ _) sp a b) _ _ h1 (by omega) (dp.turn (by omega))
theorem qGe(g:Gd n p)(N:Nat)(hN:N<=n)(hq:∀m p,Gd n p->SPk lt p m->1<=m->m<=N->Q (m,p) s)(m:Nat)(h2:m+1<=N)(dp:DPk lt p (m+1)):(kas_descPart m N p).kasWp cmp Q s:=by
 unfold kas_descPart;rw[KasT.kasWp_bind];refine qIa o hask h0 N hN (λp' m' q g' a b c dp' er=>?_) _ _ _ _ g (by omega) (by omega) (by omega) dp λi j hi hi' hj hj'=>?_
 ·have sz:=g'.size;dsimp only;split
  ·exact qMm o hask h0 (g'.rev _ _) N hN hq _ a c (dp'.rev (by omega) (hA3 _) er)
  ·exact qMm o hask h0 g' N hN hq _ a c dp'
 ·have e1:i=m:=by omega
  have e2:j=m:=by omega
  subst e1 e2;exact o.irr _
theorem qR4(g:Gd n p)(hq:∀m p,Gd n p->SPk lt p m->1<=m->m<=n->Q (m,p) s):(kas_count n p).kasWp cmp Q s:=by
 unfold kas_count;rw[KasT.kasWp_bind];have sz:=g.size;refine qPm o hask h0 g n (λm sp m1 mn st=>?_) _ _ (hA3 _) (by omega) (λi j hij hj=>by omega);split
 ·exact hq _ _ g sp m1 mn
 ·rename_i c;have c':m≠n:=by simpa using c
  have lt1:=st (by omega);have ge1:=o.asym _ _ lt1;split
  ·refine hask _ _ _ (g.lt h0 _) (g.lt h0 _) ?_;dsimp only;split
   ·exact hq _ _ g sp m1 mn
   ·rename_i d;have d':lt (p.getD 0 0) (p.getD (m-1) 0)=false:=by simpa using d
    have lo:∀i,i<m->lt (p.getD (m-1) 0) (p.getD i 0)=false:=λi hi=>by
     by_cases e:i=m-1
     ·subst e;exact o.irr _
     ·exact sp i (m-1) (by omega) (by omega)
    have hi0:∀j,j<m->lt (p.getD j 0) (p.getD 0 0)=false:=λj hj=>by
     by_cases e:j=0
     ·subst e;exact o.irr _
     ·exact sp 0 j (by omega) hj
    have er:ERk lt p 0 m:=λi j _ hi _ hj=>o.tr _ _ _ (o.tr _ _ _ (lo j hj) d') (hi0 i hi)
    refine qGe o hask h0 (g.rev _ _) n (hA3 _) hq m (by omega) λi j hij hj=>?_
    rw[qHr (by omega),qHr (by omega)];by_cases ej:j=m
    ·subst ej;rw[hDw (by omega),hDv (by omega)];exact o.tr _ _ _ ge1 (er _ _ (by omega) (by omega) (by omega) (by omega))
    ·rw[hDw (by omega),hDw (by omega)];exact er _ _ (by omega) (by omega) (by omega) (by omega)
  ·have e:m=1:=by omega
   subst e;refine qGe o hask h0 g n (hA3 _) hq 1 (by omega) λi j hij hj=>?_
   have e1:i=0:=by omega
   have e2:j=1:=by omega
   subst e1 e2;exact ge1
theorem qH9(g:Gd n p)(k:Nat)(sp:SPk lt p k)(hq:∀l,l<=k->(∀i,i<l->lt (p.getD k 0) (p.getD i 0)=false)->(∀i,l<=i->i<k->lt (p.getD i 0) (p.getD k 0)=false)->Q l s) :
  ∀f l r,l<=r->r<=k->r-l<=f->(∀i,i<l->lt (p.getD k 0) (p.getD i 0)=false)->(∀i,r<=i->i<k->lt (p.getD i 0) (p.getD k 0)=false)->(kas_place p k f l r).kasWp cmp Q s
 |0,l,r,h1,h2,h3,a,b=>hq l (by omega) a λi hi hk=>b i (by omega) hk
 |f+1,l,r,h1,h2,h3,a,b=>by
  unfold kas_place;split
  ·exact hq l (by omega) a λi hi hk=>b i (by omega) hk
  ·refine hask _ _ _ (g.lt h0 _) (g.lt h0 _) ?_;dsimp only;split
   ·rename_i c;have c':=o.asym _ _ c;refine qH9 g k sp hq f l ((l+r) / 2) (by omega) (by omega) (by omega) a λi hi hk=>?_
    by_cases e:i=(l+r) / 2
    ·subst e;exact c'
    ·exact o.tr _ _ _ c' (sp _ _ (by omega) hk)
   ·rename_i c;have c':lt (p.getD k 0) (p.getD ((l+r) / 2) 0)=false:=by simpa using c
    refine qH9 g k sp hq f ((l+r) / 2+1) r (by omega) h2 (by omega) (λi hi=>?_) b;by_cases e:i=(l+r) / 2
    ·subst e;exact c'
    ·exact o.tr _ _ _ (sp i ((l+r) / 2) (by omega) (by omega)) c'
theorem qT6(hq:∀p,Gd n p->SPk lt p n->Q p s):∀f p k,Gd n p->k+f=n->SPk lt p k->(kas_bin f p k).kasWp cmp Q s
 |0,p,k,g,h1,sp=>hq p g (by rw[<-h1];exact sp)
 |f+1,p,k,g,h1,sp=>by
  unfold kas_bin;rw[KasT.kasWp_bind];have sz:=g.size;refine qH9 o hask h0 g k sp (λl hl a b=>qT6 hq f _ _ (g.bub _ _) (by omega) λi j hij hj=>?_) k 0 k (by omega) (hA3 _) (by omega) (λi hi=>by omega) (λi hi hk=>by omega);rw[qU2 (by omega) hl,qU2 (by omega) hl];by_cases ej:j=l
  ·rw[hDw ej,hDv (by omega),hDv (by omega)];exact a i (by omega)
  ·rw[hDv ej];by_cases ej2:l<j/\j<=k
   ·rw[hDw ej2];by_cases ei:i=l
    ·rw[hDw ei];exact b (j-1) (by omega) (by omega)
    ·rw[hDv ei];split
     ·exact sp _ _ (by omega) (by omega)
     ·exact sp _ _ (by omega) (by omega)
   ·rw[hDv ej2,hDv (by omega),hDv (by omega)];exact sp _ _ hij (by omega)
theorem qVh(hq:∀p,Gd n p->SPk lt p n->Q p s):(kas_sort n).kasWp cmp Q s:=by
 unfold kas_sort;rw[KasT.kasWp_bind];refine qR4 o hask h0 (Array.Perm.refl _) (λm p g sp m1 mn=>?_);dsimp only;have e:max m 1=m:=by omega
 rw[e];split
 ·exact qT6 o hask h0 hq _ _ _ g (by omega) sp
 ·have e2:m=n:=by omega
  subst e2;exact hq _ g sp
end
theorem txTri:∀a b:List Nat,a<b\/a=b\/b<a
 |[],[]=>.inr (.inl rfl)
 |[],_ :: _=>.inl (List.nil_lt_cons _ _)
 |_ :: _,[]=>.inr (.inr (List.nil_lt_cons _ _))
 |x :: a,y :: b=>by
  rcases Nat.lt_trichotomy x y with h|h|h
  ·exact .inl (hDb.mpr (.inl h))
  ·subst h;rcases txTri a b with h|h|h
   ·exact .inl (hDb.mpr (.inr ⟨rfl,h⟩))
   ·exact .inr (.inl (by rw[h]))
   ·exact .inr (.inr (hDb.mpr (.inr ⟨rfl,h⟩)))
  ·exact .inr (.inr (hDb.mpr (.inl h)))
theorem zAm{x y:Str}(h:x.cps.toList=y.cps.toList):x=y:=by
 cases x;cases y;simp only[Str.mk.injEq];exact Array.toList_inj.mp h
def qMs(x y:Str):Bool:=decide (x.cps.toList<y.cps.toList)
theorem qF9(x:Str):qMs x x=false:=hDs (List.lt_irrefl _)
theorem qEe(h:qMs x y=true)(h':qMs y z=true):qMs x z=true:=hDr (List.lt_trans (hDu h) (hDu h'))
theorem qId(x y:Str):qMs x y=true\/x=y\/qMs y x=true:=by
 rcases txTri x.cps.toList y.cps.toList with h|h|h
 ·exact .inl (hDr h)
 ·exact .inr (.inl (zAm h))
 ·exact .inr (.inr (hDr h))
def ltL:List Str->List Str->Bool
 |[],[]=>false
 |[],_ :: _=>true
 |_ :: _,[]=>false
 |x :: r,y :: t=>if x=y then ltL r t else qMs x y
theorem qQt:∀a:List Str,ltL a a=false
 |[]=>rfl
 |x :: r=>by unfold ltL;rw[hDw rfl];exact qQt r
theorem qLu:∀a b:List Str,ltL a b=true\/a=b\/ltL b a=true
 |[],[]=>.inr (.inl rfl)
 |[],_ :: _=>.inl rfl
 |_ :: _,[]=>.inr (.inr rfl)
 |x :: r,y :: t=>by
  unfold ltL;by_cases e:x=y
  ·subst e;rw[hDw rfl,hDw rfl];rcases qLu r t with h|h|h
   ·exact .inl h
   ·exact .inr (.inl (by rw[h]))
   ·exact .inr (.inr h)
  ·rw[hDv e,hDv (λz=>e z.symm)];rcases qId x y with h|h|h
   ·exact .inl h
   ·exact absurd h e
   ·exact .inr (.inr h)
theorem qGx:∀a b c:List Str,ltL a b=true->ltL b c=true->ltL a c=true
 |[],_,[],h,h'=>by
  rename_i b;cases b with
  |nil=>exact h
  |cons _ _=>cases h'
 |[],_,_ :: _,_,_=>rfl
 |_ :: _,[],_,h,_=>by cases h
 |_ :: _,_ :: _,[],_,h'=>by cases h'
 |x :: r,y :: t,z :: u,h,h'=>by
  unfold ltL at h h' ⊢;by_cases e1:x=y
  ·subst e1;rw[hDw rfl]at h;by_cases e2:x=z
   ·subst e2;rw[hDw rfl]at h' ⊢;exact qGx r t u h h'
   ·rw[hDv e2]at h' ⊢;exact h'
  ·rw[hDv e1]at h;by_cases e2:y=z
   ·subst e2;rw[hDv e1];exact h
   ·rw[hDv e2]at h';have q:=qEe h h';have e3:¬x=z:=λe=>by rw[e,qF9]at q;cases q
    rw[hDv e3];exact q
theorem qNf(a b:List Str)(h:ltL a b=true):ltL b a=false:=by
 cases q:ltL b a with
 |false=>rfl
 |true=>have:=qGx a b a h q;rw[qQt]at this;cases this
def ltI(ts:List (List Str))(i j:Nat):Bool:=ltL (ts.getD i []) (ts.getD j [])
theorem qXb(ts:List (List Str)):Ordr (ltI ts):=⟨λa b h=>qNf _ _ h,λa b c h h'=>by
 have h1:ltL (ts.getD b []) (ts.getD a [])=false:=h;have h2:ltL (ts.getD c []) (ts.getD b [])=false:=h';show ltL (ts.getD c []) (ts.getD a [])=false;rcases qLu (ts.getD a []) (ts.getD b []) with q|q|q
 ·rcases qLu (ts.getD b []) (ts.getD c []) with r|r|r
  ·exact qNf _ _ (qGx _ _ _ q r)
  ·rw[<-r];exact h1
  ·rw[h2]at r;cases r
 ·rw[q];exact h2
 ·rw[h1]at q;cases q⟩
theorem qHw(vs:List Value):(List.range vs.length).map (λi=>vs.getD i Value.none)=vs:=by
 refine hDf λi=>?_
 by_cases hi:i<vs.length
 ·rw[hAj,hDj hi,hA2 hi];show some (vs.getD i Value.none)=_;rw[hA8,hA2 hi];rfl
 ·rw[hBd (by simp;omega),hBd (by omega)]
theorem qJ7:∀ {vs us:List Value} {x y:List Str} (i:Nat),StrsAre vs x->StrsAre us y->Q (ltL x y) s->fin=decide (x.length<y.length)->KatLex P w A b fin Q (vs.zip us) i s
 |_,_,_,_,i,.nil,.nil,hQ,hf=>by rw[hf];exact hQ
 |_,_,_,_,i,.nil,.cons _ _ _,hQ,hf=>by rw[hf];exact hQ
 |_,_,_,_,i,.cons _ _ _,.nil,hQ,hf=>by rw[hf];exact hQ
 |_,_,_,_,i,.cons p t r,.cons q u r',hQ,hf=>by
  refine kat_cons (wpAny_eqBool_str (kat_go (λe=>kat_yes (qJ7 (i+1) r r' ?_ ?_)) λe=>kat_no ?_))
  ·have e':=hDu e;unfold ltL at hQ;rw[hDw e']at hQ;exact hQ
  ·rw[hf];simp
  ·have e':=hEh e;unfold ltL at hQ;rw[hDv e']at hQ;cases hb:(b && i == 0) with
   |true=>exact strKind_oneLt P w A _ s _ _ _ _ rfl rfl hQ
   |false=>exact kat_one _ _ (lt_str hQ)
section
variable{P:Program}{w:World}{A:Around}{E:Value->Shared->Prop}{s:Shared}
theorem qH4(k:∀b o,b≠a->h.get? b=some o->h'.get? b=some o):∀ {vs:List Value} {ts:List (List Str)} {i:Nat},Paired (zAj h) vs ts->(∀v∈vs,v≠.ref a)->i<vs.length->∃(b:Addr) (its:Array Value),IsTup h' b its/\vs.getD i Value.none = .ref b/\StrsAre its.toList (ts.getD i [])
 |_,_,i,.nil,_,hi=>absurd hi (hBx _)
 |_,_,0,@Paired.cons _ _ _ v t l1 l2 hh tt,hn,_=>by
  obtain⟨b,its,rfl,⟨o,g,c,n,d⟩,st,ne⟩:=hh;have nb:b≠a:=λz=>hn _ hA5 (by rw[z])
  exact⟨b,its,⟨o,k b o nb g,c,n,d⟩,rfl,st⟩
 |_,_,i+1,@Paired.cons _ _ _ v t l1 l2 hh tt,hn,hi=>qH4 (i:=i) k tt (λu hu=>hn u (hA4 _ hu)) (by simpa using hi)
theorem qN3(ho:s.heap.get? a=some (seqObj "list" vs.toArray n))(ht:Paired (zAj s.heap) vs ts)(h64:vs.length<64)(hna:∀v∈vs,v≠.ref a)
  (h:∀(out:List Value) (p:Array Nat),out.Perm vs->Gd vs.length p->SPk (ltI ts) p vs.length->out=p.toList.map (λi=>vs.getD i Value.none)->R (.done (.ret .none)) { s with heap:=sortedHeap s.heap a vs out.toArray }):wpAny (model P w) A (Builtin.«list.sort» ⟨[.ref a],[]⟩) R E s:=by
 rw[list_sort_plain];have ha:a<s.heap.objs.size:=Heap.lt_size ho;refine hDq (listItems_at ho rfl (hDq (listUpdate_at ho rfl ?_ (by rw[hAl,hEk];omega) (hAs _))));obtain⟨e1,ho1⟩:∃e1,(s.heap.update a (Obj.mapSeq λ_=>#[])).get? a=some (seqObj "list" #[] e1):=⟨_,get?_update_seq ho (λ_=>#[])⟩;refine hDq (seqEpoch_at ho1 rfl (hDq (wpAny_newTuple ?_ (by show vs.length<=_;rw[hEk];omega))));refine hDq (wpAny_newList ?_ (hAs _));refine hDx ?_;have ho6:((v8 0).push (seqObj "list" #[] 0)).get? a=some (seqObj "list" #[] e1):=Heap.get?_push_of_some _ (Heap.get?_push_of_some _ ho1);have keep:∀b o,b≠a->s.heap.get? b=some o->((v8 0).push (seqObj "list" #[] 0)).get? b=some o:=λb o hb e=>by
  refine Heap.get?_push_of_some _ (Heap.get?_push_of_some _ ?_);rw[Heap.get?_update_ne _ _ _ _ hb];exact e
 show wpAny (model P w) A _ R E { s with heap:=(v8 0).push (seqObj "list" #[] 0) };dsimp only;have fin:∀(st':SortSt) (out:List Value),(arrOf st').map (·.2)=out.toArray->failedOf st'=none->out.Perm vs->(∃p,Gd vs.length p/\SPk (ltI ts) p vs.length/\out=p.toList.map (λi=>vs.getD i Value.none))->wpAny (model P w) A (do
   let touched:=(← seqEpoch a) != e1
   Builtin.List.listUpdate (.ref a) λ_=>(arrOf st').map (·.2)
   if let some e:=failedOf st' then rule "list.sort.comparison-raised";throw e
   if touched then rule "list.sort.modified";raiseError "ValueError" "list modified during sort"
   ret .none) R E { s with heap:=(v8 0).push (seqObj "list" #[] 0) }:=by
  intro st' out e hf hp ⟨p,hg,hsp,ep⟩;refine hDq (seqEpoch_at ho6 rfl ?_);refine hDq (listUpdate_at ho6 rfl ?_ (hAs _) (by rw[e,hAl,hp.length_eq,hEk];omega));rw[hf];simp only[bne_self_eq_false,Bool.false_eq_true,if_false];rw[e];exact hDt (h out p hp hg hsp ep)
 by_cases h2:vs.toArray.size<2
 ·rw[hDw h2,hDw h2];refine hDq (hDt ?_);rw[StateT.run_pure];refine hDq (hDt (fin _ vs ?_ rfl (List.Perm.refl _) ⟨Rng vs.length,Array.Perm.refl _,λi j hij hj=>absurd hj (by rw[hAl]at h2;omega),(qHw vs).symm⟩));show(vs.toArray.zip vs.toArray).map (·.2)=vs.toArray;apply Array.toList_inj.mp;rw[Array.toList_map,Array.toList_zip];exact List.map_snd_zip (hA3 _)
 ·rw[hDv h2,hDv h2];have hl2:2<=vs.length:=by rw[hAl]at h2;omega
  obtain⟨fs,kt,fl,fa⟩:=qGd (a:=a) keep ht hna;refine hDq (kat_kind (T:=.type "str") kt (by omega) (λv hv=>?_) (by decide) ?_)
  ·obtain⟨x,t,rfl⟩:=fa v hv;exact .now
  refine hDq (hDy (kat_run (ks:=vs) (Q:=λst' s'=>s'={ s with heap:=(v8 0).push (seqObj "list" #[] 0) }/\∃out:List Value,(arrOf st').map (·.2)=out.toArray/\failedOf st'=none/\out.Perm vs/\∃p,Gd vs.length p/\SPk (ltI ts) p vs.length/\out=p.toList.map (λi=>vs.getD i Value.none)) (G:=λp s'=>s'={ s with heap:=(v8 0).push (seqObj "list" #[] 0) }/\Gd vs.length p/\SPk (ltI ts) p vs.length) rfl hl2 h64 (λp st' s' a1 a2 a3 a4=>?_) ?_) ?_ λ_ _ e=>e)
  ·obtain⟨rfl,g,sp⟩:=a4;refine⟨rfl,_,kat_snds rfl a2,a3,?_,p,g,sp,rfl⟩;have q:=(hCd.mp g).map λi=>vs.getD i Value.none
   exact q.trans (List.Perm.of_eq (qHw vs))
  ·refine qVh (qXb ts) (λi j C hi hj hC=>?_) (by omega) λp g sp=>⟨rfl,g,sp⟩
   obtain⟨x1,y1,z1,v1,w1⟩:=qH4 keep ht hna hi;obtain⟨x2,y2,z2,v2,w2⟩:=qH4 keep ht hna hj;show wpAny _ _ (keyLt' _ (vs.getD i Value.none) (vs.getD j Value.none)) C _ _;rw[v1,v2];obtain⟨o1,g1,c1,n1,d1⟩:=z1;obtain⟨o2,g2,c2,n2,d2⟩:=z2;have l1:y1.size=(ts.getD i []).length:=by rw[<-w1.strs];simp
   have l2:y2.size=(ts.getD j []).length:=by rw[<-w2.strs];simp
   exact kat_lt g1 d1 g2 d2 (qJ7 0 w1 w2 hC (by rw[l1,l2]))
  ·rintro⟨⟨⟩,st'⟩ s' ⟨rfl,out,q1,q2,q3,q4⟩;exact fin st' out q1 q2 q3 q4
end
theorem qUp(g:Gd n o)(hi:i∈o.toList):i<n:=by
 have:=(hCd.mp g).mem_iff.mp hi
 simpa using this
theorem qUq(g:Gd n o):o.toList.length=n:=by
 have:=g.size
 simpa using this
theorem qQi{as:List Addr}{l:List Nat}(h:∀i∈l,i<as.length):l.map (λi=>(as.map Value.ref).getD i Value.none)=(l.map λi=>as.getD i 0).map Value.ref:=by
 rw[hAz];refine hC3 λi hi=>?_
 have:=h i hi;show(as.map Value.ref).getD i Value.none=Value.ref (as.getD i 0);rw[hA8,hA8,hAj,hA2 this];rfl
section
variable{X:Cx}
theorem qI5:qB9 X (.builtin "sorted") (λxs H Q=>∃(p:Addr) (as:List Addr) (ts:List (List Str)),xs=[.ref p]/\SqL X.K H p (as.map V.ref)/\Paired (λa t=>SqT X.K H a (t.map V.str)/\t≠[]) as ts/\as.length<64/\∀(r:Addr) (o:Array Nat),H r=none->Gd as.length o->SPk (ltI ts) o as.length->Q (.ref r) (upd H r (.lst ((o.toList.map λi=>as.getD i 0).map V.ref)))):=by
 intro aB s σ H xs us Q I r h;obtain⟨p,as,ts,rfl,hq,ht,h64,q⟩:=h;obtain⟨u,rfl,rx⟩:=qD1 r;cases rx;obtain⟨its,rv,pl,hz⟩:=I.list hq;have ei:=qP8 rv;subst ei;refine Calls.call_function_entry kind_sorted plain_sorted entry_sorted (args_sorted1 _) ?_;unfold Builtin.«sorted»;refine hDq (m:=checkCount "sorted" 1 1 _) (hDt (hDq (collect_list pl.isList ?_ (by rw[hA1,hEk];omega))));refine hDq (wpAny_newList ?_ (by rw[hA1,hEk];omega));have hsz:(v9 0).objs.size=s.heap.objs.size+1:=by rw[Heap.size_update,size_push']
 have hoL:((v9 0).push (seqObj "list" (as.map Value.ref).toArray 0)).get? (s.heap.objs.size+1)=some (seqObj "list" (as.map Value.ref).toArray 0):=by
  rw[<-hsz];exact Heap.get?_push_size _ rfl
 have keep:∀b o,s.heap.get? b=some o->((v9 0).push (seqObj "list" (as.map Value.ref).toArray 0)).get? b=some o:=λb o e=>by
  have hlt:b<s.heap.objs.size:=Heap.lt_size e;rw[Heap.get?_push_ne _ _ _ (by rw[hsz];exact hAt (hBp hlt)),Heap.get?_update_ne _ _ _ _ (hAt hlt),Heap.get?_push_ne _ _ _ (hAt hlt)];exact e
 show wpAny _ _ _ _ _ { s with heap:=(v9 0).push (seqObj "list" (as.map Value.ref).toArray 0) };rw[hsz];have tp:=qO2 (h':=(v9 0).push (seqObj "list" (as.map Value.ref).toArray 0)) I keep ht;refine hDq (hDx (hDz slot_list_sort ⟨_,hoL,rfl⟩ entry_list_sort (qN3 hoL tp (by rw[hA1];exact h64) (λv hv z=>?_) λout o hp hg hsp eo=>⟨_,rfl,?_⟩) (args_list_sort _)))
 ·obtain⟨b,hb,e⟩:=hAb.mp hv;rw[<-e]at z;injection z with z
  have lt:=qO3 I ht b hb;exact absurd lt (by rw[z];exact Nat.not_lt_of_le (hB8 _))
 rw[hA1]at hg hsp;rw[qQi λi hi=>qUp hg hi]at eo;subst eo;have nz:H (s.heap.objs.size+1)=none:=I.hok.fresh (hB8 _);obtain⟨e,he⟩:=sortedAll_at s.heap (as.map Value.ref) ((o.toList.map λi=>as.getD i 0).map Value.ref).toArray;refine hDt ⟨_,rfl,.ref (s.heap.objs.size+1),_,I.laid (t':=s.toks) (a:=s.heap.objs.size+1) (o:=.lst ((o.toList.map λi=>as.getD i 0).map V.ref)) (h':=sortedAll s.heap (as.map Value.ref) ((o.toList.map λi=>as.getD i 0).map Value.ref).toArray) (λb o eb=>sortedAll_old eb) (hB8 _) ⟨?_,(o.toList.map λi=>as.getD i 0).map Value.ref,e,qJe _,he⟩,rfl,q _ o nz hg hsp⟩;rw[hA1,hA1,qUq hg];exact hB1 (qAi (by omega))
end
end L2
namespace L2
open PySem PySem.Spec PyProof.Rows PySem.W
end L2
namespace L2
open PySem PySem.Spec PyProof.Rows
end L2
namespace L2
open PySem PySem.Spec PyProof.Rows PySem.W
abbrev Srt(a:List (List Str)):Prop:=a.Pairwise λx y=>ltL y x=false
theorem qLy(ts:List (List Str)):(List.range ts.length).map (λi=>ts.getD i [])=ts:=by
 refine hDf λi=>?_
 by_cases hi:i<ts.length
 ·rw[hAj,hDj hi,hA2 hi];show some (ts.getD i [])=_;rw[hA8,hA2 hi];rfl
 ·rw[hBd (by simp;omega),hBd (by omega)]
theorem qOn(g:Gd ts.length o)(sp:SPk (ltI ts) o ts.length):Srt (o.toList.map λi=>ts.getD i [])/\(o.toList.map λi=>ts.getD i []).Perm ts:=by
 have sz:=g.size;refine⟨?_,?_⟩
 ·rw[Srt,List.pairwise_iff_getElem];intro i j hi hj hij;rw[hA1]at hi hj;have h:=sp i j hij (by simpa [sz] using hj);rw[List.getElem_map,List.getElem_map];have e:∀k (hk:k<o.toList.length),o.getD k 0=o.toList[k]:=λk hk=>by
   have hk':k<o.size:=by simpa using hk
   simp[Array.getD,hk']
  rw[e i hi,e j hj]at h;exact h
 ·have q:=(hCd.mp g).map λi=>ts.getD i []
  exact q.trans (List.Perm.of_eq (qLy ts))
end L2
namespace L2
open PySem PySem.Spec PyProof.Rows
theorem qDf{X:Cx}{target iter elt:Expr}{ifs:List Expr}{scope sc:Scope}{pos:Pos}{N N':List Str}{sub:List (Option Nat)}{wi:TI}{g:TG}{tt:TT}{te:TE}(hN:X.N=N)(hsc:X.env.scope=sc)
  (O:CmpOk N sc N' scope sub) (hc:X.calm=true) (hi:PI X target iter wi)
  (B:∀C s H fp,PG (qBn X scope N' C s H fp) target g/\PTs (qBn X scope N' C s H fp) ifs tt/\PE (qBn X scope N' C s H fp) elt te)
  (hs:∀x,foldedSetIterable iter X.env x=pure x:=by intro _;rfl):PE X (.ListComp elt [⟨target,iter,ifs,0⟩] scope pos) (qN2 sub wi g tt te) :=
 qWa hc (by rw[hN,hsc];exact O) hi B hs
theorem qY4{X:Cx}{target iter elt:Expr}{ifs:List Expr}{scope sc:Scope}{pos:Pos}{N N':List Str}{sub:List (Option Nat)}{wi:TI}{g:TG}{tt:TT}{te:TE}{i:Nat}{y:Str}{py spos:Pos}(hN:X.N=N)(hsc:X.env.scope=sc)
  (O:CmpOk N sc N' scope sub) (hc:X.calm=true) (hi:PI X target iter wi)
  (B:∀C s H fp,PG (qBn X scope N' C s H fp) target g/\PTs (qBn X scope N' C s H fp) ifs tt/\PE (qBn X scope N' C s H fp) elt te)
  (nd:X.N.Nodup) (hy:X.N[i]?=some y) (hx:Loc X.env.scope y)
  (hsw:swapsWith (.ListComp elt [⟨target,iter,ifs,0⟩] scope pos) (some (.Name y py)) spos.line X.env=pure true:=by rfl)
  (hs:∀x,foldedSetIterable iter X.env x=pure x:=by intro _;rfl) (hf:X.fn y=true\/X.env.scope.names.lookup y=some .local:=by first|exact .inl rfl|exact .inr rfl|assumption) :
  PS X (.Assign [.Name y py] (.ListComp elt [⟨target,iter,ifs,0⟩] scope pos) spos) (qYh (qN2 sub wi g tt te) (qL0 i)) :=
 qV3 hc (by rw[hN,hsc];exact O) hi B nd hy hx hsw hs hf
theorem qB3{X:Cx}{y:Str}{py:Pos}{iter elt:Expr}{ifs:List Expr}{scope sc:Scope}{pos:Pos}{N N':List Str}{sub:List (Option Nat)}{wi:TI}{tt:TT}{te:TE}(hi:PI X (.Name y py) iter wi)
  (B:∀C s H fp,PTs (qBn X scope N' C s H fp) ifs tt/\PE (qBn X scope N' C s H fp) elt te) (hN:X.N=N:=by rfl) (hsc:X.env.scope=sc:=by rfl)
  (O:CmpOk N sc N' scope sub:=by exact CmpOk.of (by decide +kernel)) (hc:X.calm=true:=by rfl) (nd:N'.Nodup:=by decide) (h0:N'[0]?=some y:=by rfl) (hl:∀C s H fp,Loc (qBn X scope N' C s H fp).env.scope y:=by intro _ _ _ _;exact Or.inl rfl) (hg:∀C s H fp,(qBn X scope N' C s H fp).fn y=true\/(qBn X scope N' C s H fp).env.scope.names.lookup y=some .local:=by intro _ _ _ _;exact .inl rfl)
  (hs:∀x,foldedSetIterable iter X.env x=pure x:=by intro _;rfl):PE X (.ListComp elt [⟨.Name y py,iter,ifs,0⟩] scope pos) (qN2 sub wi (qL0 0) tt te) :=
 qDf hN hsc O hc hi (λC s H fp=>⟨qAh (i:=0) nd h0 (hl C s H fp) (hg C s H fp),B C s H fp⟩) hs
theorem qM6{X:Cx}{z:Str}{pz:Pos}{iter elt:Expr}{ifs:List Expr}{scope sc:Scope}{pos:Pos}{N N':List Str}{sub:List (Option Nat)}{wi:TI}{tt:TT}{te:TE}{i:Nat}{y:Str}{py spos:Pos}(hi:PI X (.Name z pz) iter wi)
  (B:∀C s H fp,PTs (qBn X scope N' C s H fp) ifs tt/\PE (qBn X scope N' C s H fp) elt te)
  (nd:X.N.Nodup) (hy:X.N[i]?=some y) (hx:Loc X.env.scope y) (hN:X.N=N:=by rfl) (hsc:X.env.scope=sc:=by rfl)
  (O:CmpOk N sc N' scope sub:=by exact CmpOk.of (by decide +kernel)) (hc:X.calm=true:=by rfl) (nd':N'.Nodup:=by decide) (h0:N'[0]?=some z:=by rfl) (hl:∀C s H fp,Loc (qBn X scope N' C s H fp).env.scope z:=by intro _ _ _ _;exact Or.inl rfl) (hg:∀C s H fp,(qBn X scope N' C s H fp).fn z=true\/(qBn X scope N' C s H fp).env.scope.names.lookup z=some .local:=by intro _ _ _ _;exact .inl rfl)
  (hsw:swapsWith (.ListComp elt [⟨.Name z pz,iter,ifs,0⟩] scope pos) (some (.Name y py)) spos.line X.env=pure true:=by rfl)
  (hs:∀x,foldedSetIterable iter X.env x=pure x:=by intro _;rfl) (hf:X.fn y=true\/X.env.scope.names.lookup y=some .local:=by first|exact .inl rfl|exact .inr rfl|assumption) :
  PS X (.Assign [.Name y py] (.ListComp elt [⟨.Name z pz,iter,ifs,0⟩] scope pos) spos) (qYh (qN2 sub wi (qL0 0) tt te) (qL0 i)) :=
 qY4 hN hsc O hc hi (λC s H fp=>⟨qAh (i:=0) nd' h0 (hl C s H fp) (hg C s H fp),B C s H fp⟩) nd hy hx hsw hs hf
end L2
namespace My
open PySem L2
structure Cl(P:Program)(w:World)(K:PySem.W.Frag)(mg:Str->Option Value)(base:Heap)(CX:CXT)(k:Nat)(f:Addr)(fd:FuncData)(ps:List Str)(sp:Sp)(n:Str):Prop where
 g:FnOk P w K mg base CX k f fd ps sp
 b:qOs K fd ps []
 k:PySem.W.keepIn K (.ref f)=true
 m:mg n=some (.ref f)
theorem qAy{X:Cx}{CX:CXT}{k:Nat}{f:Addr}{fd:FuncData}{ps:List Str}{sp:Sp}{x:Str}{dvs:List V}{E:XK}{e:Expr}{es:List Expr}{t:TA}{p pos:Pos}(G:Cl X.prog X.w X.K X.mg X.base CX k f fd ps sp x)(hr:Room k X.A)(hg:Gl X x)(hd:qBf dvs [])(hx:qKp CX X E)
  (ha:PA X (e :: es) t) (hdb:(x == ("__debug__" : Str))=false:=by decide) (he:starEach (e :: es) X.env=(false,eval e X.env) :: starEach es X.env:=by rfl) (hpl:(backTo pos (starEach es X.env)).any (·.1)=false:=by rfl):PE X (.Call (.Name x p) (e :: es) [] pos) (qYg sp dvs E t):=qWb G.g hr hg G.m G.k G.b hd hx ha hdb he hpl
def top(i:Nat):Stmt:=PySem.Challenge.pw_roundsalone_k73_texts_judged.main.body.getD i (.Pass ⟨0,0,0,0⟩)
abbrev qLa:Stmt:=top 7
abbrev qF0:Stmt:=top 8
abbrev qN9:Stmt:=top 10
abbrev qGj:Stmt:=top 11
abbrev qOa:Stmt:=top 12
abbrev qK9:Stmt:=top 13
abbrev qOb:Stmt:=top 14
abbrev qT8:Stmt:=top 15
abbrev qK8:Stmt:=top 16
abbrev qVs:Stmt:=top 21
abbrev qOe:Stmt:=top 22
abbrev qGi:Stmt:=top 23
abbrev qHp:Stmt:=top 24
abbrev qGn:Stmt:=top 26
abbrev qLh:Stmt:=top 27
abbrev qXz:Stmt:=top 28
abbrev qK7:Stmt:=top 29
abbrev qEs:Stmt:=top 30
abbrev qVq:Stmt:=top 31
abbrev qGh:Stmt:=top 32
abbrev qHo:Stmt:=top 35
abbrev qGk:Stmt:=top 36
abbrev qFy:Stmt:=top 37
abbrev qOf:Stmt:=top 39
abbrev qX0:Stmt:=top 40
abbrev qGl:Stmt:=top 41
abbrev qLi:Stmt:=top 42
abbrev qXy:Stmt:=top 43
abbrev qLe:Stmt:=top 44
abbrev qFz:Stmt:=top 45
abbrev qJv:Stmt:=top 46
abbrev qHd:Stmt:=top 47
abbrev qLf:Stmt:=top 48
abbrev qLd:Stmt:=top 49
abbrev qLg:Stmt:=top 50
abbrev qOd:Stmt:=top 51
abbrev qLc:Stmt:=top 52
abbrev qLb:Stmt:=top 53
abbrev qOc:Stmt:=top 54
abbrev qOg:Stmt:=top 55
abbrev qVr:Stmt:=top 56
abbrev qGm:Stmt:=top 57
abbrev qIb:Stmt:=top 58
abbrev qIc:Stmt:=top 59
abbrev qN8:Stmt:=top 60
abbrev qMt:Stmt:=top 61
def Ext(H H':Hp):Prop:=∀b o,H b=some o->H' b=some o
theorem Ext.refl(H:Hp):Ext H H:=λ_ _ h=>h
theorem Ext.trans{H H1 H2:Hp}(a:Ext H H1)(b:Ext H1 H2):Ext H H2:=λc o h=>b c o (a c o h)
theorem Ext.new{H:Hp}{p:Addr}(h:H p=none)(o:HO):Ext H (upd H p o):=λb u q=>by rw[qAs (qAw q h)];exact q
theorem Ext.none{H H':Hp}(e:Ext H H'){p:Addr}(h:H' p=none):H p=none:=by
 cases q:H p with
 |none=>rfl
 |some o=>rw[e p o q]at h;cases h
theorem Ext.sqL{K:PySem.W.Frag}{H H':Hp}{a:Addr}{xs:List V}(e:Ext H H')(h:SqL K H a xs):SqL K H' a xs:=by
 rcases h with (h|⟨o,h⟩)|h
 ·exact .inl (.inl (e _ _ h))
 ·exact .inl (.inr ⟨o,e _ _ h⟩)
 ·exact .inr h
def qT5(K:PySem.W.Frag):Sp:=λvs H Q _=>∃(a:Addr) (ns:List Int) (k:Int),vs=[.ref a,.int k]/\SqL K H a (ns.map V.int)/\0<=k/\∀v,Q (.int v) H
section
variable{P:Program}{w:World}{K:PySem.W.Frag}{mg:Str->Option Value}{base:Heap}{f f1:Addr}{fd fd1:FuncData}
theorem qY0:FnScope ["_law_script","_law_k"] ["_law_script","_law_k"] (qAa qOf):=fsk
theorem qW1(F:Fun K "_law_cell_at" "_law_cell_at" qOf f fd)(ml:mg "len"=none):v6 1 f fd ["_law_script","_law_k"] (qT5 K):=by
 refine F.okA qY0 λcdv A outer s H vs Q E hr h=>?_
 obtain⟨a,ns,k,rfl,hS,h0,q⟩:=h;refine⟨_,qAb (qBb (qAl qEt (pv 1) (qAf qAm rfl ml hAr (pa1 (pv 0))) (qAp _)) (qAd (qAo (qBm qB0 (pv 0) (pv 1) (λ_ _=>rfl)))) qAu) (qAd (qAo qAc)),?_⟩;refine⟨_,rfl,_,rfl,a,_,rfl,.inl hS,_,_,rfl,rfl,_,rfl,?_⟩;refine qBp (λc=>?_) (λc=>q 0);have c':k<(((ns.map V.int).length:Nat):Int):=hDu c;rw[hA1]at c';have hk:k.toNat<ns.length:=by omega
 have hv:atI (ns.map V.int) ((k.toNat:Nat):Int)=some (.int ns[k.toNat]):=qA5 (by rw[hAj,hA2 hk] <;> rfl);rw[hCs h0]at hv;exact⟨_,rfl,_,rfl,a,_,_,_,rfl,rfl,hS,hv,q _⟩
end
theorem qA6:bootBuiltins "isinstance"=some (.builtin "isinstance"):=by decide +kernel
theorem qDc(K:PySem.W.Frag)(t:Value):PySem.W.kitOne K t t=some true:=by unfold PySem.W.kitOne;rw[hDw (hEd t)]
theorem qKj:bootBuiltins "abs"=some (.builtin "abs"):=by decide +kernel
theorem qL5:bootBuiltins "range"=some (.type "range"):=by decide +kernel
section
variable{σ0:St}{g:TG}{tt:TT}{te:TE}{Q:List V->Hp->Prop}{H1:Hp}
theorem qNz{K:PySem.W.Frag}{a:Addr}{xs:List V}(f:V->Option V)(hS:SqL K H1 a xs)(hz:xs.length<=sizeLine)
  (hs:∀x∈xs,∀C:Option V->Hp->Prop,C (f x) H1->g x σ0 H1 λσ2 H2=>Sle σ0 σ2/\tt σ2 H2 λb H3=>if b=true then te σ2 H3 (λv H4=>C (some v) H4) else C none H3)
  (hd:Q (xs.filterMap f) H1):qDm (Itl K a) σ0 g tt te Q H1:=by
 refine qAt (xs:=xs) (λi ys H=>H=H1/\ys=(xs.take i).filterMap f) ⟨rfl,by simp⟩ (λi ys H _ h=>by rw[h.1];exact hS) ?_ ?_
 ·rintro i x ys H hx ⟨rfl,rfl⟩;have hi:i<xs.length:=(hAi.mp hx).1;have hm:x∈xs:=hAd hx;have tk:(xs.take (i+1)).filterMap f=(xs.take i).filterMap f++(f x).toList:=by
   rw[List.take_add_one,hx,hCx];cases e:f x <;> simp[e]
  have hl:((xs.take i).filterMap f).length<sizeLine:=by
   have h1:=hC4 f (xs.take i);rw[hAh]at h1;omega
  refine hs x hm (λo H4=>match o with|some v=>((xs.take i).filterMap f).length<sizeLine/\Nxt xs.length i _ ((xs.take i).filterMap f++[v]) H4|none=>Nxt xs.length i _ ((xs.take i).filterMap f) H4) ?_;cases e:f x with
  |none=>exact nxt hi ⟨rfl,by rw[tk,e];simp⟩
  |some v=>exact⟨hl,nxt hi ⟨rfl,by rw[tk,e];simp⟩⟩
 ·rintro ys H ⟨rfl,rfl⟩;rw[hA6 (hA3 _)];exact hd
theorem qJi{K:PySem.W.Frag}{a:Addr}{xs:List V}(f:V->Option V)(hS:SqL K H1 a xs)(hz:xs.length<=sizeLine)
  (hs:∀x∈xs,∀H,Ext H1 H->∀C:Option V->Hp->Prop,(∀H',Ext H H'->C (f x) H')->g x σ0 H λσ2 H2=>Sle σ0 σ2/\tt σ2 H2 λb H3=>if b=true then te σ2 H3 (λv H4=>C (some v) H4) else C none H3)
  (hd:∀H',Ext H1 H'->Q (xs.filterMap f) H'):qDm (Itl K a) σ0 g tt te Q H1:=by
 refine qAt (xs:=xs) (λi ys H=>Ext H1 H/\ys=(xs.take i).filterMap f) ⟨Ext.refl _,by simp⟩ (λi ys H _ h=>h.1.sqL hS) ?_ ?_
 ·rintro i x ys H hx ⟨he,rfl⟩;have hi:i<xs.length:=(hAi.mp hx).1;have hm:x∈xs:=hAd hx;have tk:(xs.take (i+1)).filterMap f=(xs.take i).filterMap f++(f x).toList:=by
   rw[List.take_add_one,hx,hCx];cases e:f x <;> simp[e]
  have hl:((xs.take i).filterMap f).length<sizeLine:=by
   have h1:=hC4 f (xs.take i);rw[hAh]at h1;omega
  refine hs x hm H he (λo H4=>match o with|some v=>((xs.take i).filterMap f).length<sizeLine/\Nxt xs.length i _ ((xs.take i).filterMap f++[v]) H4|none=>Nxt xs.length i _ ((xs.take i).filterMap f) H4) (λH' he'=>?_);cases e:f x with
  |none=>exact nxt hi ⟨he.trans he',by rw[tk,e];simp⟩
  |some v=>exact⟨hl,nxt hi ⟨he.trans he',by rw[tk,e];simp⟩⟩
 ·rintro ys H ⟨he,rfl⟩;rw[hA6 (hA3 _)];exact hd H he
end
theorem qIw(n:Str):∀other:List Str,inV (.str n) (other.map V.str)=decide (n∈other)
 |[]=>by simp[inV]
 |x :: r=>by
  have ih:=qIw n r;unfold inV at ih ⊢;rw[hAu,List.any_cons,ih];show(x == n || decide (n∈r))=_;by_cases e:n=x
  ·subst e;simp
  ·have e':¬x=n:=λz=>e z.symm
   simp[e,e']
theorem qG2:∀other:List Str,(other.map V.str).all qI0=true:=λother=>by
 rw[hC0];intro x hx;obtain⟨y,_,rfl⟩:=hAb.mp hx;rfl
def LsS(H:Hp)(a:Addr)(ss:List Str):Prop:=H a=some (.lst (ss.map V.str))
abbrev sg:Str:="abcdefghijklmnopqrstuvwxyz0123456789"
def sgC(n:Nat):Nat:=sg.cps.toList.getD n 0
theorem qMo:sg.cps.toList.length=36:=by decide +kernel
theorem zAy:sg.cps.toList.Nodup:=by decide +kernel
theorem qR7:∀c∈sg.cps.toList,c<128:=by decide +kernel
theorem qYq{i:Int}(h0:0<=i)(h1:i<36):atI sg.cps.toList i=some (sgC i.toNat):=by
 have hk:i.toNat<sg.cps.toList.length:=by rw[qMo];omega
 have:=qA5 (xs:=sg.cps.toList) (j:=i.toNat) (v:=sgC i.toNat) (by
  unfold sgC;rw[hA8,hA2 hk];rfl)
 rw[hCs h0]at this;exact this
theorem qVk{i j:Nat}(hi:i<36)(hj:j<36)(e:sgC i=sgC j):i=j:=by
 have hi':i<sg.cps.toList.length:=by rw[qMo];exact hi
 have hj':j<sg.cps.toList.length:=by rw[qMo];exact hj
 unfold sgC at e;rw[hA8,hA8,hA2 hi',hA2 hj']at e;exact(List.getElem_inj zAy).mp e
def Sm(x:Str):Prop:=∀c∈x.cps.toList,c<128
theorem Sm.ok{x:Str}(h:Sm x):PyData.strOk x=true:=by
 unfold PyData.strOk;rw[Array.all_eq_true_iff_forall_mem];intro c hc;have:=h c (by simpa using hc);exact hDr (by omega)
theorem Sm.nil:Sm "":=λc hc=>by
 have:c∈([]:List Nat):=hc;cases this
def qFn(r:List Str):PyData:=.list (r.map .str)
def qOh(F:List (List Str)):PyData:=.list (F.map qFn)
theorem qNn:∀a b:List Str,PyData.eqvAll (a.map .str) (b.map .str)=decide (a=b)
 |[],[]=>rfl
 |[],_ :: _=>rfl
 |_ :: _,[]=>rfl
 |x :: a,y :: b=>by
  show(x == y && PyData.eqvAll (a.map .str) (b.map .str))=_;rw[qNn a b];by_cases e:x=y
  ·subst e;simp
  ·simp[e]
theorem qG3(a b:List Str):PyData.eqv (qFn a) (qFn b)=decide (a=b):=qNn a b
def SOk(r:List Str):Prop:=∀x∈r,PyData.strOk x=true
theorem qE9:∀ {r:List Str},SOk r->PyData.canLayAll0 (r.map .str)=true/\PyData.depthAll (r.map .str)=0
 |[],_=>⟨rfl,rfl⟩
 |x :: r,h=>by
  obtain⟨h1,h2⟩:=qE9 (r:=r) λy hy=>h y (hA4 _ hy)
  refine⟨?_,?_⟩
  ·show(PyData.strOk x && PyData.canLayAll0 (r.map .str))=true;rw[h1,h x hA5];rfl
  ·show max 0 (PyData.depthAll (r.map .str))=0;rw[h2];rfl
theorem qCz{r:List Str}(h:SOk r):SeqAt.shaped (qFn r)=true:=by
 obtain⟨h3,h4⟩:=qE9 h;show(PyData.canLayAll0 (r.map .str) && decide (PyData.depthAll (r.map .str)+1<=64))=true;rw[h3,h4];rfl
theorem qRe{K:PySem.W.Frag}{H:Hp}:∀r:List Str,DRs K H (r.map V.str) (r.map .str)
 |[]=>.nil
 |x :: r=>.cons (.str x) (qRe r)
theorem qEp{K:PySem.W.Frag}{H:Hp}{a:Addr}{r:List Str}(h:LsS H a r):DR K H (.ref a) (qFn r):=.lst (SqL.of h) (qRe r)
theorem qJx{k:Nat}{A:Around}(hr:Room k A):A.units+64<cLine:=by have:=hr.un;omega
theorem qC1:bootBuiltins "list"=some (.type "list"):=by decide +kernel
theorem qFg:bootBuiltins "str"=some (.type "str"):=by decide +kernel
theorem qBv:bootBuiltins "sorted"=some (.builtin "sorted"):=by decide +kernel
theorem qBw:bootBuiltins "all"=some (.builtin "all"):=by decide +kernel
theorem qG8:bootBuiltins "set"=some (.type "set"):=by decide +kernel
theorem qCf:bootBuiltins "tuple"=some (.type "tuple"):=by decide +kernel
end My
namespace L2
open PySem PySem.Spec PyProof.Rows
def zCe(Pm:St->Hp->Prop)(t:TS):TS:=λD σ H=>t { D with nx:=Pm } σ H/\∀σ' H',Pm σ' H'->D.nx σ' H'
theorem qE2{X:Cx}{st:Stmt}{t:TS}(Pm:St->Hp->Prop)(h:PS X st t):PS X st (zCe Pm t):=by
 intro aB s σ H D I hw;refine thn (h aB s σ H { D with nx:=Pm } I hw.1) λfl s' q=>?_
 cases fl with
 |next=>obtain⟨σ',H',I',q⟩:=q;exact⟨σ',H',I',hw.2 σ' H' q⟩
 |brk=>exact q
 |cont=>exact q
 |ret u=>exact q
end L2
namespace My
open PySem L2
theorem qDs{α:Type}{P:List α->Prop}(h0:P [])(hs:∀l t,P l->P (l++[t]))(l:List α):P l:=by
 have:∀r:List α,P r.reverse:=λr=>by
  induction r with
  |nil=>exact h0
  |cons a r ih=>rw[List.reverse_cons];exact hs _ _ ih
 have q:=this l.reverse
 rwa [List.reverse_reverse]at q
abbrev Tr:=Str×Str×Str
abbrev lab(f:Str->Str)(t:Tr):Str->Str:=λp=>if f p=f t.2.2 then f t.2.1 else f p
def qA4(net:List Tr):Str->Str:=net.foldl lab id
theorem qC8(net:List Tr)(t:Tr):qA4 (net++[t])=lab (qA4 net) t:=by unfold qA4;rw[hC5];rfl
def qIv(net:List Tr)(x:Str):Prop:=∃t∈net,x=t.2.1\/x=t.2.2
theorem qFa{net:List Tr}{t:Tr}{x:Str}:qIv (net++[t]) x↔qIv net x\/x=t.2.1\/x=t.2.2:=by
 unfold qIv;constructor
 ·rintro⟨u,hu,h⟩;rcases hAf.mp hu with z|z
  ·exact .inl ⟨u,z,h⟩
  ·rw[hAe]at z;subst z;exact .inr h
 ·rintro(⟨u,hu,h⟩|h)
  ·exact⟨u,hAk _ hu,h⟩
  ·exact⟨t,hAa _ (hAe.mpr rfl),h⟩
theorem qNl(net:List Tr):∀t∈net,qA4 net t.2.1=qA4 net t.2.2:=by
 refine qDs (P:=λnet=>∀t∈net,qA4 net t.2.1=qA4 net t.2.2) (λt h=>by cases h) (λl t ih=>?_) net;intro u hu;rw[qC8];show(if qA4 l u.2.1=qA4 l t.2.2 then qA4 l t.2.1 else qA4 l u.2.1)=if qA4 l u.2.2=qA4 l t.2.2 then qA4 l t.2.1 else qA4 l u.2.2
 rcases hAf.mp hu with z|z
 ·rw[ih u z]
 ·rw[hAe]at z;subst z;rw[hDw rfl];split <;> rfl
def qNw(kept:List Tr)(t:Tr):List Tr:=if qA4 kept t.2.1=qA4 kept t.2.2 then kept else kept++[t]
def qCs(net:List Tr):List Tr:=net.foldl qNw []
theorem qEb(net:List Tr)(t:Tr):qCs (net++[t])=qNw (qCs net) t:=by unfold qCs;rw[hC5];rfl
theorem qNi{f:Str->Str}{t:Tr}(h:f t.2.1=f t.2.2):lab f t=f:=by
 funext p
 show(if f p=f t.2.2 then f t.2.1 else f p)=f p;split
 ·rename_i e;rw[e,h]
 ·rfl
theorem qG1(net:List Tr):qA4 (qCs net)=qA4 net:=by
 refine qDs (P:=λnet=>qA4 (qCs net)=qA4 net) rfl (λl t ih=>?_) net;rw[qEb,qC8];unfold qNw;rw[ih];split
 ·rename_i e;rw[ih,qNi e]
 ·rw[qC8,ih]
theorem qQo{l1 l2:List Str}(h1:l1.Nodup)(h2:l2.Nodup)(h:∀x,x∈l1↔x∈l2):l1.length=l2.length:=((hCe h1 h2).mpr h).length_eq
theorem count(ps:List Str)(nd:ps.Nodup)(net:List Tr):(∀x,qIv net x->x∈ps)->∃labs:List Str,labs.Nodup/\(∀x,x∈labs↔∃p∈ps,qA4 net p=x)/\labs.length+(qCs net).length=ps.length:=by
 refine qDs (P:=λnet=>(∀x,qIv net x->x∈ps)->∃labs:List Str,labs.Nodup/\(∀x,x∈labs↔∃p∈ps,qA4 net p=x)/\labs.length+(qCs net).length=ps.length) (λ_=>⟨ps,nd,λx=>⟨λh=>⟨x,h,rfl⟩,λ⟨p,hp,e⟩=>e▸hp⟩,rfl⟩) (λl t ih hp=>?_) net;obtain⟨labs,n1,m1,c1⟩:=ih λx hx=>hp x (qFa.mpr (.inl hx))
 have o1:t.2.1∈ps:=hp _ (qFa.mpr (.inr (.inl rfl)));have o2:t.2.2∈ps:=hp _ (qFa.mpr (.inr (.inr rfl)));rw[qC8,qEb];unfold qNw;rw[qG1];by_cases e:qA4 l t.2.1=qA4 l t.2.2
 ·rw[hDw e,qNi e];exact⟨labs,n1,m1,c1⟩
 ·rw[hDv e];have mo:qA4 l t.2.2∈labs:=(m1 _).mpr ⟨_,o2,rfl⟩;refine⟨labs.erase (qA4 l t.2.2),n1.erase _,λx=>?_,?_⟩
  ·rw[n1.mem_erase_iff,m1];constructor
   ·rintro⟨nx,p,hp',ex⟩;refine⟨p,hp',?_⟩;show(if qA4 l p=qA4 l t.2.2 then qA4 l t.2.1 else qA4 l p)=x;rw[hDv (by rw[ex];exact nx),ex]
   ·rintro⟨p,hp',ex⟩;have ex':(if qA4 l p=qA4 l t.2.2 then qA4 l t.2.1 else qA4 l p)=x:=ex;by_cases z:qA4 l p=qA4 l t.2.2
    ·rw[hDw z]at ex';exact⟨by rw[<-ex'];exact e,_,o1,ex'⟩
    ·rw[hDv z]at ex';exact⟨by rw[<-ex'];exact z,p,hp',ex'⟩
  ·rw[List.length_erase_of_mem mo,hA9];have:0<labs.length:=List.length_pos_of_mem mo;show labs.length-1+((qCs l).length+1)=_;omega
abbrev qHf(l:List Str):Prop:=l.Pairwise λa b=>qMs a b=true
abbrev trV(t:Tr):List V:=[.str t.1,.str t.2.1,.str t.2.2]
def qDp(H:Hp)(p:Addr)(net:List Tr):Prop:=∃as:List Addr,H p=some (.lst (as.map V.ref))/\Paired (λa t=>H a=some (.tup (trV t))) as net
theorem qDp.ext{H H':Hp}{p:Addr}{net:List Tr}(h:qDp H p net)(e:Ext H H'):qDp H' p net:=by
 obtain⟨as,h1,h2⟩:=h;exact⟨as,e _ _ h1,Paired.mapP h2 λa t z=>e _ _ z⟩
theorem qA8{α β:Type}{R:α->β->Prop}:∀ {as:List α} {bs:List β} {i:Nat} {a:α},Paired R as bs->as[i]?=some a->∃b,bs[i]?=some b/\R a b
 |_,_,_,_,.nil,e=>by simp at e
 |_,_,0,_,.cons h _,e=>by simp at e;subst e;exact⟨_,rfl,h⟩
 |_,_,i+1,_,.cons _ t,e=>by
  obtain⟨b,h1,h2⟩:=qA8 (i:=i) t (by simpa using e);exact⟨b,by simpa using h1,h2⟩
theorem qIq{H:Hp}{as:List Addr}{net:List Tr}{i:Nat}{x:V}(h:Paired (λa t=>H a=some (.tup (trV t))) as net)(e:(as.map V.ref)[i]?=some x):∃a t,x = .ref a/\net[i]?=some t/\H a=some (.tup (trV t)):=by
 rw[hAj]at e;cases ha:as[i]? with
 |none=>rw[ha]at e;cases e
 |some a =>
  rw[ha]at e;obtain⟨t,h1,h2⟩:=qA8 h ha;exact⟨a,t,(hAq e).symm,h1,h2⟩
theorem qAk{α:Type}{l:List α}{i:Nat}{t:α}(h:l[i]?=some t):l.take (i+1)=l.take i++[t]:=by rw[List.take_add_one,h];rfl
theorem qA7{α:Type}{l:List α}{i:Nat}{t:α}(h:l[i]?=some t):i<l.length:=(hAi.mp h).1
theorem qP5:∀(l:List Str) (p:Str),PyProof.Rows.risingS p l=true->(p :: l).Nodup->qHf (p :: l)
 |[],p,_,_=>List.pairwise_singleton _ _
 |x :: r,p,h,nd=>by
  have h':(!PySem.Spec.ltCps x.cps.toList p.cps.toList && PyProof.Rows.risingS x r)=true:=h;rw[hBe]at h';have nd':=hBo.mp nd;have ih:=qP5 r x h'.2 nd'.2;have px:qMs p x=true:=by
   have z:=h'.1;rw[PyProof.Rows.ltCps_eq]at z;rcases qId p x with t|t|t
   ·exact t
   ·exact absurd t (λe=>nd'.1 (by rw[e];exact hA5))
   ·rw[hDr (hDu t)]at z;cases z
  refine hBt.mpr ⟨λy hy=>?_,ih⟩;rcases hAc.mp hy with e|hy
  ·rw[e];exact px
  ·exact qEe px ((hBt.mp ih).1 y hy)
theorem qIg{l:List Str}(h:PyProof.Rows.sortedS l=true)(nd:l.Nodup):qHf l:=by
 cases l with
 |nil=>exact List.Pairwise.nil
 |cons x r=>exact qP5 r x h nd
def qHg(net:List Tr)(ps:List Str):Prop:=ps.Nodup/\∀x,x∈ps↔qIv net x
def qMj:Sp:=λvs H Q _=>∃(p:Addr) (net:List Tr),vs=[.ref p]/\qDp H p net/\net.length<=12/\∀r ps H',Ext H H'->H r=none->LsS H' r ps->qHg net ps->qHf ps->ps.length<=24->Q (.ref r) H'
section
variable{P:Program}{w:World}{K:PySem.W.Frag}{mg:Str->Option Value}{base:Heap}{f f1:Addr}{fd fd1:FuncData}
theorem qR8:FnScope ["net"] ["net"] (qAa qEs):=fsk
abbrev ptN:List Str:=["tie","one","other","end"]
theorem qQn(F:Fun K "points" "points" qEs f fd)(mso:mg "sorted"=none):v6 1 f fd ["net"] qMj:=by
 refine F.okA qR8 λcdv A outer s H vs Q E hr h=>?_
 obtain⟨p,net,rfl,⟨as,hp,pr⟩,hl,q⟩:=h;refine⟨_,qAd (qAo (qAf (qCj rfl) rfl mso qBv (qAe
  (zCs qXj rfl (N:=["net"]) (sc:=qAa qEs) (N':=ptN) (sub:=[none,none,none,none]) rfl rfl (CmpOk.of (by decide +kernel)) rfl (qAv (pv 0))
   (λC s H fp=>⟨(show PG _ _ (qUr K 3 _) from qCa rfl (qAr (qAh (i:=0) (by show ptN.Nodup;decide) rfl (Or.inl rfl)) (qAr (qAh (i:=1) (by show ptN.Nodup;decide) rfl (Or.inl rfl)) (qAr (qAh (i:=2) (by show ptN.Nodup;decide) rfl (Or.inl rfl)) qBj)))),qAx,
    λacc=>qSi rfl rfl (show PI _ _ _ (zB5 K _) from qM7 (qB2 (qAe (pv 1) (pa1 (pv 2))))) (qAh (i:=3) (by show ptN.Nodup;decide) rfl (Or.inl rfl)) qAx (qWc rfl (pv 3)) (λ_=>rfl) rfl rfl (λ_=>rfl) (λ_ _ _ _ _ h=>h) (λ_ _ _ _ _ h=>h) (λ_=>rfl)⟩)) qA3))),?_⟩
 have lA:as.length=net.length:=pr.length;refine⟨_,rfl,p,rfl,⟨_,SqL.of hp⟩,?_⟩;refine qZ1 (xs:=as.map V.ref) (λi ss σ H'=>Ext H H'/\(∃x0 x1 x2 x3:Option V,σ=[x0,x1,x2,x3])/\ss.Nodup/\(∀x,x∈ss↔qIv (net.take i) x)/\ss.length<=2*i) ⟨Ext.refl _,⟨none,none,none,none,rfl⟩,List.nodup_nil,λx=>⟨λz=>(by cases z),λ⟨t,ht,_⟩=>(by simp at ht)⟩,hAs _⟩ (λi ss σ H' _ h=>SqL.of (h.1 _ _ hp)) ?_ ?_
 ·rintro i x ss σ H' hx ⟨he,⟨x0,x1,x2,x3,rfl⟩,nd,mem,ln⟩;obtain⟨a,t,rfl,ht,ha⟩:=qIq pr hx;have hi:=qA7 ht;refine⟨a,_,rfl,SqT.of (he _ _ ha),rfl,_,_,rfl,_,_,rfl,_,_,rfl,rfl,iteT (B:=False) ?_⟩;refine⟨_,rfl,_,rfl,(by show 2<=sizeLine;decide),λT hT=>⟨T,rfl,⟨_,SqT.of upd_same⟩,?_⟩⟩;have X1:=Ext.new hT (.tup [V.str t.2.1,V.str t.2.2]);refine qXk (xs:=[V.str t.2.1,V.str t.2.2]) (λj ss σ H2=>Ext (upd H' T (.tup [V.str t.2.1,V.str t.2.2])) H2/\(∃y:Option V,σ=[some (.str t.1),some (.str t.2.1),some (.str t.2.2),y])/\ss.Nodup/\(∀x,x∈ss↔qIv (net.take i) x\/(0<j/\x=t.2.1)\/(1<j/\x=t.2.2))/\ss.length<=2*i+j)
   ⟨Ext.refl _,⟨_,rfl⟩,nd,λx=>by rw[mem];simp,by omega⟩ (λj ss σ H2 _ h=>SqT.of (h.1 _ _ upd_same)) ?_ ?_
  ·rintro j z ss2 σ H2 hz ⟨h2,⟨y,rfl⟩,nd2,mem2,ln2⟩;have hj:j<2:=qA7 hz;obtain⟨v,rfl,hv⟩:∃v:Str,z = .str v/\((j=0/\v=t.2.1)\/(j=1/\v=t.2.2)):=by
    rcases(show j=0\/j=1 by omega) with rfl|rfl
    ·exact⟨t.2.1,(hAq hz).symm,.inl ⟨rfl,rfl⟩⟩
    ·exact⟨t.2.2,(hAq hz).symm,.inr ⟨rfl,rfl⟩⟩
   refine iteT (B:=False) ⟨_,rfl,v,rfl,by omega,λss3 h3=>nxg hj ⟨h2,⟨_,rfl⟩,?_⟩⟩;have key:ss3.Nodup/\(∀x,x∈ss3↔x∈ss2\/x=v)/\ss3.length<=ss2.length+1:=by
    by_cases m:v∈ss2
    ·rw[hDw m]at h3;subst h3;exact⟨nd2,λx=>⟨.inl,λz=>z.elim id λe=>e▸m⟩,hB8 _⟩
    ·rw[hDv m]at h3;refine⟨h3.nodup_iff.mpr ?_,λx=>by rw[h3.mem_iff,hAf,hAe],by rw[h3.length_eq,hA9];exact hA3 _⟩;rw[List.nodup_append];exact⟨nd2,by simp,λy hy z hz=>by rw[hAe]at hz;subst hz;rintro rfl;exact m hy⟩
   refine⟨key.1,λx=>?_,by have:=key.2.2;omega⟩;rw[key.2.1,mem2];rcases hv with ⟨rfl,rfl⟩|⟨rfl,rfl⟩
   ·simp
   ·simp[or_assoc]
  ·rintro ss2 σ H2 ⟨h2,⟨y,rfl⟩,nd2,mem2,ln2⟩;refine nxg (qA7 hx) ⟨he.trans (X1.trans h2),⟨_,_,_,_,rfl⟩,nd2,λx=>?_,by have:ss2.length<=2*i+2:=ln2;omega⟩;rw[mem2,qAk ht,qFa];simp
 ·rintro ss σ H' ⟨he,_,nd,mem,ln⟩ r hr1;rw[hA1,lA,hA6 (hA3 _)]at mem;rw[hA1,lA]at ln;refine⟨r,ss,rfl,upd_same,by omega,λr2 ss2 hr2 pm srt=>?_⟩;exact q r2 ss2 _ ((he.trans (Ext.new hr1 _)).trans (Ext.new hr2 _)) ((he.trans (Ext.new hr1 _)).none hr2) upd_same ⟨pm.nodup_iff.mpr nd,λx=>by rw[pm.mem_iff,mem]⟩ (qIg srt (pm.nodup_iff.mpr nd)) (by rw[pm.length_eq];omega)
end
theorem Ext.over{H H':Hp}{d:Addr}(e:Ext H H')(h:H d=Option.none)(o:HO):Ext H (upd H' d o):=λb u q=>by rw[qAs (qAw q h)];exact e b u q
def hD(ps:List Str)(f:Str->Str):List (Key×V):=ps.map λp=>(Sum.inr p,V.str (f p))
def qF5(H:Hp)(p:Addr)(F:List (List Str)):Prop:=∃as:List Addr,H p=some (.lst (as.map V.ref))/\Paired (LsS H) as F
theorem qF5.ext{H H':Hp}{p:Addr}{F:List (List Str)}(h:qF5 H p F)(e:Ext H H'):qF5 H' p F:=by
 obtain⟨as,h1,h2⟩:=h;exact⟨as,e _ _ h1,Paired.mapP h2 λa r z=>e _ _ z⟩
def qXt(H0 H:Hp)(fo:Addr)(F:List (List Str)):Prop:=∃as:List Addr,H fo=some (.lst (as.map V.ref))/\Paired (λa r=>LsS H a r/\H0 a=none/\a≠fo) as F
theorem qXt.rows{H0 H:Hp}{p:Addr}{F:List (List Str)}(h:qXt H0 H p F):qF5 H p F:=by
 obtain⟨as,h1,h2⟩:=h;exact⟨as,h1,Paired.mapP h2 λa r z=>z.1⟩
theorem qLz(as:List Addr):(List.range as.length).map (λi=>as.getD i 0)=as:=by
 refine hDf λi=>?_
 by_cases hi:i<as.length
 ·rw[hAj,hDj hi,hA2 hi];show some (as.getD i 0)=_;rw[hA8,hA2 hi];rfl
 ·rw[hBd (by simp;omega),hBd (by omega)]
theorem pick_perm{as:List Addr}{o:Array Nat}(g:Gd as.length o):(o.toList.map λi=>as.getD i 0).Perm as :=
 ((hCd.mp g).map λi=>as.getD i 0).trans (List.Perm.of_eq (qLz as))
def Sgd(s:Str):Prop:=∀c∈s.cps.toList,c∈sg.cps.toList
theorem qVj{i:Nat}(hi:i<36):sgC i∈sg.cps.toList:=by
 have hi':i<sg.cps.toList.length:=by rw[qMo];exact hi
 unfold sgC;rw[hA8,hA2 hi'];exact hBl hi'
theorem Sgd.app{x y:Str}(h:Sgd x)(h':Sgd y):Sgd (x++y):=λc hc=>by
 rw[Str.cps_append,hDk,hAf]at hc;exact hc.elim (h c) (h' c)
theorem Sgd.one{i:Nat}(hi:i<36):Sgd ⟨#[sgC i]⟩:=λd hd=>by
 have:d=sgC i:=by simpa using hd
 rw[this];exact qVj hi
theorem Sgd.nil:Sgd "":=λc hc=>by
 have:c∈([]:List Nat):=hc;cases this
theorem Sgd.slice{x:Str}(h:Sgd x)(l u:Option Int):Sgd (Txt.slice x l u):=λc hc=>by
 unfold Txt.slice at hc;split at hc
 ·exact h c hc
 ·simp only[hD8]at hc;obtain⟨i,_,hi⟩:=hc;exact h c (by simpa using Array.mem_of_getElem? hi)
def qDz(s:Str):Prop:=Sgd s/\1<=s.length/\s.length<=6
theorem qK2{x:Str}{j:Int}(h0:0<=j)(h1:j<=x.length):(Txt.slice x none (some j)).length<=j.toNat:=by
 have e:Txt.slice x none (some j)=_:=PySem.StrLaws.sliceText_to (x:=x) (j:=j) ⟨h0,h1⟩;rw[e];show(List.toArray _).size<=_;rw[hAl,hAh];omega
theorem qH7{x:Str}{j:Int}(h0:0<=j)(h1:j<=x.length):(Txt.slice x (some j) none).length<=x.length-j.toNat:=by
 have e:Txt.slice x (some j) none=_:=PySem.StrLaws.sliceText_from (x:=x) (i:=j) ⟨h0,h1⟩;rw[e];show(List.toArray _).size<=_;rw[hAl,hAh,hCn];have:x.cps.toList.length=x.length:=rfl;omega
def qK0(K:PySem.W.Frag):Sp:=λvs H Q _=>∃(a:Addr) (ns:List Int) (k:Int),vs=[.ref a,.int k]/\SqL K H a (ns.map V.int)/\0<=k/\k<=100/\∀v,Q (.int v) H
def Tx(ss:List Str):Prop:=∀s∈ss,qDz s
def qKx:Sp:=λvs H Q _=>∃(b n:Int),vs=[.int b,.int n]/\0<=n/\n<=100/\∀(r:Addr) (ss:List Str) (H':Hp),Ext H H'->H r=none->LsS H' r ss->ss.length=n.toNat->Tx ss->(n<=36->ss.Nodup)->Q (.ref r) H'
def nmF(pre post:Str)(f:Int)(k:Nat):Str:=pre++⟨#[sgC ((f+7*(0+(k:Int))) % 36).toNat]⟩++post
theorem qW4{pre post:Str}{f:Int}{i j:Nat}(hi:i<36)(hj:j<36)(e:nmF pre post f i=nmF pre post f j):i=j:=by
 have e1:=congrArg (λs:Str=>s.cps.toList) e;unfold nmF at e1;simp only[Str.cps_append,hDk]at e1;have e2:=List.append_cancel_left (List.append_cancel_right e1);have a0:=hAw (f+7*(0+(i:Int))) (show(36:Int)≠0 by decide);have a1:=hAp (f+7*(0+(i:Int))) (show(0:Int)<36 by decide);have b0:=hAw (f+7*(0+(j:Int))) (show(36:Int)≠0 by decide);have b1:=hAp (f+7*(0+(j:Int))) (show(0:Int)<36 by decide);have e3:sgC ((f+7*(0+(i:Int))) % 36).toNat=sgC ((f+7*(0+(j:Int))) % 36).toNat:=by simpa using e2
 have e4:=qVk (by omega) (by omega) e3;omega
theorem qNb{g:Nat->Str}:∀ {n:Nat},(∀i j,i<n->j<n->g i=g j->i=j)->((List.range n).map g).Nodup
 |0,_=>List.nodup_nil
 |n+1,h=>by
  rw[hCi,hA7,List.nodup_append];refine⟨qNb λi j hi hj=>h i j (by omega) (by omega),by simp,λa ha b hb=>?_⟩;obtain⟨i,hi,rfl⟩:=hAb.mp ha;rw[hC9,hAe]at hb;subst hb;rw[hB9]at hi;intro z;have:=h i n (by omega) (by omega) z;omega
section
variable{P:Program}{w:World}{K:PySem.W.Frag}{mg:Str->Option Value}{base:Heap}{f f1 f2:Addr}{fd fd1 fd2:FuncData}
abbrev bgN:List Str:=["_law_script","_law_k","_law_x","_law_total","_law_j"]
theorem qK6:FnScope bgN ["_law_script","_law_k"] (qAa qX0):=fsk
theorem qZl(F:Fun K "_law_big" "_law_big" qX0 f fd)(G:v7 1 f1 fd1 ["_law_script","_law_k"] (qT5 K) "_law_cell_at")(mr:mg "range"=none)(ma:mg "abs"=none) :
  v6 2 f fd ["_law_script","_law_k"] (qK0 K):=by
 refine F.okA qK6 λcdv A outer s H vs Q E hr h=>?_
 obtain⟨a,ns,k,rfl,hS,h0,h1,q⟩:=h;refine⟨_,qAb (qBb (qAl zA8 (qAf qNs rfl ma qKj (pa1 (qAy G hr rfl .nil qAz (qAe (pv 0) (pa1 (pv 1)))))) (qAg qUj qAc qAc) (qAp _))
   (qAd (qAo (qAg qEm (qAf qNs rfl ma qKj (pa1 (qAy G hr rfl .nil qAz (qAe (pv 0) (pa1 (pv 1)))))) (qAg qUj qAc qAc)))) qAu)
  (qAb (v0 2 qK6 (qAg qBh (qAg qBh (qAg qBh (qAg qA9 (qAy G hr rfl .nil qAz (qAe (pv 0) (pa1 qAc))) qAc) (qAg qEn qAc (pv 1))) (qAg qEn qAc (qAy G hr rfl .nil qAz (qAe (pv 0) (pa1 (pv 1)))))) qAc))
  (qAb (v0 2 qK6 (qAg qBh (qAg qA9 (pv 2) qAc) qAc))
  (qAb (v0 3 qK6 qAc)
  (qAb (qBs PassesOwn.never rfl (qBg rfl mr (pa1 qAc)) (v3 4 qK6)
   (qAb (v0 2 qK6 (qAg qA9 (qAg qBh (qAg qBh (qAg qBh (qAg qEn (pv 2) qAc) (qAg qA2 (pv 2) qAc)) (qAg qEn (qAg qEn qAc (pv 4)) (pv 4))) (pv 1)) qAc))
   (qAd (v0 3 qK6 (qAg qBh (qAg qEn (pv 3) qAc) (qAg qA9 (qAg qEn (pv 2) qAc) qAc))))))
  (qAd (qAo (pv 3))))))),?_⟩
 refine⟨_,rfl,_,rfl,a,ns,k,rfl,hS,h0,λv=>⟨v,rfl,?_⟩⟩;refine⟨_,_,rfl,rfl,⟨by decide,by decide,by decide⟩,_,_,rfl,rfl,_,rfl,?_⟩;refine qBp (λc=>?_) (λc=>?_)
 ·refine⟨_,rfl,_,rfl,a,ns,k,rfl,hS,h0,λv=>⟨v,rfl,?_⟩⟩;exact⟨_,_,rfl,rfl,⟨by decide,by decide,by decide⟩,_,_,rfl,rfl,q _⟩
 refine⟨_,rfl,a,ns,0,rfl,hS,by decide,λv1=>?_⟩;refine⟨_,_,rfl,rfl,(by show(0:Int)<_;decide),_,rfl,_,_,rfl,rfl,.inl ⟨by decide,by decide⟩,_,_,rfl,rfl,?_⟩;refine⟨_,rfl,_,rfl,a,ns,k,rfl,hS,h0,λv2=>?_⟩;refine⟨_,_,rfl,rfl,.inl ⟨by decide,by decide⟩,_,_,rfl,rfl,_,_,rfl,rfl,?_⟩;refine⟨_,rfl,_,_,rfl,rfl,(by show(0:Int)<_;decide),_,_,rfl,rfl,?_⟩;refine⟨8,rfl,by decide,by decide,qBt (lo:=0) (n:=8) (λi σ H'=>H'=H/\∃(x t:Int) (z:Option V),σ=[some (.ref a),some (.int k),some (.int x),some (.int t),z]) ⟨rfl,_,0,none,rfl⟩ ?_ ?_⟩
 ·rintro i σ H' hi ⟨rfl,x,t,z,rfl⟩;refine⟨_,rfl,_,_,rfl,rfl,.inr ⟨by decide,by decide⟩,_,rfl,_,_,rfl,rfl,⟨by decide,by decide⟩,_,_,rfl,rfl,?_⟩;refine⟨_,rfl,_,_,rfl,rfl,.inl ⟨by decide,by decide⟩,_,rfl,_,_,rfl,rfl,.inr ⟨by omega,by omega⟩,_,_,rfl,rfl,?_⟩;refine⟨_,rfl,_,_,rfl,rfl,_,_,rfl,rfl,(by show(0:Int)<_;decide),?_⟩;refine⟨_,rfl,_,_,rfl,rfl,.inr ⟨by decide,by decide⟩,_,rfl,_,_,rfl,rfl,.inr ⟨by decide,by decide⟩,_,_,rfl,rfl,(by show(0:Int)<_;decide),_,_,rfl,rfl,?_⟩;exact⟨rfl,_,_,_,rfl⟩
 ·rintro σ H' ⟨rfl,x,t,z,rfl⟩;exact⟨_,rfl,q _⟩
abbrev naN:List Str:=["_law_big_here","_law_many","_law_signs","_law_word","_law_k","_law_spot","_law_first","_law_head","_law_tail"]
theorem qDd:FnScope naN ["_law_big_here","_law_many"] (qAa qGl):=fsk
theorem qSq(F:Fun K "_law_names" "_law_names" qGl f fd)(mr:mg "range"=none)(ml:mg "len"=none):v6 1 f fd ["_law_big_here","_law_many"] qKx:=by
 refine F.okA qDd λcdv A outer s H vs Q E hr h=>?_
 obtain⟨b,n,rfl,n0,n1,q⟩:=h;refine⟨_,qAb (v4 2 qDd qA1)
  (qAb (v0 3 qDd qA1)
  (qAb (qBs PassesOwn.never rfl (qBg rfl mr (pa1 (qAg qBh qAc (qAg qA9 (pv 0) qAc)))) (v3 4 qDd)
   (qAb (v0 3 qDd (qAg qC0 (pv 3) (qBm qQ1 (pv 2) (qAg qA9 (qAg qA2 (pv 0) qAc) qAc) (λ_ _=>rfl))))
   (qAd (v0 0 qDd (qAg qA2 (pv 0) qAc)))))
  (qAb (v0 5 qDd (qAg qA9 (qAg qA2 (pv 0) qAc) (qAf qCn rfl ml hAr (pa1 (pv 3)))))
  (qAb (v4 6 qDd (qAg qA9 (qAg qA2 (pv 0) qAc) qAc))
  (qAb (qE3 (qB2 (qAe (qB6 qMl (pv 3) qC5 (qC4 (pv 5))) (pa1 (qB6 qMl (pv 3) (qC4 (qAg qBh (pv 5) qAc)) qC5)))) (qCa rfl (qAr (v5 7 qDd) (qAr (v5 8 qDd) qBj))))
  (qAd (qAo (qB3 (N:=naN) (sc:=qAa qGl) (N':=["_law_k","_law_head","_law_signs","_law_first","_law_tail"]) (sub:=[none,some 7,some 2,some 6,some 8]) (qBg rfl mr (pa1 (pv 1))) (λC s H fp=>⟨qAx,
    qAg qC0 (qAg qC0 (pv 1) (qBm qQ1 (pv 2) (qAg qA9 (qAg qBh (pv 3) (qAg qEn qAc (pv 0))) qAc) (λ_ _=>rfl))) (pv 4)⟩))))))))),?_⟩
 have b6:=hAw b (show(6:Int)≠0 by decide);have b6':=hAp b (show(0:Int)<6 by decide);refine⟨_,rfl,_,_,rfl,rfl,(by show(0:Int)<_;decide),_,_,rfl,rfl,1+b % 6,rfl,by omega,by omega,?_⟩;refine qBt (lo:=0) (n:=(1+b % 6).toNat) (λi σ H'=>H'=H/\∃(b':Int) (word:Str) (x:Option V),σ=[some (.int b'),some (.int n),some (.str sg),some (.str word),x,none,none,none,none]/\word.length=i/\Sgd word) ⟨rfl,b,"",none,rfl,rfl,Sgd.nil⟩ ?_ ?_
 ·rintro i σ H' hi ⟨rfl,b',word,x,rfl,hw,sm⟩;have c1:=hAw (b' / 6) (show(36:Int)≠0 by decide);have c2:=hAp (b' / 6) (show(0:Int)<36 by decide);refine⟨_,rfl,_,rfl,_,rfl,_,_,rfl,rfl,⟨by decide,by decide⟩,_,_,rfl,rfl,(by show(0:Int)<_;decide),sg,_,sgC (b' / 6 % 36).toNat,rfl,rfl,by decide +kernel,qYq c1 c2,word,⟨#[sgC (b' / 6 % 36).toNat]⟩,rfl,rfl,?_,?_⟩
  ·show word.length+1<=sizeLine;exact hB1 (qAi (by omega))
  ·refine⟨_,rfl,_,_,rfl,rfl,⟨by decide,by decide⟩,?_⟩;refine⟨rfl,_,_,_,rfl,?_,sm.app (Sgd.one (by omega))⟩;rw[Str.length_append];show word.length+1=i+1;omega
 ·rintro σ H' ⟨rfl,b',word,x,rfl,hw,sm⟩;have wl:word.length<=sizeLine:=hB1 (qAi (by omega));have fa:=hAw (b' / 216) (show(36:Int)≠0 by decide);have fb:=hAp (b' / 216) (show(0:Int)<36 by decide);refine⟨_,rfl,_,_,rfl,rfl,⟨by decide,by decide⟩,_,rfl,word,rfl,wl,_,_,rfl,rfl,(by show(0:Int)<_;omega),?_⟩;refine⟨_,rfl,_,_,rfl,rfl,⟨by decide,by decide⟩,_,_,rfl,rfl,(by show(0:Int)<_;decide),?_⟩;obtain⟨spot,hsp⟩:∃spot,b' / 6 % ((word.length:Nat):Int)=spot:=⟨_,rfl⟩;refine⟨_,rfl,_,rfl,_,rfl,word,rfl,wl,_,rfl,_,rfl,_,_,rfl,rfl,_,rfl,word,rfl,wl,(by show 2<=sizeLine;decide),λT hT=>⟨T,_,rfl,SqT.of upd_same,rfl,_,_,rfl,_,_,rfl,rfl,?_⟩⟩;have l1:=Txt.slice_le word none (some spot);have l2:=Txt.slice_le word (some (spot+1)) none;have s1:=sm.slice none (some spot);have s2:=sm.slice (some (spot+1)) none;have X1:=Ext.new hT (.tup [V.str (Txt.slice word none (some spot)),V.str (Txt.slice word (some (spot+1)) none)]);refine⟨_,rfl,n,rfl,by omega,by omega,?_⟩;refine qGc (lo:=0) (n:=n.toNat) (λi ys H2=>H2=upd H' T (.tup [V.str (Txt.slice word none (some spot)),V.str (Txt.slice word (some (spot+1)) none)])/\∃ss:List Str,ys=ss.map V.str/\ss.length=i/\Tx ss/\ss=(List.range i).map (nmF (Txt.slice word none (some spot)) (Txt.slice word (some (spot+1)) none) (b' / 216 % 36))) ⟨by rw[hsp],[],rfl,rfl,(λs hs=>by cases hs),rfl⟩ ?_ ?_
  ·rintro i ys H2 hi ⟨rfl,ss,rfl,ls,tx,eq⟩;have ea:=hAw (b' / 216 % 36+7*(0+(i:Int))) (show(36:Int)≠0 by decide);have eb:=hAp (b' / 216 % 36+7*(0+(i:Int))) (show(0:Int)<36 by decide);rw[hsp];refine⟨sls,iteT (B:=False) ⟨_,rfl,_,rfl,_,rfl,_,rfl,_,_,rfl,rfl,.inl ⟨by decide,by decide⟩,_,_,rfl,rfl,_,_,rfl,rfl,(by show(0:Int)<_;decide),sg,_,sgC ((b' / 216 % 36+7*(0+(i:Int))) % 36).toNat,rfl,rfl,by decide +kernel,qYq ea eb,_,_,rfl,rfl,?_,_,rfl,_,_,rfl,rfl,?_,?_,nxt hi ⟨rfl,ss++[Txt.slice word none (some spot)++⟨#[sgC ((b' / 216 % 36+7*(0+(i:Int))) % 36).toNat]⟩++Txt.slice word (some (spot+1)) none],?_,?_,?_,?_⟩⟩⟩
   ·show _+1<=sizeLine;exact hB1 (qAi (by omega))
   ·rw[Str.length_append];show _+1+_<=sizeLine;exact hB1 (qAi (by omega))
   ·rw[hA1];exact qAi (by omega)
   ·rw[hA7];rfl
   ·rw[hA9,ls];rfl
   ·intro s hs;rcases hAf.mp hs with z|z
    ·exact tx s z
    ·rw[hAe]at z;subst z;have sp0:0<=spot:=by rw[<-hsp];exact hAw _ (by omega)
     have sp1:spot<(word.length:Int):=by rw[<-hsp];exact hAp _ (by omega)
     have la:=qK2 (x:=word) (j:=spot) sp0 (by omega);have lb:=qH7 (x:=word) (j:=spot+1) (by omega) (by omega);have lc:(⟨#[sgC ((b' / 216 % 36+7*(0+(i:Int))) % 36).toNat]⟩:Str).length=1:=rfl;refine⟨(s1.app (Sgd.one (by omega))).app s2,?_,?_⟩
     ·rw[Str.length_append,Str.length_append,lc];omega
     ·rw[Str.length_append,Str.length_append,lc];omega
   ·rw[eq,hCi,hA7];rfl
  ·rintro ys H2 ⟨rfl,ss,rfl,ls,tx,eq⟩ r hr';exact q r ss _ (X1.trans (Ext.new hr' _)) (X1.none hr') upd_same ls tx (λn36=>by rw[eq];exact qNb λi j hi hj=>qW4 (by omega) (by omega))
end
theorem qHz(net:List Tr):∀S:Str->Prop,(∀t∈net,S t.2.1↔S t.2.2)->∀x y,qA4 net x=qA4 net y->(S x↔S y):=by
 refine qDs (P:=λnet=>∀S:Str->Prop,(∀t∈net,S t.2.1↔S t.2.2)->∀x y,qA4 net x=qA4 net y->(S x↔S y)) (λS _ x y e=>?_) (λl t ih S hS x y e=>?_) net
 ·have:x=y:=e;rw[this]
 have ih':=ih S λu hu=>hS u (hAk _ hu)
 have hT:=hS t (by simp);rw[qC8]at e;have e':(if qA4 l x=qA4 l t.2.2 then qA4 l t.2.1 else qA4 l x)=(if qA4 l y=qA4 l t.2.2 then qA4 l t.2.1 else qA4 l y):=e;by_cases a:qA4 l x=qA4 l t.2.2
 ·by_cases b:qA4 l y=qA4 l t.2.2
  ·exact ih' x y (a.trans b.symm)
  ·rw[hDw a,hDv b]at e';exact(ih' x t.2.2 a).trans (hT.symm.trans (ih' t.2.1 y e'))
 ·by_cases b:qA4 l y=qA4 l t.2.2
  ·rw[hDv a,hDw b]at e';exact(ih' x t.2.1 e').trans (hT.trans (ih' t.2.2 y b.symm))
  ·rw[hDv a,hDv b]at e';exact ih' x y e'
theorem qFb(net:List Tr):∀x,qA4 net (qA4 net x)=qA4 net x:=by
 refine qDs (P:=λnet=>∀x,qA4 net (qA4 net x)=qA4 net x) (λx=>rfl) (λl t ih x=>?_) net;rw[qC8];show(if qA4 l (if qA4 l x=qA4 l t.2.2 then qA4 l t.2.1 else qA4 l x)=qA4 l t.2.2 then qA4 l t.2.1 else qA4 l (if qA4 l x=qA4 l t.2.2 then qA4 l t.2.1 else qA4 l x))=if qA4 l x=qA4 l t.2.2 then qA4 l t.2.1 else qA4 l x
 by_cases a:qA4 l x=qA4 l t.2.2
 ·rw[hDw a,ih];split <;> rfl
 ·rw[hDv a,ih,hDv a]
theorem qNk{a b:List Tr}(h:∀t,t∈a->t∈b){x y:Str}(e:qA4 a x=qA4 a y):qA4 b x=qA4 b y :=
 ((qHz a (λz=>qA4 b x=qA4 b z) (λt ht=>by rw[qNl b t (h t ht)]) x y e).mp rfl)
theorem qOw{a b:List Tr}{ps:List Str}(nd:ps.Nodup)(hp:∀x,qIv a x->x∈ps)(p:a.Perm b):(qCs a).length=(qCs b).length:=by
 have hp':∀x,qIv b x->x∈ps:=λx ⟨t,ht,h⟩=>hp x ⟨t,p.mem_iff.mpr ht,h⟩
 obtain⟨la,n1,m1,c1⟩:=count ps nd a hp;obtain⟨lb,n2,m2,c2⟩:=count ps nd b hp';have ab:∀ {x y},qA4 a x=qA4 a y->qA4 b x=qA4 b y:=λe=>qNk (λt ht=>p.mem_iff.mp ht) e
 have ba:∀ {x y},qA4 b x=qA4 b y->qA4 a x=qA4 a y:=λe=>qNk (λt ht=>p.mem_iff.mpr ht) e
 have n3:(la.map (qA4 b)).Nodup:=by
  unfold List.Nodup;rw[hCq];refine hCl (λ{x y} hx hy ne e=>ne ?_) n1;obtain⟨q,_,rfl⟩:=(m1 x).mp hx;obtain⟨q',_,rfl⟩:=(m1 y).mp hy;have:=ba e
  rwa [qFb,qFb]at this
 have e:(la.map (qA4 b)).length=lb.length:=qQo n3 n2 λx=>by
  rw[m2,hAb];constructor
  ·rintro⟨z,hz,rfl⟩;obtain⟨q,hq,rfl⟩:=(m1 z).mp hz;exact⟨q,hq,(ab (qFb a q)).symm⟩
  ·rintro⟨q,hq,rfl⟩;exact⟨qA4 a q,(m1 _).mpr ⟨q,hq,rfl⟩,ab (qFb a q)⟩
 rw[hA1]at e;omega
def zBd(f:Int->Int)(e:Int×Int):Int->Int:=λx=>if f x=f e.2 then f e.1 else f x
def hwS(p:(Int->Int)×Nat)(e:Int×Int):(Int->Int)×Nat:=(zBd p.1 e,if p.1 e.1=p.1 e.2 then p.2 else p.2+1)
def hwF(es:List (Int×Int)):(Int->Int)×Nat:=es.foldl hwS (id,0)
def hF(es:List (Int×Int)):Int->Int:=(hwF es).1
def wI(es:List (Int×Int)):Nat:=(hwF es).2
theorem qIx(es:List (Int×Int))(e:Int×Int):hwF (es++[e])=hwS (hwF es) e:=by unfold hwF;rw[hC5];rfl
theorem qLx(es:List (Int×Int))(e:Int×Int):hF (es++[e])=zBd (hF es) e:=by unfold hF;rw[qIx];rfl
theorem qXi{es:List (Int×Int)}{e:Int×Int}(h:hF es e.1=hF es e.2):hF (es++[e])=hF es:=by
 rw[qLx]
 funext x
 unfold zBd;rw[h];split
 ·rename_i z;exact z.symm
 ·rfl
theorem qH2{es:List (Int×Int)}{e:Int×Int}(h:hF es e.1=hF es e.2):wI (es++[e])=wI es:=by
 unfold wI;rw[qIx];show(if hF es e.1=hF es e.2 then _ else _)=_;rw[hDw h]
theorem qH3{es:List (Int×Int)}{e:Int×Int}(h:¬hF es e.1=hF es e.2):wI (es++[e])=wI es+1:=by
 unfold wI;rw[qIx];show(if hF es e.1=hF es e.2 then _ else _)=_;rw[hDv h]
theorem qQy{α β:Type}[DecidableEq β](f:α->β)(a b x y:α):((if f x=f b then f a else f x)=(if f y=f b then f a else f y))↔(f x=f y\/(f x=f a/\f y=f b)\/(f x=f b/\f y=f a)):=by
 by_cases c:f x=f b
 ·by_cases d:f y=f b
  ·rw[hDw c,hDw d];exact⟨λ_=>.inl (c.trans d.symm),λ_=>rfl⟩
  ·rw[hDw c,hDv d];constructor
   ·intro e;exact .inr (.inr ⟨c,e.symm⟩)
   ·rintro(e|⟨_,e⟩|⟨_,e⟩)
    ·exact absurd (e.symm.trans c) d
    ·exact absurd e d
    ·exact e.symm
 ·by_cases d:f y=f b
  ·rw[hDv c,hDw d];constructor
   ·intro e;exact .inr (.inl ⟨e,d⟩)
   ·rintro(e|⟨e,_⟩|⟨e,_⟩)
    ·exact absurd (e.trans d) c
    ·exact e
    ·exact absurd e c
  ·rw[hDv c,hDv d];constructor
   ·intro e;exact .inl e
   ·rintro(e|⟨_,e⟩|⟨e,_⟩)
    ·exact e
    ·exact absurd e d
    ·exact absurd e c
abbrev knA(kn:List Str)(i:Int):Str:=kn.getD i.toNat ""
def Lnk(kn:List Str)(e:Int×Int)(t:Tr):Prop:=(t.2.1=knA kn e.1/\t.2.2=knA kn e.2)\/(t.2.1=knA kn e.2/\t.2.2=knA kn e.1)
theorem qD6{α β:Type}{R:α->β->Prop}:∀ {l:List α} {t:α} {bs:List β},Paired R (l++[t]) bs->∃bs' b,bs=bs'++[b]/\Paired R l bs'/\R t b
 |[],t,bs,h=>by
  cases h with
  |cons h1 h2=>cases h2;exact⟨[],_,rfl,.nil,h1⟩
 |a :: l,t,bs,h=>by
  cases h with
  |cons h1 h2 =>
   obtain⟨bs',b,rfl,p,r⟩:=qD6 h2;exact⟨_ :: bs',b,rfl,.cons h1 p,r⟩
def InR(i:Int):Prop:=0<=i/\i<10
theorem qOx{kn:List Str}(nd:∀i j,InR i->InR j->knA kn i=knA kn j->i=j)(net:List Tr):∀es:List (Int×Int),Paired (λt e=>Lnk kn e t) net es->(∀e∈es,InR e.1/\InR e.2) ->
  (∀i j,InR i->InR j->(qA4 net (knA kn i)=qA4 net (knA kn j)↔hF es i=hF es j))/\(qCs net).length=wI es:=by
 refine qDs (P:=λnet=>∀es:List (Int×Int),Paired (λt e=>Lnk kn e t) net es->(∀e∈es,InR e.1/\InR e.2) ->
  (∀i j,InR i->InR j->(qA4 net (knA kn i)=qA4 net (knA kn j)↔hF es i=hF es j))/\(qCs net).length=wI es) (λes h _=>?_) (λl t ih es h hi=>?_) net
 ·cases h;exact⟨λi j hi hj=>⟨λe=>nd i j hi hj e,λe=>congrArg (knA kn) e⟩,rfl⟩
 obtain⟨es',e,rfl,pr,lk⟩:=qD6 h;obtain⟨h1,h2⟩:=ih es' pr λx hx=>hi x (hAk _ hx)
 obtain⟨ia,ib⟩:=hi e (hAa _ (hAe.mpr rfl));have key:qA4 l t.2.1=qA4 l t.2.2↔hF es' e.1=hF es' e.2:=by
  rcases lk with ⟨z1,z2⟩|⟨z1,z2⟩
  ·rw[z1,z2];exact h1 _ _ ia ib
  ·rw[z1,z2];exact⟨λq=>((h1 _ _ ib ia).mp q).symm,λq=>(h1 _ _ ib ia).mpr q.symm⟩
 refine⟨λi j hi' hj'=>?_,?_⟩
 ·rw[qC8,qLx];show((if qA4 l (knA kn i)=qA4 l t.2.2 then qA4 l t.2.1 else qA4 l (knA kn i))=(if qA4 l (knA kn j)=qA4 l t.2.2 then qA4 l t.2.1 else qA4 l (knA kn j)))↔((if hF es' i=hF es' e.2 then hF es' e.1 else hF es' i)=(if hF es' j=hF es' e.2 then hF es' e.1 else hF es' j));rw[qQy (qA4 l),qQy (hF es')];rcases lk with ⟨z1,z2⟩|⟨z1,z2⟩
  ·rw[z1,z2,h1 i j hi' hj',h1 i _ hi' ia,h1 j _ hj' ib,h1 i _ hi' ib,h1 j _ hj' ia]
  ·rw[z1,z2,h1 i j hi' hj',h1 i _ hi' ia,h1 j _ hj' ib,h1 i _ hi' ib,h1 j _ hj' ia];constructor
   ·rintro(q|q|q)
    ·exact .inl q
    ·exact .inr (.inr q)
    ·exact .inr (.inl q)
   ·rintro(q|q|q)
    ·exact .inl q
    ·exact .inr (.inr q)
    ·exact .inr (.inl q)
 ·rw[qEb];unfold qNw;rw[qG1];by_cases c:qA4 l t.2.1=qA4 l t.2.2
  ·rw[hDw c,qH2 (key.mp c)];exact h2
  ·rw[hDv c,qH3 (λq=>c (key.mpr q)),hA9,h2];rfl
def leB(x y:Str):Bool:=!decide (y.cps.toList<x.cps.toList)
theorem qTp{kn:List Str}{i:Int}(h0:0<=i)(h1:i<(kn.length:Int)):∃k,k=knA kn i/\k∈kn/\atI (kn.map V.str) i=some (.str k):=by
 have hk:i.toNat<kn.length:=by omega
 have e:knA kn i=kn[i.toNat]:=by unfold knA;rw[hA8,hA2 hk];rfl
 have hv:atI (kn.map V.str) ((i.toNat:Nat):Int)=some (.str kn[i.toNat]):=qA5 (by rw[hAj,hA2 hk] <;> rfl);rw[hCs h0]at hv;exact⟨kn[i.toNat],e.symm,hBl hk,hv⟩
theorem qZp{kn:List Str}(nd:kn.Nodup)(l:kn.length=10):∀i j,InR i->InR j->knA kn i=knA kn j->i=j:=λi j hi hj e=>by
 obtain⟨a,b⟩:=hi;obtain⟨c,d⟩:=hj;have hi':i.toNat<kn.length:=by omega
 have hj':j.toNat<kn.length:=by omega
 unfold knA at e;rw[hA8,hA8,hA2 hi',hA2 hj']at e;have:=(List.getElem_inj nd).mp (show kn[i.toNat]=kn[j.toNat] from e);omega
theorem perm2{x y a b:Str}(p:[x,y].Perm [a,b]):(x=a/\y=b)\/(x=b/\y=a):=by
 have hx:x∈[a,b]:=p.mem_iff.mp (by simp);have ha:a∈[x,y]:=p.mem_iff.mpr (by simp);have hb:b∈[x,y]:=p.mem_iff.mpr (by simp);have hy:y∈[a,b]:=p.mem_iff.mp (by simp);simp only[hAc,hBf,hEa]at hx ha hb hy;rcases hx with rfl|rfl
 ·rcases hb with rfl|rfl
  ·left
   rcases hy with rfl|rfl <;> exact⟨rfl,rfl⟩
  ·exact .inl ⟨rfl,rfl⟩
 ·rcases ha with rfl|rfl
  ·right
   rcases hy with rfl|rfl <;> exact⟨rfl,rfl⟩
  ·exact .inr ⟨rfl,rfl⟩
theorem zCi{x y:Str}(h:PyProof.Rows.sortedS [x,y]=true):leB x y=true:=by
 have h':(!PySem.Spec.ltCps y.cps.toList x.cps.toList && true)=true:=h;rw[Bool.and_true,PyProof.Rows.ltCps_eq]at h';exact h'
theorem zCv{kn:List Str}{e:Int×Int}{k1 k2 x y n:Str}(p:[x,y].Perm [k1,k2])(h1:k1=knA kn e.1)(h2:k2=knA kn e.2):Lnk kn e (n,x,y):=by
 rcases perm2 p with ⟨z1,z2⟩|⟨z1,z2⟩
 ·exact .inl ⟨z1.trans h1,z2.trans h2⟩
 ·exact .inr ⟨z1.trans h2,z2.trans h1⟩
abbrev enV(e:Int×Int):List V:=[.int e.1,.int e.2]
def qEa(H:Hp)(p:Addr)(es:List (Int×Int)):Prop:=∃as:List Addr,H p=some (.lst (as.map V.ref))/\Paired (λa e=>H a=some (.tup (enV e))) as es
theorem qEa.ext{H H':Hp}{p:Addr}{es:List (Int×Int)}(h:qEa H p es)(e:Ext H H'):qEa H' p es:=by
 obtain⟨as,h1,h2⟩:=h;exact⟨as,e _ _ h1,Paired.mapP h2 λa t z=>e _ _ z⟩
theorem qEa.snoc{H H':Hp}{k a:Addr}{as:List Addr}{net:List (Int×Int)}{t:Int×Int}(hk:H k=some (.lst (as.map V.ref)))(pr:Paired (λa t=>H a=some (.tup (enV t))) as net)(e:Ext H H')(ha:H' a=some (.tup (enV t))):qEa (upd H' k (.lst (as.map V.ref++[V.ref a]))) k (net++[t]):=by
 have hk':=e _ _ hk;have ne:∀ {b:Addr} {xs:List V},H' b=some (.tup xs)->b≠k:=λh z=>by rw[z,hk']at h;cases h
 refine⟨as++[a],by rw[upd_same,hA7];rfl,?_⟩;refine Paired.snoc (Paired.mapP pr λb u z=>?_) ?_
 ·have z':=e _ _ z;rw[qAs (ne z')];exact z'
 ·rw[qAs (ne ha)];exact ha
def qX5(sp:Int)(e:Int×Int):Prop:=(0<=e.1/\e.1<sp)/\0<=e.2/\e.2<sp
def qT4:Sp:=λvs H Q _=>∃(b n sp:Int),vs=[.int b,.int n,.int sp]/\0<=n/\n<=12/\0<sp/\sp<=10/\∀r es H',Ext H H'->H r=none->qEa H' r es->es.length<=n.toNat->(∀e∈es,qX5 sp e)->wI es<=8->es.length<=wI es+8->Q (.ref r) H'
theorem zAe{hs:List Int}{es:List (Int×Int)}{sp i:Int}(hse:hs=(List.range sp.toNat).map λ(j:Nat)=>hF es (j:Int))(h0:0<=i)(h1:i<sp):atI (hs.map V.int) i=some (.int (hF es i)):=by
 have hk:i.toNat<sp.toNat:=by omega
 have hv:atI (hs.map V.int) ((i.toNat:Nat):Int)=some (.int (hF es ((i.toNat:Nat):Int))):=qA5 (by rw[hse,hAz,hAj,hDj hk];rfl);rw[hCs h0]at hv;exact hv
theorem zBz{sp:Int}{es:List (Int×Int)}{x:Int×Int}(h:∀e∈es,qX5 sp e)(hx:qX5 sp x):∀e∈es++[x],qX5 sp e:=λe he=>by
 rcases hAf.mp he with z|z
 ·exact h e z
 ·rw[hAe]at z;subst z;exact hx
section
variable{P:Program}{w:World}{K:PySem.W.Frag}{mg:Str->Option Value}{base:Heap}{f f1 f2:Addr}{fd fd1 fd2:FuncData}
abbrev eN:List Str:=["_law_big_here","_law_many","_law_spread","_law_heaps","_law_found","_law_high","_law_k","_law_one","_law_other","_law_gone"]
theorem qD3:FnScope eN ["_law_big_here","_law_many","_law_spread"] (qAa qLi):=fsk
structure EI(H:Hp)(sp n:Int)(i:Nat)(σ:St)(H':Hp)(b' h:Int)(hp fo:Addr)(hs:List Int)(es:List (Int×Int)):Prop where
 st:∃x6 x7 x8 x9:Option V,σ=[some (.int b'),some (.int n),some (.int sp),some (.ref hp),some (.ref fo),some (.int h),x6,x7,x8,x9]
 ext:Ext H H'
 fo0:H fo=none
 ne:hp≠fo
 hsA:H' hp=some (.lst (hs.map V.int))
 hsl:(hs.length:Int)=sp
 esA:qEa H' fo es
 esl:es.length<=i
 esi:∀e∈es,qX5 sp e
 hse:hs=(List.range sp.toNat).map λ(j:Nat)=>hF es (j:Int)
 hw:h=(wI es:Int)
 w8:wI es<=8
 l8:es.length<=wI es+8
theorem qW0(F:Fun K "_law_ends" "_law_ends" qLi f fd)(mr:mg "range"=none)(ml:mg "len"=none)(mL:mg "list"=none):v6 1 f fd ["_law_big_here","_law_many","_law_spread"] qT4:=by
 refine F.okA qD3 λcdv A outer s H vs Q E hr h=>?_
 obtain⟨b,n,sp,rfl,n0,n1,p0,p1,q⟩:=h;refine⟨_,qAb (v4 3 qD3 (qBd (qI6 rfl) rfl mL qC1 (pa1 (qBd qKi rfl mr qL5 (pa1 (pv 2))))))
  (qAb (v0 4 qD3 (qBe qA3))
  (qAb (v0 5 qD3 qAc)
  (qAb (qBs PassesOwn.never rfl (qBg rfl mr (pa1 (pv 1))) (v3 6 qD3)
   (qAb (qE3 (qB2 (qAe (qAg qA9 (pv 0) (pv 2)) (pa1 (qAg qA9 (qAg qA2 (pv 0) (pv 2)) (pv 2))))) (qCa rfl (qAr (v5 7 qD3) (qAr (v3 8 qD3) qBj))))
   (qAb (v0 0 qD3 (qAg qA2 (qAg qA2 (pv 0) (pv 2)) (pv 2)))
   (qAd (qBb (PW.pt (qM3 (qAl qC7 (qBm qB0 (pv 3) (pv 7) (λ_ _=>rfl)) (qBm qB0 (pv 3) (pv 8) (λ_ _=>rfl)) (qAp _)) (qIj (qAl qEt (qAg qEm (qAf qAm rfl ml hAr (pa1 (pv 4))) (pv 5)) qAc (qAp _)))))
    (qAd (qC3 (qB8 hAy hBb hBc qB1 (pv 4) (pa1 (qB2 (qAe (pv 7) (pa1 (pv 8))))))))
    (qAd (qBb (PW.pt (qM3 (qAl qFo (qBm qB0 (pv 3) (pv 7) (λ_ _=>rfl)) (qBm qB0 (pv 3) (pv 8) (λ_ _=>rfl)) (qAp _)) (qIj (qAl qEt (pv 5) qAc (qAp _)))))
     (qAb (qC3 (qB8 hAy hBb hBc qB1 (pv 4) (pa1 (qB2 (qAe (pv 7) (pa1 (pv 8)))))))
     (qAb (qQd (i:=5) qD3.nd rfl (Or.inl rfl) qAc qUo)
     (qAb (v4 9 qD3 (qBm qB0 (pv 3) (pv 8) (λ_ _=>rfl)))
     (qAd (v4 3 qD3 (qB3 (N:=eN) (sc:=qAa qLi) (N':=["_law_heap","_law_heaps","_law_one","_law_gone"]) (sub:=[none,some 3,some 7,some 9]) (qAv (pv 3)) (λC s H fp=>⟨qAx,qEi (qAl qC7 (pv 0) (pv 3) (qAp _)) (qBm (show IxR _ (zAh K) from qB0) (pv 1) (pv 2) (λ_ _=>rfl)) (pv 0)⟩)))))))
     qAu)))))))
  (qAd (qAo (pv 4)))))),?_⟩
 refine⟨_,rfl,sp,rfl,by omega,by omega,λrg hrg=>⟨rg,sp,rfl,upd_same,by omega,by omega,λhp hhp=>?_⟩⟩;have X1:=Ext.new hrg (.rng 0 sp);have X2:=X1.trans (Ext.new hhp (.lst ((List.range sp.toNat).map λ(i:Nat)=>V.int (i:Int))));refine⟨hAs _,λfo hfo=>?_⟩;have f0:=X2.none hfo;refine⟨_,rfl,n,rfl,by omega,by omega,qBt (lo:=0) (n:=n.toNat) (λi σ H'=>∃b' h hp fo hs es,EI H sp n i σ H' b' h hp fo hs es)
  ⟨b,0,hp,fo,(List.range sp.toNat).map λ(i:Nat)=>(i:Int),[],⟨_,_,_,_,rfl⟩,X2.trans (Ext.new hfo _),f0,λe=>(by rw[<-e,upd_same]at hfo;cases hfo),?_,?_,⟨[],upd_same,.nil⟩,hA3 _,λe he=>(by cases he),rfl,rfl,hAs _,hAs _⟩ ?_ ?_⟩
 ·rw[qAs (λe=>by rw[<-e,upd_same]at hfo;cases hfo),upd_same,hAz];rfl
 ·rw[hA1,hBq];omega
 ·rintro i σ H' hi ⟨b',h,hp,fo,hs,es,⟨x6,x7,x8,x9,rfl⟩,ext,fo0,ne,hsA,hsl,esA,esl,esi,hse,hw,w8,l8⟩;have sp0:(0:Int)<sp:=p0;have o0:=hAw b' (show sp≠0 by omega);have o1:=hAp b' p0;have t0:=hAw (b' / sp) (show sp≠0 by omega);have t1:=hAp (b' / sp) p0;have cd:zBu (b' / sp) sp:=⟨p0,by omega⟩;have cd':zBu b' sp:=⟨p0,by omega⟩;refine⟨_,rfl,_,rfl,_,_,rfl,rfl,p0,_,rfl,_,rfl,_,_,rfl,rfl,cd',_,rfl,_,_,rfl,rfl,p0,(by show 2<=sizeLine;decide),λT hT=>⟨T,_,rfl,SqT.of upd_same,rfl,_,_,rfl,_,_,rfl,rfl,?_⟩⟩;have X3:=Ext.new hT (.tup [V.int (b' % sp),V.int (b' / sp % sp)]);refine⟨_,rfl,_,rfl,_,_,rfl,rfl,cd',_,rfl,_,_,rfl,rfl,cd,?_⟩;have a1:=zAe hse o0 o1;have a2:=zAe hse t0 t1;obtain⟨v1,hv1⟩:∃v,hF es (b' % sp)=v:=⟨_,rfl⟩;obtain⟨v2,hv2⟩:∃v,hF es (b' / sp % sp)=v:=⟨_,rfl⟩;rw[hv1]at a1;rw[hv2]at a2;have hs3:=X3 _ _ hsA;have es3:=esA.ext X3;obtain⟨as,ea1,ea2⟩:=id esA;have la:as.length=es.length:=ea2.length;have inn:qX5 sp ((b' % sp),(b' / sp % sp)):=⟨⟨o0,o1⟩,t0,t1⟩;refine⟨_,rfl,_,rfl,hp,_,_,_,rfl,rfl,SqL.of hs3,a1,_,rfl,_,rfl,hp,_,_,_,rfl,rfl,SqL.of hs3,a2,rfl,_,rfl,?_⟩;refine qBp (λc=>?_) (λc=>?_)
  ·refine⟨_,rfl,fo,_,rfl,.inl (SqL.of (X3 _ _ ea1)),_,rfl,_,_,rfl,rfl,_,_,rfl,rfl,_,rfl,?_⟩;refine qBp (λc2=>?_) (λc2=>?_)
   ·refine⟨_,rfl,.inl ⟨rfl,_,SqL.of (X3 _ _ ea1)⟩,_,rfl,_,rfl,(by show 2<=sizeLine;decide),λT2 hT2=>?_⟩;have X4:=X3.trans (Ext.new hT2 (.tup (enV ((b' % sp),(b' / sp % sp)))));refine⟨fo,_,_,rfl,rfl,X4 _ _ ea1,by rw[hA1];exact qAi (by omega),?_⟩;refine⟨_,_,hp,fo,hs,es++[((b' % sp),(b' / sp % sp))],⟨_,_,_,_,rfl⟩,(ext.trans X4).over fo0 _,fo0,ne,by rw[qAs ne];exact X4 _ _ hsA,hsl,qEa.snoc ea1 ea2 X4 upd_same,by rw[hA9];exact hD4 esl,zBz esi inn,?_,?_,?_,?_⟩
    ·rw[qXi (hv1.trans ((by simpa using c:v1=v2).trans hv2.symm))];exact hse
    ·rw[qH2 (hv1.trans ((by simpa using c:v1=v2).trans hv2.symm))];exact hw
    ·rw[qH2 (hv1.trans ((by simpa using c:v1=v2).trans hv2.symm))];exact w8
    ·rw[qH2 (hv1.trans ((by simpa using c:v1=v2).trans hv2.symm)),hA9];have c9:=hDu c2;rw[hA1,la]at c9;show es.length+1<=_;omega
   ·refine⟨_,rfl,_,rfl,hp,_,_,_,rfl,rfl,SqL.of hs3,a1,_,rfl,_,rfl,hp,_,_,_,rfl,rfl,SqL.of hs3,a2,rfl,_,rfl,?_⟩;refine qBp (λc3=>?_) (λc3=>?_)
    ·have e1:v1=v2:=by simpa using c
     have e2:¬v1=v2:=by simpa using c3
     exact absurd e1 e2
    ·refine qEo ?_;exact⟨_,_,hp,fo,hs,es,⟨_,_,_,_,rfl⟩,ext.trans X3,fo0,ne,hs3,hsl,es3,by omega,esi,hse,hw,w8,l8⟩
  ·refine qEo ?_;refine⟨_,rfl,_,rfl,hp,_,_,_,rfl,rfl,SqL.of hs3,a1,_,rfl,_,rfl,hp,_,_,_,rfl,rfl,SqL.of hs3,a2,rfl,_,rfl,?_⟩;refine qBp (λc3=>?_) (λc3=>?_)
   ·refine⟨_,rfl,_,_,rfl,rfl,_,rfl,?_⟩;refine qBp (λc2=>?_) (λc2=>?_)
    ·refine⟨_,rfl,.inl ⟨rfl,_,SqL.of (X3 _ _ ea1)⟩,_,rfl,_,rfl,(by show 2<=sizeLine;decide),λT2 hT2=>?_⟩;have X4:=X3.trans (Ext.new hT2 (.tup (enV ((b' % sp),(b' / sp % sp)))));refine⟨fo,_,_,rfl,rfl,X4 _ _ ea1,by rw[hA1];exact qAi (by omega),?_⟩;have hs4:upd (upd (upd H' T (.tup [V.int (b' % sp),V.int (b' / sp % sp)])) T2 (.tup (enV ((b' % sp),(b' / sp % sp))))) fo (.lst (as.map V.ref++[V.ref T2])) hp=some (.lst (hs.map V.int)):=by rw[qAs ne];exact X4 _ _ hsA
     have en4:=qEa.snoc (t:=((b' % sp),(b' / sp % sp))) ea1 ea2 X4 upd_same;have X5:=(ext.trans X4).over fo0 (.lst (as.map V.ref++[V.ref T2]));refine⟨_,rfl,_,_,rfl,rfl,?_⟩;refine⟨_,rfl,_,rfl,hp,_,_,_,rfl,rfl,SqL.of hs4,a2,?_⟩;refine⟨_,rfl,hp,rfl,⟨_,SqL.of hs4⟩,?_⟩;refine qNz (λv=>some (if v = .int v2 then .int v1 else v)) (SqL.of hs4) (by rw[hA1];exact hB1 (qAi (by omega))) (λx hx C hC=>?_) (λr hr'=>?_)
     ·obtain⟨y,_,rfl⟩:=hAb.mp hx;refine⟨sls,iteT (B:=False) ?_⟩;refine⟨_,rfl,_,rfl,rfl,_,rfl,?_⟩;refine qBp (λc5=>?_) (λc5=>?_)
      ·have e5:y=v2:=by simpa using c5
       subst e5;refine⟨_,rfl,_,rfl,hp,_,_,_,rfl,rfl,SqL.of hs4,a1,?_⟩;rw[hDw rfl]at hC;exact hC
      ·have e5:¬y=v2:=by simpa using c5
       rw[hDv (λz=>e5 (V.int.inj z))]at hC;exact⟨_,rfl,hC⟩
     ·have rf:r≠fo:=λe=>by rw[e,upd_same]at hr';cases hr'
      have em:(hs.map V.int).filterMap (λv=>some (if v = .int v2 then .int v1 else v))=(hs.map λy=>if y=v2 then v1 else y).map V.int:=by
       rw[List.filterMap_eq_map',hAz,hAz];refine hC3 λy _=>?_
       show(if V.int y=V.int v2 then V.int v1 else V.int y)=V.int (if y=v2 then v1 else y);by_cases z:y=v2
       ·subst z;rw[hDw rfl,hDw rfl]
       ·rw[hDv (λe=>z (V.int.inj e)),hDv z]
      rw[em];refine⟨_,_,r,fo,_,es++[((b' % sp),(b' / sp % sp))],⟨_,_,_,_,rfl⟩,X5.trans (Ext.new hr' _),fo0,rf,upd_same,by rw[hA1];exact hsl,en4.ext (Ext.new hr' _),by rw[hA9];exact hD4 esl,zBz esi inn,?_,?_,?_,?_⟩
      ·rw[hse,hAz];refine hC3 λj _=>?_
       rw[qLx];show(if hF es (j:Int)=v2 then v1 else hF es (j:Int))=if hF es (j:Int)=hF es (b' / sp % sp) then hF es (b' % sp) else hF es (j:Int)
       rw[hv1,hv2]
      ·rw[qH3 (by show ¬hF es (b' % sp)=hF es (b' / sp % sp);rw[hv1,hv2];simpa using c),hw];rfl
      ·rw[qH3 (by show ¬hF es (b' % sp)=hF es (b' / sp % sp);rw[hv1,hv2];simpa using c)];have c9:=hDu c2;omega
      ·rw[qH3 (by show ¬hF es (b' % sp)=hF es (b' / sp % sp);rw[hv1,hv2];simpa using c),hA9];show es.length+1<=_;omega
    ·exact⟨_,_,hp,fo,hs,es,⟨_,_,_,_,rfl⟩,ext.trans X3,fo0,ne,hs3,hsl,es3,by omega,esi,hse,hw,w8,l8⟩
   ·refine qEo ?_;exact⟨_,_,hp,fo,hs,es,⟨_,_,_,_,rfl⟩,ext.trans X3,fo0,ne,hs3,hsl,es3,by omega,esi,hse,hw,w8,l8⟩
 ·rintro σ H' ⟨b',h,hp,fo,hs,es,⟨x6,x7,x8,x9,rfl⟩,ext,fo0,ne,hsA,hsl,esA,esl,esi,hse,hw,w8,l8⟩;exact⟨_,rfl,q fo es H' ext fo0 esA esl esi w8 l8⟩
end
end My
namespace L2
open PySem PySem.Spec PyProof.Rows
theorem qKa{n:Nat}{Ls:Hp->Prop}{xv:Nat->List V}{g:TG}{tb:TS}{D:Ends}{σ:St}{H:Hp}(Pv:Nat->St->Hp->Prop)(h0:Pv 0 σ H)(hl:∀i σ H,i<=n->Pv i σ H->Ls H)
  (hs:∀i σ H T,i<n->Pv i σ H->H T=none->g (.ref T) σ (upd H T (.tup (xv i))) λσ2 H2=>tb { D with nx:=Pv (i+1),ct:=Pv (i+1),bk:=D.nx } σ2 H2) (hd:∀σ H,Pv n σ H->D.nx σ H) :
  ∃W:Nat->Nat->St->Hp->Prop,(∃m,W 0 m σ H)/\∀i m σ H,W i m σ H ->
   ((Itp n Ls xv).stop i H/\D.nx σ H)\/((Itp n Ls xv).go i H/\∃N:St->Hp->Prop,(∀σ' H',N σ' H'->∃m',m'<m/\W (i+1) m' σ' H')/\∀x H',(Itp n Ls xv).yld i H x H'->g x σ H' λσ2 H2=>tb { D with nx:=N,ct:=N,bk:=D.nx } σ2 H2):=by
 refine⟨λi m σ H=>m=n-i/\i<=n/\Pv i σ H,⟨n,by simp,hAs _,h0⟩,?_⟩;rintro i m σ H ⟨rfl,hi,p⟩;have q:=hl i σ H hi p;by_cases hlt:i<n
 ·refine .inr ⟨⟨q,hlt⟩,Pv (i+1),λσ' H' p'=>⟨n-(i+1),by omega,rfl,hlt,p'⟩,λx H' y=>?_⟩;obtain⟨T,e1,e2,e3⟩:=y;subst e2 e3;exact hs i σ H T hlt p e1
 ·have e:i=n:=by omega
  subst e;exact .inl ⟨⟨q,rfl⟩,hd σ H p⟩
end L2
namespace My
open PySem L2
theorem qXr{hs:List Int}{i:Int}(h0:0<=i)(h1:i<(hs.length:Int)):∃v∈hs,atI (hs.map V.int) i=some (.int v):=by
 have hk:i.toNat<hs.length:=by omega
 have hv:atI (hs.map V.int) ((i.toNat:Nat):Int)=some (.int hs[i.toNat]):=qA5 (by rw[hAj,hA2 hk] <;> rfl);rw[hCs h0]at hv;exact⟨_,hBl hk,hv⟩
theorem qHt{α β γ:Type}{R:α->β->Prop}{S:α->γ->Prop}(g:β->γ)(h:∀a b,R a b->S a (g b)):∀ {as:List α} {bs:List β},Paired R as bs->Paired S as (bs.map g)
 |_,_,.nil=>.nil
 |_,_,.cons x t=>.cons (h _ _ x) (qHt g h t)
theorem qDp.snoc{H H':Hp}{k a:Addr}{as:List Addr}{net:List Tr}{t:Tr}(hk:H k=some (.lst (as.map V.ref)))(pr:Paired (λa t=>H a=some (.tup (trV t))) as net)(e:Ext H H')(ha:H' a=some (.tup (trV t))):qDp (upd H' k (.lst (as.map V.ref++[V.ref a]))) k (net++[t]):=by
 have hk':=e _ _ hk;have ne:∀ {b:Addr} {xs:List V},H' b=some (.tup xs)->b≠k:=λh z=>by rw[z,hk']at h;cases h
 refine⟨as++[a],by rw[upd_same,hA7];rfl,?_⟩;refine Paired.snoc (Paired.mapP pr λb u z=>?_) ?_
 ·have z':=e _ _ z;rw[qAs (ne z')];exact z'
 ·rw[qAs (ne ha)];exact ha
def qJw(t:Tr):List Str:=[t.1,t.2.1,t.2.2]
def t0:Tr:=("","","")
theorem qP1:∀ {net:List Tr} {i:Nat},i<net.length->qJw (net.getD i t0)=(net.map qJw).getD i []
 |[],_,h=>absurd h (hBx _)
 |t :: r,0,_=>rfl
 |t :: r,i+1,h=>by simpa using qP1 (net:=r) (i:=i) (by simpa using h)
theorem qNa{H:Hp}:∀ {as:List Addr} {net:List Tr} {i:Nat},Paired (λa t=>H a=some (.tup (trV t))) as net->i<as.length->H (as.getD i 0)=some (.tup (trV (net.getD i t0)))
 |_,_,i,.nil,hi=>absurd hi (hBx _)
 |_,_,0,.cons h _,_=>h
 |_,_,i+1,.cons _ t,hi=>by simpa using qNa (i:=i) t (by simpa using hi)
theorem qJ1{H:Hp}{as:List Addr}{net:List Tr}(pr:Paired (λa t=>H a=some (.tup (trV t))) as net):∀ {l:List Nat},(∀i∈l,i<as.length)->Paired (λa t=>H a=some (.tup (trV t))) (l.map λi=>as.getD i 0) (l.map λi=>net.getD i t0)
 |[],_=>.nil
 |i :: l,h=>.cons (qNa pr (h i hA5)) (qJ1 pr λj hj=>h j (hA4 _ hj))
theorem qHq{net:List Tr}:∀ {l:List Nat},(∀i∈l,i<net.length)->(l.map λi=>net.getD i t0).map qJw=l.map λi=>(net.map qJw).getD i []
 |[],_=>rfl
 |i :: l,h=>by
  rw[hAu,hAu,hAu,qHq λj hj=>h j (hA4 _ hj),qP1 (h i hA5)]
theorem qR9{t u:Tr}(e:qJw t=qJw u):t=u:=by
 obtain⟨a,b,c⟩:=t;obtain⟨a',b',c'⟩:=u;unfold qJw at e;simp at e;obtain⟨e1,e2,e3⟩:=e;subst e1 e2 e3;rfl
theorem qJ5(net:List Tr):(net.map qJw).map (λr=>r.getD 0 "")=net.map (·.1):=by
 rw[hAz];rfl
theorem qMw:∀ {net:List Tr},Srt (net.map qJw)->(net.map (·.1)).Nodup->qHf (net.map (·.1))
 |[],_,_=>List.Pairwise.nil
 |t :: r,h,nd=>by
  rw[hAu]at h nd;obtain⟨h1,h2⟩:=hBt.mp h;obtain⟨n1,n2⟩:=hBo.mp nd;rw[hAu];refine hBt.mpr ⟨λx hx=>?_,qMw h2 n2⟩;obtain⟨u,hu,rfl⟩:=hAb.mp hx;have q:=h1 (qJw u) (hB3 hu);have ne:¬u.1=t.1:=λz=>n1 (z▸hB3 hu)
  unfold qJw ltL at q;rw[hDv ne]at q;rcases qId t.1 u.1 with z|z|z
  ·exact z
  ·exact absurd z.symm ne
  ·rw[z]at q;cases q
def TxT(t:Tr):Prop:=qDz t.1/\qDz t.2.1/\qDz t.2.2/\leB t.2.1 t.2.2=true
def TxN(net:List Tr):Prop:=∀t∈net,TxT t
def qR2(K:PySem.W.Frag):Sp:=λvs H Q _=>∃(a:Addr) (ns:List Int) (at0:Int),vs=[.ref a,.int at0]/\0<=at0/\at0<=20/\SqL K H a (ns.map V.int)/\∀r net H',Ext H H'->H r=none->qDp H' r net->net.length<=12->TxN net->qHf (net.map (·.1))->(qCs net).length<=8->net.length<=(qCs net).length+8->Q (.ref r) H'
section
variable{P:Program}{w:World}{K:PySem.W.Frag}{mg:Str->Option Value}{base:Heap}{f f1 f2 f3:Addr}{fd fd1 fd2 fd3:FuncData}
abbrev neN:List Str:=["_law_script","_law_at","_law_head","_law_ends_here","_law_ties","_law_knots","_law_net_here","_law_tie","_law_two"]
theorem qJs:FnScope neN ["_law_script","_law_at"] (qAa qXy):=fsk
abbrev spr:List Int:=[4,5,3,6,5,9,2,10]
theorem qZe(F:Fun K "_law_net" "_law_net" qXy f fd)
  (G1:v7 2 f1 fd1 ["_law_script","_law_k"] (qK0 K) "_law_big")
  (G2:v7 1 f2 fd2 ["_law_big_here","_law_many","_law_spread"] qT4 "_law_ends")
  (G3:v7 1 f3 fd3 ["_law_big_here","_law_many"] qKx "_law_names")
  (ml:mg "len"=none) (mz:mg "zip"=none) (mtu:mg "tuple"=none) (mso:mg "sorted"=none):v6 3 f fd ["_law_script","_law_at"] (qR2 K):=by
 refine F.okA qJs λcdv A outer s H vs Q E hr h=>?_
 obtain⟨a,ns,at0,rfl,a0,a20,hS,q⟩:=h;have hr1:=hr.mono (j:=1) (by decide);refine⟨_,qAb (v0 2 qJs (qAy G1 hr rfl .nil qAz (qAe (pv 0) (pa1 (pv 1)))))
  (qAb (v0 3 qJs (qAy G2 hr1 rfl .nil qAz (qAe (qAy G1 hr rfl .nil qAz (qAe (pv 0) (pa1 (qAg qBh (pv 1) qAc)))) (qAe (qAg qA9 (qAg qA2 (pv 2) qAc) qAc) (qAe
    (qBm qB0 (qBe (qAe qAc (qAe qAc (qAe qAc (qAe qAc (qAe qAc (qAe qAc (qAe qAc (pa1 qAc))))))))) (qAg qA9 (pv 2) qAc) (λ_ _=>rfl)) qA3)))))
  (qAb (v0 4 qJs (qAy G3 hr1 rfl .nil qAz (qAe (qAg qA2 (pv 2) qAc) (pa1 (qAf qAm rfl ml hAr (pa1 (pv 3)))))))
  (qAb (v0 5 qJs (qAy G3 hr1 rfl .nil qAz (qAe (qAy G1 hr rfl .nil qAz (qAe (pv 0) (pa1 (qAg qBh (pv 1) qAc)))) (pa1 qAc))))
  (qAb (v0 6 qJs (qBe qA3))
  (qAb (qBs PassesOwn.never rfl (qUf rfl mz (qAe (pv 4) (pa1 (pv 3)))) (qCa rfl (qAr (v3 7 qJs) (qAr (v3 8 qJs) qBj)))
   (qAd (qC3 (qB8 hAy hBb hBc qB1 (pv 6) (qAe
    (qAg qWd (qB2 (pa1 (pv 7))) (qBd qCw rfl mtu qCf (pa1 (qAf qF3 rfl mso qBv (qAe
     (qBe (qAe (qBm qB0 (pv 5) (qBm qCb (pv 8) qAc (λ_ _=>rfl)) (λ_ _=>rfl)) (pa1 (qBm qB0 (pv 5) (qBm qCb (pv 8) qAc (λ_ _=>rfl)) (λ_ _=>rfl))))) qA3))))) qA3)))))
  (qAd (qAo (qAf qI5 rfl mso qBv (pa1 (pv 6)))))))))),?_⟩
 refine⟨_,rfl,_,rfl,a,ns,at0,rfl,hS,a0,by omega,λhd=>?_⟩;have d1:=hAw (hd / 8) (show(13:Int)≠0 by decide);have d2:=hAp (hd / 8) (show(0:Int)<13 by decide);have d3:=hAw hd (show(8:Int)≠0 by decide);have d4:=hAp hd (show(0:Int)<8 by decide);refine⟨_,rfl,_,rfl,_,_,rfl,rfl,a,ns,_,rfl,hS,(by show(0:Int)<=at0+1;omega),(by show at0+1<=(100:Int);omega),λv1=>?_⟩;refine⟨_,rfl,_,_,rfl,rfl,⟨by decide,by decide⟩,_,_,rfl,rfl,(by show(0:Int)<_;decide),(by show 8<=sizeLine;decide),λL hL=>?_⟩;have X1:=Ext.new hL (.lst (spr.map V.int));obtain⟨sp,spm,spa⟩:=qXr (hs:=spr) d3 (by show hd % 8<8;exact d4);have spb:0<sp/\sp<=10:=by
  have:∀z∈spr,0<z/\z<=10:=by decide
  exact this sp spm
 refine⟨_,rfl,_,_,rfl,rfl,(by show(0:Int)<_;decide),L,spr.map V.int,_,_,rfl,rfl,SqL.of upd_same,spa,?_⟩;refine⟨_,_,sp,rfl,d1,by omega,spb.1,spb.2,λen es H2 e2 en0 hen esl esi w8 l8=>?_⟩;have E2:=X1.trans e2;obtain⟨bs,hb1,hb2⟩:=id hen;have lb:bs.length=es.length:=hb2.length;have esl':es.length<=12:=by omega
 refine⟨_,rfl,_,_,rfl,rfl,⟨by decide,by decide⟩,_,rfl,en,_,rfl,.inl (SqL.of hb1),?_⟩;refine⟨_,_,rfl,by omega,by rw[hA1];omega,λtl ts H3 e3 tl0 htl tsl tsx tnd=>?_⟩;have E3:=E2.trans e3;refine⟨_,rfl,_,rfl,_,_,rfl,rfl,a,ns,_,rfl,E3.sqL hS,(by show(0:Int)<=at0+2;omega),(by show at0+2<=(100:Int);omega),λv2=>?_⟩;refine⟨_,10,rfl,by decide,by decide,λkl kn H4 e4 kl0 hkl knl knx knd=>?_⟩;have E4:=E3.trans e4;refine⟨hAs _,λnl hnl=>?_⟩;have nl0:=E4.none hnl;have E5:=E4.trans (Ext.new hnl (.lst []));have tsl':ts.length=es.length:=by rw[tsl,hA1,lb];omega
 have mn:min (ts.map V.str).length (bs.map V.ref).length=es.length:=by rw[hA1,hA1,lb,tsl'];exact Nat.min_self _
 have htl5:=(Ext.new hnl (.lst [])) _ _ (e4 _ _ htl);have hen5:=(Ext.new hnl (.lst [])) _ _ (e4 _ _ (e3 _ _ hb1));refine⟨_,rfl,_,rfl,tl,en,_,_,rfl,SqL.of htl5,SqL.of hen5,?_⟩;refine qKa (λi σ H6=>∃(x7 x8:Option V) (net:List Tr),σ=[some (.ref a),some (.int at0),some (.int hd),some (.ref en),some (.ref tl),some (.ref kl),some (.ref nl),x7,x8]/\Ext H4 H6/\qDp H6 nl net/\net.length=i/\TxN net/\net.map (·.1)=ts.take i/\Paired (λt e=>Lnk kn e t) net (es.take i))
  ⟨none,none,[],rfl,Ext.new hnl _,⟨[],upd_same,.nil⟩,rfl,(λt ht=>by cases ht),rfl,by rw[hC6];exact .nil⟩ ?_ ?_ ?_
 ·rintro i σ H6 _ ⟨x7,x8,net,_,e6,_⟩;exact⟨SqL.of (e6 _ _ (e4 _ _ htl)),SqL.of (e6 _ _ (e4 _ _ (e3 _ _ hb1)))⟩
 ·rintro i σ H6 T hi ⟨x7,x8,net,rfl,e6,nt,nl',tx,nm,lks⟩ hT;rw[mn]at hi;have hit:i<ts.length:=by omega
  have hib:i<bs.length:=by omega
  have g1:(ts.map V.str).getD i .non = .str ts[i]:=by rw[hA8,hAj,hA2 hit];rfl
  have g2:(bs.map V.ref).getD i .non = .ref bs[i]:=by rw[hA8,hAj,hA2 hib];rfl
  obtain⟨e,he,hbe⟩:=qA8 hb2 (hA2 hib);obtain⟨⟨i0,i1⟩,j0,j1⟩:=esi e (hAd he);obtain⟨k1,k1e,k1m,k1a⟩:=qTp (kn:=kn) i0 (by rw[knl];show e.1<10;omega);obtain⟨k2,k2e,k2m,k2a⟩:=qTp (kn:=kn) j0 (by rw[knl];show e.2<10;omega);obtain⟨as,ea1,ea2⟩:=id nt;have la:as.length=net.length:=ea2.length;dsimp only;rw[g1,g2];have Y1:=Ext.new hT (.tup [V.str ts[i],V.ref bs[i]]);refine⟨T,_,rfl,SqT.of upd_same,rfl,_,_,rfl,_,_,rfl,rfl,?_⟩;refine⟨_,rfl,.inl ⟨rfl,_,SqL.of (Y1 _ _ ea1)⟩,_,rfl,(by show 1<=sizeLine;decide),λT1 hT1=>?_⟩;have Y2:=Y1.trans (Ext.new hT1 (.tup [V.str ts[i]]));have hb6:=Y2 _ _ (e6 _ _ (e4 _ _ (e3 _ _ hbe)));have hk6:=Y2 _ _ (e6 _ _ hkl);refine⟨_,rfl,_,rfl,bs[i],_,_,_,rfl,rfl,SqT.of hb6,(by exact qA5 (j:=0) rfl),kl,_,_,_,rfl,rfl,SqL.of hk6,k1a,?_⟩;refine⟨_,rfl,_,rfl,bs[i],_,_,_,rfl,rfl,SqT.of hb6,(by exact qA5 (j:=1) rfl),kl,_,_,_,rfl,rfl,SqL.of hk6,k2a,?_⟩;refine⟨(by show 2<=sizeLine;decide),λL2 hL2=>⟨L2,[k1,k2],rfl,SqL.of upd_same,(by show 2<64;decide),λS ss hS' perm srt=>?_⟩⟩;have Y3:=Y2.trans (Ext.new hL2 (.lst [V.str k1,V.str k2]));have Y4:=Y3.trans (Ext.new hS' (.lst (ss.map V.str)));refine⟨S,_,rfl,.inl ⟨SqL.of upd_same,λT2 hT2=>?_⟩⟩;have lss:ss.length=2:=perm.length_eq;obtain⟨x,y,rfl⟩:∃x y,ss=[x,y]:=by
   match ss,lss with
   |[x,y],_=>exact⟨x,y,rfl⟩
  have sx:qDz x:=by
   have:x∈[k1,k2]:=perm.mem_iff.mp (by simp);simp at this;rcases this with rfl|rfl
   ·exact knx _ k1m
   ·exact knx _ k2m
  have sy:qDz y:=by
   have:y∈[k1,k2]:=perm.mem_iff.mp (by simp);simp at this;rcases this with rfl|rfl
   ·exact knx _ k1m
   ·exact knx _ k2m
  have Y5:=Y4.trans (Ext.new hT2 (.tup ([x,y].map V.str)));have t1:upd (upd H6 T (.tup [V.str ts[i],V.ref bs[i]])) T1 (.tup [V.str ts[i]]) T1=some (.tup [V.str ts[i]]):=upd_same;have t15:=Ext.new hT2 (.tup ([x,y].map V.str)) _ _ (Ext.new hS' (.lst ([x,y].map V.str)) _ _ (Ext.new hL2 (.lst [V.str k1,V.str k2]) _ _ t1));refine⟨T1,T2,_,_,rfl,rfl,SqT.of t15,SqT.of upd_same,(by simp),(by show 3<=sizeLine;decide),(λz=>by cases z),λ_ T3 hT3=>?_⟩;have Y6:=Y5.trans (Ext.new hT3 (.tup (trV (ts[i],x,y))));refine⟨nl,_,_,rfl,rfl,Y6 _ _ ea1,?_,?_⟩
  ·rw[hA1];exact qAi (by omega)
  ·refine⟨_,_,net++[(ts[i],x,y)],rfl,(e6.trans Y6).over hnl _,qDp.snoc ea1 ea2 Y6 upd_same,by rw[hA9,nl'];rfl,(λt ht=>?_),by rw[hA7,nm,qAk (hA2 hit)];rfl,by rw[qAk he];exact Paired.snoc lks (zCv perm k1e k2e)⟩;rcases hAf.mp ht with z|z
   ·exact tx t z
   ·rw[hAe]at z;subst z;exact⟨tsx _ (hBl hit),sx,sy,zCi srt⟩
 ·rintro σ H6 ⟨x7,x8,net,rfl,e6,nt,nl',tx,nm,lks⟩;rw[mn]at nl' nm lks;rw[hA6 (hA3 _)]at lks;obtain⟨as,ea1,ea2⟩:=id nt;have la:as.length=net.length:=ea2.length;refine⟨_,rfl,nl,as,net.map qJw,rfl,SqL.of ea1,qHt _ (λa t z=>⟨SqT.of z,by simp[qJw]⟩) ea2,by omega,λr o hr' g sp=>?_⟩;have E6:=E4.trans e6;have gm:∀i∈o.toList,i<as.length:=λi hi=>qUp g hi
  have gm':∀i∈o.toList,i<net.length:=λi hi=>by have:=gm i hi;omega
  have gl:=qUq g;have lt:as.length=(net.map qJw).length:=by rw[hA1];exact la
  rw[lt]at g sp;obtain⟨s1,s2⟩:=qOn g sp;rw[<-qHq gm']at s1 s2;have nd:((o.toList.map λi=>net.getD i t0).map (·.1)).Nodup:=by
   rw[<-qJ5];refine(s2.map _).nodup_iff.mpr ?_;rw[qJ5,nm,<-tsl',hA6 (hA3 _)];refine tnd ?_;rw[hA1];omega
  have inR:∀e∈es,InR e.1/\InR e.2:=λe he=>by
   obtain⟨⟨z1,z2⟩,z3,z4⟩:=esi e he;exact⟨⟨z1,by omega⟩,z3,by omega⟩
  have kn10:kn.length=10:=knl;have knd':=knd (by decide);have wl:=(qOx (qZp knd' kn10) net es lks inR).2;have pm:(o.toList.map λi=>net.getD i t0).Perm net:=by
   have z:=s2.map (λr:List Str=>((r.getD 0 "",r.getD 1 "",r.getD 2 ""):Tr));have id1:∀l:List Tr,(l.map qJw).map (λr:List Str=>((r.getD 0 "",r.getD 1 "",r.getD 2 ""):Tr))=l:=λl=>by
    rw[hAz];exact List.map_id l
   rw[id1,id1]at z;exact z
  have ptk:∀x,qIv net x->x∈kn:=λx ⟨t,ht,hx⟩=>by
   obtain⟨j,hj,rfl⟩:=List.getElem_of_mem ht;obtain⟨e,he,lk⟩:=qA8 lks (hA2 hj);obtain⟨⟨i1,i2⟩,i3,i4⟩:=inR e (hAd he);obtain⟨k1,k1e,k1m,_⟩:=qTp (kn:=kn) i1 (by rw[kn10];exact i2);obtain⟨k2,k2e,k2m,_⟩:=qTp (kn:=kn) i3 (by rw[kn10];exact i4);rcases lk with ⟨z1,z2⟩|⟨z1,z2⟩ <;> rcases hx with rfl|rfl <;> first|(rw[z1,<-k1e];exact k1m)|(rw[z2,<-k2e];exact k2m)|(rw[z1,<-k2e];exact k2m)|(rw[z2,<-k1e];exact k1m)
  have wp:=qOw knd' ptk pm.symm;have pl:=pm.length_eq;have esn:net.length=es.length:=lks.length;refine q r (o.toList.map λi=>net.getD i t0) _ (E6.trans (Ext.new hr' _)) (E6.none hr') ⟨_,upd_same,Paired.mapP (qJ1 ea2 gm) λa' t z=>Ext.new hr' _ _ _ z⟩ ?_ (λt ht=>?_) (qMw s1 nd) (by omega) (by omega)
  ·rw[hA1,gl];omega
  ·have m:qJw t∈net.map qJw:=s2.mem_iff.mp (hB3 ht);obtain⟨u,hu,e⟩:=hAb.mp m;rw[<-qR9 e];exact tx u hu
end
theorem qFh:bootBuiltins "int"=some (.type "int"):=by decide +kernel
section
variable{P:Program}{w:World}{K:PySem.W.Frag}{mg:Str->Option Value}{base:Heap}{f f1 f2:Addr}{fd fd1 fd2:FuncData}
theorem qEx{as:List Addr}{net:List Tr}{Q:List V->Hp->Prop}{H1:Hp}{σ0:St}{g:TG}{tt:TT}{te:TE}{p:Addr}(h:Tr->Str)(hp:H1 p=some (.lst (as.map V.ref)))(pr:Paired (λa t=>H1 a=some (.tup (trV t))) as net)(ln:net.length<=20)
  (hs:∀a t,H1 a=some (.tup (trV t))->∀(C:V->Hp->Prop) (B:Hp->Prop),C (.str (h t)) H1->g (.ref a) σ0 H1 λσ2 H2=>Sle σ0 σ2/\tt σ2 H2 λb H3=>if b=true then te σ2 H3 C else B H3)
  (hd:Q ((net.map h).map V.str) H1):qDm (Itl K p) σ0 g tt te Q H1:=by
 have lA:as.length=net.length:=pr.length;refine qAt (xs:=as.map V.ref) (λj ys H2=>H2=H1/\ys=((net.take j).map h).map V.str) ⟨rfl,rfl⟩ (λj ys H2 _ h=>by rw[h.1];exact SqL.of hp) ?_ ?_
 ·rintro j x ys H2 hx ⟨rfl,rfl⟩;obtain⟨a,t,rfl,ht,ha⟩:=qIq pr hx;have hi:=qA7 ht;have sz:(((net.take j).map h).map V.str).length<sizeLine:=by
   rw[hA1,hA1,hAh];exact qAi (by omega)
  exact hs a t ha _ _ ⟨sz,nxt (qA7 hx) ⟨rfl,by rw[qAk ht,hA7,hA7];rfl⟩⟩
 ·rintro ys H2 ⟨rfl,rfl⟩;rw[hA1,lA,hA6 (hA3 _)];exact hd
end
end My
namespace My
theorem qFk{x i:Nat}(h:x<2^i){j:Nat}(hj:i<=j):x.testBit j=false :=
 hD7 (hAo h (Nat.pow_le_pow_right (by decide) hj))
theorem qYc{x i:Nat}(h:x.testBit i=true):2^i<=x:=by
 rcases hDp x (2^i) with z|z
 ·rw[hD7 z]at h;cases h
 ·exact z
theorem qQv{x i:Nat}(h1:x.testBit i=true)(h2:x<2^(i+1)):x.log2=i:=by
 have g:=qYc h1;have nz:x≠0:=λz=>by subst z;simp at h1
 have a:=(Nat.log2_lt nz).mpr h2;have b:=(Nat.le_log2 nz).mpr g;omega
theorem qYb{x i:Nat}(h:x.testBit i=true):i<=x.log2:=by
 have nz:x≠0:=λz=>by subst z;simp at h
 exact(Nat.le_log2 nz).mpr (qYc h)
theorem qRx{x i:Nat}(h:x.log2<i):x.testBit i=false:=qFk hDh h
theorem qFv{n:Nat}(h:n % 2=0):n^^^1=n+1:=by
 have d:(n^^^1) / 2=n / 2:=by rw[Nat.xor_div_two];simp
 have b:(n^^^1).testBit 0=true:=by rw[hAn,hAx,hAx];simp[h]
 rw[hAx]at b;have b':=hDu b;omega
theorem qKr{n:Nat}(h:n % 2=1):n^^^1=n-1:=by
 have d:(n^^^1) / 2=n / 2:=by rw[Nat.xor_div_two];simp
 have b:(n^^^1).testBit 0=false:=by rw[hAn,hAx,hAx];simp[h]
 rw[hAx]at b;have b':=hEh b;omega
theorem qR5{s:Nat}(hs:s≠0):s >>> s.log2=1:=by
 rw[hCz];have a:=Nat.log2_self_le hs;have b:s<2^(s.log2+1):=hDh;rw[Nat.pow_succ]at b;have p:0<2^s.log2:=hDl (by decide);exact Nat.div_eq_of_lt_le (by omega) (by omega)
theorem qHh(x:Nat){s:Nat}(hs:s≠0):x^^^s<x↔x.testBit s.log2=true:=by
 have e:(x^^^s) >>> s.log2=(x >>> s.log2)^^^1:=by rw[Nat.shiftRight_xor_distrib,qR5 hs]
 have tb:x.testBit s.log2=decide ((x >>> s.log2) % 2=1):=by rw[Nat.testBit_eq_decide_div_mod_eq,hCz]
 rw[tb];have lt:∀ {a b:Nat},a >>> s.log2<b >>> s.log2->a<b:=λ{a b} h=>by
  rw[hCz,hCz]at h;rcases hDp a b with z|z
  ·exact z
  ·have:=Nat.div_le_div_right (c:=2^s.log2) z;omega
 rcases hBj (x >>> s.log2) with h|h
 ·rw[qFv h]at e;have:x<x^^^s:=lt (by omega);constructor
  ·intro z;omega
  ·intro z;rw[h]at z;simp at z
 ·rw[qKr h]at e;have:x^^^s<x:=lt (by rw[e];exact Nat.sub_one_lt λz=>by rw[z]at h;cases h);exact⟨λ_=>by simp[h],λ_=>this⟩
def rd1(x s:Nat):Nat:=if x.testBit s.log2=true then x^^^s else x
theorem qW9(x:Nat){s:Nat}(hs:s≠0):(if x^^^s<x then x^^^s else x)=rd1 x s:=by
 unfold rd1;by_cases h:x.testBit s.log2=true
 ·rw[hDw h,hDw ((qHh x hs).mpr h)]
 ·rw[hDv h,hDv (λz=>h ((qHh x hs).mp z))]
theorem qDe(x s i:Nat):(rd1 x s).testBit i=(x.testBit i ^^ (x.testBit s.log2 && s.testBit i)):=by
 unfold rd1;by_cases h:x.testBit s.log2=true
 ·rw[hDw h,hAn,h,hCa]
 ·rw[hDv h];have:x.testBit s.log2=false:=by simpa using h
  rw[this];simp
theorem qSd(s:Nat):rd1 0 s=0:=by unfold rd1;simp
theorem qVz(x y s:Nat):rd1 (x^^^y) s=rd1 x s^^^rd1 y s:=by
 refine hB6 λi=>?_
 rw[qDe,hAn,hAn,hAn,qDe,qDe];cases x.testBit i <;> cases y.testBit i <;> cases x.testBit s.log2 <;> cases y.testBit s.log2 <;> cases s.testBit i <;> rfl
def red1(k:List Nat)(x:Nat):Nat:=k.foldl rd1 x
theorem qGr:∀k:List Nat,red1 k 0=0
 |[]=>rfl
 |s :: k=>by show red1 k (rd1 0 s)=0;rw[qSd];exact qGr k
theorem qM0:∀(k:List Nat) (x y:Nat),red1 k (x^^^y)=red1 k x^^^red1 k y
 |[],_,_=>rfl
 |s :: k,x,y=>by show red1 k (rd1 (x^^^y) s)=red1 k (rd1 x s)^^^red1 k (rd1 y s);rw[qVz];exact qM0 k _ _
structure RR(k:List Nat):Prop where
 nz:∀s∈k,s≠0
 ap:k.Pairwise λs t=>t.testBit s.log2=false/\s.testBit t.log2=false
theorem RR.nil:RR []:=⟨λs h=>(by cases h),.nil⟩
theorem RR.tl{s:Nat}{k:List Nat}(h:RR (s :: k)):RR k:=⟨λt ht=>h.nz t (hA4 _ ht),(hBt.mp h.ap).2⟩
theorem RR.hd{s:Nat}{k:List Nat}(h:RR (s :: k)):∀t∈k,t.testBit s.log2=false/\s.testBit t.log2=false:=(hBt.mp h.ap).1
theorem RR.ne:∀ {k:List Nat},RR k->∀ {s t:Nat},s∈k->t∈k->s≠t->s.testBit t.log2=false
 |[],_,_,_,hs,_,_=>by cases hs
 |a :: k,h,s,t,hs,ht,e=>by
  rcases hAc.mp hs with rfl|zs
  ·rcases hAc.mp ht with rfl|zt
   ·exact absurd rfl e
   ·exact(h.hd t zt).2
  ·rcases hAc.mp ht with rfl|zt
   ·exact(h.hd s zs).1
   ·exact RR.ne h.tl zs zt e
theorem RR.self{k:List Nat}(h:RR k){s:Nat}(hs:s∈k):s.testBit s.log2=true:=Nat.testBit_log2 (h.nz s hs)
theorem RR.nd{k:List Nat}(h:RR k):k.Nodup:=by
 have:∀ {k:List Nat},RR k->k.Nodup:=λ{k} h=>by
  induction k with
  |nil=>exact List.nodup_nil
  |cons s k ih =>
   refine hBo.mpr ⟨λz=>?_,ih h.tl⟩;have:=(h.hd s z).1;rw[h.self hA5]at this;cases this
 exact this h
theorem qE1:∀ {k:List Nat} {x i:Nat},RR k->(∀s∈k,x.testBit s.log2=true->s.testBit i=false)->(red1 k x).testBit i=x.testBit i
 |[],_,_,_,_=>rfl
 |s :: k,x,i,h,hx=>by
  show(red1 k (rd1 x s)).testBit i=_;have b1:(rd1 x s).testBit i=x.testBit i:=by
   rw[qDe];cases q:x.testBit s.log2 with
   |false=>simp
   |true=>rw[hx s hA5 q];simp
  rw[qE1 h.tl λt ht hb=>?_,b1];refine hx t (hA4 _ ht) ?_;rw[qDe,(h.hd t ht).2]at hb
  simpa using hb
theorem qGs:∀ {k:List Nat} {x:Nat},RR k->∀s∈k,(red1 k x).testBit s.log2=false
 |[],_,_,_,hs=>by cases hs
 |a :: k,x,h,s,hs=>by
  show(red1 k (rd1 x a)).testBit s.log2=false;rcases hAc.mp hs with rfl|z
  ·rw[qE1 h.tl λt ht _=>(h.hd t ht).1,qDe,h.self hA5];cases x.testBit s.log2 <;> rfl
  ·exact qGs h.tl s z
theorem qMz:∀ {k:List Nat},RR k->∀s∈k,red1 k s=0
 |[],_,_,hs=>by cases hs
 |a :: k,h,s,hs=>by
  show red1 k (rd1 s a)=0;rcases hAc.mp hs with rfl|z
  ·have:rd1 s s=0:=by unfold rd1;rw[hDw (h.self hA5),hD2]
   rw[this];exact qGr k
  ·have:rd1 s a=s:=by unfold rd1;rw[hDv (by rw[(h.hd s z).1];decide)]
   rw[this];exact qMz h.tl s z
theorem qQa{k:List Nat}(h:RR k){x:Nat}(hx:∀s∈k,x.testBit s.log2=false):red1 k x=x :=
 hB6 λi=>qE1 h λs hs z=>by rw[hx s hs]at z;cases z
inductive Spn (l:List Nat):Nat->Prop
 |zero:Spn l 0
 |add {x y:Nat}:x∈l->Spn l y->Spn l (x^^^y)
theorem Spn.mem{l:List Nat}{x:Nat}(h:x∈l):Spn l x:=by
 have:=Spn.add h Spn.zero
 rwa [Nat.xor_zero]at this
theorem Spn.xor{l:List Nat}{x y:Nat}(h:Spn l x)(h':Spn l y):Spn l (x^^^y):=by
 induction h with
 |zero=>rwa [hD3]
 |add m _ ih=>rw[hC1];exact .add m ih
theorem Spn.mono{l l':List Nat}(h:∀x∈l,Spn l' x){y:Nat}(hy:Spn l y):Spn l' y:=by
 induction hy with
 |zero=>exact .zero
 |add m _ ih=>exact(h _ m).xor ih
theorem Spn.lt{l:List Nat}{m:Nat}(h:∀x∈l,x<2^m){y:Nat}(hy:Spn l y):y<2^m:=by
 induction hy with
 |zero=>exact hDl (by decide)
 |add hm _ ih=>exact hCm (h _ hm) ih
theorem qBo(x y:Nat):(x^^^y)^^^y=x:=by rw[hC1,hD2,Nat.xor_zero]
theorem qVy{k:List Nat}{x s:Nat}(hs:s∈k):Spn k (rd1 x s^^^x):=by
 unfold rd1;split
 ·rw[Nat.xor_comm x s,qBo];exact .mem hs
 ·rw[hD2];exact .zero
theorem qIi(k:List Nat):∀(k':List Nat),(∀s∈k',s∈k)->∀x,Spn k (red1 k' x^^^x)
 |[],_,x=>by show Spn k (x^^^x);rw[hD2];exact .zero
 |s :: k',h,x=>by
  have a:=qIi k k' (λt ht=>h t (hA4 _ ht)) (rd1 x s);have b:=qVy (x:=x) (h s hA5);have c:=a.xor b;rw[<-hC1,qBo]at c;exact c
theorem qMd{k:List Nat}(h:RR k){y:Nat}(hy:Spn k y):red1 k y=0:=by
 induction hy with
 |zero=>exact qGr k
 |add m _ ih=>rw[qM0,qMz h _ m,ih];rfl
theorem qR0{k:List Nat}(h:RR k){y:Nat}(hy:Spn k y)(hx:∀s∈k,y.testBit s.log2=false):y=0:=(qQa h hx).symm.trans (qMd h hy)
theorem qMe{k:List Nat}(h:RR k){y:Nat}(hy:Spn k y)(nz:y≠0):∃s∈k,s.log2=y.log2:=by
 refine hCh λno=>?_
 have e:(red1 k y).testBit y.log2=y.testBit y.log2:=qE1 h λs hs hb=>by
  have le:=qYb hb;have ne:s.log2≠y.log2:=λz=>no ⟨s,hs,z⟩
  exact qRx (by omega)
 rw[qMd h hy,Nat.testBit_log2 nz]at e;simp at e
theorem qFm{a b:List Nat}(ha:RR a)(hb:RR b)(h:∀y,Spn a y↔Spn b y):∀s∈a,s∈b:=λs hs=>by
 obtain⟨t,ht,e⟩:=qMe hb ((h s).mp (.mem hs)) (ha.nz s hs);have d:s^^^t=0:=by
  refine qR0 ha ((Spn.mem hs).xor ((h t).mpr (.mem ht))) λu hu=>?_
  rw[hAn];by_cases z:u=s
  ·subst z;have h2:=hb.self ht;rw[e]at h2;rw[ha.self hs,h2];rfl
  ·have s1:=ha.ne hs hu (λw=>z w.symm);obtain⟨v,hv,ev⟩:=qMe hb ((h u).mp (.mem hu)) (ha.nz u hu);have us:=ha.ne hu hs z;have vt:t≠v:=λw=>by
    have h3:=ha.self hu;rw[<-ev,<-w,e]at h3;rw[h3]at us;cases us
   have t1:=hb.ne ht hv vt;rw[ev]at t1;rw[s1,t1];rfl
 have:s=t:=by
  have q:=qBo s t;rw[d,hD3]at q;exact q.symm
 rw[this];exact ht
def qOk(k:List Nat)(x:Nat):List Nat:=if red1 k x=0 then k else k.map (λs=>rd1 s (red1 k x))++[red1 k x]
def red(xs:List Nat):List Nat:=xs.foldl qOk []
theorem qEh(xs:List Nat)(x:Nat):red (xs++[x])=qOk (red xs) x:=by unfold red;rw[hC5];rfl
theorem qM1{s f:Nat}(hs:s≠0)(hf:f≠0)(h:f.testBit s.log2=false):(rd1 s f).log2=s.log2/\rd1 s f≠0:=by
 have ss:=Nat.testBit_log2 hs;have bit:(rd1 s f).testBit s.log2=true:=by rw[qDe,ss,h];simp
 refine⟨qQv bit ?_,λz=>by rw[z]at bit;simp at bit⟩;unfold rd1;split
 ·rename_i q;have le:=qYb q;exact hCm hDh (hAo hDh (Nat.pow_le_pow_right (by decide) (by omega)))
 ·exact hDh
theorem RR.step{k:List Nat}(h:RR k)(x:Nat):RR (qOk k x):=by
 unfold qOk;by_cases z:red1 k x=0
 ·rw[hDw z];exact h
 rw[hDv z];have ld:=λs hs=>qGs (x:=x) h s hs
 generalize red1 k x=f at z ld;have l2:∀s∈k,(rd1 s f).log2=s.log2/\rd1 s f≠0:=λs hs=>qM1 (h.nz s hs) z (ld s hs)
 have ff:=Nat.testBit_log2 z;refine⟨λs hs=>?_,?_⟩
 ·rcases hAf.mp hs with w|w
  ·obtain⟨u,hu,rfl⟩:=hAb.mp w;exact(l2 u hu).2
  ·rw[hAe]at w;rw[w];exact z
 ·rw[List.pairwise_append];refine⟨?_,List.pairwise_singleton _ _,λa ha b hb=>?_⟩
  ·rw[hCq];refine hCl (λ{a b} ha hb r=>?_) h.ap;rw[(l2 a ha).1,(l2 b hb).1,qDe,qDe,r.1,r.2,ld a ha,ld b hb];simp
  ·rw[hAe]at hb;obtain⟨u,hu,rfl⟩:=hAb.mp ha;subst hb;refine⟨by rw[(l2 u hu).1];exact ld u hu,?_⟩;rw[qDe,ff];cases u.testBit b.log2 <;> rfl
theorem qSb{k:List Nat}(x y:Nat):Spn (qOk k x) y↔Spn (k++[x]) y:=by
 have rx:=qIi k k (λ_ h=>h) x;unfold qOk;have inl:∀ {z},Spn k z->Spn (k++[x]) z:=λ{z} hz=>hz.mono λu hu=>.mem (hAk _ hu)
 have xm:Spn (k++[x]) x:=.mem (by simp);by_cases z:red1 k x=0
 ·rw[hDw z];rw[z,hD3]at rx;refine⟨inl,λh=>h.mono λu hu=>?_⟩;rcases hAf.mp hu with w|w
  ·exact .mem w
  ·rw[hAe]at w;rw[w];exact rx
 rw[hDv z];have fm:Spn (k++[x]) (red1 k x):=by
  have:=(inl rx).xor xm
  rwa [qBo]at this
 revert rx fm;generalize red1 k x=f;intro rx fm;have ff:Spn (k.map (λs=>rd1 s f)++[f]) f:=.mem (by simp);have sk:∀s∈k,Spn (k.map (λs=>rd1 s f)++[f]) s:=λs hs=>by
  have a:Spn (k.map (λs=>rd1 s f)++[f]) (rd1 s f):=.mem (hAk _ (hB3 (f:=λs=>rd1 s f) hs));by_cases q:s.testBit f.log2=true
  ·have b:=a.xor ff;rw[show rd1 s f=s^^^f from hDw q,qBo]at b;exact b
  ·rw[show rd1 s f=s from hDv q]at a;exact a
 constructor
 ·intro h;refine h.mono λu hu=>?_
  rcases hAf.mp hu with w|w
  ·obtain⟨s,hs,rfl⟩:=hAb.mp w;unfold rd1;split
   ·exact(inl (.mem hs)).xor fm
   ·exact inl (.mem hs)
  ·rw[hAe]at w;rw[w];exact fm
 ·intro h;refine h.mono λu hu=>?_
  rcases hAf.mp hu with w|w
  ·exact sk u w
  ·rw[hAe]at w;subst w;have b:=ff.xor (rx.mono sk);rw[<-hC1,hD2,hD3]at b;exact b
theorem qN4{P:List Nat->Prop}(h0:P [])(hs:∀l t,P l->P (l++[t]))(l:List Nat):P l:=by
 have:∀r:List Nat,P r.reverse:=λr=>by
  induction r with
  |nil=>exact h0
  |cons a r ih=>rw[List.reverse_cons];exact hs _ _ ih
 have q:=this l.reverse
 rwa [List.reverse_reverse]at q
theorem qDh(xs:List Nat):RR (red xs):=qN4 (P:=λxs=>RR (red xs)) RR.nil (λl t ih=>by rw[qEh];exact ih.step t) xs
theorem qDt(xs:List Nat):∀y,Spn (red xs) y↔Spn xs y:=by
 refine qN4 (P:=λxs=>∀y,Spn (red xs) y↔Spn xs y) (λy=>Iff.rfl) (λl t ih y=>?_) xs;rw[qEh,qSb];constructor
 ·exact λh=>h.mono λu hu=>by
   rcases hAf.mp hu with w|w
   ·exact((ih u).mp (.mem w)).mono λv hv=>.mem (hAk _ hv)
   ·exact .mem (hAa _ w)
 ·exact λh=>h.mono λu hu=>by
   rcases hAf.mp hu with w|w
   ·exact((ih u).mpr (.mem w)).mono λv hv=>.mem (hAk _ hv)
   ·exact .mem (hAa _ w)
theorem qT9{xs:List Nat}{m:Nat}(h:∀x∈xs,x<2^m):∀s∈red xs,s<2^m:=λs hs=>Spn.lt h ((qDt xs s).mp (.mem hs))
def Fsh(xs:List Nat):Prop:=∀i x,xs[i]?=some x->∃j,x.testBit j=true/\∀y∈xs.take i,y.testBit j=false
theorem qPa{l:List Nat}{j:Nat}(h:∀x∈l,x.testBit j=false){y:Nat}(hy:Spn l y):y.testBit j=false:=by
 induction hy with
 |zero=>simp
 |add m _ ih=>rw[hAn,h _ m,ih];rfl
theorem qVx(xs:List Nat):Fsh xs->(red xs).length=xs.length:=by
 refine qN4 (P:=λxs=>Fsh xs->(red xs).length=xs.length) (λ_=>rfl) (λl t ih h=>?_) xs;have ih':=ih λi x hx=>by
  have hi:i<l.length:=(hAi.mp hx).1;obtain⟨j,h1,h2⟩:=h i x (by rw[hCg hi];exact hx);exact⟨j,h1,λy hy=>h2 y (by rw[hCo (by omega)];exact hy)⟩
 obtain⟨j,h1,h2⟩:=h l.length t (by simp);rw[hCo (hA3 _),hA6 (hA3 _)]at h2;rw[qEh];unfold qOk;have nz:red1 (red l) t≠0:=λz=>by
  have rx:=qIi (red l) (red l) (λ_ h=>h) t;rw[z,hD3]at rx;have:=qPa h2 ((qDt l t).mp rx);rw[this]at h1;cases h1
 rw[hDv nz,hA9,hA1,hA9,ih'];rfl
def xsum:Nat->(Nat->Bool)->Bool
 |0,_=>false
 |m+1,f=>xsum m f ^^ f m
theorem qBc{f g:Nat->Bool}:∀ {m:Nat},(∀j,j<m->f j=g j)->xsum m f=xsum m g
 |0,_=>rfl
 |m+1,h=>by unfold xsum;rw[qBc λj hj=>h j (by omega),h m (by omega)]
theorem qF8(f g:Nat->Bool):∀m:Nat,xsum m (λj=>f j ^^ g j)=(xsum m f ^^ xsum m g)
 |0=>rfl
 |m+1=>by
  unfold xsum;rw[qF8 f g m];show((xsum m f ^^ xsum m g) ^^ (f m ^^ g m))=_;cases xsum m f <;> cases xsum m g <;> cases f m <;> cases g m <;> rfl
theorem qCy:∀m:Nat,xsum m (λ_=>false)=false
 |0=>rfl
 |m+1=>by unfold xsum;rw[qCy m];rfl
theorem qEu{f:Nat->Bool}{l:Nat}:∀ {m:Nat},(∀j,j<m->j≠l->f j=false)->xsum m f=(decide (l<m) && f l)
 |0,_=>by simp[xsum]
 |m+1,h=>by
  unfold xsum;rw[qEu (m:=m) λj hj=>h j (by omega)];by_cases e:l=m
  ·subst e;simp
  ·have n:=h m (by omega) (λz=>e z.symm);rw[n];have:decide (l<m)=decide (l<m+1):=by
    by_cases q:l<m
    ·rw[hDr q,hDr (by omega)]
    ·rw[hDs q,hDs (by omega)]
   rw[this];simp
theorem qJa(f:Nat->Bool):∀m:Nat,xsum (m+1) f=(f 0 ^^ xsum m λj=>f (j+1))
 |0=>by simp[xsum]
 |m+1=>by
  rw[xsum,qJa f m,xsum];cases f 0 <;> cases xsum m (λj=>f (j+1)) <;> cases f (m+1) <;> rfl
theorem qL9(f:Nat->Bool):∀m:Nat,xsum m (λj=>f (m-1-j))=xsum m f
 |0=>rfl
 |m+1=>by
  rw[qJa];have:xsum m (λj=>f (m+1-1-(j+1)))=xsum m λj=>f (m-1-j):=qBc λj hj=>by
   rw[show m+1-1-(j+1)=m-1-j by omega]
  rw[this,qL9 f m];show(f m ^^ xsum m f)=(xsum m f ^^ f m);cases f m <;> cases xsum m f <;> rfl
def dot(m x y:Nat):Bool:=xsum m λj=>x.testBit j && y.testBit j
theorem qI3(m x x' y:Nat):dot m (x^^^x') y=(dot m x y ^^ dot m x' y):=by
 unfold dot;rw[<-qF8];refine qBc λj _=>?_
 rw[hAn];cases x.testBit j <;> cases x'.testBit j <;> cases y.testBit j <;> rfl
theorem qRh(m x y y':Nat):dot m x (y^^^y')=(dot m x y ^^ dot m x y'):=by
 unfold dot;rw[<-qF8];refine qBc λj _=>?_
 rw[hAn];cases x.testBit j <;> cases y.testBit j <;> cases y'.testBit j <;> rfl
theorem qTh(m y:Nat):dot m 0 y=false:=by
 unfold dot;rw[qBc (g:=λ_=>false) λj _=>by simp,qCy]
theorem qRg(m y:Nat):dot m y 0=false:=by
 unfold dot;rw[qBc (g:=λ_=>false) λj _=>by simp,qCy]
theorem qXo{m p y:Nat}(hp:p<m):dot m (2^p) y=y.testBit p:=by
 unfold dot;rw[qEu (l:=p) λj _ ne=>by rw[hB4,hDs (λz=>ne z.symm)];rfl];rw[hB4];simp[hp]
theorem qNp{m x s l:Nat}(hl:l<m)(hs:s.testBit l=true)(h:∀j,j<m->j≠l->(x.testBit j && s.testBit j)=false):dot m x s=x.testBit l:=by
 unfold dot;rw[qEu (l:=l) h,hDr hl,hs];simp
theorem qO9{l:List Nat}{m y:Nat}(h:∀s∈l,dot m y s=false){z:Nat}(hz:Spn l z):dot m y z=false:=by
 induction hz with
 |zero=>exact qRg m y
 |add hm _ ih=>rw[qRh,h _ hm,ih];rfl
theorem qMf{l:List Nat}{m s:Nat}(h:∀x∈l,dot m x s=false){z:Nat}(hz:Spn l z):dot m z s=false:=by
 induction hz with
 |zero=>exact qTh m s
 |add hm _ ih=>rw[qI3,h _ hm,ih];rfl
theorem qHa:∀(l x:Nat),x.testBit l=false->2^l+x=2^l^^^x
 |0,x,h=>by
  have e:x % 2=0:=by
   rw[hAx]at h;have:=hEh h;omega
  show 1+x=1^^^x;rw[Nat.xor_comm,qFv e,Nat.add_comm]
 |l+1,x,h=>by
  rw[hC2]at h;have ih:=qHa l (x / 2) h;have d:(2^(l+1)^^^x) / 2=2^l+x / 2:=by
   rw[Nat.xor_div_two,ih,Nat.pow_succ,Nat.mul_div_cancel _ (by decide)]
  have b:(2^(l+1)^^^x).testBit 0=x.testBit 0:=by rw[hAn,hB4];simp
  rw[hAx,hAx]at b;have b':(2^(l+1)^^^x) % 2=1↔x % 2=1:=by simpa using b
  have p:=Nat.pow_succ (n:=2) (m:=l);rcases hBj x with q|q
  ·have:¬(2^(l+1)^^^x) % 2=1:=λz=>by have:=b'.mp z;omega
   omega
  ·have:=b'.mpr q;omega
theorem qEq:∀(L:List Nat),L.Nodup->∀j,((L.map λl=>2^l).sum).testBit j=decide (j∈L)
 |[],_,j=>by simp
 |l :: L,nd,j=>by
  obtain⟨n1,n2⟩:=hBo.mp nd;have ih:=qEq L n2;rw[hAu,List.sum_cons,qHa l _ (by rw[ih l,hDs n1]),hAn,ih j,hB4];by_cases e:l=j
  ·subst e;simp[n1]
  ·have e':¬j=l:=λz=>e z.symm
   simp[e,e']
def crM(S:List Nat)(p:Nat):Nat:=2^p+((S.filter λs:Nat=>s.testBit p).map λs:Nat=>2^s.log2).sum
def isLd(S:List Nat)(p:Nat):Prop:=∃s∈S,s.log2=p
instance (S:List Nat):DecidablePred (isLd S):=λp=>inferInstanceAs (Decidable (∃s∈S,s.log2=p))
theorem qS1:∀ {S:List Nat},RR S->(S.map Nat.log2).Nodup
 |[],_=>List.nodup_nil
 |s :: S,h=>by
  rw[hAu];refine hBo.mpr ⟨λz=>?_,qS1 h.tl⟩;obtain⟨t,ht,e⟩:=hAb.mp z;have a:=(h.hd t ht).1;rw[<-e,h.self (hA4 _ ht)]at a;cases a
theorem qE8{S:List Nat}(h:RR S)(p j:Nat):(((S.filter λs:Nat=>s.testBit p).map λs:Nat=>2^s.log2).sum).testBit j=decide (∃s∈S,s.testBit p=true/\s.log2=j):=by
 have e:((S.filter λs:Nat=>s.testBit p).map λs:Nat=>2^s.log2)=((S.filter λs:Nat=>s.testBit p).map Nat.log2).map λl=>2^l:=by rw[hAz];rfl
 rw[e,qEq _ ((qS1 h).sublist (hDm.map _))];refine decide_eq_decide.mpr ?_;rw[hAb];constructor
 ·rintro⟨s,hs,rfl⟩;exact⟨s,(hB7.mp hs).1,(hB7.mp hs).2,rfl⟩
 ·rintro⟨s,hs,h1,rfl⟩;exact⟨s,hB7.mpr ⟨hs,h1⟩,rfl⟩
theorem qQw{S:List Nat}(h:RR S)(j:Nat):((S.map λs:Nat=>2^s.log2).sum).testBit j=decide (isLd S j):=by
 have e:(S.map λs:Nat=>2^s.log2)=(S.map Nat.log2).map λl=>2^l:=by rw[hAz];rfl
 rw[e,qEq _ (qS1 h)];refine decide_eq_decide.mpr ?_;rw[hAb];exact Iff.rfl
theorem qRm{S:List Nat}(h:RR S){p:Nat}(np:¬isLd S p)(j:Nat):(crM S p).testBit j=(decide (p=j) ^^ decide (∃s∈S,s.testBit p=true/\s.log2=j)):=by
 unfold crM;rw[qHa _ _ (by rw[qE8 h];exact hDs λ⟨s,hs,_,e⟩=>np ⟨s,hs,e⟩),hAn,hB4,qE8 h]
theorem qU0{S:List Nat}{m:Nat}(h:RR S)(hm:∀s∈S,s<2^m){p:Nat}(hp:p<m)(np:¬isLd S p):crM S p<2^m:=by
 refine hBm _ λi hi=>?_
 rw[qRm h np,hDs (by omega:¬p=i),hDs]
 ·rfl
 ·rintro⟨s,hs,_,e⟩;have:=h.self hs;rw[e,qFk (hm s hs) hi]at this;cases this
theorem qRl{S:List Nat}{m:Nat}(h:RR S)(hm:∀s∈S,s<2^m){p:Nat}(hp:p<m)(np:¬isLd S p):∀s∈S,dot m (crM S p) s=false:=λs hs=>by
 have e:crM S p=2^p^^^((S.filter λs:Nat=>s.testBit p).map λs:Nat=>2^s.log2).sum:=by
  unfold crM;exact qHa _ _ (by rw[qE8 h];exact hDs λ⟨s,hs,_,e⟩=>np ⟨s,hs,e⟩)
 have ls:s.log2<m:=by
  have:=h.self hs;rcases hDp s.log2 m with z|z
  ·exact z
  ·rw[qFk (hm s hs) z]at this;cases this
 rw[e,qI3,qXo hp,qNp (l:=s.log2) ls (h.self hs) λj hj ne=>?_,qE8 h]
 ·have:decide (∃t∈S,t.testBit p=true/\t.log2=s.log2)=s.testBit p:=by
   cases q:s.testBit p with
   |true=>exact hDr ⟨s,hs,q,rfl⟩
   |false =>
    refine hDs ?_;rintro⟨t,ht,h1,h2⟩;by_cases z:t=s
    ·subst z;rw[q]at h1;cases h1
    ·have a:=h.ne hs ht (λw=>z w.symm);rw[h2,h.self hs]at a;cases a
  rw[this];cases s.testBit p <;> rfl
 ·rw[qE8 h];by_cases q:∃t∈S,t.testBit p=true/\t.log2=j
  ·obtain⟨t,ht,h1,h2⟩:=q;have z:s≠t:=λw=>ne (by rw[w,h2])
   have a:=h.ne hs ht z;rw[h2]at a;rw[a];simp
  ·rw[hDs q];rfl
def qFc(S:List Nat)(m:Nat):List Nat:=((List.range m).filter λp=>!decide (isLd S p)).map (crM S)
def xl(L:List Nat):Nat:=L.foldr (·^^^·) 0
theorem qX6{l L:List Nat}(h:∀x∈L,x∈l):Spn l (xl L):=by
 induction L with
 |nil=>exact .zero
 |cons a L ih=>exact .add (h a hA5) (ih λx hx=>h x (hA4 _ hx))
theorem qX7{S:List Nat}(h:RR S):∀(L:List Nat),L.Nodup->(∀p∈L,¬isLd S p)->∀j,¬isLd S j->(xl (L.map (crM S))).testBit j=decide (j∈L)
 |[],_,_,j,_=>by simp[xl]
 |p :: L,nd,np,j,nj=>by
  obtain⟨n1,n2⟩:=hBo.mp nd;show(crM S p^^^xl (L.map (crM S))).testBit j=_;rw[hAn,qX7 h L n2 (λq hq=>np q (hA4 _ hq)) j nj,qRm h (np p hA5),hDs (p:=∃s∈S,s.testBit p=true/\s.log2=j) λ⟨s,hs,_,e⟩=>nj ⟨s,hs,e⟩];by_cases e:p=j
  ·subst e;simp[n1]
  ·have e':¬j=p:=λz=>e z.symm
   simp[e,e']
theorem qZ9{S:List Nat}{m:Nat}(h:RR S)(hm:∀s∈S,s<2^m)(y:Nat):Spn (qFc S m) y↔y<2^m/\∀s∈S,dot m y s=false:=by
 have mem:∀x,x∈qFc S m↔∃p,p<m/\¬isLd S p/\crM S p=x:=λx=>by
  unfold qFc;rw[hAb];constructor
  ·rintro⟨p,hp,rfl⟩;obtain⟨h1,h2⟩:=hB7.mp hp;exact⟨p,hB9.mp h1,by simpa using h2,rfl⟩
  ·rintro⟨p,h1,h2,rfl⟩;exact⟨p,hB7.mpr ⟨hB9.mpr h1,by simpa using h2⟩,rfl⟩
 constructor
 ·intro hy;refine⟨Spn.lt (λx hx=>?_) hy,λs hs=>qMf (λx hx=>?_) hy⟩
  ·obtain⟨p,h1,h2,rfl⟩:=(mem x).mp hx;exact qU0 h hm h1 h2
  ·obtain⟨p,h1,h2,rfl⟩:=(mem x).mp hx;exact qRl h hm h1 h2 s hs
 ·rintro⟨hy,hd⟩;have hL:∀p∈(List.range m).filter (λp=>!decide (isLd S p) && y.testBit p),p<m/\¬isLd S p/\y.testBit p=true:=λp hp=>by
   obtain⟨h1,h2⟩:=hB7.mp hp;rw[hBe]at h2;exact⟨hB9.mp h1,by simpa using h2.1,h2.2⟩
  have nd:((List.range m).filter (λp=>!decide (isLd S p) && y.testBit p)).Nodup:=List.nodup_range.sublist hDm;have cov:∀j,j<m->¬isLd S j->(j∈(List.range m).filter (λp=>!decide (isLd S p) && y.testBit p)↔y.testBit j=true):=λj hj nj=>by
   rw[hB7,hB9];simp[hj,nj]
  generalize (List.range m).filter (λp=>!decide (isLd S p) && y.testBit p)=L at hL nd cov;have sp:Spn (qFc S m) (xl (L.map (crM S))):=qX6 λx hx=>by
   obtain⟨p,hp,rfl⟩:=hAb.mp hx;exact(mem _).mpr ⟨p,(hL p hp).1,(hL p hp).2.1,rfl⟩
  have lt1:xl (L.map (crM S))<2^m:=Spn.lt (λx hx=>by
   obtain⟨p,h1,h2,rfl⟩:=(mem x).mp hx;exact qU0 h hm h1 h2) sp
  have dz:∀s∈S,dot m (y^^^xl (L.map (crM S))) s=false:=λs hs=>by
   rw[qI3,hd s hs,qMf (λx hx=>?_) sp]
   ·rfl
   ·obtain⟨p,h1,h2,rfl⟩:=(mem x).mp hx;exact qRl h hm h1 h2 s hs
  have non:∀j,¬isLd S j->(y^^^xl (L.map (crM S))).testBit j=false:=λj nj=>by
   rw[hAn,qX7 h L nd (λp hp=>(hL p hp).2.1) j nj];by_cases hj:j<m
   ·cases q:y.testBit j with
    |true=>rw[hDr ((cov j hj nj).mpr q)];rfl
    |false=>rw[hDs λz=>by rw[(cov j hj nj).mp z]at q;cases q];rfl
   ·rw[qFk hy (by omega),hDs λz=>hj (hL j z).1];rfl
  have z0:y^^^xl (L.map (crM S))=0:=by
   refine hB6 λj=>?_
   rw[Nat.zero_testBit];by_cases q:isLd S j
   ·obtain⟨s,hs,rfl⟩:=q;have ls:s.log2<m:=by
     have:=h.self hs;rcases hDp s.log2 m with z|z
     ·exact z
     ·rw[qFk (hm s hs) z]at this;cases this
    rw[<-qNp (m:=m) (s:=s) ls (h.self hs) λj hj ne=>?_]
    ·exact dz s hs
    ·by_cases q:isLd S j
     ·obtain⟨t,ht,rfl⟩:=q;rw[h.ne hs ht (λw=>ne (by rw[w]))];simp
     ·rw[non j q];rfl
   ·exact non j q
  have:y=xl (L.map (crM S)):=by
   have q:=qBo y (xl (L.map (crM S)));rw[z0,hD3]at q;exact q.symm
  rw[this];exact sp
end My
namespace My
open PySem
theorem qRt:∀(n a b:Nat),a<n->a+b=(a^^^b)+2*(a&&&b)
 |0,_,_,h=>absurd h (hBx _)
 |n+1,a,b,h=>by
  by_cases a0:a=0
  ·subst a0;simp
  have ih:=qRt n (a / 2) (b / 2) (by omega);have d1:(a^^^b) / 2=a / 2^^^b / 2:=Nat.xor_div_two;have d2:(a&&&b) / 2=a / 2&&&b / 2:=Nat.and_div_two;have b1:(a^^^b).testBit 0=(a.testBit 0 ^^ b.testBit 0):=hAn ..;have b2:(a&&&b).testBit 0=(a.testBit 0 && b.testBit 0):=hCj ..;rw[hAx,hAx,hAx]at b1 b2;rw[<-d1,<-d2]at ih;generalize a^^^b=X at b1 ih ⊢;generalize a&&&b=Y at b2 ih ⊢;rcases hBj a with p|p <;> rcases hBj b with q|q <;> rw[p,q]at b1 b2 <;> simp at b1 b2 <;> omega
theorem qCx(a b:Nat):Builtin.bitAnd (a:Int) (b:Int)=((a&&&b:Nat):Int):=by
 unfold Builtin.bitAnd;rw[hDr (hD9 a),hDr (hD9 b)];simp
theorem qDy(a b:Nat):Builtin.bitXor (a:Int) (b:Int)=((a^^^b:Nat):Int):=by
 have e:=qRt (a+1) a b (hBk a);have h:Builtin.bitXor (a:Int) (b:Int)=(a:Int)+b-2*Builtin.bitAnd a b:=by
  have x:∀x y:Int,Builtin.bitNot (Builtin.bitNot x)=x:=λx y=>by unfold Builtin.bitNot;omega
  unfold Builtin.bitXor Builtin.bitOr;have na:¬(0:Int)<=Builtin.bitNot (a:Int):=by unfold Builtin.bitNot;omega
  have nb:¬(0:Int)<=Builtin.bitNot (b:Int):=by unfold Builtin.bitNot;omega
  have o:Builtin.bitAnd (Builtin.bitNot (a:Int)) (Builtin.bitNot (b:Int))=Builtin.bitNot ((a ||| b:Nat):Int):=by
   unfold Builtin.bitAnd;rw[hDs na,hDs nb];show Builtin.bitNot _=_;rw[x a 0,x b 0];simp
  rw[o,x _ 0,qCx];have e2:(a ||| b)+(a&&&b)=a+b:=by
   have:=add_or (a+1) a b (hBk a);omega
  omega
 rw[h,qCx];omega
where
 add_or:∀(n a b:Nat),a<n->(a ||| b)+(a&&&b)=a+b
 |0,_,_,h=>absurd h (hBx _)
 |n+1,a,b,h=>by
  by_cases a0:a=0
  ·subst a0;simp
  have ih:=add_or n (a / 2) (b / 2) (by omega);have d1:(a ||| b) / 2=a / 2 ||| b / 2:=Nat.or_div_two
  have d2:(a&&&b) / 2=a / 2&&&b / 2:=Nat.and_div_two;have b1:(a ||| b).testBit 0=(a.testBit 0 || b.testBit 0):=Nat.testBit_or ..;have b2:(a&&&b).testBit 0=(a.testBit 0 && b.testBit 0):=hCj ..;rw[hAx,hAx,hAx]at b1 b2;rw[<-d1,<-d2]at ih;generalize a ||| b=X at b1 ih ⊢
  generalize a&&&b=Y at b2 ih ⊢;rcases hBj a with p|p <;> rcases hBj b with q|q <;> rw[p,q]at b1 b2 <;> simp at b1 b2 <;> omega
theorem qUk:∀(n f:Nat),f<n->f≠0->∃i,f.testBit i=true/\∀j,j<i->f.testBit j=false
 |0,_,h,_=>absurd h (hBx _)
 |n+1,f,h,nz=>by
  rcases hBj f with p|p
  ·obtain⟨i,h1,h2⟩:=qUk n (f / 2) (by omega) (by omega);refine⟨i+1,by rw[hC2];exact h1,λj hj=>?_⟩;cases j with
   |zero=>rw[hAx,p];rfl
   |succ j=>rw[hC2];exact h2 j (by omega)
  ·exact⟨0,by rw[hAx,p];rfl,λj hj=>absurd hj (hBx _)⟩
noncomputable def lo(f:Nat):Nat:=Classical.epsilon λi=>f.testBit i=true/\∀j,j<i->f.testBit j=false
theorem qFr{f:Nat}(h:f≠0):f.testBit (lo f)=true/\∀j,j<lo f->f.testBit j=false :=
 Classical.epsilon_spec (qUk (f+1) f (hBk _) h)
theorem qIl:∀(i f:Nat),f.testBit i=true->(∀j,j<i->f.testBit j=false)->∀j,(f-1).testBit j=(decide (j<i) || (decide (i<j) && f.testBit j))
 |0,f,h1,_,j=>by
  rw[hAx]at h1;have p:=hDu h1;cases j with
  |zero=>rw[hAx];simp;omega
  |succ j=>rw[hC2,hC2,show(f-1) / 2=f / 2 by omega];simp
 |i+1,f,h1,h2,j=>by
  have z:=h2 0 (by omega);rw[hAx]at z;have p:=hEh z;rw[hC2]at h1;have nz:f / 2≠0:=λw=>by rw[w]at h1;simp at h1
  cases j with
  |zero=>rw[hAx];simp;omega
  |succ j =>
   rw[hC2,hC2,show(f-1) / 2=f / 2-1 by omega,qIl i (f / 2) h1 (λk hk=>by have:=h2 (k+1) (by omega);rwa [hC2]at this) j];simp
theorem qNg(e:Nat){f:Nat}(nz:f≠0):Builtin.bitAnd (Builtin.bitAnd (e:Int) (f:Int)) (-(f:Int))≠0↔e.testBit (lo f)=true:=by
 obtain⟨h1,h2⟩:=qFr nz;rw[qCx];have ev:Builtin.bitAnd (((e&&&f:Nat)):Int) (-(f:Int))=((e&&&f:Nat):Int)-(((e&&&f)&&&(f-1):Nat):Int):=by
  unfold Builtin.bitAnd;rw[hDr (hD9 _),hDs (by omega:¬(0:Int)<=-(f:Int))];show((e&&&f:Nat):Int)-(((((e&&&f:Nat):Int).toNat)&&&(Builtin.bitNot (-(f:Int))).toNat:Nat):Int)=_;rw[show(Builtin.bitNot (-(f:Int))).toNat=f-1 by unfold Builtin.bitNot;omega,hBa]
 rw[ev];have pb:=qIl (lo f) f h1 h2;constructor
 ·intro ne;cases q:e.testBit (lo f) with
  |true=>rfl
  |false =>
   refine absurd ?_ ne;have:(e&&&f)&&&(f-1)=e&&&f:=by
    refine hB6 λj=>?_
    rw[hCj,hCj,pb j];rcases Nat.lt_trichotomy j (lo f) with z|z|z
    ·rw[h2 j z];simp
    ·subst z;rw[q];simp
    ·simp[z];exact λ_ h=>.inr h
   rw[this];omega
 ·intro q ne;have this:(e&&&f)&&&(f-1)=e&&&f:=by omega
  have b:=congrArg (λx:Nat=>x.testBit (lo f)) this;simp only[hCj,pb,q,h1]at b;simp at b
theorem qLv{f:Nat}(nz:f≠0):Builtin.bitAnd (f:Int) (-(f:Int))=((2^lo f:Nat):Int):=by
 obtain⟨h1,h2⟩:=qFr nz;have ev:Builtin.bitAnd (f:Int) (-(f:Int))=(f:Int)-((f&&&(f-1):Nat):Int):=by
  unfold Builtin.bitAnd;rw[hDr (hD9 _),hDs (by omega:¬(0:Int)<=-(f:Int))];show(f:Int)-((((f:Int).toNat)&&&(Builtin.bitNot (-(f:Int))).toNat:Nat):Int)=_;rw[show(Builtin.bitNot (-(f:Int))).toNat=f-1 by unfold Builtin.bitNot;omega,hBa]
 rw[ev];have pb:=qIl (lo f) f h1 h2;have e:f=2^lo f+(f&&&(f-1)):=by
  rw[qHa _ _ (by rw[hCj,pb];simp)];refine hB6 λj=>?_
  rw[hAn,hB4,hCj,pb j];rcases Nat.lt_trichotomy j (lo f) with z|z|z
  ·have:¬lo f=j:=by omega
   rw[h2 j z];simp[this]
  ·subst z;rw[h1];simp
  ·have n1:¬lo f=j:=by omega
   simp[z,n1];exact λh=>.inr h
 omega
theorem qI7(x p:Nat):x&&&2^p≠0↔x.testBit p=true:=by
 constructor
 ·intro ne;cases q:x.testBit p with
  |true=>rfl
  |false =>
   refine absurd (hB6 λj=>?_) ne;rw[hCj,hB4,Nat.zero_testBit];by_cases e:p=j
   ·subst e;rw[q];rfl
   ·simp[e]
 ·intro q z;have:=congrArg (λx:Nat=>x.testBit p) z;simp[hCj,q]at this
def rv(m x:Nat):Nat:=((((List.range m).filter λi=>x.testBit i).map λi=>m-1-i).map λl=>2^l).sum
theorem qDa(m x j:Nat):(rv m x).testBit j=(decide (j<m) && x.testBit (m-1-j)):=by
 have nd:(((List.range m).filter λi=>x.testBit i).map λi=>m-1-i).Nodup:=by
  have h:((List.range m).filter λi=>x.testBit i).Pairwise λa b=>m-1-a≠m-1-b:=by
   have:(List.range m).Pairwise λa b=>a≠b:=List.nodup_range
   refine hCl (λ{a b} ha hb ne=>?_) (this.sublist hDm);have a1:=hB9.mp (hB7.mp ha).1;have b1:=hB9.mp (hB7.mp hb).1;omega
  rw[List.Nodup,hCq];exact h
 unfold rv;rw[qEq _ nd];by_cases hj:j<m
 ·rw[hDr hj,hCa];cases q:x.testBit (m-1-j) with
  |true=>exact hDr (hAb.mpr ⟨m-1-j,hB7.mpr ⟨hB9.mpr (by omega),q⟩,by omega⟩)
  |false =>
   refine hDs λz=>?_
   obtain⟨i,hi,e⟩:=hAb.mp z;obtain⟨h1,h2⟩:=hB7.mp hi;have:=hB9.mp h1;rw[show m-1-j=i by omega,h2]at q;cases q
 ·rw[hDs hj,Bool.false_and];refine hDs λz=>?_
  obtain⟨i,hi,e⟩:=hAb.mp z;have:=hB9.mp (hB7.mp hi).1;omega
theorem qVu(m x:Nat):rv m x<2^m:=hBm _ λi hi=>by rw[qDa,hDs (by omega)];rfl
theorem qPz(m x y:Nat):rv m (x^^^y)=rv m x^^^rv m y:=hB6 λj=>by
 rw[hAn,qDa,qDa,qDa,hAn];cases decide (j<m) <;> simp
theorem qVt{m x:Nat}(h:x<2^m):rv m (rv m x)=x:=hB6 λj=>by
 rw[qDa,qDa];by_cases hj:j<m
 ·rw[hDr hj,hDr (by omega),show m-1-(m-1-j)=j by omega];rfl
 ·rw[hDs hj,qFk h (Nat.le_of_not_lt hj)];rfl
theorem qGo(m:Nat):rv m 0=0:=hB6 λj=>by rw[qDa];simp
theorem qY1{m x:Nat}(h:x<2^m)(nz:x≠0):rv m x≠0:=λz=>nz (by rw[<-qVt h,z,qGo])
theorem qXc{m x:Nat}(h:x<2^m)(nz:x≠0):lo x<m:=by
 rcases hDp (lo x) m with z|z
 ·exact z
 ·have:=(qFr nz).1;rw[qFk h z]at this;cases this
theorem qLk{m x:Nat}(h:x<2^m)(nz:x≠0):(rv m x).log2=m-1-lo x:=by
 obtain⟨h1,h2⟩:=qFr nz;have l:=qXc h nz;refine qQv ?_ (hBm _ λi hi=>?_)
 ·rw[qDa,hDr (by omega),show m-1-(m-1-lo x)=lo x by omega,h1];rfl
 ·rw[qDa];by_cases q:i<m
  ·rw[h2 (m-1-i) (by omega)];simp
  ·rw[hDs q];rfl
noncomputable def rdL(x s:Nat):Nat:=if x.testBit (lo s)=true then x^^^s else x
theorem qP0{m x s:Nat}(hs:s<2^m)(nz:s≠0):rv m (rdL x s)=rd1 (rv m x) (rv m s):=by
 have l:=qXc hs nz;unfold rdL rd1;have b:(rv m x).testBit (rv m s).log2=x.testBit (lo s):=by
  rw[qLk hs nz,qDa,hDr (by omega),show m-1-(m-1-lo s)=lo s by omega];rfl
 rw[b];split
 ·exact qPz m x s
 ·rfl
theorem qUa{m x s:Nat}(hx:x<2^m)(hs:s<2^m):rdL x s<2^m:=by
 unfold rdL;split
 ·exact hCm hx hs
 ·exact hx
noncomputable def redL1(k:List Nat)(x:Nat):Nat:=k.foldl rdL x
def Gm(m:Nat)(k:List Nat):Prop:=∀s∈k,s<2^m/\s≠0
theorem qMy{m:Nat}:∀ {k:List Nat} {x:Nat},Gm m k->x<2^m->redL1 k x<2^m/\rv m (redL1 k x)=red1 (k.map (rv m)) (rv m x)
 |[],x,_,hx=>⟨hx,rfl⟩
 |s :: k,x,h,hx=>by
  obtain⟨h1,h2⟩:=h s hA5;have ih:=qMy (x:=rdL x s) (λt ht=>h t (hA4 _ ht)) (qUa hx h1);refine⟨ih.1,?_⟩;show rv m (redL1 k (rdL x s))=red1 (k.map (rv m)) (rd1 (rv m x) (rv m s));rw[ih.2,qP0 h1 h2]
noncomputable def qLo(k:List Nat)(x:Nat):List Nat:=if redL1 k x=0 then k else k.map (λs=>rdL s (redL1 k x))++[redL1 k x]
noncomputable def redL(xs:List Nat):List Nat:=xs.foldl qLo []
theorem qGq(xs:List Nat)(x:Nat):redL (xs++[x])=qLo (redL xs) x:=by unfold redL;rw[hC5];rfl
theorem qDu{m:Nat}(xs:List Nat):(∀x∈xs,x<2^m)->Gm m (redL xs)/\(redL xs).map (rv m)=red (xs.map (rv m)):=by
 refine qN4 (P:=λxs=>(∀x∈xs,x<2^m)->Gm m (redL xs)/\(redL xs).map (rv m)=red (xs.map (rv m))) (λ_=>⟨λs hs=>(by cases hs),rfl⟩) (λl t ih h=>?_) xs;obtain⟨g,e⟩:=ih λx hx=>h x (hAk _ hx)
 have ht:=h t (by simp);obtain⟨l1,l2⟩:=qMy g ht;have sp:∀s∈redL l,rv m s≠0:=λs hs=>qY1 (g s hs).1 (g s hs).2
 rw[hA7,hC9,qEh,qGq,<-e];unfold qLo qOk;rw[<-l2];by_cases z:redL1 (redL l) t=0
 ·rw[hDw z,z,qGo,hDw rfl];exact⟨g,rfl⟩
 ·have z':=qY1 l1 z;rw[hDv z,hDv z'];have rr:=qDh (l.map (rv m));rw[<-e]at rr;refine⟨λs hs=>?_,?_⟩
  ·rcases hAf.mp hs with w|w
   ·obtain⟨u,hu,rfl⟩:=hAb.mp w;refine⟨qUa (g u hu).1 l1,λq=>?_⟩;have q2:=qP0 (x:=u) l1 z;rw[q,qGo]at q2;have ld:=qGs (x:=rv m t) rr (rv m u) (hB3 hu);rw[<-l2]at ld;exact(qM1 (sp u hu) z' ld).2 q2.symm
   ·rw[hAe]at w;rw[w];exact⟨l1,z⟩
  ·rw[hA7,hC9,hAz,hAz];congr 1;refine hC3 λs hs=>?_
   exact qP0 l1 z
def bd(V:Nat->Nat):Nat->Nat->Nat
 |0,_=>0
 |m+1,y=>bd V m y^^^(if y.testBit m=true then V m else 0)
theorem qDo(V:Nat->Nat):∀(m x y:Nat),bd V m (x^^^y)=bd V m x^^^bd V m y
 |0,_,_=>by simp[bd]
 |m+1,x,y=>by
  show bd V m (x^^^y)^^^_=(bd V m x^^^_)^^^(bd V m y^^^_);rw[qDo V m x y,hAn];refine hB6 λj=>?_
  simp only[hAn];cases x.testBit m <;> cases y.testBit m <;> simp[hAn] <;> cases(bd V m x).testBit j <;> cases(bd V m y).testBit j <;> cases(V m).testBit j <;> rfl
theorem qFu(V:Nat->Nat):∀m:Nat,bd V m 0=0
 |0=>rfl
 |m+1=>by show bd V m 0^^^_=0;rw[qFu V m];simp
theorem qNu(V:Nat->Nat)(q:Nat):∀m y:Nat,(bd V m y).testBit q=xsum m λi=>y.testBit i && (V i).testBit q
 |0,_=>by simp[bd,xsum]
 |m+1,y=>by
  show(bd V m y^^^_).testBit q=(xsum m _ ^^ (y.testBit m && (V m).testBit q));rw[hAn,qNu V q m y];cases y.testBit m <;> simp
theorem qNt{V:Nat->Nat}{m p:Nat}(hp:p<m):bd V m (2^p)=V p:=by
 refine hB6 λq=>?_
 rw[qNu,qEu (l:=p) λj _ ne=>by rw[hB4,hDs (λz=>ne z.symm)];rfl,hB4];simp[hp]
noncomputable def el1(v f:Nat×Nat):Nat×Nat:=if v.1.testBit (lo f.1)=true then (v.1^^^f.1,v.2^^^f.2) else v
noncomputable def el(k:List (Nat×Nat))(v:Nat×Nat):Nat×Nat:=k.foldl el1 v
abbrev Ech(k:List (Nat×Nat)):Prop:=k.Pairwise λa b=>b.1.testBit (lo a.1)=false
theorem qRc:∀ {k:List (Nat×Nat)} {v:Nat×Nat} {i:Nat},(∀f∈k,f.1.testBit i=false)->(el k v).1.testBit i=v.1.testBit i
 |[],_,_,_=>rfl
 |f :: k,v,i,h=>by
  show(el k (el1 v f)).1.testBit i=_;rw[qRc λg hg=>h g (hA4 _ hg)];unfold el1;split
  ·show(v.1^^^f.1).testBit i=_;rw[hAn,h f hA5];simp
  ·rfl
theorem qUv:∀ {k:List (Nat×Nat)} {v:Nat×Nat},Ech k->(∀f∈k,f.1≠0)->∀f∈k,(el k v).1.testBit (lo f.1)=false
 |[],_,_,_,_,h=>by cases h
 |g :: k,v,e,nz,f,hf=>by
  obtain⟨e1,e2⟩:=hBt.mp e;show(el k (el1 v g)).1.testBit (lo f.1)=false;rcases hAc.mp hf with rfl|z
  ·rw[qRc λh hh=>e1 h hh];unfold el1;cases q:v.1.testBit (lo f.1) with
   |true =>
    rw[hDw rfl];show(v.1^^^f.1).testBit _=false;rw[hAn,q,(qFr (nz f hA5)).1];rfl
   |false=>rw[hDv (by decide)];exact q
  ·exact qUv e2 (λh hh=>nz h (hA4 _ hh)) f z
theorem qUu(V:Nat->Nat)(m:Nat)(K:List (Nat×Nat)):∀ {k:List (Nat×Nat)} {v:Nat×Nat},(∀f∈k,f∈K/\f.1=bd V m f.2)->v.1=bd V m v.2->(el k v).1=bd V m (el k v).2/\Spn (K.map (·.2)) ((el k v).2^^^v.2)
 |[],v,_,hv=>⟨hv,by show Spn _ (v.2^^^v.2);rw[hD2];exact .zero⟩
 |f :: k,v,h,hv=>by
  have h1:(el1 v f).1=bd V m (el1 v f).2:=by
   unfold el1;split
   ·show v.1^^^f.1=bd V m (v.2^^^f.2);rw[qDo,<-hv,<-(h f hA5).2]
   ·exact hv
  have h2:Spn (K.map (·.2)) ((el1 v f).2^^^v.2):=by
   unfold el1;split
   ·show Spn _ ((v.2^^^f.2)^^^v.2);rw[Nat.xor_comm v.2 f.2,qBo];exact .mem (hB3 (h f hA5).1)
   ·rw[hD2];exact .zero
  obtain⟨a,b⟩:=qUu V m K (k:=k) (λg hg=>h g (hA4 _ hg)) h1;refine⟨a,?_⟩;have c:=b.xor h2;rw[<-hC1,qBo]at c;exact c
theorem qR1{a:Nat}{l:List Nat}{y:Nat}(h:Spn (a :: l) y):Spn l y\/Spn l (a^^^y):=by
 induction h with
 |zero=>exact .inl .zero
 |add m _ ih =>
  rename_i x y _;rcases hAc.mp m with rfl|z
  ·rcases ih with ih|ih
   ·refine .inr ?_;rw[<-hC1,hD2,hD3];exact ih
   ·exact .inl ih
  ·rcases ih with ih|ih
   ·exact .inl (.add z ih)
   ·refine .inr ?_;have:=Spn.add z ih;rw[<-hC1,Nat.xor_comm x a,hC1]at this;exact this
theorem qHm{l l':List Nat}{y:Nat}(h:Spn (l++l') y):∃a b,Spn l a/\Spn l' b/\y=a^^^b:=by
 induction h with
 |zero=>exact⟨0,0,.zero,.zero,rfl⟩
 |add m _ ih =>
  obtain⟨a,b,ha,hb,rfl⟩:=ih;rename_i x _;rcases hAf.mp m with z|z
  ·exact⟨x^^^a,b,.add z ha,hb,by rw[hC1]⟩
  ·exact⟨a,x^^^b,ha,.add z hb,by rw[<-hC1,<-hC1,Nat.xor_comm x a]⟩
theorem qYi(V:Nat->Nat)(m:Nat){k:List (Nat×Nat)}(h:∀f∈k,f.1=bd V m f.2){y:Nat}(hy:Spn (k.map (·.2)) y):Spn (k.map (·.1)) (bd V m y):=by
 induction hy with
 |zero=>rw[qFu];exact .zero
 |add hm _ ih =>
  obtain⟨f,hf,rfl⟩:=hAb.mp hm;rw[qDo,<-h f hf];exact .add (hB3 hf) ih
theorem qI2(V:Nat->Nat)(m:Nat):∀ {k:List (Nat×Nat)},Ech k->(∀f∈k,f.1≠0/\f.1=bd V m f.2)->∀ {y:Nat},Spn (k.map (·.2)) y->(∀f∈k,(bd V m y).testBit (lo f.1)=false)->y=0
 |[],_,_,y,hy,_=>by
  cases hy with
  |zero=>rfl
  |add m _=>cases m
 |f :: k,e,h,y,hy,hb=>by
  obtain⟨e1,e2⟩:=hBt.mp e;obtain⟨f1,f2⟩:=h f hA5;have hk:=λg hg=>h g (hA4 _ hg)
  rw[hAu]at hy;rcases qR1 hy with z|z
  ·exact qI2 V m e2 hk z λg hg=>hb g (hA4 _ hg)
  ·have b:=qPa (j:=lo f.1) (λx hx=>by
    obtain⟨g,hg,rfl⟩:=hAb.mp hx;exact e1 g hg) (qYi V m (λg hg=>(hk g hg).2) z)
   rw[qDo,<-f2,hAn,(qFr f1).1,hb f hA5]at b;cases b
structure EIv(V:Nat->Nat)(m j:Nat)(K:List (Nat×Nat))(F:List Nat):Prop where
 k1:∀f∈K,f.1≠0/\f.1=bd V m f.2
 kl:∀f∈K,f.2<2^j
 k2:Ech K
 f1:∀y∈F,y<2^j/\bd V m y=0
 cov:∀y,y<2^j->Spn (F++K.map (·.2)) y
 len:F.length+K.length=j
 fsh:Fsh F
theorem EIv.start(V:Nat->Nat)(m:Nat):EIv V m 0 [] []:=⟨λf h=>(by cases h),λf h=>(by cases h),.nil,λy h=>(by cases h),λy hy=>by
 have:y=0:=by omega
 subst this;exact .zero,rfl,λi x h=>(by cases h)⟩
theorem EIv.run{V:Nat->Nat}{m j:Nat}{K:List (Nat×Nat)}{F:List Nat}(h:EIv V m j K F)(hj:j<m) :
  (el K (V j,2^j)).1=bd V m (el K (V j,2^j)).2/\Spn (K.map (·.2)) ((el K (V j,2^j)).2^^^2^j)/\(el K (V j,2^j)).2<2^(j+1)/\(el K (V j,2^j)).2.testBit j=true/\∀f∈K,(el K (V j,2^j)).1.testBit (lo f.1)=false:=by
 obtain⟨a,b⟩:=qUu V m K (k:=K) (v:=(V j,2^j)) (λf hf=>⟨hf,(h.k1 f hf).2⟩) (by show V j=bd V m (2^j);rw[qNt hj]);have c:(el K (V j,2^j)).2^^^2^j<2^j:=Spn.lt (λx hx=>by
  obtain⟨f,hf,rfl⟩:=hAb.mp hx;exact h.kl f hf) b
 have d:((el K (V j,2^j)).2^^^2^j)^^^2^j=(el K (V j,2^j)).2:=qBo _ _;have p:2^j<2^(j+1):=hD1 (by decide) (by omega);refine⟨a,b,?_,?_,qUv h.k2 (λf hf=>(h.k1 f hf).1)⟩
 ·rw[<-d];exact hCm (by omega) p
 ·rw[<-d,hAn,hD7 c,hB4];simp
theorem Fsh.snoc{F:List Nat}{x j:Nat}(h:Fsh F)(hx:x.testBit j=true)(hF:∀y∈F,y<2^j):Fsh (F++[x]):=λi z hz=>by
 by_cases hi:i<F.length
 ·rw[hCg hi]at hz;obtain⟨l,h1,h2⟩:=h i z hz;exact⟨l,h1,λy hy=>h2 y (by rwa [hCo (by omega)]at hy)⟩
 ·have hl:i<(F++[x]).length:=(hAi.mp hz).1;rw[hA9]at hl;have e:i=F.length:=by
   have:i<F.length+1:=hl;omega
  subst e;have ez:x=z:=by simpa using hz
  subst ez;refine⟨j,hx,λy hy=>?_⟩;rw[hCo (hA3 _),hA6 (hA3 _)]at hy;exact hD7 (hF y hy)
theorem EIv.next{V:Nat->Nat}{m j:Nat}{K:List (Nat×Nat)}{F:List Nat}(h:EIv V m j K F)(hj:j<m) :
  if (el K (V j,2^j)).1=0 then EIv V m (j+1) K (F++[(el K (V j,2^j)).2]) else EIv V m (j+1) (K++[el K (V j,2^j)]) F:=by
 obtain⟨a,b,c,d,e⟩:=h.run hj;have mono:∀ {x:Nat},x<2^j->x<2^(j+1):=λhx=>Nat.lt_trans hx (hD1 (by decide) (by omega))
 generalize el K (V j,2^j)=r at a b c d e;have big:∀ {l:List Nat},(∀x∈F++K.map (·.2),Spn l x)->Spn l r.2->∀y,y<2^(j+1)->Spn l y:=λ{l} hl hr y hy=>by
  by_cases q:y.testBit j=true
  ·have lt:y^^^r.2<2^j:=by
    refine hBm _ λi hi=>?_
    rw[hAn];by_cases e2:i=j
    ·subst e2;rw[q,d];rfl
    ·rw[qFk hy (by omega),qFk c (by omega)];rfl
   have:=((h.cov _ lt).mono hl).xor hr
   rwa [qBo]at this
  ·have lt:y<2^j:=by
    refine hBm _ λi hi=>?_
    by_cases e2:i=j
    ·subst e2;simpa using q
    ·exact qFk hy (by omega)
   exact(h.cov _ lt).mono hl
 split
 ·rename_i z;refine⟨h.k1,λf hf=>mono (h.kl f hf),h.k2,λy hy=>?_,big (λx hx=>?_) ?_,?_,h.fsh.snoc d λy hy=>(h.f1 y hy).1⟩
  ·rcases hAf.mp hy with w|w
   ·exact⟨mono (h.f1 y w).1,(h.f1 y w).2⟩
   ·rw[hAe]at w;rw[w];exact⟨c,by rw[<-a,z]⟩
  ·refine .mem ?_;rcases hAf.mp hx with w|w
   ·exact hAk _ (hAk _ w)
   ·exact hAa _ w
  ·exact .mem (hAk _ (by simp))
  ·rw[hA9];have:=h.len;show F.length+1+K.length=j+1;omega
 ·rename_i z;refine⟨λf hf=>?_,λf hf=>?_,?_,λy hy=>⟨mono (h.f1 y hy).1,(h.f1 y hy).2⟩,big (λx hx=>?_) ?_,?_,h.fsh⟩
  ·rcases hAf.mp hf with w|w
   ·exact h.k1 f w
   ·rw[hAe]at w;rw[w];exact⟨z,a⟩
  ·rcases hAf.mp hf with w|w
   ·exact mono (h.kl f w)
   ·rw[hAe]at w;rw[w];exact c
  ·rw[Ech,List.pairwise_append];refine⟨h.k2,List.pairwise_singleton _ _,λx hx y hy=>?_⟩;rw[hAe]at hy;rw[hy];exact e x hx
  ·refine .mem ?_;rw[hA7];rcases hAf.mp hx with w|w
   ·exact hAk _ w
   ·exact hAa _ (hAk _ w)
  ·refine .mem (hAa _ ?_);rw[hA7];simp
  ·rw[hA9];have:=h.len;show F.length+(K.length+1)=j+1;omega
theorem EIv.done{V:Nat->Nat}{m:Nat}{K:List (Nat×Nat)}{F:List Nat}(h:EIv V m m K F)(y:Nat):Spn F y↔y<2^m/\bd V m y=0:=by
 have bF:∀ {a},Spn F a->bd V m a=0:=λ{a} ha=>by
  induction ha with
  |zero=>exact qFu V m
  |add hm _ ih=>rw[qDo,(h.f1 _ hm).2,ih];rfl
 constructor
 ·intro hy;exact⟨Spn.lt (λx hx=>(h.f1 x hx).1) hy,bF hy⟩
 ·rintro⟨h1,h2⟩;obtain⟨a,b,ha,hb,rfl⟩:=qHm (h.cov y h1);rw[qDo,bF ha,hD3]at h2;have:b=0:=qI2 V m h.k2 h.k1 hb λf hf=>by rw[h2];simp
  rw[this,Nat.xor_zero];exact ha
theorem EIv.none{V:Nat->Nat}{m j:Nat}{K:List (Nat×Nat)}{F:List Nat}(h:EIv V m j K F)(hj:j<m){y:Nat}(hy:y<2^j)(e:bd V m y=V j):(el K (V j,2^j)).1=0:=by
 obtain⟨a,b,_,_,d⟩:=h.run hj;have bF:∀ {a},Spn F a->bd V m a=0:=λ{a} ha=>by
  induction ha with
  |zero=>exact qFu V m
  |add hm _ ih=>rw[qDo,(h.f1 _ hm).2,ih];rfl
 have c:(el K (V j,2^j)).2^^^2^j<2^j:=Spn.lt (λx hx=>by
  obtain⟨f,hf,rfl⟩:=hAb.mp hx;exact h.kl f hf) b
 have z:bd V m (((el K (V j,2^j)).2^^^2^j)^^^y)=(el K (V j,2^j)).1:=by
  rw[qDo,qDo,qNt hj,e,<-a,qBo]
 obtain⟨u,v,hu,hv,ez⟩:=qHm (h.cov _ (hCm c hy));rw[ez,qDo,bF hu,hD3]at z;have:v=0:=qI2 V m h.k2 h.k1 hv λf hf=>by rw[z];exact d f hf
 rw[<-z,this,qFu]
end My
namespace L2
open PySem PySem.Spec PyProof.Rows
section
variable{X:Cx}
theorem qXf:∀ {us:List Value},qBf (ns.map V.int) us->∃xs:List (Int×Tok),us=xs.map (λp=>Value.int p.1 p.2)/\xs.map (·.1)=ns:=by
 induction ns with
 |nil=>intro us r;cases r;exact⟨[],rfl,rfl⟩
 |cons a l ih =>
  intro us r;cases r with
  |cons r rr =>
   obtain⟨t,rfl⟩:=r;obtain⟨xs,rfl,rfl⟩:=ih rr;exact⟨(a,t) :: xs,rfl,rfl⟩
theorem qDl(hc:X.calm=true):qB9 X (.builtin "sum") (λxs H Q=>∃(p:Addr) (ns:List Int),xs=[.ref p]/\SqL X.K H p (ns.map V.int)/\Q (.int ns.sum) H):=by
 intro aB s σ H xs us Q I r h;obtain⟨p,ns,rfl,hq,q⟩:=h;obtain⟨u,rfl,rx⟩:=qD1 r;cases rx;obtain⟨its,rv,pl,hz⟩:=I.list hq;obtain⟨ys,rfl,rfl⟩:=qXf rv;have e:(ys.map (λp=>Value.int p.1 p.2)).toArray=intItems ys.toArray:=by unfold intItems;simp
 have pl':=pl.isList;rw[e]at pl';refine sum_intListG (I.ok.hd hc) pl' λh' tk t' hk=>⟨.int _,H,I.kept (t':=tk) hk,⟨t',rfl⟩,?_⟩
 rw[preSum_eq,hA6 (by simp)];exact q
theorem qLw:∀ {us:List Value},qBf (ns.map V.int) us->IntsAre us ns:=by
 induction ns with
 |nil=>intro us r;cases r;exact .nil
 |cons a l ih =>
  intro us r;cases r with
  |cons r rr =>
   obtain⟨t,rfl⟩:=r;exact .cons a t (ih rr)
theorem qOo:∀ {us:List Value},IntsAre us ns->qBf (ns.map V.int) us:=by
 induction ns with
 |nil=>intro us r;cases r;exact .nil
 |cons a l ih =>
  intro us r;cases r with
  |cons _ _ r=>exact .cons ⟨_,rfl⟩ (ih r)
def qRz(K:PySem.W.Frag)(t:TA):TE:=λσ H Q=>t σ H λvs H1=>∃(p:Addr) (ns:List Int),vs=[.ref p]/\SqL K H1 p (ns.map V.int)/\ns.length<64/\∀(r:Addr) (ns':List Int),H1 r=none->ns'.Perm ns->Ordered true ns'->Q (.ref r) (upd H1 r (.lst (ns'.map V.int)))
theorem qOm(hg:Gl X "sorted")(hm:X.mg "sorted"=none)(ha:PA X [e] t)
  (he:backTo pos (starEach [e] X.env)=(false,eval e X.env) :: backTo pos (starEach [] X.env):=by rfl)
  (hplain:(backTo pos (starEach [e] X.env)).any (·.1)=false:=by rfl):PE X (.Call (.Name "sorted" p) [e] [⟨some "reverse",.Constant (.bool true) j cp,kp⟩] pos) (qRz X.K t):=by
 intro aB s σ H Q I h;refine hEf (qGy I hg hm (by decide +kernel:bootBuiltins "sorted"=some (.builtin "sorted")) ?_ (by decide) (by decide));refine PyProof.Rows.callWith_kw (thn (ha pos aB s σ H _ I h) λus s1 ⟨vs,H1,I1,r1,q1⟩=>?_) he hplain;obtain⟨a,ns,rfl,hq,h64,q⟩:=q1;obtain⟨u,rfl,rx⟩:=qD1 r1;cases rx;refine PyProof.Rows.kws_cons (Constant_bool (PyProof.Rows.kws_nil ?_));obtain⟨its,rv,pl,hz⟩:=I1.list hq;have hl:=rv.length;rw[hA1]at hl;refine sorted_ints_rev (b:=true) pl.isList (qLw rv) (by omega) λout ns' h1 h2 h3=>?_
 obtain⟨e,he⟩:=sortedAll_at s1.heap its out;have nz:H1 (s1.heap.objs.size+1)=none:=I1.hok.fresh (hB8 _);refine⟨.ref (s1.heap.objs.size+1),_,I1.laid (t':=s1.toks) (a:=s1.heap.objs.size+1) (o:=.lst (ns'.map V.int)) (λb o eb=>sortedAll_old eb) (hB8 _) ?_,rfl,q _ ns' nz h2 h3⟩;refine⟨?_,out.toList,e,qOo h1,by simpa using he⟩;rw[hA1,h2.length_eq];exact hB1 (qAi (by omega))
def zA5:V->List V->Hp->VK->Prop:=λx vs H Q=>∃i:Int,x = .int i/\vs=[]/\Q (.int (Builtin.Int.intBits i:Nat)) H
theorem qW8:MtR X "int.bit_length" zA5:=by
 intro aB s σ H x vs v us Q I rx rv h;obtain⟨i,rfl,rfl,q⟩:=h;obtain⟨t,rfl⟩:=rx;have hus:=rv.zero;subst hus;exact call_int_bit_length ⟨.int _,H,I.tok _,⟨_,rfl⟩,q⟩
def qUd(K:PySem.W.Frag):V->List V->Hp->VK->Prop:=λx vs H Q=>∃(l:Addr) (ss:List Str) (z:Str) (j:Nat),x = .ref l/\vs=[.str z]/\H l=some (.lst (ss.map V.str))/\ss[j]?=some z/\(∀k,k<j->ss[k]?≠some z)/\j<1000/\Q (.int (j:Nat)) H
theorem qIs:MtR X "list.index" (qUd X.K):=by
 intro aB s σ H x vs v us Q I rx rv h;obtain⟨l,ss,z,j,rfl,rfl,hH,hj,hno,hsm,q⟩:=h;cases rx;obtain⟨u,rfl,ru⟩:=rv.one;obtain⟨t,rfl⟩:=ru;obtain⟨zz,its,n,r,hl,e⟩:=I.lstM hH;have at_:∀k (hk:k<its.length),∃y t',ss[k]?=some y/\its[k]=Value.str y t':=λk hk=>by
  have hk':k<ss.length:=by rw[hA1]at hl;omega
  obtain⟨w,hw,rw'⟩:=r.get (i:=k) (x:=V.str ss[k]) (by rw[hAj,hA2 hk'];rfl);obtain⟨t',rfl⟩:=rw';rw[hA2 hk]at hw;exact⟨ss[k],t',hA2 hk',hAq hw⟩
 have jl:j<its.length:=by
  have:=(hAi.mp hj).1;rw[hA1]at hl;omega
 refine hEp F.slot_list_index ⟨_,e,rfl⟩ F.entry_list_index (F.args_list_index_2 _ _)
  (MeetsSeq.list_index l its.toArray n (.str z t) (λy=>match y with | .str y _=>y == z|_=>false) (λy hy=>?_) j (by rw[hAl];exact jl) (by omega) ?_ (λm hm hmj=>?_)) ⟨e,⟨.int _,H,I.tok _,⟨_,rfl⟩,q⟩⟩
 ·have hy':y∈its:=by simpa using hy
  obtain⟨k,hk,rfl⟩:=List.getElem_of_mem hy';obtain⟨y,t',_,e2⟩:=at_ k hk;rw[e2];exact eqGives_str y z t' t
 ·obtain⟨y,t',h1,e2⟩:=at_ j jl;have:its.toArray[j]=Value.str y t':=by simpa using e2
  rw[this];rw[hj]at h1;cases h1;exact hEd _
 ·have hm':m<its.length:=by simpa using hm
  obtain⟨y,t',h1,e2⟩:=at_ m hm';have:its.toArray[m]=Value.str y t':=by simpa using e2
  rw[this];show(y == z)=false;rw[beq_eq_false_iff_ne];intro w;exact hno m hmj (by rw[h1,w])
end
section
variable{X:Cx}
def zBf(K:PySem.W.Frag)(ta:TA):TI:=λσ H R=>ta σ H λvs H1=>∃(a:Addr) (xs:List V),vs=[.ref a]/\SqL K H1 a xs/\R (Itp xs.length (λH=>SqL K H a xs) (λi=>[.int (i:Nat),xs.getD i .non])) H1
theorem qRq:bootBuiltins "enumerate"=some (.type "enumerate"):=by decide +kernel
theorem qIm(hg:Gl X "enumerate")(hm:X.mg "enumerate"=none)(ha:PA X [a] ta)(hs:starEach [a] X.env=[(false,eval a X.env)]:=by rfl) :
  PI X (.Tuple elts ct tpos) (.Call (.Name "enumerate" p) [a] [] pos) (zBf X.K ta):=by
 intro aB s σ H R I h;refine Call_ (qGy I hg hm qRq (hCr (thn (ha pos aB s σ H _ I h) λus s1 ⟨vs,H1,I1,r1,q1⟩=>?_) (by rw[hs];rfl) (by rfl)));obtain⟨l,xs,e,hx,q⟩:=q1;subst e;obtain⟨u,rfl,rx⟩:=qD1 r1;cases rx;obtain⟨it1,rv1,pl1,hz1⟩:=I1.list hx;have b1:l<s1.heap.objs.size:=by obtain⟨o,n,e,_⟩:=pl1;exact Heap.lt_size e
 refine call_enumerate_list pl1.isList λh1 z1 z2 z3 z7=>?_
 refine wpAny_pyIter_enum z1 ?_;have hfp:∀b∈[s1.heap.objs.size+1,s1.heap.objs.size],s1.heap.objs.size<=b:=λb hb=>by
  simp only[hAc,hBf,hEa]at hb;rcases hb with rfl|rfl
  ·exact hCw _ _
  ·exact hA3 _
 refine⟨s1.heap.objs.size+1,[s1.heap.objs.size+1,s1.heap.objs.size],
  λi h=>(∃old,IsEnum h (s1.heap.objs.size+1) s1.heap.objs.size i old)/\h.IsListIter s1.heap.objs.size l i,
  _,H1,rfl,I1.kept (t':=s1.toks) z7,
  qHk (s1.heap.objs.size+1) _ [s1.heap.objs.size+1,s1.heap.objs.size,l] [s1.heap.objs.size+1,s1.heap.objs.size] _ _ _ _ (by simp) (λb hb=>hb) (λi h st b hb=>?_) (λi h h' st k=>?_) (λi=>by show 2<=sizeLine;decide) ?_ (λA i s' Q E st hQ=>by
   obtain⟨⟨old,he⟩,_⟩:=st;exact wpAny_pyIter_enum he hQ),
  ⟨⟨_,z1⟩,z2⟩,λb hb=>I1.fpOk (hfp b hb) (I1.hok.fresh (hfp b hb)),q⟩
 ·obtain⟨⟨old,a1⟩,⟨o4,a4,c4,d4⟩⟩:=st;simp only[hAc,hBf,hEa]at hb;rcases hb with rfl|rfl
  ·exact⟨_,a1,λv z=>by cases z⟩
  ·exact⟨_,a4,λv z=>by rw[d4]at z;cases z⟩
 ·obtain⟨⟨old,a1⟩,a4⟩:=st;exact⟨⟨old,k _ (by simp) _ a1⟩,a4.at λo e=>k _ (by simp) o e⟩
 ·intro X' hP hw hK hc pins' s' σ' H' I' hL;rw[<-hK]at hL;obtain⟨jt1,sv1,ql1,_⟩:=I'.list hL;have m1:=sv1.length;have ne1:l≠s1.heap.objs.size:=hAt b1;have Wz:=WalksT.enumerateD (A:=X'.A) (Draws.list (prog:=X.prog) (w:=X.w) (A:=X'.A.in1) (I'.ok.hd hc) s1.heap.objs.size l ne1 jt1.toArray) (s1.heap.objs.size+1) (Nat.succ_ne_self _) (λz=>by
   simp only[hAc,hBf,hEa]at z;rcases z with z|z
   ·exact Nat.succ_ne_self _ z
   ·exact absurd b1 (by rw[<-z];exact Nat.not_lt_of_le (hB8 _))) (by simp)
  rw[show jt1.toArray.size=xs.length by show jt1.length=_;rw[m1]]at Wz;refine⟨_,_,_,Wz,λi st=>?_,λi h st=>?_,λi vals pv=>?_⟩
  ·exact⟨st.1,st.2,ql1.isList⟩
  ·exact⟨st.1,st.2.1⟩
  ·obtain⟨t,x,e1,rfl⟩:=pv;have e1:jt1[i]?=some x:=by simpa using e1
   have c1:i<xs.length:=by rw[m1];exact(hAi.mp e1).1
   obtain⟨u,d1,d2⟩:=sv1.get (hA2 c1);rw[e1]at d1;cases d1;show qBf [.int (i:Nat),xs.getD i .non] [.int i t,x];rw[hA8,hA2 c1];exact .cons ⟨t,rfl⟩ (.cons d2 .nil)
end
end L2
namespace My
open PySem L2
abbrev iV(n:Nat):V:=.int (n:Int)
def LsN(H:Hp)(a:Addr)(ms:List Nat):Prop:=H a=some (.lst (ms.map iV))
theorem qG9:bootBuiltins "min"=some (.builtin "min"):=by decide +kernel
theorem qDn:bootBuiltins "sum"=some (.builtin "sum"):=by decide +kernel
theorem qDr{as:List Str}{i:Nat}{x:V}(e:(as.map V.str)[i]?=some x):∃a,x = .str a/\as[i]?=some a:=by
 rw[hAj]at e;cases ha:as[i]? with
 |none=>rw[ha]at e;cases e
 |some a=>rw[ha]at e;exact⟨a,(hAq e).symm,rfl⟩
theorem qD4{as:List Addr}{i:Nat}{x:V}(e:(as.map V.ref)[i]?=some x):∃a,x = .ref a/\as[i]?=some a:=by
 rw[hAj]at e;cases ha:as[i]? with
 |none=>rw[ha]at e;cases e
 |some a=>rw[ha]at e;exact⟨a,(hAq e).symm,rfl⟩
theorem qD0{ms:List Nat}{i:Nat}{x:V}(e:(ms.map iV)[i]?=some x):∃n,x=iV n/\ms[i]?=some n:=by
 rw[hAj]at e;cases ha:ms[i]? with
 |none=>rw[ha]at e;cases e
 |some a=>rw[ha]at e;exact⟨a,(hAq e).symm,rfl⟩
theorem qD9(ms:List Nat):ms.map iV=(ms.map λn:Nat=>(n:Int)).map V.int:=by rw[hAz];rfl
def maskF(aA row:List Str):Nat:=aA.foldl (λm n=>2*m+(if n∈row then 1 else 0)) 0
theorem qFq(aA row:List Str)(n:Str):maskF (aA++[n]) row=2*maskF aA row+(if n∈row then 1 else 0):=by unfold maskF;rw[hC5];rfl
theorem qE6(row:List Str)(aA:List Str):∀j,(maskF aA row).testBit j=(decide (j<aA.length) && decide (∃n,aA[aA.length-1-j]?=some n/\n∈row)):=by
 refine qDs (P:=λaA=>∀j,(maskF aA row).testBit j=(decide (j<aA.length) && decide (∃n,aA[aA.length-1-j]?=some n/\n∈row))) (λj=>by simp[maskF]) (λl n ih j=>?_) aA;rw[qFq,hA9];show _=(decide (j<l.length+1) && decide (∃m,(l++[n])[l.length+1-1-j]?=some m/\m∈row));cases j with
 |zero =>
  rw[hAx,hDr (by omega:0<l.length+1),hCa];refine decide_eq_decide.mpr ?_;rw[show l.length+1-1-0=l.length by omega,List.getElem?_append_right (hA3 _)];simp;by_cases h:n∈row
  ·simp[h]
  ·simp[h]
 |succ j =>
  rw[hC2,show(2*maskF l row+(if n∈row then 1 else 0)) / 2=maskF l row by split <;> omega,ih j];by_cases hj:j<l.length
  ·rw[hDr hj,hDr (by omega:j+1<l.length+1),show l.length+1-1-(j+1)=l.length-1-j by omega,hCg (by omega)]
  ·rw[hDs hj,hDs (by omega:¬j+1<l.length+1)];rfl
theorem qNd(aA row:List Str):maskF aA row<2^aA.length:=hBm _ λi hi=>by rw[qE6,hDs (by omega)];rfl
def qTt:Sp:=λvs H Q _=>∃(pn pr:Addr) (aA row:List Str),vs=[.ref pn,.ref pr]/\LsS H pn aA/\LsS H pr row/\Q (iV (maskF aA row)) H
def rowM(aA:List Str)(x:Nat):List Str:=(List.range aA.length).filterMap λi=>if x.testBit (aA.length-1-i)=true then aA[i]? else none
def qPd:Sp:=λvs H Q _=>∃(pn:Addr) (aA:List Str) (x:Nat),vs=[.ref pn,iV x]/\LsS H pn aA/\aA.length<=12/\∀r H',Ext H H'->H r=none->LsS H' r (rowM aA x)->Q (.ref r) H'
theorem qGf(x k:Nat):Builtin.bitAnd ((x:Int) / 2^k) 1=if x.testBit k=true then 1 else 0:=by
 have e:(x:Int) / 2^k=((x / 2^k:Nat):Int):=by rw[Int.natCast_ediv,Int.natCast_pow];rfl
 have e1:(1:Int)=((1:Nat):Int):=rfl;rw[e];show Builtin.bitAnd _ ((1:Nat):Int)=_;rw[qCx,Nat.and_one_is_mod,Nat.testBit_eq_decide_div_mod_eq];rcases hBj (x / 2^k) with h|h <;> rw[h] <;> rfl
def qTu:Sp:=λvs H Q _=>∃(x:Nat) (p:Addr) (k:List Nat),vs=[iV x,.ref p]/\LsN H p k/\(∀s∈k,s≠0)/\Q (iV (red1 k x)) H
theorem qQs(x:Nat){s:Nat}(hs:s≠0):(if Builtin.bitXor (x:Int) (s:Int)<(x:Int) then Builtin.bitXor (x:Int) (s:Int) else (x:Int))=((rd1 x s:Nat):Int):=by
 rw[qDy,<-qW9 x hs];by_cases h:x^^^s<x
 ·rw[hDw h,hDw (by omega)]
 ·rw[hDv h,hDv (by omega)]
def qPe:Sp:=λvs H Q _=>∃(p:Addr) (ms:List Nat),vs=[.ref p]/\LsN H p ms/\ms.length<=24/\∀(r:Addr) (M:List Nat) (H':Hp),Ext H H'->H r=none->LsN H' r M->M.Perm (red ms)->M.Pairwise (λa b=>b<=a)->Q (.ref r) H'
def qTv:Sp:=λvs H Q _=>∃x:Nat,vs=[iV x]/\x≠0/\x<2^24/\Q (iV (2^x.log2)) H
theorem qSc(k:List Nat)(x:Nat):(qOk k x).length<=k.length+1:=by
 unfold qOk;split
 ·omega
 ·rw[hA9,hA1];exact hA3 _
theorem qMx(xs:List Nat):(red xs).length<=xs.length:=by
 refine qN4 (P:=λxs=>(red xs).length<=xs.length) (hA3 _) (λl t ih=>?_) xs;rw[qEh,hA9];have:=qSc (red l) t;show _<=l.length+1;omega
section
variable{P:Program}{w:World}{K:PySem.W.Frag}{mg:Str->Option Value}{base:Heap}{f f1 f2:Addr}{fd fd1 fd2:FuncData}
abbrev maN:List Str:=["names","row","mask","name"]
theorem qMp:FnScope maN ["names","row"] (qAa qN9):=fsk
theorem qWl(F:Fun K "mask_of" "mask_of" qN9 f fd):v6 1 f fd ["names","row"] qTt:=by
 refine F.okA qMp λcdv A outer s H vs Q E hr h=>?_
 obtain⟨pn,pr,aA,row,rfl,hn,hw,q⟩:=h;refine⟨_,qAb (v0 2 qMp qAc)
  (qAb (qBs PassesOwn.never rfl (qAv (pv 0)) (v3 3 qMp)
   (qAd (v0 2 qMp (qAg qBh (qAg qEn qAc (pv 2)) (qEi (qAl qE5 (pv 3) (pv 1) (by with_unfolding_all rfl)) qAc qAc)))))
  (qAd (qAo (pv 2)))),?_⟩
 refine⟨_,rfl,pn,rfl,⟨_,SqL.of hn⟩,?_⟩;refine qCu (xs:=aA.map V.str) (λi σ H'=>H'=H/\∃x3:Option V,σ=[some (.ref pn),some (.ref pr),some (iV (maskF (aA.take i) row)),x3]) ⟨rfl,none,rfl⟩ (λi σ H' _ h=>by rw[h.1];exact SqL.of hn) ?_ ?_
 ·rintro i x σ H' hx ⟨rfl,x3,rfl⟩;obtain⟨y,rfl,hy⟩:=qDr hx;refine⟨_,rfl,_,_,rfl,rfl,.inl ⟨by decide,by decide⟩,_,rfl,_,rfl,pr,_,rfl,.inl (SqL.of hw),rfl,qG2 _,_,rfl,?_⟩;rw[hDv (by decide),qIw];refine qBp (λc=>?_) (λc=>?_)
  ·have c':y∈row:=by simpa using c
   refine⟨_,_,rfl,rfl,rfl,some (.str y),?_⟩;rw[show iV (maskF (aA.take (i+1)) row)=V.int (2*((maskF (aA.take i) row:Nat):Int)+1) by rw[qAk hy,qFq,hDw c'];rfl];rfl
  ·have c':¬y∈row:=by simpa using c
   refine⟨_,_,rfl,rfl,rfl,some (.str y),?_⟩;rw[show iV (maskF (aA.take (i+1)) row)=V.int (2*((maskF (aA.take i) row:Nat):Int)+0) by rw[qAk hy,qFq,hDv c'];rfl];rfl
 ·rintro σ H' ⟨rfl,x3,rfl⟩;rw[hA1,hA6 (hA3 _)];exact⟨_,rfl,q⟩
theorem qPt:FnScope ["names","mask","last"] ["names","mask"] (qAa qGj):=fsk
abbrev roN:List Str:=["at","name","mask","last"]
theorem qSn(F:Fun K "row_of" "row_of" qGj f fd)(ml:mg "len"=none)(me:mg "enumerate"=none):v6 1 f fd ["names","mask"] qPd:=by
 refine F.okA qPt λcdv A outer s H vs Q E hr h=>?_
 obtain⟨pn,aA,x,rfl,hn,ln,q⟩:=h;refine⟨_,qAb (v4 2 qPt (qAg qEm (qAf qAm rfl ml hAr (pa1 (pv 0))) qAc))
  (qAd (qAo (qDf (N:=["names","mask","last"]) (sc:=qAa qGj) (N':=roN) (sub:=[none,none,some 1,some 2]) rfl rfl (CmpOk.of (by decide +kernel)) rfl (qIm rfl me (pa1 (pv 0)))
   (λC s H fp=>⟨(show PG _ _ (qUr K 2 _) from qCa rfl (qAr (qAh (i:=0) (by show roN.Nodup;decide) rfl (Or.inl rfl)) (qAr (qAh (i:=1) (by show roN.Nodup;decide) rfl (Or.inl rfl)) qBj))),
    qD5 (qAl qC7 (qAg qCr (qAg qHu (pv 2) (qAg qEm (pv 3) (pv 0))) qAc) qAc (qAp _)),pv 1⟩)))),?_⟩
 refine⟨_,rfl,pn,_,rfl,.inl (SqL.of hn),_,_,rfl,rfl,?_⟩;refine⟨_,rfl,pn,_,rfl,SqL.of hn,?_⟩;rw[hA1];refine qEw (λi ys H'=>Ext H H'/\ys=((List.range i).filterMap λi=>if x.testBit (aA.length-1-i)=true then aA[i]? else none).map V.str) ⟨Ext.refl _,rfl⟩ (λi ys H' _ p=>SqL.of (p.1 _ _ hn)) ?_ ?_
 ·rintro i ys H' T hi ⟨e,rfl⟩ hT;have gd:(aA.map V.str).getD i .non = .str aA[i]:=by rw[hA8,hAj,hA2 hi];rfl
  have e2:=e.trans (Ext.new hT (.tup [V.int (i:Nat),(aA.map V.str).getD i .non]));refine⟨T,_,rfl,SqT.of upd_same,rfl,_,_,rfl,_,_,rfl,rfl,?_⟩;refine⟨Sle.set _ (sls) (λu z=>by cases z),?_⟩;have k:(((aA.length:Nat):Int)-1-(i:Nat))=((aA.length-1-i:Nat):Int):=by omega
  refine⟨_,rfl,_,rfl,_,rfl,_,_,rfl,rfl,_,_,rfl,rfl,(by show(0:Int)<=_;omega),_,_,rfl,rfl,rfl,_,rfl,?_⟩;have fm:((List.range (i+1)).filterMap λi=>if x.testBit (aA.length-1-i)=true then aA[i]? else none)=((List.range i).filterMap λi=>if x.testBit (aA.length-1-i)=true then aA[i]? else none)++(if x.testBit (aA.length-1-i)=true then [aA[i]] else []):=by
   rw[hCi,hCx];congr 1;by_cases b:x.testBit (aA.length-1-i)=true
   ·simp[b,hA2 hi]
   ·simp[b]
  have sz:=hC4 (λi=>if x.testBit (aA.length-1-i)=true then aA[i]? else none) (List.range i);rw[hBq]at sz;have key:(decide (V.int (Builtin.bitAnd ((x:Int) / 2^(((aA.length:Nat):Int)-1-(i:Nat)).toNat) 1)=V.int 1)=true)↔x.testBit (aA.length-1-i)=true:=by
   rw[hE0,V.int.injEq,k,hBa,qGf];by_cases b:x.testBit (aA.length-1-i)=true
   ·simp[b]
   ·simp[b]
  refine qBp (λc=>?_) (λc=>?_)
  ·have b:=key.mp c;refine⟨_,rfl,by rw[hA1];exact qAi (by omega),nxt hi ⟨e2,?_⟩⟩;rw[fm,hDw b,hA7,gd];rfl
  ·have b:¬x.testBit (aA.length-1-i)=true:=λz=>c (key.mpr z)
   refine nxt hi ⟨e2,?_⟩;rw[fm,hDv b,hC7]
 ·rintro ys H' ⟨e,rfl⟩ r hr';exact q r _ (e.trans (Ext.new hr' _)) (e.none hr') upd_same
theorem qPu:FnScope ["mask","kept","step"] ["mask","kept"] (qAa qOa):=fsk
theorem qWv(F:Fun K "lessened" "lessened" qOa f fd)(mmi:mg "min"=none):v6 1 f fd ["mask","kept"] qTu:=by
 refine F.okA qPu λcdv A outer s H vs Q E hr h=>?_
 obtain⟨x,p,k,rfl,hk,nz,q⟩:=h;refine⟨_,qAb (qBs PassesOwn.never rfl (qAv (pv 1)) (v3 2 qPu)
   (qAd (v0 0 qPu (qAf (qG7 rfl) rfl mmi qG9 (qAe (pv 0) (pa1 (qAg qF1 (pv 0) (pv 2))))))))
  (qAd (qAo (pv 0))),?_⟩
 refine⟨_,rfl,p,rfl,⟨_,SqL.of hk⟩,?_⟩;refine qCu (xs:=k.map iV) (λi σ H'=>H'=H/\∃x2:Option V,σ=[some (iV (red1 (k.take i) x)),some (.ref p),x2]) ⟨rfl,none,rfl⟩ (λi σ H' _ h=>by rw[h.1];exact SqL.of hk) ?_ ?_
 ·rintro i v σ H' hx ⟨rfl,x2,rfl⟩;obtain⟨s,rfl,hs⟩:=qD0 hx;refine⟨_,rfl,_,rfl,_,rfl,_,_,rfl,rfl,_,_,rfl,rfl,some (iV s),?_⟩;rw[qQs _ (nz s (hAd hs)),show red1 (k.take (i+1)) x=rd1 (red1 (k.take i) x) s by rw[qAk hs];unfold red1;rw[hC5];rfl];rfl
 ·rintro σ H' ⟨rfl,x2,rfl⟩;rw[hA1,hA6 (hA3 _)];exact⟨_,rfl,q⟩
theorem qJr:FnScope ["masks","kept","mask","fresh"] ["masks"] (qAa qK9):=fsk
theorem qWi(F:Fun K "reduced" "reduced" qK9 f fd)(G:v7 1 f1 fd1 ["mask","kept"] qTu "lessened")(mmi:mg "min"=none)(mso:mg "sorted"=none):v6 2 f fd ["masks"] qPe:=by
 refine F.okA qJr λcdv A outer s H vs Q E hr h=>?_
 obtain⟨p,ms,rfl,hp,lm,q⟩:=h;refine⟨_,qAb (v0 1 qJr (qBe qA3))
  (qAb (qBs PassesOwn.never rfl (qAv (pv 0)) (v3 2 qJr)
   (qAb (v4 3 qJr (qAy G hr rfl .nil qAz (qAe (pv 2) (pa1 (pv 1)))))
   (qAd (qBb (qAl qFo (pv 3) qAc (qAp _))
    (qAd (v0 1 qJr (qAg qF2 (qDf (N:=["masks","kept","mask","fresh"]) (sc:=qAa qK9) (N':=["step","fresh"]) (sub:=[none,some 3]) rfl rfl (CmpOk.of (by decide +kernel)) rfl (qAv (pv 1))
     (λC s H fp=>⟨qAh (i:=0) (by show(["step","fresh"]:List Str).Nodup;decide) rfl (Or.inl rfl),qAx,qAf (qG7 rfl) rfl mmi qG9 (qAe (pv 0) (pa1 (qAg qF1 (pv 0) (pv 1))))⟩)) (qBe (pa1 (pv 3))))))
    qAu))))
  (qAd (qAo (qOm rfl mso (pa1 (pv 1)))))),?_⟩
 refine⟨hAs _,λke ke0=>?_⟩;have X0:=Ext.new ke0 (.lst []);refine⟨_,rfl,p,rfl,⟨_,SqL.of (X0 _ _ hp)⟩,?_⟩;refine qCu (xs:=ms.map iV) (λi σ H'=>∃(ke:Addr) (x2 x3:Option V),σ=[some (.ref p),some (.ref ke),x2,x3]/\Ext H H'/\LsN H' ke (red (ms.take i))) ⟨ke,none,none,rfl,X0,upd_same⟩ (λi σ H' _ h=>by obtain⟨_,_,_,_,e,_⟩:=h;exact SqL.of (e _ _ hp)) ?_ ?_
 ·rintro i v σ H' hx ⟨ke,x2,x3,rfl,e,hk⟩;obtain⟨m,rfl,hm⟩:=qD0 hx;have hi:i<ms.length:=qA7 hm;have rr:=qDh (ms.take i);have lr:=qMx (ms.take i);rw[hAh]at lr;refine⟨_,rfl,_,rfl,m,ke,_,rfl,hk,rr.nz,?_⟩;have sn:red (ms.take (i+1))=qOk (red (ms.take i)) m:=by rw[qAk hm,qEh]
  refine⟨_,rfl,rfl,_,rfl,?_⟩;refine qBp (λc=>?_) (λc=>?_)
  ·have c':red1 (red (ms.take i)) m≠0:=λz=>by rw[z]at c;simp at c
   refine⟨_,rfl,ke,rfl,⟨_,SqL.of hk⟩,?_⟩;refine qAt (xs:=(red (ms.take i)).map iV) (λj ys H2=>H2=H'/\ys=(((red (ms.take i)).take j).map λs=>rd1 s (red1 (red (ms.take i)) m)).map iV) ⟨rfl,rfl⟩ (λj ys H2 _ h=>by rw[h.1];exact SqL.of hk) ?_ ?_
   ·rintro j x ys H2 hx2 ⟨rfl,rfl⟩;obtain⟨s,rfl,hs⟩:=qD0 hx2;have hj:=qA7 hs;refine⟨sls,iteT (B:=False) ⟨_,rfl,_,rfl,_,rfl,_,_,rfl,rfl,_,_,rfl,?_,nxt (qA7 hx2) ⟨rfl,?_⟩⟩⟩
    ·rw[hA1,hA1,hAh];exact qAi (by omega)
    ·rw[qQs _ c',qAk hs,hA7,hA7];rfl
   ·rintro ys H2 ⟨rfl,rfl⟩ l hl;rw[hA1,hA6 (hA3 _)];have n1:=Ext.new hl (.lst (((red (ms.take i)).map λs=>rd1 s (red1 (red (ms.take i)) m)).map iV));refine⟨_,rfl,(by show 1<=sizeLine;decide),λl2 hl2=>?_⟩;have n2:=Ext.new hl2 (.lst [iV (red1 (red (ms.take i)) m)]);refine⟨l,l2,_,_,rfl,rfl,n2 _ _ upd_same,upd_same,?_,λl3 hl3=>?_⟩
    ·rw[hA1,hA1];show _+1<=sizeLine;exact hB1 (qAi (by omega))
    ·refine⟨l3,_,_,rfl,((e.trans n1).trans n2).trans (Ext.new hl3 _),?_⟩;rw[sn];unfold qOk LsN;rw[hDv c',upd_same,hA7];rfl
  ·have c':red1 (red (ms.take i)) m=0:=by
    have:(red1 (red (ms.take i)) m:Int)=0:=by simpa using c
    omega
   refine⟨ke,_,_,rfl,e,?_⟩;rw[sn];unfold qOk;rw[hDw c'];exact hk
 ·rintro σ H' ⟨ke,x2,x3,rfl,e,hk⟩;rw[hA1,hA6 (hA3 _)]at hk;have lr:=qMx ms;refine⟨_,rfl,ke,(red ms).map (λn:Nat=>(n:Int)),rfl,by rw[<-qD9];exact SqL.of hk,by rw[hA1];omega,λr ns hr' pm od=>?_⟩;have od':ns.Pairwise λa b=>a >= b:=od
  obtain⟨M,rfl⟩:∃M:List Nat,ns=M.map (λn:Nat=>(n:Int)):=by
   refine⟨ns.map Int.toNat,?_⟩;rw[hAz];refine(List.map_id _).symm.trans (hC3 λa ha=>?_);obtain⟨n,_,rfl⟩:=hAb.mp (pm.mem_iff.mp ha);simp
  have pm':M.Perm (red ms):=by
   have:=pm.map Int.toNat;rw[hAz,hAz]at this;have idn:(Int.toNat∘λn:Nat=>(n:Int))=id:=by funext n;simp
   rw[idn,List.map_id,List.map_id]at this;exact this
  refine q r M _ (e.trans (Ext.new hr' _)) (e.none hr') (by unfold LsN;rw[upd_same,qD9]) pm' ?_;rw[hCq]at od';exact List.Pairwise.imp (λ{a b} h=>by omega) od'
theorem qYu:FnScope ["mask"] ["mask"] (qAa qOb):=fsk
theorem qWw(F:Fun K "lead_of" "lead_of" qOb f fd):v6 1 f fd ["mask"] qTv:=by
 refine F.okA qYu λcdv A outer s H vs Q E hr h=>?_
 obtain⟨x,rfl,nz,lt,q⟩:=h;refine⟨_,qAd (qAo (qAg qDb qAc (qAg qEm (qY7 PySem.F.plainAttrs_int PySem.F.slot_int_bit_length PySem.F.type_int_bit_length qW8 (pv 0)) qAc))),?_⟩;have l24:x.log2<24:=(Nat.log2_lt nz).mpr lt;have ib:Builtin.Int.intBits (x:Int)=x.log2+1:=by
  unfold Builtin.Int.intBits;rw[hDv (by simpa using nz)];simp
 refine⟨_,rfl,rfl,x,rfl,rfl,_,_,rfl,rfl,_,_,rfl,rfl,?_⟩;rw[ib];have e:((x.log2+1:Nat):Int)-1=(x.log2:Nat):=by omega
 rw[e];refine⟨⟨by omega,by omega,by decide⟩,?_⟩;dsimp only;rw[hBa,Int.one_mul];have p2:((2:Int)^x.log2)=((2^x.log2:Nat):Int):=by rw[Int.natCast_pow];rfl
 rw[p2];exact q
end
theorem RR.perm{a b:List Nat}(h:RR a)(p:b.Perm a):RR b:=⟨λs hs=>h.nz s (p.mem_iff.mp hs),(p.pairwise_iff (λ{x y} z=>⟨z.2,z.1⟩)).mpr h.ap⟩
theorem qDq:∀l:List Nat,(l.map λn:Nat=>(n:Int)).sum=((l.sum:Nat):Int)
 |[]=>rfl
 |a :: l=>by rw[hAu,List.sum_cons,List.sum_cons,qDq l];omega
theorem qCc(p:Nat):(1:Int)*2^((p:Int)).toNat=((2^p:Nat):Int):=by
 rw[hBa,Int.one_mul,Int.natCast_pow];rfl
def qYo:Sp:=λvs H Q _=>∃(p:Addr) (S:List Nat) (m:Nat),vs=[.ref p,iV m]/\LsN H p S/\RR S/\(∀s∈S,s<2^m)/\m<=12/\S.length<=24/\∀r H',Ext H H'->H r=none->LsN H' r (qFc S m)->Q (.ref r) H'
def qHe(H:Hp)(T:Addr)(aA:List Str)(rows:List (List Str)):Prop:=∃a b,H T=some (.tup [.ref a,.ref b])/\LsS H a aA/\qF5 H b rows
def qU5(H0 H:Hp)(T:Addr)(aA:List Str)(rows:List (List Str)):Prop:=∃a b,H T=some (.tup [.ref a,.ref b])/\LsS H a aA/\H0 a=none/\qXt H0 H b rows/\H0 b=none
theorem qU5.tin{H0 H:Hp}{T:Addr}{aA:List Str}{rows:List (List Str)}(h:qU5 H0 H T aA rows):qHe H T aA rows:=by
 obtain⟨a,b,h1,h2,h3,h4,h5⟩:=h;exact⟨a,b,h1,h2,h4.rows⟩
theorem qU5.down{H0 H1 H:Hp}{T:Addr}{aA:List Str}{rows:List (List Str)}(h:qU5 H1 H T aA rows)(e:Ext H0 H1):qU5 H0 H T aA rows:=by
 obtain⟨a,b,h1,h2,h3,⟨as,h4,h6⟩,h5⟩:=h;exact⟨a,b,h1,h2,e.none h3,⟨as,h4,Paired.mapP h6 λa r z=>⟨z.1,e.none z.2.1,z.2.2⟩⟩,e.none h5⟩
def qTs:Sp:=λvs H Q _=>∃(pn pm:Addr) (aA:List Str) (ms:List Nat),vs=[.ref pn,.ref pm]/\LsS H pn aA/\aA.length<=12/\LsN H pm ms/\ms.length<=24/\∀(T:Addr) (M:List Nat) (H':Hp),Ext H H'->H T=none->qU5 H H' T aA (M.map (rowM aA))->M.Perm (red ms)->M.Pairwise (λa b=>b<=a)->Q (.ref T) H'
def qKw:Sp:=λvs H Q _=>∃(T:Addr) (aA:List Str) (rows:List (List Str)),vs=[.ref T]/\qHe H T aA rows/\rows.length<=24/\∀(r:Addr) (M:List Nat) (H':Hp),Ext H H'->H r=none->LsN H' r M->M.Perm (red (rows.map (maskF aA)))->M.Pairwise (λa b=>b<=a)->Q (.ref r) H'
def qPl:Sp:=λvs H Q _=>∃(T:Addr) (aA:List Str) (rows:List (List Str)),vs=[.ref T]/\qHe H T aA rows/\aA.length<=12/\rows.length<=24/\∀(T':Addr) (S M:List Nat) (H':Hp),Ext H H'->H T'=none->qU5 H H' T' aA (M.map (rowM aA))->S.Perm (red (rows.map (maskF aA)))->M.Perm (red (qFc S aA.length))->M.Pairwise (λa b=>b<=a)->Q (.ref T') H'
def qPb:Sp:=λvs H Q _=>∃(p:Addr) (net:List Tr),vs=[.ref p]/\qDp H p net/\net.length<=20/\∀r H',Ext H H'->H r=none->LsS H' r (net.map (·.1))->Q (.ref r) H'
def metF(net:List Tr)(x:Str):List Str:=(net.filter λt=>decide (t.2.1=x) != decide (t.2.2=x)).map (·.1)
def qYl:Sp:=λvs H Q _=>∃(p:Addr) (net:List Tr) (x:Str),vs=[.ref p,.str x]/\qDp H p net/\net.length<=12/\∀r H',Ext H H'->H r=none->LsS H' r (metF net x)->Q (.ref r) H'
def qPc:Sp:=λvs H Q _=>∃(p:Addr) (net:List Tr),vs=[.ref p]/\qDp H p net/\net.length<=12/\∀(T:Addr) (ps:List Str) (S M:List Nat) (H':Hp),Ext H H'->H T=none->qU5 H H' T (net.map (·.1)) (M.map (rowM (net.map (·.1))))->qHg net ps->qHf ps->S.Perm (red (ps.map λx=>maskF (net.map (·.1)) (metF net x)))->M.Perm (red (qFc S net.length))->M.Pairwise (λa b=>b<=a)->Q (.ref T) H'
section
variable{P:Program}{w:World}{K:PySem.W.Frag}{mg:Str->Option Value}{base:Heap}{f f1 f2 f3 f4:Addr}{fd fd1 fd2 fd3 fd4:FuncData}
abbrev crN:List Str:=["steps","width","leads","told","place","bit"]
theorem qPx:FnScope crN ["steps","width"] (qAa qT8):=fsk
theorem qZk(F:Fun K "crossed_masks" "crossed_masks" qT8 f fd)(G:v7 1 f1 fd1 ["mask"] qTv "lead_of")(msu:mg "sum"=none)(mr:mg "range"=none):v6 2 f fd ["steps","width"] qYo:=by
 refine F.okA qPx λcdv A outer s H vs Q E hr h=>?_
 obtain⟨p,S,m,rfl,hp,rr,lt,m12,lS,q⟩:=h;refine⟨_,qAb (v0 2 qPx (qAf (qDl rfl) rfl msu qDn (pa1 (qB3 (N:=crN) (sc:=qAa qT8) (N':=["step"]) (sub:=[none]) (qAv (pv 0)) (λC s H fp=>⟨qAx,qAy G hr rfl .nil qAz (pa1 (pv 0))⟩)))))
  (qAb (v0 3 qPx (qBe qA3))
  (qAb (qBs PassesOwn.never rfl (qBg rfl mr (pa1 (pv 1))) (v3 4 qPx)
   (qAb (v4 5 qPx (qAg qDb qAc (pv 4)))
   (qAd (qBb (qAl qC7 (qAg qCr (pv 2) (pv 5)) qAc (qAp _))
    (qAd (qC3 (qB8 hAy hBb hBc qB1 (pv 3) (qAe
     (qAg qBh (pv 5) (qAf (qDl rfl) rfl msu qDn (pa1 (qB3 (N:=crN) (sc:=qAa qT8) (N':=["step","bit"]) (sub:=[none,some 5]) (qAv (pv 0)) (λC s H fp=>⟨qD5 (qAl qFo (qAg qCr (pv 0) (pv 1)) qAc (qAp _)),qAy G hr rfl .nil qAz (pa1 (pv 0))⟩))))) qA3))))
    qAu))))
  (qAd (qAo (pv 3))))),?_⟩
 have l24:∀s∈S,s<2^24:=λs hs=>hAo (lt s hs) (Nat.pow_le_pow_right (by decide) (by omega))
 refine⟨_,rfl,p,rfl,⟨_,SqL.of hp⟩,?_⟩;refine qAt (xs:=S.map iV) (λj ys H2=>H2=H/\ys=((S.take j).map λs:Nat=>2^s.log2).map iV) ⟨rfl,rfl⟩ (λj ys H2 _ h=>by rw[h.1];exact SqL.of hp) ?_ ?_
 ·rintro j v ys H2 hx ⟨rfl,rfl⟩;obtain⟨s,rfl,hs⟩:=qD0 hx;have hj:=qA7 hs;have sm:=hAd hs;refine⟨sls,iteT (B:=False) ⟨_,rfl,s,rfl,rr.nz s sm,l24 s sm,?_,nxt (qA7 hx) ⟨rfl,?_⟩⟩⟩
  ·rw[hA1,hA1,hAh];exact qAi (by omega)
  ·rw[qAk hs,hA7,hA7];rfl
 rintro ys H2 ⟨rfl,rfl⟩ l1 hl1;rw[hA1,hA6 (hA3 _)];have n1:=Ext.new hl1 (.lst ((S.map λs:Nat=>2^s.log2).map iV));refine⟨l1,(S.map λs:Nat=>2^s.log2).map (λn:Nat=>(n:Int)),rfl,SqL.of (by rw[upd_same,qD9]),?_⟩;rw[qDq];refine⟨hAs _,λto to1=>?_⟩;have to0:=n1.none to1;have n2:=n1.trans (Ext.new to1 (.lst []));refine⟨_,rfl,(m:Int),rfl,by omega,by omega,?_⟩;refine qBt (lo:=0) (n:=((m:Int)).toNat) (λi σ H'=>∃(x4 x5:Option V),σ=[some (.ref p),some (iV m),some (iV (S.map λs:Nat=>2^s.log2).sum),some (.ref to),x4,x5]/\Ext H2 H'/\LsN H' to (((List.range i).filter λp=>!decide (isLd S p)).map (crM S))) ⟨none,none,rfl,n2,upd_same⟩ ?_ ?_
 ·rintro i σ H' hi ⟨x4,x5,rfl,e,ht⟩;have hi':i<m:=by omega
  refine⟨_,rfl,_,_,rfl,rfl,⟨by omega,by omega,by decide⟩,?_⟩;have bv:(λi j:Int=>V.int (i*2^j.toNat)) 1 (0+(i:Int))=iV (2^i):=by
   show V.int (1*2^(0+(i:Int)).toNat)=_;rw[show(0+(i:Int))=(i:Nat) by omega,qCc]
  rw[bv];have sn:((List.range (i+1)).filter λp=>!decide (isLd S p)).map (crM S)=((List.range i).filter λp=>!decide (isLd S p)).map (crM S)++(if isLd S i then [] else [crM S i]):=by
   rw[hCi,hCb,hA7];congr 1;by_cases b:isLd S i
   ·simp[b]
   ·simp[b]
  have lb:=qQw rr i;refine⟨_,rfl,_,rfl,_,_,rfl,rfl,rfl,_,rfl,?_⟩;refine qBp (λc=>?_) (λc=>?_)
  ·have nl:¬isLd S i:=λz=>by
    rw[hDr z]at lb;have ne:=(qI7 _ i).mpr lb;have:Builtin.bitAnd (((S.map λs:Nat=>2^s.log2).sum:Nat):Int) ((2^i:Nat):Int)=0:=by simpa using c
    rw[qCx]at this;omega
   refine⟨_,rfl,.inl ⟨rfl,_,SqL.of ht⟩,_,rfl,?_⟩;refine⟨_,rfl,p,rfl,⟨_,SqL.of (e _ _ hp)⟩,?_⟩;refine qAt (xs:=S.map iV) (λj ys H3=>H3=H'/\ys=(((S.take j).filter λs:Nat=>s.testBit i).map λs:Nat=>2^s.log2).map iV) ⟨rfl,rfl⟩ (λj ys H3 _ h=>by rw[h.1];exact SqL.of (e _ _ hp)) ?_ ?_
   ·rintro j v ys H3 hx ⟨rfl,rfl⟩;obtain⟨s,rfl,hs⟩:=qD0 hx;have hj:=qA7 hs;have sm:=hAd hs;refine⟨sls,_,rfl,_,rfl,_,_,rfl,rfl,rfl,_,rfl,?_⟩;have key:((!decide (V.int (Builtin.bitAnd (s:Int) ((2^i:Nat):Int))=V.int 0))=true)↔s.testBit i=true:=by
     rw[<-qI7 s i,qCx];simp
    refine qBp (λc3=>?_) (λc3=>?_)
    ·have b:=key.mp c3;refine⟨_,rfl,s,rfl,rr.nz s sm,l24 s sm,?_,nxt (qA7 hx) ⟨rfl,?_⟩⟩
     ·have:=hBy (λs:Nat=>s.testBit i) (S.take j);rw[hAh]at this;rw[hA1,hA1];exact qAi (by omega)
     ·rw[qAk hs,hCb,hA7,hA7];simp[b]
    ·have b:¬s.testBit i=true:=λz=>c3 (key.mpr z)
     refine nxt (qA7 hx) ⟨rfl,?_⟩;rw[qAk hs,hCb];simp[b]
   ·rintro ys H3 ⟨rfl,rfl⟩ l2 hl2;rw[hA1,hA6 (hA3 _)];have n3:=Ext.new hl2 (.lst (((S.filter λs:Nat=>s.testBit i).map λs:Nat=>2^s.log2).map iV));refine⟨l2,((S.filter λs:Nat=>s.testBit i).map λs:Nat=>2^s.log2).map (λn:Nat=>(n:Int)),rfl,SqL.of (by rw[upd_same,qD9]),?_⟩;rw[qDq];refine⟨_,_,rfl,rfl,to,_,_,rfl,rfl,n3 _ _ ht,?_,?_⟩
    ·have:=hBy (λp=>!decide (isLd S p)) (List.range i);rw[hBq]at this;rw[hA1,hA1];exact qAi (by omega)
    ·refine⟨_,_,rfl,(e.trans n3).over to0 _,?_⟩;rw[sn,hDv nl];unfold LsN;rw[upd_same,hA7];rfl
  ·have il:isLd S i:=hCh λz=>by
    rw[hDs z]at lb;refine c ?_;have:(S.map λs:Nat=>2^s.log2).sum&&&2^i=0:=hCh λy=>by
     have:=(qI7 _ i).mp y;rw[lb]at this;cases this
    show decide (V.int (Builtin.bitAnd (((S.map λs:Nat=>2^s.log2).sum:Nat):Int) ((2^i:Nat):Int))=V.int 0)=true;rw[qCx,this];rfl
   refine⟨_,_,rfl,e,?_⟩;rw[sn,hDw il,hC7];exact ht
 ·rintro σ H' ⟨x4,x5,rfl,e,ht⟩;rw[hBa]at ht;exact⟨_,rfl,q to _ e to0 ht⟩
theorem qYs:FnScope ["names","masks"] ["names","masks"] (qAa qK8):=fsk
theorem qWh(F:Fun K "table_from" "table_from" qK8 f fd)(G1:v7 1 f1 fd1 ["names","mask"] qPd "row_of")
  (G2:v7 2 f2 fd2 ["masks"] qPe "reduced") (mL:mg "list"=none):v6 3 f fd ["names","masks"] qTs:=by
 refine F.okA qYs λcdv A outer s H vs Q E hr h=>?_
 obtain⟨pn,pm,aA,ms,rfl,hn,ln,hm,lm,q⟩:=h;have hr1:=hr.mono (j:=1) (by decide);refine⟨_,qAd (qAo (qB2 (qAe (qBd qF4 rfl mL qC1 (pa1 (pv 0))) (qAe
  (qDf (N:=["names","masks"]) (sc:=qAa qK8) (N':=["mask","names"]) (sub:=[none,some 0]) rfl rfl (CmpOk.of (by decide +kernel)) rfl (qAv (qAy G2 hr rfl .nil qAz (pa1 (pv 1))))
   (λC s H fp=>⟨qAh (i:=0) (by show(["mask","names"]:List Str).Nodup;decide) rfl (Or.inl rfl),qAx,qAy G1 hr1 rfl .nil qAz (qAe (pv 1) (pa1 (pv 0)))⟩)) qA3)))),?_⟩
 refine⟨_,rfl,pn,_,rfl,.inl (SqL.of hn),λl1 hl1=>?_⟩;have n1:=Ext.new hl1 (.lst (aA.map V.str));refine⟨_,rfl,pm,ms,rfl,n1 _ _ hm,lm,λr M H1 e1 r0 hM pM dM=>?_⟩;have E1:=n1.trans e1;have lM:M.length<=24:=by rw[pM.length_eq];exact hAv (qMx ms) lm
 refine⟨r,rfl,⟨_,SqL.of hM⟩,?_⟩;refine qAt (xs:=M.map iV) (λj ys H2=>Ext H1 H2/\∃as,ys=as.map V.ref/\Paired (λa r=>LsS H2 a r/\H a=none) as ((M.take j).map (rowM aA))) ⟨Ext.refl _,[],rfl,.nil⟩ (λj ys H2 _ h=>SqL.of (h.1 _ _ hM)) ?_ ?_
 ·rintro j v ys H2 hx ⟨e2,as,rfl,pr⟩;obtain⟨x,rfl,hx'⟩:=qD0 hx;have hj:=qA7 hx';have la:as.length=_:=pr.length;rw[hA1,hAh]at la;refine⟨sls,iteT (B:=False) ⟨_,rfl,_,rfl,pn,aA,x,rfl,(E1.trans e2) _ _ hn,ln,λr3 H3 e3 r30 h3=>⟨?_,nxt (qA7 hx) ⟨e2.trans e3,as++[r3],by rw[hA7];rfl,?_⟩⟩⟩⟩
  ·rw[hA1];exact qAi (by omega)
  ·rw[qAk hx',hA7];exact Paired.snoc (Paired.mapP pr λa t z=>⟨e3 _ _ z.1,z.2⟩) ⟨h3,(E1.trans e2).none r30⟩
 ·rintro ys H2 ⟨e2,as,rfl,pr⟩ b hb;rw[hA1,hA6 (hA3 _)]at pr;have E2:=E1.trans e2;have Xb:=Ext.new hb (.lst (as.map V.ref));refine⟨(by show 2<=sizeLine;decide),λT hT=>?_⟩;have XT:=Xb.trans (Ext.new hT (.tup [V.ref l1,V.ref b]));refine q T M _ (E2.trans XT) ((E2.trans Xb).none hT) ⟨l1,b,upd_same,XT _ _ (e2 _ _ (e1 _ _ upd_same)),hl1,⟨as,(Ext.new hT _) _ _ upd_same,Paired.mapP pr λa t z=>⟨XT _ _ z.1,z.2,qAw z.1 hb⟩⟩,E2.none hb⟩ pM dM
theorem qK3:FnScope ["table","names","rows"] ["table"] (qAa qGi):=fsk
theorem qSm(F:Fun K "step_masks" "step_masks" qGi f fd)(G1:v7 1 f1 fd1 ["names","row"] qTt "mask_of")
  (G2:v7 2 f2 fd2 ["masks"] qPe "reduced"):v6 3 f fd ["table"] qKw:=by
 refine F.okA qK3 λcdv A outer s H vs Q E hr h=>?_
 obtain⟨T,aA,rows,rfl,⟨a,b,hT,ha,⟨as,hb,pr⟩⟩,lr,q⟩:=h;have hr1:=hr.mono (j:=1) (by decide);refine⟨_,qAb (qE3 (pv 0) (qCa rfl (qAr (v5 1 qK3) (qAr (v3 2 qK3) qBj))))
  (qAd (qAo (qAy G2 hr rfl .nil qAz (pa1 (qDf (N:=["table","names","rows"]) (sc:=qAa qGi) (N':=["row","names"]) (sub:=[none,some 1]) rfl rfl (CmpOk.of (by decide +kernel)) rfl (qAv (pv 2))
   (λC s H fp=>⟨qAh (i:=0) (by show(["row","names"]:List Str).Nodup;decide) rfl (Or.inl rfl),qAx,qAy G1 hr1 rfl .nil qAz (qAe (pv 1) (pa1 (pv 0)))⟩)))))),?_⟩
 have la:as.length=rows.length:=pr.length;refine⟨_,rfl,T,_,rfl,SqT.of hT,rfl,_,_,rfl,_,_,rfl,rfl,?_⟩;refine⟨_,rfl,b,rfl,⟨_,SqL.of hb⟩,?_⟩;refine qAt (xs:=as.map V.ref) (λj ys H2=>H2=H/\ys=((rows.take j).map (maskF aA)).map iV) ⟨rfl,rfl⟩ (λj ys H2 _ h=>by rw[h.1];exact SqL.of hb) ?_ ?_
 ·rintro j v ys H2 hx ⟨rfl,rfl⟩;obtain⟨c,rfl,hc⟩:=qD4 hx;obtain⟨rw1,hrw,hc1⟩:=qA8 pr hc;have hj:=qA7 hrw;refine⟨sls,iteT (B:=False) ⟨_,rfl,_,rfl,a,c,aA,rw1,rfl,ha,hc1,?_,nxt (qA7 hx) ⟨rfl,?_⟩⟩⟩
  ·rw[hA1,hA1,hAh];exact qAi (by omega)
  ·rw[qAk hrw,hA7,hA7];rfl
 ·rintro ys H2 ⟨rfl,rfl⟩ l hl;rw[hA1,la,hA6 (hA3 _)];have n1:=Ext.new hl (.lst ((rows.map (maskF aA)).map iV));refine⟨l,_,rfl,upd_same,by rw[hA1];exact lr,λr M H1 e1 r0 hM pM dM=>?_⟩;exact q r M H1 (n1.trans e1) (n1.none r0) hM pM dM
theorem qPw:FnScope ["table","names"] ["table"] (qAa qHp):=fsk
theorem qSv(F:Fun K "crossed" "crossed" qHp f fd)(G1:v7 3 f1 fd1 ["names","masks"] qTs "table_from")
  (G2:v7 2 f2 fd2 ["steps","width"] qYo "crossed_masks")
  (G3:v7 3 f3 fd3 ["table"] qKw "step_masks") (ml:mg "len"=none):v6 4 f fd ["table"] qPl:=by
 refine F.okA qPw λcdv A outer s H vs Q E hr h=>?_
 obtain⟨T,aA,rows,rfl,ht,ln,lr,q⟩:=h;have hr2:=hr.mono (j:=2) (by decide);refine⟨_,qAb (v0 1 qPw (qBm qCb (pv 0) qAc (λ_ _=>rfl)))
  (qAd (qAo (qAy G1 hr rfl .nil qAz (qAe (pv 1) (pa1 (qAy G2 hr2 rfl .nil qAz (qAe (qAy G3 hr rfl .nil qAz (pa1 (pv 0))) (pa1 (qAf qAm rfl ml hAr (pa1 (pv 1))))))))))),?_⟩
 obtain⟨a,b,hT,ha,hb⟩:=id ht;refine⟨_,rfl,T,_,_,_,rfl,rfl,SqT.of hT,(by exact qA5 (j:=0) rfl),?_⟩;refine⟨_,rfl,_,rfl,T,aA,rows,rfl,ht,lr,λr S H1 e1 r0 hS pS dS=>?_⟩;have rrS:RR S:=(qDh _).perm pS;have ltS:∀s∈S,s<2^aA.length:=λs hs=>qT9 (λx hx=>by
  obtain⟨rw1,_,rfl⟩:=hAb.mp hx;exact qNd aA rw1) s (pS.mem_iff.mp hs)
 have lS:S.length<=24:=by
  have:=qMx (rows.map (maskF aA));rw[hA1]at this;rw[pS.length_eq];omega
 refine⟨_,rfl,a,_,rfl,.inl (SqL.of (e1 _ _ ha)),r,S,aA.length,(by rw[hA1];rfl),hS,rrS,ltS,ln,lS,λr2 H2 e2 r20 h2=>?_⟩;have lc:(qFc S aA.length).length<=24:=by
  unfold qFc;rw[hA1];have:=hBy (λp=>!decide (isLd S p)) (List.range aA.length);rw[hBq]at this;omega
 have E2:=e1.trans e2;refine⟨a,r2,aA,_,rfl,E2 _ _ ha,ln,h2,lc,λT' M H3 e3 t0 tf pM dM=>?_⟩;exact q T' S M H3 (E2.trans e3) (E2.none t0) (tf.down E2) pS pM dM
end
theorem qJ2(net:List Tr)(t:Tr)(x:Str):metF (net++[t]) x=metF net x++(if (decide (t.2.1=x) != decide (t.2.2=x))=true then [t.1] else []):=by
 unfold metF;rw[hCb,hA7];congr 1;by_cases b:(decide (t.2.1=x) != decide (t.2.2=x))=true
 ·rw[hDw b,List.filter_cons,hDw b];rfl
 ·rw[hDv b,List.filter_cons,hDv b];rfl
theorem qSy(net:List Tr)(x:Str):(metF net x).length<=net.length:=by
 unfold metF;rw[hA1];exact hBy _ _
section
variable{P:Program}{w:World}{K:PySem.W.Frag}{mg:Str->Option Value}{base:Heap}{f f1 f2 f3 f4:Addr}{fd fd1 fd2 fd3 fd4:FuncData}
theorem qYr:FnScope ["net"] ["net"] (qAa qK7):=fsk
abbrev tiN:List Str:=["tie","one","other"]
theorem qWf(F:Fun K "ties_of" "ties_of" qK7 f fd):v6 1 f fd ["net"] qPb:=by
 refine F.okA qYr λcdv A outer s H vs Q E hr h=>?_
 obtain⟨p,net,rfl,⟨as,hp,pr⟩,hl,q⟩:=h;refine⟨_,qAd (qAo (qDf (N:=["net"]) (sc:=qAa qK7) (N':=tiN) (sub:=[none,none,none]) rfl rfl (CmpOk.of (by decide +kernel)) rfl (qAv (pv 0))
  (λC s H fp=>⟨(show PG _ _ (qUr K 3 _) from qCa rfl (qAr (qAh (i:=0) (by show tiN.Nodup;decide) rfl (Or.inl rfl)) (qAr (qAh (i:=1) (by show tiN.Nodup;decide) rfl (Or.inl rfl)) (qAr (qAh (i:=2) (by show tiN.Nodup;decide) rfl (Or.inl rfl)) qBj)))),qAx,pv 0⟩))),?_⟩
 refine⟨_,rfl,p,rfl,⟨_,SqL.of hp⟩,?_⟩;refine qEx (λt=>t.1) hp pr hl (λa t ha C B c=>?_) (λr hr'=>q r _ (Ext.new hr' _) hr' upd_same);refine⟨a,_,rfl,SqT.of ha,rfl,_,_,rfl,_,_,rfl,_,_,rfl,rfl,?_⟩;exact⟨Sle.set _ (Sle.set _ (sls) (λu z=>by cases z)) (λu z=>by cases z),iteT (B:=B H) ⟨_,rfl,c⟩⟩
theorem zAz:FnScope ["net","point"] ["net","point"] (qAa qVq):=fsk
abbrev meN:List Str:=["tie","one","other","point"]
theorem qZf(F:Fun K "met_once" "met_once" qVq f fd):v6 1 f fd ["net","point"] qYl:=by
 refine F.okA zAz λcdv A outer s H vs Q E hr h=>?_
 obtain⟨p,net,x,rfl,⟨as,hp,pr⟩,hl,q⟩:=h;refine⟨_,qAd (qAo (qDf (N:=["net","point"]) (sc:=qAa qVq) (N':=meN) (sub:=[none,none,none,some 1]) rfl rfl (CmpOk.of (by decide +kernel)) rfl (qAv (pv 0))
  (λC s H fp=>⟨(show PG _ _ (qUr K 3 _) from qCa rfl (qAr (qAh (i:=0) (by show meN.Nodup;decide) rfl (Or.inl rfl)) (qAr (qAh (i:=1) (by show meN.Nodup;decide) rfl (Or.inl rfl)) (qAr (qAh (i:=2) (by show meN.Nodup;decide) rfl (Or.inl rfl)) qBj)))),
   qD5 (qAl qFo (qCe qC7 (pv 1) (pv 3) (qAp _)) (qCe qC7 (pv 2) (pv 3) (qAp _)) (qAp _)),pv 0⟩))),?_⟩
 have lA:as.length=net.length:=pr.length;refine⟨_,rfl,p,rfl,⟨_,SqL.of hp⟩,?_⟩;refine qAt (xs:=as.map V.ref) (λj ys H2=>H2=H/\ys=(metF (net.take j) x).map V.str) ⟨rfl,rfl⟩ (λj ys H2 _ h=>by rw[h.1];exact SqL.of hp) ?_ ?_
 ·rintro j v ys H2 hx ⟨rfl,rfl⟩;obtain⟨a,t,rfl,ht,ha⟩:=qIq pr hx;have hj:=qA7 ht;refine⟨a,_,rfl,SqT.of ha,rfl,_,_,rfl,_,_,rfl,_,_,rfl,rfl,?_⟩;refine⟨Sle.set _ (Sle.set _ (sls) (λu z=>by cases z)) (λu z=>by cases z),?_⟩;refine⟨_,rfl,_,rfl,rfl,_,rfl,_,rfl,rfl,rfl,_,rfl,?_⟩;have key:((!decide (V.bl (decide (V.str t.2.1=V.str x))=V.bl (decide (V.str t.2.2=V.str x))))=true)↔(decide (t.2.1=x) != decide (t.2.2=x))=true:=by
   by_cases a:t.2.1=x <;> by_cases b:t.2.2=x <;> simp[a,b]
  have sz:=qSy (net.take j) x;rw[hAh]at sz;refine qBp (λc=>?_) (λc=>?_)
  ·have b:=key.mp c;refine⟨_,rfl,by rw[hA1];exact qAi (by omega),nxt (qA7 hx) ⟨rfl,?_⟩⟩;rw[qAk ht,qJ2,hDw b,hA7];rfl
  ·have b:¬(decide (t.2.1=x) != decide (t.2.2=x))=true:=λz=>c (key.mpr z)
   refine nxt (qA7 hx) ⟨rfl,?_⟩;rw[qAk ht,qJ2,hDv b,hC7]
 ·rintro ys H2 ⟨rfl,rfl⟩ r hr';rw[hA1,lA,hA6 (hA3 _)];exact q r _ (Ext.new hr' _) hr' upd_same
theorem qVm:FnScope ["net"] ["net"] (qAa qGh):=fsk
theorem qSl(F:Fun K "table_of" "table_of" qGh f fd)(G1:v7 4 f1 fd1 ["table"] qPl "crossed")
  (G2:v7 1 f2 fd2 ["net"] qPb "ties_of")
  (G3:v7 1 f3 fd3 ["net","point"] qYl "met_once")
  (G4:v7 1 f4 fd4 ["net"] qMj "points"):v6 5 f fd ["net"] qPc:=by
 refine F.okA qVm λcdv A outer s H vs Q E hr h=>?_
 obtain⟨p,net,rfl,nt,hl,q⟩:=h;have hr1:=hr.mono (j:=1) (by decide);refine⟨_,qAd (qAo (qAy G1 hr rfl .nil qAz (pa1 (qB2 (qAe (qAy G2 hr1 rfl .nil qAz (pa1 (pv 0))) (qAe
  (qDf (N:=["net"]) (sc:=qAa qGh) (N':=["point","net"]) (sub:=[none,some 0]) rfl rfl (CmpOk.of (by decide +kernel)) rfl (qAv (qAy G4 hr1 rfl .nil qAz (pa1 (pv 0))))
   (λC s H fp=>⟨qAh (i:=0) (by show(["point","net"]:List Str).Nodup;decide) rfl (Or.inl rfl),qAx,qAy G3 hr1 rfl .nil qAz (qAe (pv 1) (pa1 (pv 0)))⟩)) qA3)))))),?_⟩
 refine⟨_,rfl,p,net,rfl,nt,by omega,λtl H1 e1 tl0 htl=>?_⟩;refine⟨_,rfl,p,net,rfl,nt.ext e1,hl,λpl ps H2 e2 pl0 hpl pok psr lps=>⟨pl,rfl,⟨_,SqL.of hpl⟩,?_⟩⟩;have E2:=e1.trans e2;refine qAt (xs:=ps.map V.str) (λj ys H3=>Ext H2 H3/\∃as,ys=as.map V.ref/\Paired (LsS H3) as ((ps.take j).map (metF net))) ⟨Ext.refl _,[],rfl,.nil⟩ (λj ys H3 _ h=>SqL.of (h.1 _ _ hpl)) ?_ ?_
 ·rintro j x ys H3 hx ⟨e3,as,rfl,pr⟩;obtain⟨y,rfl,hy⟩:=qDr hx;have hj:=qA7 hy;have la:as.length=_:=pr.length;rw[hA1,hAh]at la;refine⟨sls,iteT (B:=False) ⟨_,rfl,_,rfl,p,net,y,rfl,nt.ext (E2.trans e3),hl,λr4 H4 e4 r40 hr4=>⟨?_,nxt (qA7 hx) ⟨e3.trans e4,as++[r4],by rw[hA7];rfl,?_⟩⟩⟩⟩
  ·rw[hA1];exact qAi (by omega)
  ·rw[qAk hy,hA7];exact Paired.snoc (Paired.mapP pr λa t z=>e4 _ _ z) hr4
 ·rintro ys H3 ⟨e3,as,rfl,pr⟩ b hb;rw[hA1,hA6 (hA3 _)]at pr;have Xb:=Ext.new hb (.lst (as.map V.ref));refine⟨(by show 2<=sizeLine;decide),λT hT=>?_⟩;have XT:=Xb.trans (Ext.new hT (.tup [V.ref tl,V.ref b]));have E3:=(E2.trans e3).trans XT;refine⟨T,net.map (λt:Tr=>t.1),ps.map (metF net),rfl,⟨tl,b,upd_same,(e2.trans (e3.trans XT)) _ _ htl,⟨as,(Ext.new hT _) _ _ upd_same,Paired.mapP pr λa t z=>XT _ _ z⟩⟩,by rw[hA1];exact hl,by rw[hA1];exact lps,λT' S M H4 e4 t0 tf pS pM dM=>?_⟩;rw[hAz]at pS;rw[hA1]at pM;exact q T' ps S M H4 (E3.trans e4) (E3.none t0) (tf.down E3) pok psr pS pM dM
end
def ixF(ps:List Str)(x:Str):Nat:=ps.findIdx λy=>decide (y=x)
theorem qD8{ps:List Str}{x:Str}(h:x∈ps):ps[ixF ps x]?=some x/\(∀k,k<ixF ps x->ps[k]?≠some x)/\ixF ps x<ps.length:=by
 have lt:ixF ps x<ps.length:=List.findIdx_lt_length_of_exists ⟨x,h,by simp⟩;have at_:ps[ixF ps x]=x:=by
  have:=List.findIdx_getElem (w:=lt);exact hDu this
 refine⟨by rw[hA2 lt,at_],λk hk e=>?_,lt⟩;have:=List.not_of_lt_findIdx hk;have kl:k<ps.length:=Nat.lt_trans hk lt;rw[hA2 kl]at e;have e':=hAq e;simp[e']at this
def vT(ps:List Str)(t:Tr):Nat:=2^ixF ps t.2.1^^^2^ixF ps t.2.2
def vF(net:List Tr)(ps:List Str)(i:Nat):Nat:=match net[i]? with|some t=>vT ps t|none=>0
theorem qKv{net:List Tr}{ps:List Str}{i:Nat}{t:Tr}(h:net[i]?=some t):vF net ps i=vT ps t:=by unfold vF;rw[h]
def phi(M:Nat)(Z:Nat->Bool)(z:Nat):Bool:=xsum M λq=>z.testBit q && Z q
theorem qIo(M:Nat)(Z:Nat->Bool)(x y:Nat):phi M Z (x^^^y)=(phi M Z x ^^ phi M Z y):=by
 unfold phi;rw[<-qF8];refine qBc λj _=>?_
 rw[hAn];cases x.testBit j <;> cases y.testBit j <;> cases Z j <;> rfl
theorem qIn(M:Nat)(Z:Nat->Bool):phi M Z 0=false:=by
 unfold phi;rw[qBc (g:=λ_=>false) λj _=>by simp,qCy]
theorem qV8{M p:Nat}{Z:Nat->Bool}(h:p<M):phi M Z (2^p)=Z p:=by
 unfold phi;rw[qEu (l:=p) λj _ ne=>by rw[hB4,hDs (λz=>ne z.symm)];rfl,hB4];simp[h]
theorem qUh(M:Nat)(Z:Nat->Bool)(V:Nat->Nat):∀m y:Nat,phi M Z (bd V m y)=xsum m λj=>y.testBit j && phi M Z (V j)
 |0,y=>by show phi M Z 0=false;exact qIn M Z
 |m+1,y=>by
  show phi M Z (bd V m y^^^_)=(xsum m _ ^^ (y.testBit m && phi M Z (V m)));rw[qIo,qUh M Z V m y];cases y.testBit m
  ·simp[qIn]
  ·simp
theorem qTc{net:List Tr}{ps:List Str}(hp:∀x,qIv net x->x∈ps){i m:Nat}{K:List (Nat×Nat)}{F:List Nat}(h:EIv (vF net ps) m i K F)(hi:i<m){t:Tr}(ht:net[i]?=some t) :
  (el K (vF net ps i,2^i)).1=0↔qA4 (net.take i) t.2.1=qA4 (net.take i) t.2.2:=by
 have tm:=hAd ht;have pa:t.2.1∈ps:=hp _ ⟨t,tm,.inl rfl⟩;have pb:t.2.2∈ps:=hp _ ⟨t,tm,.inr rfl⟩;have il:i<net.length:=qA7 ht;have got:∀j,j<i->∃u,net[j]?=some u/\u∈net.take i/\u∈net:=λj hj=>by
  have jl:j<net.length:=by omega
  refine⟨net[j],hA2 jl,?_,hBl jl⟩;refine hAd (i:=j) ?_;rw[List.getElem?_take,hDw hj,hA2 jl]
 constructor
 ·intro r0;refine hCh λne=>?_
  obtain⟨a,b,c,d,_⟩:=h.run hi;have c':(el K (vF net ps i,2^i)).2^^^2^i<2^i:=Spn.lt (λx hx=>by
   obtain⟨f,hf,rfl⟩:=hAb.mp hx;exact h.kl f hf) b
  have e:(el K (vF net ps i,2^i)).1=bd (vF net ps) m ((el K (vF net ps i,2^i)).2^^^2^i)^^^vF net ps i:=by
   rw[qDo,qNt hi,<-a,qBo]
  have Zix:∀ {x:Str},x∈ps->phi ps.length (λq=>decide (qA4 (net.take i) (ps.getD q "")=qA4 (net.take i) t.2.1)) (2^ixF ps x)=decide (qA4 (net.take i) x=qA4 (net.take i) t.2.1):=λ{x} hx=>by
   obtain⟨h1,_,h3⟩:=qD8 hx;rw[qV8 h3];show decide (qA4 (net.take i) (ps.getD (ixF ps x) "")=_)=_;rw[hA8,h1];rfl
  have p0:=congrArg (phi ps.length (λq=>decide (qA4 (net.take i) (ps.getD q "")=qA4 (net.take i) t.2.1))) e;rw[r0,qIn,qIo,qUh]at p0;have z1:(xsum m λj=>((el K (vF net ps i,2^i)).2^^^2^i).testBit j && phi ps.length (λq=>decide (qA4 (net.take i) (ps.getD q "")=qA4 (net.take i) t.2.1)) (vF net ps j))=false:=by
   rw[qBc (g:=λ_=>false) λj _=>?_,qCy];by_cases hj:j<i
   ·obtain⟨u,hu,hu2,hu3⟩:=got j hj;rw[qKv hu];unfold vT;rw[qIo,Zix (hp _ ⟨u,hu3,.inl rfl⟩),Zix (hp _ ⟨u,hu3,.inr rfl⟩),qNl (net.take i) u hu2];simp
   ·rw[qFk c' (by omega)];rfl
  rw[z1,qKv ht]at p0;unfold vT at p0;rw[qIo,Zix pa,Zix pb,hDr rfl,hDs (λz=>ne z.symm)]at p0;cases p0
 ·intro e;have S:=qHz (net.take i) (λz=>∃y,y<2^i/\bd (vF net ps) m y=2^ixF ps t.2.1^^^2^ixF ps z) (λu hu=>by
   obtain⟨j,hj,ej⟩:=List.getElem_of_mem hu;have ji:j<i:=by rw[hAh]at hj;omega
   have uj:net[j]?=some u:=by
    have:(net.take i)[j]?=some u:=by rw[hA2 hj,ej]
    rw[List.getElem?_take,hDw ji]at this;exact this
   have jm:j<m:=by omega
   have b:bd (vF net ps) m (2^j)=2^ixF ps u.2.1^^^2^ixF ps u.2.2:=by rw[qNt jm,qKv uj];rfl
   have pj:2^j<2^i:=hD1 (by decide) ji;constructor
   ·rintro⟨y,hy,ey⟩;refine⟨y^^^2^j,hCm hy pj,?_⟩;rw[qDo,ey,b,<-hC1,qBo]
   ·rintro⟨y,hy,ey⟩;refine⟨y^^^2^j,hCm hy pj,?_⟩;rw[qDo,ey,b,Nat.xor_comm (2^ixF ps u.2.1),<-hC1,qBo]) t.2.1 t.2.2 e
  obtain⟨y,hy,ey⟩:=S.mp ⟨0,hDl (by decide),by rw[qFu,hD2]⟩;exact h.none hi hy (by rw[ey,qKv ht];rfl)
theorem qKb{net:List Tr}{ps:List Str}(hp:∀x,qIv net x->x∈ps){i m:Nat}{K:List (Nat×Nat)}{F:List Nat}(h:EIv (vF net ps) m i K F)(hi:i<m){t:Tr}(ht:net[i]?=some t)(hk:K.length=(qCs (net.take i)).length) :
  if (el K (vF net ps i,2^i)).1=0 then K.length=(qCs (net.take (i+1))).length else (K++[el K (vF net ps i,2^i)]).length=(qCs (net.take (i+1))).length:=by
 have e:=qTc hp h hi ht;rw[qAk ht,qEb];unfold qNw;rw[qG1];split
 ·rename_i z;rw[hDw (e.mp z)];exact hk
 ·rename_i z;rw[hDv (λw=>z (e.mpr w)),hA9,hA9,hk];rfl
def qJn:Sp:=λvs H Q _=>∃(p:Addr) (ms:List Nat) (m:Nat),vs=[.ref p]/\LsN H p ms/\ms.length<=24/\(∀x∈ms,x<2^m)/\∀r H',Ext H H'->H r=none->LsN H' r (redL ms)->Q (.ref r) H'
theorem qOl(k:List Nat)(s x:Nat):redL1 (k++[s]) x=rdL (redL1 k x) s:=by unfold redL1;rw[hC5];rfl
theorem qIh(xs:List Nat):(redL xs).length<=xs.length:=by
 refine qN4 (P:=λxs=>(redL xs).length<=xs.length) (hA3 _) (λl t ih=>?_) xs;rw[qGq,hA9];unfold qLo;split
 ·exact hAv ih (hCw _ _)
 ·rw[hA9,hA1];exact Nat.add_le_add_right ih _
def qNv(H:Hp)(p:Addr)(K:List (Nat×Nat)):Prop:=∃as:List Addr,H p=some (.lst (as.map V.ref))/\Paired (λa f=>H a=some (.tup [iV f.1,iV f.2])) as K
def qKy:Sp:=λvs H Q _=>∃(p:Addr) (net:List Tr),vs=[.ref p]/\qDp H p net/\net.length<=14/\∀(r:Addr) (F:List Nat) (K:List (Nat×Nat)) (ps:List Str) (H':Hp),Ext H H'->H r=none->LsN H' r F->qHg net ps->EIv (vF net ps) net.length net.length K F->K.length=(qCs net).length->Q (.ref r) H'
def qOi(aA:List Str)(x:Nat):List Str:=(List.range aA.length).filterMap λi=>if x.testBit i=true then aA[i]? else none
def qTy:Sp:=λvs H Q _=>∃(pn:Addr) (aA:List Str) (x:Nat),vs=[.ref pn,iV x]/\LsS H pn aA/\aA.length<=12/\∀r H',Ext H H'->H r=none->LsS H' r (qOi aA x)->Q (.ref r) H'
theorem qXn(k:List (Nat×Nat))(f v:Nat×Nat):el (k++[f]) v=el1 (el k v) f:=by unfold el;rw[hC5];rfl
section
variable{P:Program}{w:World}{K:PySem.W.Frag}{mg:Str->Option Value}{base:Heap}{f f1 f2 f3 f4:Addr}{fd fd1 fd2 fd3 fd4:FuncData}
abbrev lrN:List Str:=["_law_numbers","_law_rows","_law_number","_law_row_here","_law_lead"]
abbrev lrC:List Str:=["_law_row_here","_law_number","_law_lead"]
theorem qGg:FnScope lrN ["_law_numbers"] (qAa qLe):=fsk
theorem qWr(F:Fun K "_law_reduced" "_law_reduced" qLe f fd):v6 1 f fd ["_law_numbers"] qJn:=by
 refine F.okA qGg λcdv A outer s H vs Q E hr h=>?_
 obtain⟨p,ms,m,rfl,hp,lm,lt,q⟩:=h;refine⟨_,qAb (v0 1 qGg (qBe qA3))
  (qAb (qBs PassesOwn.never rfl (qAv (pv 0)) (v5 2 qGg)
   (qAb (qBs PassesOwn.never rfl (qAv (pv 1)) (v3 3 qGg)
    (qAd (qBb (qAl qFo (qAg qCr (qAg qCr (pv 2) (pv 3)) (qQg qJg (pv 3))) qAc (qAp _)) (qAd (v4 2 qGg (qAg qF1 (pv 2) (pv 3)))) qAu)))
   (qAd (qBb (qAl qFo (pv 2) qAc (qAp _))
    (qAb (v4 4 qGg (qAg qCr (pv 2) (qQg qJg (pv 2))))
    (qAd (v0 1 qGg (qAg qF2 (qDf (N:=lrN) (sc:=qAa qLe) (N':=lrC) (sub:=[none,some 2,some 4]) rfl rfl (CmpOk.of (by decide +kernel)) rfl (qAv (pv 1))
     (λC s H fp=>⟨qAh (i:=0) (by show lrC.Nodup;decide) rfl (Or.inl rfl),qAx,qEi (qAl qFo (qAg qCr (pv 0) (pv 2)) qAc (qAp _)) (qAg qF1 (pv 0) (pv 1)) (pv 0)⟩)) (qBe (pa1 (pv 2)))))))
    qAu))))
  (qAd (qAo (pv 1)))),?_⟩
 refine⟨hAs _,λro ro0=>?_⟩;have X0:=Ext.new ro0 (.lst []);refine⟨_,rfl,p,rfl,⟨_,SqL.of (X0 _ _ hp)⟩,?_⟩;refine qCu (xs:=ms.map iV) (λi σ H'=>∃(ro:Addr) (x2 x3 x4:Option V),σ=[some (.ref p),some (.ref ro),x2,x3,x4]/\Ext H H'/\H ro=none/\LsN H' ro (redL (ms.take i))) ⟨ro,none,none,none,rfl,X0,ro0,upd_same⟩ (λi σ H' _ h=>by obtain⟨_,_,_,_,_,e,_⟩:=h;exact SqL.of (e _ _ hp)) ?_ ?_
 ·rintro i v σ H' hx ⟨ro,x2,x3,x4,rfl,e,ro0,hk⟩;obtain⟨n,rfl,hn⟩:=qD0 hx;have hi:i<ms.length:=qA7 hn;have nl:=lt n (hAd hn);obtain⟨gm,_⟩:=qDu (m:=m) (ms.take i) λx hx=>lt x (hCc hx)
  have lr:=qIh (ms.take i);rw[hAh]at lr;have sn:redL (ms.take (i+1))=qLo (redL (ms.take i)) n:=by rw[qAk hn,qGq]
  refine⟨_,rfl,ro,rfl,⟨_,SqL.of hk⟩,?_⟩;refine qCu (xs:=(redL (ms.take i)).map iV) (λj σ H2=>H2=H'/\∃x3:Option V,σ=[some (.ref p),some (.ref ro),some (iV (redL1 ((redL (ms.take i)).take j) n)),x3,x4]) ⟨rfl,x3,rfl⟩ (λj σ H2 _ h=>by rw[h.1];exact SqL.of hk) ?_ ?_
  ·rintro j v σ H2 hx2 ⟨rfl,x3,rfl⟩;obtain⟨s,rfl,hs⟩:=qD0 hx2;have snz:=(gm s (hAd hs)).2;have st:redL1 ((redL (ms.take i)).take (j+1)) n=rdL (redL1 ((redL (ms.take i)).take j) n) s:=by rw[qAk hs,qOl]
   refine⟨_,rfl,_,rfl,_,_,rfl,rfl,_,rfl,_,rfl,_,_,rfl,rfl,rfl,_,rfl,?_⟩;have lt2:=qNg (redL1 ((redL (ms.take i)).take j) n) snz;have key:((!decide (V.int (Builtin.bitAnd (Builtin.bitAnd ((redL1 ((redL (ms.take i)).take j) n:Nat):Int) (s:Int)) (-(s:Int)))=V.int 0))=true)↔(redL1 ((redL (ms.take i)).take j) n).testBit (lo s)=true:=by
    rw[<-lt2];simp
   refine qBp (λc=>?_) (λc=>?_)
   ·refine⟨_,rfl,_,rfl,_,_,rfl,rfl,rfl,some (iV s),?_⟩;rw[st,show rdL (redL1 ((redL (ms.take i)).take j) n) s=redL1 ((redL (ms.take i)).take j) n^^^s from hDw (key.mp c),show iV (redL1 ((redL (ms.take i)).take j) n^^^s)=V.int (Builtin.bitXor ((redL1 ((redL (ms.take i)).take j) n:Nat):Int) (s:Int)) by rw[qDy]];rfl
   ·refine⟨rfl,some (iV s),?_⟩;rw[st,show rdL (redL1 ((redL (ms.take i)).take j) n) s=redL1 ((redL (ms.take i)).take j) n from hDv λz=>c (key.mpr z)];rfl
  ·rintro σ H2 ⟨rfl,x3,rfl⟩;rw[hA1,hA6 (hA3 _)];refine⟨_,rfl,rfl,_,rfl,?_⟩;refine qBp (λc=>?_) (λc=>?_)
   ·have nz:redL1 (redL (ms.take i)) n≠0:=λz=>by rw[z]at c;simp at c
    have lb:=qLv nz;refine⟨_,rfl,_,rfl,_,rfl,_,_,rfl,rfl,?_⟩;refine⟨_,rfl,ro,rfl,⟨_,SqL.of hk⟩,?_⟩;refine qAt (xs:=(redL (ms.take i)).map iV) (λj ys H3=>H3=H2/\ys=(((redL (ms.take i)).take j).map λs=>rdL s (redL1 (redL (ms.take i)) n)).map iV) ⟨rfl,rfl⟩ (λj ys H3 _ h=>by rw[h.1];exact SqL.of hk) ?_ ?_
    ·rintro j v ys H3 hx3 ⟨rfl,rfl⟩;obtain⟨s,rfl,hs⟩:=qD0 hx3;have hj:=qA7 hs;have sz:((((redL (ms.take i)).take j).map λs=>rdL s (redL1 (redL (ms.take i)) n)).map iV).length<sizeLine:=by
      rw[hA1,hA1,hAh];exact qAi (by omega)
     have ap:=qI7 s (lo (redL1 (redL (ms.take i)) n));have key:((!decide (V.int (Builtin.bitAnd (s:Int) (Builtin.bitAnd ((redL1 (redL (ms.take i)) n:Nat):Int) (-((redL1 (redL (ms.take i)) n:Nat):Int))))=V.int 0))=true)↔s.testBit (lo (redL1 (redL (ms.take i)) n))=true:=by
      rw[lb,qCx,<-ap];simp
     refine⟨sls,iteT (B:=False) ?_⟩;refine⟨_,rfl,_,rfl,_,_,rfl,rfl,rfl,_,rfl,?_⟩;refine qBp (λc3=>?_) (λc3=>?_)
     ·refine⟨_,rfl,_,rfl,_,_,rfl,rfl,sz,nxt (qA7 hx3) ⟨rfl,?_⟩⟩;rw[qAk hs,hA7,hA7,hC9,hC9,show rdL s (redL1 (redL (ms.take i)) n)=s^^^redL1 (redL (ms.take i)) n from hDw (key.mp c3),show iV (s^^^redL1 (redL (ms.take i)) n)=V.int (Builtin.bitXor (s:Int) ((redL1 (redL (ms.take i)) n:Nat):Int)) by rw[qDy]]
     ·refine⟨_,rfl,sz,nxt (qA7 hx3) ⟨rfl,?_⟩⟩;rw[qAk hs,hA7,hA7,hC9,hC9,show rdL s (redL1 (redL (ms.take i)) n)=s from hDv λz=>c3 (key.mpr z)]
    ·rintro ys H3 ⟨rfl,rfl⟩ l1 hl1;rw[hA1,hA6 (hA3 _)];have n1:=Ext.new hl1 (.lst (((redL (ms.take i)).map λs=>rdL s (redL1 (redL (ms.take i)) n)).map iV));refine⟨_,rfl,(by show 1<=sizeLine;decide),λl2 hl2=>?_⟩;have n2:=Ext.new hl2 (.lst [iV (redL1 (redL (ms.take i)) n)]);refine⟨l1,l2,_,_,rfl,rfl,n2 _ _ upd_same,upd_same,?_,λl3 hl3=>?_⟩
     ·rw[hA1,hA1];show _+1<=sizeLine;exact hB1 (qAi (by omega))
     ·refine⟨l3,_,_,_,rfl,((e.trans n1).trans n2).trans (Ext.new hl3 _),((e.trans n1).trans n2).none hl3,?_⟩;rw[sn];unfold qLo LsN;rw[hDv nz,upd_same,hA7];rfl
   ·have z:redL1 (redL (ms.take i)) n=0:=by
     have:(redL1 (redL (ms.take i)) n:Int)=0:=by simpa using c
     omega
    refine⟨ro,_,_,_,rfl,e,ro0,?_⟩;rw[sn];unfold qLo;rw[hDw z];exact hk
 ·rintro σ H' ⟨ro,x2,x3,x4,rfl,e,ro0,hk⟩;rw[hA1,hA6 (hA3 _)]at hk;exact⟨_,rfl,q ro _ e ro0 hk⟩
theorem qYw:FnScope ["_law_names_here","_law_number"] ["_law_names_here","_law_number"] (qAa qLd):=fsk
abbrev lwN:List Str:=["_law_k","_law_name","_law_number"]
theorem qWq(F:Fun K "_law_row" "_law_row" qLd f fd)(me:mg "enumerate"=none):v6 1 f fd ["_law_names_here","_law_number"] qTy:=by
 refine F.okA qYw λcdv A outer s H vs Q E hr h=>?_
 obtain⟨pn,aA,x,rfl,hn,ln,q⟩:=h;refine⟨_,qAd (qAo (qDf (N:=["_law_names_here","_law_number"]) (sc:=qAa qLd) (N':=lwN) (sub:=[none,none,some 1]) rfl rfl (CmpOk.of (by decide +kernel)) rfl (qIm rfl me (pa1 (pv 0)))
   (λC s H fp=>⟨(show PG _ _ (qUr K 2 _) from qCa rfl (qAr (qAh (i:=0) (by show lwN.Nodup;decide) rfl (Or.inl rfl)) (qAr (qAh (i:=1) (by show lwN.Nodup;decide) rfl (Or.inl rfl)) qBj))),
    qD5 (qAl qC7 (qAg qCr (qAg qHu (pv 2) (pv 0)) qAc) qAc (qAp _)),pv 1⟩))),?_⟩
 refine⟨_,rfl,pn,_,rfl,SqL.of hn,?_⟩;rw[hA1];refine qEw (λi ys H'=>Ext H H'/\ys=((List.range i).filterMap λi=>if x.testBit i=true then aA[i]? else none).map V.str) ⟨Ext.refl _,rfl⟩ (λi ys H' _ p=>SqL.of (p.1 _ _ hn)) ?_ ?_
 ·rintro i ys H' T hi ⟨e,rfl⟩ hT;have gd:(aA.map V.str).getD i .non = .str aA[i]:=by rw[hA8,hAj,hA2 hi];rfl
  have e2:=e.trans (Ext.new hT (.tup [V.int (i:Nat),(aA.map V.str).getD i .non]));refine⟨T,_,rfl,SqT.of upd_same,rfl,_,_,rfl,_,_,rfl,rfl,?_⟩;refine⟨Sle.set _ (sls) (λu z=>by cases z),?_⟩;refine⟨_,rfl,_,rfl,_,_,rfl,rfl,(by show(0:Int)<=_;omega),_,_,rfl,rfl,rfl,_,rfl,?_⟩;have fm:((List.range (i+1)).filterMap λi=>if x.testBit i=true then aA[i]? else none)=((List.range i).filterMap λi=>if x.testBit i=true then aA[i]? else none)++(if x.testBit i=true then [aA[i]] else []):=by
   rw[hCi,hCx];congr 1;by_cases b:x.testBit i=true
   ·simp[b,hA2 hi]
   ·simp[b]
  have sz:=hC4 (λi=>if x.testBit i=true then aA[i]? else none) (List.range i);rw[hBq]at sz;have key:(decide (V.int (Builtin.bitAnd ((x:Int) / 2^(((i:Nat):Int)).toNat) 1)=V.int 1)=true)↔x.testBit i=true:=by
   rw[hE0,V.int.injEq,hBa,qGf];by_cases b:x.testBit i=true
   ·simp[b]
   ·simp[b]
  refine qBp (λc=>?_) (λc=>?_)
  ·have b:=key.mp c;refine⟨_,rfl,by rw[hA1];exact qAi (by omega),nxt hi ⟨e2,?_⟩⟩;rw[fm,hDw b,hA7,gd];rfl
  ·have b:¬x.testBit i=true:=λz=>c (key.mpr z)
   refine nxt hi ⟨e2,?_⟩;rw[fm,hDv b,hC7]
 ·rintro ys H' ⟨e,rfl⟩ r hr';exact q r _ (e.trans (Ext.new hr' _)) (e.none hr') upd_same
end
theorem qNv.ext{H H':Hp}{p:Addr}{K:List (Nat×Nat)}(h:qNv H p K)(e:Ext H H'):qNv H' p K:=by
 obtain⟨as,h1,h2⟩:=h;exact⟨as,e _ _ h1,Paired.mapP h2 λa t z=>e _ _ z⟩
section
variable{P:Program}{w:World}{K:PySem.W.Frag}{mg:Str->Option Value}{base:Heap}{f f1 f2 f3 f4:Addr}{fd fd1 fd2 fd3 fd4:FuncData}
abbrev leN:List Str:=["_law_net_here","_law_knots","_law_kept","_law_found","_law_place","_law_tie","_law_ends_here","_law_mine","_law_far","_law_more"]
theorem qCo:FnScope leN ["_law_net_here"] (qAa qFz):=fsk
theorem qSs(F:Fun K "_law_even" "_law_even" qFz f fd)(mso:mg "sorted"=none)(mst:mg "set"=none)(me:mg "enumerate"=none):v6 1 f fd ["_law_net_here"] qKy:=by
 refine F.okA qCo λcdv A outer s H vs Q E hr h=>?_
 obtain⟨p,net,rfl,⟨as,hp,pr⟩,hl,q⟩:=h;refine⟨_,qAb (qE2 (λσ H1=>∃(kn:Addr) (ps:List Str),σ=[some (.ref p),some (.ref kn),none,none,none,none,none,none,none,none]/\Ext H H1/\LsS H1 kn ps/\qHg net ps/\ps.length<=28) (v0 1 qCo (qAf (qCj rfl) rfl mso qBv (pa1 (qBd (qG6 rfl) rfl mst qG8 (pa1 (qAg qF2
  (qB3 (N:=leN) (sc:=qAa qFz) (N':=["_law_tie"]) (sub:=[none]) (qAv (pv 0)) (λC s H fp=>⟨qAx,qBm (show IxR _ (qUc K) from qCb) (pv 0) qAc (λ_ _=>rfl)⟩))
  (qB3 (N:=leN) (sc:=qAa qFz) (N':=["_law_tie"]) (sub:=[none]) (qAv (pv 0)) (λC s H fp=>⟨qAx,qBm (show IxR _ (qUc K) from qCb) (pv 0) qAc (λ_ _=>rfl)⟩)))))))))
  (qAb (v0 2 qCo (qBe qA3))
  (qAb (v0 3 qCo (qBe qA3))
  (qAb (qBs PassesOwn.never rfl (qIm rfl me (pa1 (pv 0))) (qCa rfl (qAr (v3 4 qCo) (qAr (v3 5 qCo) qBj)))
   (qAb (v0 6 qCo (qAg qF1 (qAg qDb qAc (qB8 hAy PySem.F.slot_list_index PySem.F.type_list_index qIs (pv 1) (pa1 (qBm qCb (pv 5) qAc (λ_ _=>rfl))))) (qAg qDb qAc (qB8 hAy PySem.F.slot_list_index PySem.F.type_list_index qIs (pv 1) (pa1 (qBm qCb (pv 5) qAc (λ_ _=>rfl)))))))
   (qAb (v0 7 qCo (qAg qDb qAc (pv 4)))
   (qAb (qBs PassesOwn.never rfl (qAv (pv 2)) (qCa rfl (qAr (v3 8 qCo) (qAr (v3 9 qCo) qBj)))
    (qAd (qBb (qAl qFo (qAg qCr (qAg qCr (pv 6) (pv 8)) (qQg qJg (pv 8))) qAc (qAp _))
     (qAb (v0 6 qCo (qAg qF1 (pv 6) (pv 8)))
     (qAd (v0 7 qCo (qAg qF1 (pv 7) (pv 9))))) qAu)))
   (qAd (qBb (qAl qC7 (pv 6) qAc (qAp _))
    (qAd (qC3 (qB8 hAy hBb hBc qB1 (pv 3) (pa1 (pv 7)))))
    (qAd (qC3 (qB8 hAy hBb hBc qB1 (pv 2) (pa1 (qB2 (qAe (pv 6) (pa1 (pv 7))))))))))))))
  (qAd (qAo (pv 3)))))),?_⟩
 refine⟨?_,?_⟩
 ·refine⟨_,rfl,p,rfl,⟨_,SqL.of hp⟩,?_⟩;refine qEx (λt=>t.2.1) hp pr (by omega) (λa t ha C B c=>⟨sls,?_⟩) ?_
  ·exact iteT (B:=B H) ⟨_,rfl,a,_,_,_,rfl,rfl,SqT.of ha,(by exact qA5 (j:=1) rfl),c⟩
  intro l1 hl1;have n1:=Ext.new hl1 (.lst ((net.map λt=>t.2.1).map V.str));refine⟨_,rfl,p,rfl,⟨_,SqL.of (n1 _ _ hp)⟩,?_⟩;refine qEx (λt=>t.2.2) (n1 _ _ hp) (Paired.mapP pr λa t z=>n1 _ _ z) (by omega) (λa t ha C B c=>⟨sls,?_⟩) ?_
  ·exact iteT (B:=B (upd H l1 (.lst ((net.map λt=>t.2.1).map V.str)))) ⟨_,rfl,a,_,_,_,rfl,rfl,SqT.of ha,(by exact qA5 (j:=2) rfl),c⟩
  intro l2 hl2;have n2:=n1.trans (Ext.new hl2 (.lst ((net.map λt=>t.2.2).map V.str)));refine⟨l1,l2,_,_,rfl,rfl,(Ext.new hl2 _) _ _ upd_same,upd_same,?_,λl3 hl3=>?_⟩
  ·simp only[hA1];exact hB1 (qAi (by omega))
  have n3:=n2.trans (Ext.new hl3 (.lst ((net.map λt=>t.2.1).map V.str++(net.map λt=>t.2.2).map V.str)));refine⟨l3,(net.map λt=>t.2.1)++(net.map λt=>t.2.2),rfl,SqL.of (by rw[upd_same,hA7]),?_,λr1 ss hr1 nd ln mem=>?_⟩
  ·simp only[hA9,hA1];omega
  simp only[hA9,hA1]at ln;refine⟨r1,ss,rfl,upd_same,by omega,λkn ps hkn pm srt=>?_⟩;have E1:=(n3.trans (Ext.new hr1 _)).trans (Ext.new hkn (.lst (ps.map V.str)));have pok:qHg net ps:=⟨pm.nodup_iff.mpr nd,λx=>by
   rw[pm.mem_iff,mem,hAf,hAb,hAb];unfold qIv;constructor
   ·rintro(⟨t,ht,rfl⟩|⟨t,ht,rfl⟩)
    ·exact⟨t,ht,.inl rfl⟩
    ·exact⟨t,ht,.inr rfl⟩
   ·rintro⟨t,ht,rfl|rfl⟩
    ·exact .inl ⟨t,ht,rfl⟩
    ·exact .inr ⟨t,ht,rfl⟩⟩
  have lps:ps.length<=28:=by rw[pm.length_eq];omega
  exact⟨kn,ps,rfl,E1,upd_same,pok,lps⟩
 rintro σ H1 ⟨kn,ps,rfl,E1,hk1,pok,lps⟩;refine⟨hAs _,λke ke1=>?_⟩;have Xk:=Ext.new ke1 (.lst []);refine⟨hAs _,λfo fo1=>?_⟩;have Xf:=Xk.trans (Ext.new fo1 (.lst []));have ke0:=E1.none ke1;have fo0:=E1.none (Xk.none fo1);have kefo:ke≠fo:=qAw (upd_same:upd H1 ke (.lst []) ke=_) fo1;have lA:as.length=net.length:=pr.length;have hpx:∀x,qIv net x->x∈ps:=λx hx=>(pok.2 x).mpr hx
 refine⟨_,rfl,p,_,rfl,SqL.of (Xf _ _ (E1 _ _ hp)),?_⟩;rw[hA1,lA];refine qKa (λi σ H2=>∃(Kp:List (Nat×Nat)) (Fd:List Nat) (x4 x5 x6 x7 x8 x9:Option V),σ=[some (.ref p),some (.ref kn),some (.ref ke),some (.ref fo),x4,x5,x6,x7,x8,x9]/\Ext H1 H2/\qNv H2 ke Kp/\LsN H2 fo Fd/\EIv (vF net ps) net.length i Kp Fd/\Kp.length=(qCs (net.take i)).length)
  ⟨[],[],none,none,none,none,none,none,rfl,Xf,⟨[],(Ext.new fo1 _) _ _ upd_same,.nil⟩,upd_same,EIv.start _ _,rfl⟩ ?_ ?_ ?_
 ·rintro i σ H2 _ ⟨Kp,Fd,x4,x5,x6,x7,x8,x9,_,e2,_⟩;exact SqL.of ((E1.trans e2) _ _ hp)
 ·rintro i σ H2 T hi ⟨Kp,Fd,x4,x5,x6,x7,x8,x9,rfl,e2,kp,fd,ei,kw⟩ hT;have hia:i<as.length:=by omega
  have g2:(as.map V.ref).getD i .non = .ref as[i]:=by rw[hA8,hAj,hA2 hia];rfl
  obtain⟨t,ht,hta⟩:=qA8 pr (hA2 hia);dsimp only;rw[g2];have Y1:=Ext.new hT (.tup [V.int (i:Nat),V.ref as[i]]);have E2:=(E1.trans e2).trans Y1;obtain⟨a1,a2,a3⟩:=qD8 (hpx t.2.1 ⟨t,hAd ht,.inl rfl⟩);obtain⟨b1,b2,b3⟩:=qD8 (hpx t.2.2 ⟨t,hAd ht,.inr rfl⟩);have hk2:=(e2.trans Y1) _ _ hk1;refine⟨T,_,rfl,SqT.of upd_same,rfl,_,_,rfl,_,_,rfl,rfl,?_⟩;refine⟨_,rfl,.inl ⟨rfl,_,SqL.of hk2⟩,_,rfl,as[i],_,_,_,rfl,rfl,SqT.of (E2 _ _ hta),(by exact qA5 (j:=1) rfl),kn,ps,t.2.1,ixF ps t.2.1,rfl,rfl,hk2,a1,a2,by omega,_,_,rfl,rfl,⟨by omega,by omega,by decide⟩,?_⟩;refine⟨_,rfl,.inl ⟨rfl,_,SqL.of hk2⟩,_,rfl,as[i],_,_,_,rfl,rfl,SqT.of (E2 _ _ hta),(by exact qA5 (j:=2) rfl),kn,ps,t.2.2,ixF ps t.2.2,rfl,rfl,hk2,b1,b2,by omega,_,_,rfl,rfl,⟨by omega,by omega,by decide⟩,_,_,rfl,rfl,?_⟩;have vv:(λi j:Int=>V.int (Builtin.bitXor i j)) (1*2^(((ixF ps t.2.1:Nat):Int)).toNat) (1*2^(((ixF ps t.2.2:Nat):Int)).toNat)=iV (vF net ps i):=by
   show V.int (Builtin.bitXor _ _)=_;rw[qCc,qCc,qDy,qKv ht];rfl
  rw[vv];refine⟨_,rfl,_,_,rfl,rfl,⟨by omega,by omega,by decide⟩,?_⟩;have wv:(λi j:Int=>V.int (i*2^j.toNat)) 1 ((i:Nat):Int)=iV (2^i):=by
   show V.int (1*2^_)=_;rw[qCc]
  rw[wv];obtain⟨ks,hks,pks⟩:=kp.ext Y1;have lk:ks.length=Kp.length:=pks.length;have lKp:Kp.length<=14:=by have:=ei.len;omega
  refine⟨_,rfl,ke,rfl,⟨_,SqL.of hks⟩,?_⟩;refine qCu (xs:=ks.map V.ref) (λj σ H3=>H3=upd H2 T (.tup [V.int (i:Nat),V.ref as[i]])/\∃(x8 x9:Option V),σ=[some (.ref p),some (.ref kn),some (.ref ke),some (.ref fo),some (.int (i:Nat)),some (.ref as[i]),some (iV (el (Kp.take j) (vF net ps i,2^i)).1),some (iV (el (Kp.take j) (vF net ps i,2^i)).2),x8,x9])
   ⟨rfl,x8,x9,rfl⟩ (λj σ H3 _ h=>by rw[h.1];exact SqL.of hks) ?_ ?_
  ·rintro j v σ H3 hx3 ⟨rfl,x8,x9,rfl⟩;obtain⟨c,rfl,hc⟩:=qD4 hx3;obtain⟨g,hg,hcg⟩:=qA8 pks hc;have gnz:=(ei.k1 g (hAd hg)).1;have st:el (Kp.take (j+1)) (vF net ps i,2^i)=el1 (el (Kp.take j) (vF net ps i,2^i)) g:=by rw[qAk hg,qXn]
   refine⟨c,_,rfl,SqT.of hcg,rfl,_,_,rfl,_,_,rfl,rfl,?_⟩;refine⟨_,rfl,_,rfl,_,_,rfl,rfl,_,rfl,_,rfl,_,_,rfl,rfl,rfl,_,rfl,?_⟩;rw[st];generalize el (Kp.take j) (vF net ps i,2^i)=ev;have lt2:=qNg ev.1 gnz;have key:((!decide (V.int (Builtin.bitAnd (Builtin.bitAnd ((ev.1:Nat):Int) ((g.1:Nat):Int)) (-((g.1:Nat):Int)))=V.int 0))=true)↔ev.1.testBit (lo g.1)=true:=by
    rw[<-lt2];simp
   refine qBp (λc2=>?_) (λc2=>?_)
   ·refine⟨_,rfl,_,rfl,_,_,rfl,rfl,_,rfl,_,rfl,_,_,rfl,rfl,rfl,some (iV g.1),some (iV g.2),?_⟩;rw[show el1 ev g=(ev.1^^^g.1,ev.2^^^g.2) from hDw (key.mp c2),show iV (ev.1^^^g.1,ev.2^^^g.2).1=V.int (Builtin.bitXor ((ev.1:Nat):Int) ((g.1:Nat):Int)) by rw[qDy],show iV (ev.1^^^g.1,ev.2^^^g.2).2=V.int (Builtin.bitXor ((ev.2:Nat):Int) ((g.2:Nat):Int)) by rw[qDy]];rfl
   ·refine⟨rfl,some (iV g.1),some (iV g.2),?_⟩;rw[show el1 ev g=ev from hDv λz=>c2 (key.mpr z)];rfl
  ·rintro σ H3 ⟨rfl,x8,x9,rfl⟩;rw[hA1,lk,hA6 (hA3 _)];have nx:=ei.next hi;have wd:=qKb hpx ei hi ht kw;have fd3:=Y1 _ _ fd;have lF:Fd.length<=14:=by have:=ei.len;omega
   revert nx wd;generalize el Kp (vF net ps i,2^i)=ev;intro nx wd;refine⟨_,rfl,rfl,_,rfl,?_⟩;refine qBp (λc2=>?_) (λc2=>?_)
   ·have z:ev.1=0:=by
     have:((ev.1:Nat):Int)=0:=by simpa using c2
     omega
    rw[hDw z]at nx wd;refine⟨_,rfl,.inl ⟨rfl,_,SqL.of fd3⟩,_,rfl,fo,_,_,rfl,rfl,fd3,by rw[hA1];exact qAi (by omega),?_⟩;refine⟨Kp,Fd++[ev.2],_,_,_,_,_,_,rfl,(e2.trans Y1).over (Xk.none fo1) _,⟨ks,by rw[qAs kefo];exact hks,Paired.mapP pks λa u z=>?_⟩,?_,nx,wd⟩
    ·have ne:a≠fo:=λw=>by
      rw[w]at z;have f3:upd H2 T (.tup [V.int (i:Nat),V.ref as[i]]) fo=some (.lst (Fd.map iV)):=fd3;rw[f3]at z;cases z
     rw[qAs ne];exact z
    ·unfold LsN;rw[upd_same,hA7];rfl
   ·have z:¬ev.1=0:=λw=>c2 (by rw[w];rfl)
    rw[hDv z]at nx wd;refine⟨_,rfl,.inl ⟨rfl,_,SqL.of hks⟩,_,rfl,_,rfl,(by show 2<=sizeLine;decide),λT2 hT2=>?_⟩;have Y2:=Ext.new hT2 (.tup [iV ev.1,iV ev.2]);refine⟨ke,_,_,rfl,rfl,Y2 _ _ hks,by rw[hA1];exact qAi (by omega),?_⟩;refine⟨Kp++[ev],Fd,_,_,_,_,_,_,rfl,((e2.trans Y1).trans Y2).over ke1 _,⟨ks++[T2],by rw[upd_same,hA7];rfl,Paired.snoc (Paired.mapP pks λa u z=>?_) ?_⟩,?_,nx,wd⟩
    ·have z':=Y2 _ _ z;have ne:a≠ke:=λw=>by rw[w,Y2 _ _ hks]at z';cases z'
     rw[qAs ne];exact z'
    ·have ne:T2≠ke:=λw=>by rw[w,hks]at hT2;cases hT2
     rw[qAs ne,upd_same]
    ·unfold LsN;rw[qAs (Ne.symm kefo)];exact Y2 _ _ fd3
 ·rintro σ H2 ⟨Kp,Fd,x4,x5,x6,x7,x8,x9,rfl,e2,kp,fd,ei,kw⟩;rw[hA6 (hA3 _)]at kw;exact⟨_,rfl,q fo Fd Kp ps _ (E1.trans e2) fo0 fd pok ei kw⟩
end
abbrev nmS(net:List Tr):List Str:=net.map λt=>t.1
theorem zBb{net:List Tr}{i:Nat}{t:Tr}(h:net[i]?=some t):(nmS net)[i]?=some t.1:=by rw[hAj,h];rfl
theorem qZo{net:List Tr}(nd:(nmS net).Nodup){t u:Tr}(ht:t∈net)(hu:u∈net)(e:t.1=u.1):t=u:=by
 induction net with
 |nil=>cases ht
 |cons v r ih =>
  have nd':(v.1 :: nmS r).Nodup:=nd;obtain⟨n1,n2⟩:=hBo.mp nd';rcases hAc.mp ht with a|a <;> rcases hAc.mp hu with b|b
  ·rw[a,b]
  ·subst a;exact absurd (hAb.mpr ⟨u,b,e.symm⟩) n1
  ·subst b;exact absurd (hAb.mpr ⟨t,a,e⟩) n1
  ·exact ih n2 a b
theorem qXa{net:List Tr}(nd:(nmS net).Nodup){t:Tr}(ht:t∈net)(x:Str):t.1∈metF net x↔(decide (t.2.1=x) != decide (t.2.2=x))=true:=by
 unfold metF;rw[hAb];constructor
 ·rintro⟨u,hu,e⟩;obtain⟨h1,h2⟩:=hB7.mp hu;rw[<-qZo nd h1 ht e];exact h2
 ·intro h;exact⟨t,hB7.mpr ⟨ht,h⟩,rfl⟩
theorem bx:∀a b:Bool,decide ((a != b)=true)=(a ^^ b):=λa b=>by cases a <;> cases b <;> rfl
theorem qNm{α β:Type}{f g:α->Option β}:∀ {l:List α},(∀i∈l,f i=g i)->l.filterMap f=l.filterMap g
 |[],_=>rfl
 |a :: l,h=>by rw[hCf,hCf,h a hA5,qNm λi hi=>h i (hA4 _ hi)]
def gT(net:List Tr)(g:Tr->Bool)(i:Nat):Bool:=match net[i]? with|some t=>g t|none=>false
def atX(x:Str)(t:Tr):Bool:=decide (t.2.1=x) ^^ decide (t.2.2=x)
theorem qYp{net:List Tr}(nd:(nmS net).Nodup)(x:Str){j:Nat}(hj:j<net.length):(maskF (nmS net) (metF net x)).testBit j=gT net (atX x) (net.length-1-j):=by
 rw[qE6,hA1,hDr hj,hCa];have hi:net.length-1-j<net.length:=by omega
 have ht:=hA2 hi;unfold gT;rw[zBb ht,ht];have e:(∃n,some net[net.length-1-j].1=some n/\n∈metF net x)↔net[net.length-1-j].1∈metF net x:=⟨λ⟨n,h1,h2⟩=>by cases h1;exact h2,λh=>⟨_,rfl,h⟩⟩;exact(decide_eq_decide.mpr (e.trans (qXa nd (hBl hi) x))).trans (bx _ _)
theorem qZ8{net:List Tr}(nd:(nmS net).Nodup)(x:Str)(z:Nat):dot net.length z (maskF (nmS net) (metF net x))=xsum net.length λi=>z.testBit (net.length-1-i) && gT net (atX x) i:=by
 unfold dot;rw[<-qL9 (λi=>z.testBit (net.length-1-i) && gT net (atX x) i)];refine qBc λj hj=>?_
 rw[qYp nd x hj,show net.length-1-(net.length-1-j)=j by omega]
theorem qUe{ps:List Str}{x y:Str}(hx:x∈ps)(hy:y∈ps):(2^ixF ps x).testBit (ixF ps y)=decide (x=y):=by
 rw[hB4];refine decide_eq_decide.mpr ⟨λe=>?_,λe=>by rw[e]⟩;have h1:=(qD8 hx).1;have h2:=(qD8 hy).1;rw[e,h2]at h1;exact(hAq h1).symm
theorem zBn{net:List Tr}{ps:List Str}(hp:∀x,qIv net x->x∈ps){x:Str}(hx:x∈ps)(y:Nat):(bd (vF net ps) net.length y).testBit (ixF ps x)=xsum net.length λi=>y.testBit i && gT net (atX x) i:=by
 rw[qNu];refine qBc λi hi=>?_
 have ht:=hA2 hi;rw[qKv ht];unfold gT vT atX;rw[ht,hAn,qUe (hp _ ⟨_,hBl hi,.inl rfl⟩) hx,qUe (hp _ ⟨_,hBl hi,.inr rfl⟩) hx]
theorem qL6{net:List Tr}{ps:List Str}(hp:∀x,qIv net x->x∈ps)(y:Nat):bd (vF net ps) net.length y=0↔∀x∈ps,(bd (vF net ps) net.length y).testBit (ixF ps x)=false:=by
 constructor
 ·intro e x _;rw[e];simp
 ·intro h;refine hB6 λq=>?_
  rw[Nat.zero_testBit];by_cases c:∃x∈ps,ixF ps x=q
  ·obtain⟨x,hx,rfl⟩:=c;exact h x hx
  ·rw[qNu,qBc (g:=λ_=>false) λi hi=>?_,qCy];have ht:=hA2 hi;rw[qKv ht];unfold vT;rw[hAn,hB4,hB4,hDs λz=>c ⟨_,hp _ ⟨_,hBl hi,.inl rfl⟩,z⟩,hDs λz=>c ⟨_,hp _ ⟨_,hBl hi,.inr rfl⟩,z⟩];simp
theorem zCw{net:List Tr}{ps ps':List Str}(nd:(nmS net).Nodup)(pk:qHg net ps)(pk':qHg net ps'){z:Nat}(hz:z<2^net.length):(∀x∈ps,dot net.length z (maskF (nmS net) (metF net x))=false)↔bd (vF net ps') net.length (rv net.length z)=0:=by
 have hp:∀x,qIv net x->x∈ps':=λx hx=>(pk'.2 x).mpr hx
 rw[qL6 hp];have e:∀x∈ps',dot net.length z (maskF (nmS net) (metF net x))=(bd (vF net ps') net.length (rv net.length z)).testBit (ixF ps' x):=λx hx=>by
  rw[qZ8 nd,zBn hp hx];refine qBc λi hi=>?_
  rw[qDa,hDr hi,hCa]
 constructor
 ·intro h x hx;rw[<-e x hx];exact h x ((pk.2 x).mpr ((pk'.2 x).mp hx))
 ·intro h x hx;have hx':=(pk'.2 x).mpr ((pk.2 x).mp hx);rw[e x hx'];exact h x hx'
theorem qO8{m:Nat}{F:List Nat}(hF:∀x∈F,x<2^m)(z:Nat):Spn (F.map (rv m)) z↔z<2^m/\Spn F (rv m z):=by
 constructor
 ·intro h;refine⟨Spn.lt (λx hx=>?_) h,?_⟩
  ·obtain⟨y,_,rfl⟩:=hAb.mp hx;exact qVu m y
  ·induction h with
   |zero=>rw[qGo];exact .zero
   |add hm _ ih =>
    obtain⟨y,hy,rfl⟩:=hAb.mp hm;rw[qPz,qVt (hF y hy)];exact .add hy ih
 ·rintro⟨hz,h⟩;rw[<-qVt hz];generalize rv m z=y at h
  induction h with
  |zero=>rw[qGo];exact .zero
  |add hm _ ih=>rw[qPz];exact .add (hB3 hm) ih
theorem qVw{aA:List Str}(x:Nat):rowM aA (rv aA.length x)=qOi aA x:=by
 unfold rowM qOi;have:∀i∈List.range aA.length,(if (rv aA.length x).testBit (aA.length-1-i)=true then aA[i]? else none)=(if x.testBit i=true then aA[i]? else none):=λi hi=>by
  have hi':=hB9.mp hi;rw[qDa,hDr (by omega),hCa,show aA.length-1-(aA.length-1-i)=i by omega]
 exact qNm this
theorem qSa{l:List Str}(h:qHf l){i j:Nat}{a b:Str}(hij:i<j)(ha:l[i]?=some a)(hb:l[j]?=some b):qMs a b=true:=by
 obtain⟨hi,rfl⟩:=hAi.mp ha;obtain⟨hj,rfl⟩:=hAi.mp hb;exact(List.pairwise_iff_getElem.mp h) i j hi hj hij
structure Made(net:List Tr)(ps ps':List Str)(S M:List Nat)(K:List (Nat×Nat))(F:List Nat):Prop where
 rs:qHf (nmS net)
 pk:qHg net ps
 pk':qHg net ps'
 pS:S.Perm (red (ps.map λx=>maskF (nmS net) (metF net x)))
 pM:M.Perm (red (qFc S net.length))
 dM:M.Pairwise λa b=>b<=a
 ei:EIv (vF net ps') net.length net.length K F
 kw:K.length=(qCs net).length
theorem qP6{l:List Str}(h:qHf l):l.Nodup:=List.Pairwise.imp (λ{a b} z e=>by rw[e,qF9]at z;cases z) h
section
variable{net:List Tr}{ps ps':List Str}{S M:List Nat}{K:List (Nat×Nat)}{F:List Nat}
theorem Made.rrS(h:Made net ps ps' S M K F):RR S:=(qDh _).perm h.pS
theorem Made.ltS(h:Made net ps ps' S M K F):∀s∈S,s<2^net.length:=λs hs=>by
 have:=qT9 (xs:=ps.map λx=>maskF (nmS net) (metF net x)) (m:=net.length) (λy hy=>by
  obtain⟨x,_,rfl⟩:=hAb.mp hy;have:=qNd (nmS net) (metF net x);rw[hA1]at this;exact this) s (h.pS.mem_iff.mp hs)
 exact this
theorem Made.spM(h:Made net ps ps' S M K F)(z:Nat):Spn (red (qFc S net.length)) z↔z<2^net.length/\∀x∈ps,dot net.length z (maskF (nmS net) (metF net x))=false:=by
 rw[qDt,qZ9 h.rrS h.ltS];refine and_congr_right λ_=>⟨λa x hx=>?_,λa s hs=>?_⟩
 ·have:Spn (red (ps.map λx=>maskF (nmS net) (metF net x))) (maskF (nmS net) (metF net x)):=(qDt _ _).mpr (.mem (hB3 (f:=λx=>maskF (nmS net) (metF net x)) hx));exact qO9 (λs hs=>a s (h.pS.mem_iff.mpr hs)) this
 ·have:=(qDt _ _).mp (Spn.mem (h.pS.mem_iff.mp hs));exact qO9 (λy hy=>by
   obtain⟨x,hx,rfl⟩:=hAb.mp hy;exact a x hx) this
theorem Made.fl(h:Made net ps ps' S M K F):∀x∈F,x<2^net.length:=λx hx=>(h.ei.f1 x hx).1
theorem Made.perm(h:Made net ps ps' S M K F):M.Perm ((redL F).map (rv net.length)):=by
 obtain⟨_,e⟩:=qDu (m:=net.length) F h.fl;rw[e];refine h.pM.trans ?_;have sp:∀z,Spn (red (qFc S net.length)) z↔Spn (red (F.map (rv net.length))) z:=λz=>by
  rw[h.spM,qDt,qO8 h.fl];refine and_congr_right λhz=>?_
  rw[zCw (qP6 h.rs) h.pk h.pk' hz,h.ei.done];exact⟨λa=>⟨qVu _ _,a⟩,λa=>a.2⟩
 have r1:=qDh (qFc S net.length);have r2:=qDh (F.map (rv net.length));exact(hCe r1.nd r2.nd).mpr λz=>⟨qFm r1 r2 sp z,qFm r2 r1 (λy=>(sp y).symm) z⟩
theorem Made.rrM(h:Made net ps ps' S M K F):RR M:=(qDh _).perm h.pM
theorem Made.ltM(h:Made net ps ps' S M K F):∀z∈M,z<2^(nmS net).length:=λz hz=>by
 rw[hA1];exact((h.spM z).mp (.mem (h.pM.mem_iff.mp hz))).1
theorem Made.len(h:Made net ps ps' S M K F):M.length+(qCs net).length=net.length:=by
 have f:Fsh (F.map (rv net.length)):=λi x hx=>by
  rw[hAj]at hx;cases e:F[i]? with
  |none=>rw[e]at hx;cases hx
  |some y =>
   rw[e]at hx;obtain rfl:rv net.length y=x:=hAq hx;obtain⟨j,h1,h2⟩:=h.ei.fsh i y e;have yl:=h.fl y (hAd e);have jl:j<net.length:=by
    rcases hDp j net.length with z|z
    ·exact z
    ·rw[qFk yl z]at h1;cases h1
   have sw:∀v,(rv net.length v).testBit (net.length-1-j)=v.testBit j:=λv=>by rw[qDa,hDr (by omega),hCa,show net.length-1-(net.length-1-j)=j by omega]
   refine⟨net.length-1-j,by rw[sw];exact h1,λv hv=>?_⟩;rw[<-hDg]at hv;obtain⟨u,hu,rfl⟩:=hAb.mp hv;rw[sw];exact h2 u hu
 have e1:=h.perm.length_eq;rw[hA1]at e1;obtain⟨_,e⟩:=qDu (m:=net.length) F h.fl;have e2:=congrArg List.length e;rw[hA1,qVx _ f,hA1]at e2;have e3:=h.ei.len;have e4:=h.kw;omega
end
theorem qZ4{α:Type}{p:α->Bool}{l:List α}{i:Nat}{t:α}(h:l[i]?=some t)(c:p t=true):(l.take (i+1)).filter p=(l.take i).filter p++[t]:=by rw[qAk h,hCb];simp[c]
theorem qZ5{α:Type}{p:α->Bool}{l:List α}{i:Nat}{t:α}(h:l[i]?=some t)(c:p t=false):(l.take (i+1)).filter p=(l.take i).filter p:=by rw[qAk h,hCb];simp[c]
theorem qKc:∀a b:List (List Str),PyData.eqvAll (a.map qFn) (b.map qFn)=decide (a=b)
 |[],[]=>rfl
 |[],_ :: _=>rfl
 |_ :: _,[]=>rfl
 |x :: a,y :: b=>by
  show(PyData.eqv (qFn x) (qFn y) && PyData.eqvAll (a.map qFn) (b.map qFn))=_;rw[qKc a b,qG3];by_cases e:x=y
  ·subst e;simp
  ·simp[e]
theorem qTd(a b:List (List Str)):PyData.eqv (qOh a) (qOh b)=decide (a=b):=qKc a b
theorem qNh:∀ {F:List (List Str)},(∀r∈F,SOk r)->PyData.canLayAll0 (F.map qFn)=true/\PyData.depthAll (F.map qFn)<=1
 |[],_=>⟨rfl,by decide⟩
 |x :: r,h=>by
  obtain⟨h1,h2⟩:=qNh (F:=r) λy hy=>h y (hA4 _ hy)
  obtain⟨h3,h4⟩:=qE9 (h x hA5);refine⟨?_,?_⟩
  ·show(PyData.canLayAll0 (x.map .str) && PyData.canLayAll0 (r.map qFn))=true;rw[h1,h3];rfl
  ·show max (PyData.depthAll (x.map .str)+1) (PyData.depthAll (r.map qFn))<=1;rw[h4];omega
theorem qNo{K:PySem.W.Frag}{H:Hp}:∀ {as:List Addr} {F:List (List Str)},Paired (LsS H) as F->DRs K H (as.map V.ref) (F.map qFn)
 |_,_,.nil=>.nil
 |_,_,.cons h t=>.cons (qEp h) (qNo t)
theorem qRf{K:PySem.W.Frag}{H:Hp}{p:Addr}{F:List (List Str)}(h:qF5 H p F):DR K H (.ref p) (qOh F):=by
 obtain⟨as,h1,h2⟩:=h;exact .lst (SqL.of h1) (qNo h2)
def qXv(aA:List Str)(rows:List (List Str)):PyData:=.tuple [qFn aA,qOh rows]
theorem qXm(aA:List Str)(rows:List (List Str)):PyData.eqv (qXv aA rows) (qXv aA rows)=true:=by
 show(PyData.eqv (qFn aA) (qFn aA) && (PyData.eqv (qOh rows) (qOh rows) && true))=true;rw[qG3,qTd,hDr rfl,hDr rfl];rfl
theorem qN5{aA:List Str}{rows:List (List Str)}(h1:SOk aA)(h2:∀r∈rows,SOk r):SeqAt.shaped (qXv aA rows)=true:=by
 obtain⟨a1,a2⟩:=qE9 h1;obtain⟨b1,b2⟩:=qNh h2;show((PyData.canLayAll0 (aA.map .str) && (PyData.canLayAll0 (rows.map qFn) && true)) && decide (max (PyData.depthAll (aA.map .str)+1) (max (PyData.depthAll (rows.map qFn)+1) 0)+1<=64))=true;rw[a1,b1,a2,hDr (by omega)];rfl
theorem qNc{aA:List Str}{z:Nat}{n:Str}:n∈rowM aA z↔∃i,i<aA.length/\aA[i]?=some n/\z.testBit (aA.length-1-i)=true:=by
 unfold rowM;rw[hD8];constructor
 ·rintro⟨i,hi,e⟩;split at e
  ·rename_i b;exact⟨i,hB9.mp hi,e,b⟩
  ·cases e
 ·rintro⟨i,hi,e,b⟩;exact⟨i,hB9.mpr hi,by rw[hDw b];exact e⟩
theorem qQ6{aA:List Str}(nd:aA.Nodup){i j:Nat}{n:Str}(hi:aA[i]?=some n)(hj:aA[j]?=some n):i=j :=
 (List.getElem?_inj (hAi.mp hi).1 nd).mp (hi.trans hj.symm)
abbrev chi(aA:List Str)(z:Nat):Str->Bool:=λn=>decide (n∈rowM aA z)
theorem zAb{aA:List Str}(nd:aA.Nodup){z i:Nat}{n:Str}(hi:aA[i]?=some n):chi aA z n=z.testBit (aA.length-1-i):=by
 have il:=(hAi.mp hi).1;cases q:z.testBit (aA.length-1-i) with
 |true=>exact hDr (qNc.mpr ⟨i,il,hi,q⟩)
 |false =>
  refine hDs λm=>?_
  obtain⟨j,_,ej,bj⟩:=qNc.mp m;rw[qQ6 nd ej hi,q]at bj;cases bj
theorem qJ4{aA:List Str}(nd:aA.Nodup){z:Nat}(hz:z<2^aA.length):maskF aA (rowM aA z)=z:=by
 refine hB6 λj=>?_
 rw[qE6];by_cases hj:j<aA.length
 ·rw[hDr hj,hCa];have hi:aA.length-1-j<aA.length:=by omega
  have e:=hA2 hi;have c:=zAb nd (z:=z) e;rw[show aA.length-1-(aA.length-1-j)=j by omega]at c;rw[<-c];refine decide_eq_decide.mpr ⟨λ⟨n,h1,h2⟩=>?_,λh=>⟨_,e,h⟩⟩;rw[e]at h1;cases h1;exact h2
 ·rw[hDs hj,qFk hz (by omega)];rfl
def Rk(aA:List Str)(rows:List (List Str)):Nat:=(red (rows.map (maskF aA))).length
def Bnd(aA:List Str)(rows:List (List Str)):Prop:=aA.length<=12/\rows.length<=16/\Rk aA rows<=8/\aA.length<=Rk aA rows+8
def qPj:Sp:=λvs H Q _=>∃(T:Addr) (aA:List Str) (rows:List (List Str)),vs=[.ref T]/\qHe H T aA rows/\∀(b:Bool) H',(b=true↔Bnd aA rows)->Ext H H'->Q (.bl b) H'
section
variable{P:Program}{w:World}{K:PySem.W.Frag}{mg:Str->Option Value}{base:Heap}{f f1 f2:Addr}{fd fd1 fd2:FuncData}
theorem qMr:FnScope ["table","names","rows","many"] ["table"] (qAa qOe):=fsk
theorem qWy{t1 t2 t3:Tok}(F:Fun K "keeps_bounds" "keeps_bounds" qOe f fd)(G:v7 3 f1 fd1 ["table"] qKw "step_masks")(ml:mg "len"=none)
  (mN:mg "MOST_NAMES"=some (.int 12 t1)) (mR:mg "MOST_ROWS"=some (.int 16 t2)) (mS:mg "MOST_STEPS"=some (.int 8 t3)):v6 4 f fd ["table"] qPj:=by
 refine F.okA qMr λcdv A outer s H vs Q E hr h=>?_
 obtain⟨T,aA,rows,rfl,tI,q⟩:=h;refine⟨_,qAb (qE3 (pv 0) (qCa rfl (qAr (v3 1 qMr) (qAr (v3 2 qMr) qBj))))
  (qAb (qBb (PW.pt (qDv (qAl qFp (qAf qAm rfl ml hAr (pa1 (pv 1))) (qCd (v:=.int 12) rfl mN ⟨t1,rfl⟩) (qAp _))
   (qDi (qAl qFp (qAf qAm rfl ml hAr (pa1 (pv 2))) (qCd (v:=.int 16) rfl mR ⟨t2,rfl⟩) (qAp _))))) (qAd (qAo qGt)) qAu)
  (qAb (v0 3 qMr (qAf qAm rfl ml hAr (pa1 (qAy G hr rfl .nil qAz (pa1 (pv 0))))))
  (qAd (qAo (qGu (qCe qSj (pv 3) (qCd (v:=.int 8) rfl mS ⟨t3,rfl⟩) (qAp _)) (qHs (qCe qSj (qAg qEm (qAf qAm rfl ml hAr (pa1 (pv 1))) (pv 3)) (qCd (v:=.int 8) rfl mS ⟨t3,rfl⟩) (qAp _)))))))),?_⟩
 obtain⟨a,b,hT,ha,as,hb,pr⟩:=id tI;have la:as.length=rows.length:=pr.length;refine⟨_,rfl,T,_,rfl,SqT.of hT,rfl,_,_,rfl,_,_,rfl,rfl,?_⟩;refine⟨_,rfl,a,_,rfl,.inl (SqL.of ha),_,_,rfl,rfl,_,rfl,?_⟩;refine qBp (λc=>?_) (λc=>?_)
 ·have c':(12:Int)<((aA.map V.str).length:Nat):=hDu c;rw[hA1]at c';exact iteT (q false H ⟨λz=>(by cases z),λz=>absurd z.1 (by omega)⟩ (Ext.refl _))
 have c':¬(12:Int)<((aA.map V.str).length:Nat):=λy=>c (hDr y)
 rw[hA1]at c';refine⟨_,rfl,b,_,rfl,.inl (SqL.of hb),_,_,rfl,rfl,_,rfl,?_⟩;refine qBp (λd=>?_) (λd=>?_)
 ·have d':(16:Int)<((as.map V.ref).length:Nat):=hDu d;rw[hA1]at d';exact q false H ⟨λz=>(by cases z),λz=>absurd z.2.1 (by omega)⟩ (Ext.refl _)
 have d':¬(16:Int)<((as.map V.ref).length:Nat):=λy=>d (hDr y)
 rw[hA1]at d';refine⟨_,rfl,T,aA,rows,rfl,tI,by omega,λr M H1 e1 r0 hM pM dM=>?_⟩;have lM:M.length=Rk aA rows:=pM.length_eq;refine⟨r,_,rfl,.inl (SqL.of hM),?_⟩;refine⟨_,rfl,_,_,rfl,rfl,_,rfl,?_⟩;refine qBp (λg=>?_) (λg=>?_)
 ·have g':((M.map iV).length:Int)<=8:=hDu g;rw[hA1,lM]at g';refine⟨_,rfl,a,_,rfl,.inl (SqL.of (e1 _ _ ha)),_,rfl,_,_,rfl,rfl,_,_,rfl,rfl,q _ H1 ?_ e1⟩;rw[hE0,hA1,hA1,lM];constructor
  ·intro z;exact⟨by omega,by omega,by omega,by omega⟩
  ·rintro⟨z1,z2,z3,z4⟩;omega
 ·have g':¬((M.map iV).length:Int)<=8:=λy=>g (hDr y)
  rw[hA1,lM]at g';exact q false H1 ⟨λz=>(by cases z),λz=>absurd z.2.2.1 (by omega)⟩ e1
end
theorem qOj{M:List Nat}(h:RR M):(red M).length=M.length :=
 ((hCe (qDh M).nd h.nd).mpr λz=>⟨qFm (qDh M) h (qDt M) z,qFm h (qDh M) (λy=>(qDt M y).symm) z⟩).length_eq
theorem qRa{net:List Tr}{ps:List Str}(hp:∀x,qIv net x->x∈ps):∀i,i<=net.length->∃K F,EIv (vF net ps) net.length i K F/\K.length=(qCs (net.take i)).length
 |0,_=>⟨[],[],EIv.start _ _,rfl⟩
 |i+1,hi=>by
  obtain⟨K,F,h,hk⟩:=qRa hp i (by omega);have il:i<net.length:=by omega
  have n:=h.next il;have w:=qKb hp h il (hA2 il) hk;by_cases c:(el K (vF net ps i,2^i)).1=0
  ·rw[hDw c]at n w;exact⟨_,_,n,w⟩
  ·rw[hDv c]at n w;exact⟨_,_,n,w⟩
def qU6(net:List Tr):Prop:=net.length<=12/\(qCs net).length<=8/\net.length<=(qCs net).length+8
theorem qXp{net:List Tr}{ps:List Str}{S M:List Nat}(rs:qHf (net.map (·.1)))(pk:qHg net ps)(pS:S.Perm (red (ps.map λx=>maskF (net.map (·.1)) (metF net x))))(pM:M.Perm (red (qFc S net.length)))(dM:M.Pairwise λa b=>b<=a)
  (h12:net.length<=12):Bnd (net.map (·.1)) (M.map (rowM (net.map (·.1))))↔qU6 net:=by
 obtain⟨K,F,ei,kw⟩:=qRa (λx hx=>(pk.2 x).mpr hx) net.length (hA3 _);rw[hA6 (hA3 _)]at kw;have md:Made net ps ps S M K F:=⟨rs,pk,pk,pS,pM,dM,ei,kw⟩;have len:=md.len;have e:(M.map (rowM (net.map (·.1)))).map (maskF (net.map (·.1)))=M:=by
  rw[hAz];have:M.map (maskF (net.map (·.1))∘rowM (net.map (·.1)))=M.map id:=hC3 λz hz=>qJ4 (qP6 rs) (md.ltM z hz)
  rw[this,List.map_id]
 unfold Bnd qU6 Rk;rw[e,qOj md.rrM,hA1,hA1];constructor
 ·rintro⟨a,b,c,d⟩;exact⟨by omega,by omega,by omega⟩
 ·rintro⟨a,b,c⟩;exact⟨by omega,by omega,by omega,by omega⟩
def qYm:Sp:=λvs H Q _=>∃(p:Addr) (net:List Tr),vs=[.ref p]/\qDp H p net/\net.length<=20/\qHf (net.map (·.1))/\∀(b:Bool) H',(b=true↔qU6 net)->Ext H H'->Q (.bl b) H'
section
variable{P:Program}{w:World}{K:PySem.W.Frag}{mg:Str->Option Value}{base:Heap}{f f1 f2:Addr}{fd fd1 fd2:FuncData}
theorem zA0:FnScope ["net"] ["net"] (qAa qXz):=fsk
theorem qZi{t1:Tok}(F:Fun K "keeps_net_bounds" "keeps_net_bounds" qXz f fd)(G1:v7 4 f1 fd1 ["table"] qPj "keeps_bounds")
  (G2:v7 5 f2 fd2 ["net"] qPc "table_of") (ml:mg "len"=none) (mN:mg "MOST_NAMES"=some (.int 12 t1)):v6 6 f fd ["net"] qYm:=by
 refine F.okA zA0 λcdv A outer s H vs Q E hr h=>?_
 obtain⟨p,net,rfl,nt,hl,rs,q⟩:=h;have hr4:=hr.mono (j:=4) (by decide);refine⟨_,qAd (qAo (qGu (qCe qSj (qAf qAm rfl ml hAr (pa1 (pv 0))) (qCd (v:=.int 12) rfl mN ⟨t1,rfl⟩) (qAp _)) (qHs (qAy G1 hr4 rfl .nil qAz (pa1 (qAy G2 hr rfl .nil qAz (pa1 (pv 0)))))))),?_⟩;obtain⟨as,hp,pr⟩:=id nt;have la:as.length=net.length:=pr.length;refine⟨_,rfl,p,_,rfl,.inl (SqL.of hp),_,_,rfl,rfl,_,rfl,?_⟩;refine qBp (λg=>?_) (λg=>?_)
 ·have g':((as.map V.ref).length:Int)<=12:=hDu g;rw[hA1,la]at g';refine⟨_,rfl,p,net,rfl,nt,by omega,λT ps S M H1 e1 T0 tf pok psr pS pM dM=>?_⟩;exact⟨T,_,_,rfl,tf.tin,λb H2 eb e2=>q b H2 (eb.trans (qXp rs pok pS pM dM (by omega))) (e1.trans e2)⟩
 ·have g':¬((as.map V.ref).length:Int)<=12:=λy=>g (hDr y)
  rw[hA1,la]at g';exact q false H ⟨λz=>(by cases z),λz=>absurd z.1 (by omega)⟩ (Ext.refl _)
end
def qF6(aA row:List Str):Nat:=(row.map λn=>2^ixF aA n).sum
theorem qZv{aA:List Str}(nd:aA.Nodup){i:Nat}{n:Str}(h:aA[i]?=some n):ixF aA n=i:=qQ6 nd (qD8 (hAd h)).1 h
theorem qSz{aA:List Str}{z:Nat}{n:Str}:n∈qOi aA z↔∃i,i<aA.length/\aA[i]?=some n/\z.testBit i=true:=by
 unfold qOi;rw[hD8];constructor
 ·rintro⟨i,hi,e⟩;split at e
  ·rename_i b;exact⟨i,hB9.mp hi,e,b⟩
  ·cases e
 ·rintro⟨i,hi,e,b⟩;exact⟨i,hB9.mpr hi,by rw[hDw b];exact e⟩
theorem qJ3{aA:List Str}(nd:aA.Nodup){row:List Str}(rn:row.Nodup)(sub:∀n∈row,n∈aA)(j:Nat):(qF6 aA row).testBit j=decide (∃n∈row,ixF aA n=j):=by
 unfold qF6;have e:(row.map λn=>2^ixF aA n)=(row.map (ixF aA)).map λl=>2^l:=by rw[hAz];rfl
 have nd2:(row.map (ixF aA)).Nodup:=by
  rw[List.Nodup,hCq];refine hCl (λ{a b} ha hb ne q=>ne ?_) rn;have h1:=(qD8 (sub a ha)).1;have h2:=(qD8 (sub b hb)).1;rw[q,h2]at h1;exact(hAq h1).symm
 rw[e,qEq _ nd2];refine decide_eq_decide.mpr ?_;rw[hAb]
theorem qS0{aA:List Str}(nd:aA.Nodup){row:List Str}(rn:row.Nodup)(sub:∀n∈row,n∈aA):qF6 aA row<2^aA.length/\rv aA.length (qF6 aA row)=maskF aA row:=by
 refine⟨hBm _ λi hi=>?_,hB6 λj=>?_⟩
 ·rw[qJ3 nd rn sub];refine hDs ?_;rintro⟨n,hn,e⟩;have:=(qD8 (sub n hn)).2.2;omega
 ·rw[qDa,qE6,qJ3 nd rn sub];by_cases hj:j<aA.length
  ·rw[hDr hj,hCa,hCa];refine decide_eq_decide.mpr ⟨λ⟨n,hn,e⟩=>⟨n,by rw[<-e];exact(qD8 (sub n hn)).1,hn⟩,λ⟨n,h1,h2⟩=>⟨n,h2,qZv nd h1⟩⟩
  ·rw[hDs hj];rfl
section
variable{P:Program}{w:World}{K:PySem.W.Frag}{mg:Str->Option Value}{base:Heap}{f f1 f2 f3 f4 f5 f6 f7:Addr}{fd fd1 fd2 fd3 fd4 fd5 fd6 fd7:FuncData}
theorem qEc{ms:List Nat}{Q:List V->Hp->Prop}{H1:Hp}{σ0:St}{g:TG}{tt:TT}{te:TE}{p:Addr}(pr:Nat->Bool)(h:Nat->Nat)(hp:LsN H1 p ms)(ln:ms.length<=24)
  (hs:∀z∈ms,∀(C:V->Hp->Prop) (B:Hp->Prop),(pr z=true->C (iV (h z)) H1)->(pr z=false->B H1)->g (iV z) σ0 H1 λσ2 H2=>Sle σ0 σ2/\tt σ2 H2 λb H3=>if b=true then te σ2 H3 C else B H3)
  (hd:Q (((ms.filter pr).map h).map iV) H1):qDm (Itl K p) σ0 g tt te Q H1:=by
 refine qAt (xs:=ms.map iV) (λj ys H2=>H2=H1/\ys=(((ms.take j).filter pr).map h).map iV) ⟨rfl,rfl⟩ (λj ys H2 _ h=>by rw[h.1];exact SqL.of hp) ?_ ?_
 ·rintro j x ys H2 hx ⟨rfl,rfl⟩;obtain⟨z,rfl,hz⟩:=qD0 hx;have hj:=qA7 hz;have sz:=hBy pr (ms.take j);rw[hAh]at sz;refine hs z (hAd hz) _ _ (λb=>⟨?_,nxt (qA7 hx) ⟨rfl,?_⟩⟩) (λb=>nxt (qA7 hx) ⟨rfl,?_⟩)
  ·rw[hA1,hA1];exact qAi (by omega)
  ·rw[qAk hz,hCb,hA7,hA7];simp[b]
  ·rw[qAk hz,hCb];simp[b]
 ·rintro ys H2 ⟨rfl,rfl⟩;rw[hA1,hA6 (hA3 _)];exact hd
end
end My
namespace L2
open PySem PySem.Spec PyProof.Rows
section
variable{X:Cx}
def qV0:V->List V->Hp->VK->Prop:=λx vs H Q=>∃(l:Addr) (xs:List V) (i:Nat) (y:V),x = .ref l/\vs=[.int (i:Int),y]/\H l=some (.lst xs)/\i<=xs.length/\xs.length<1000/\Q .non (upd H l (.lst (xs.take i++y :: xs.drop i)))
theorem qBf.takeL:∀ {xs:List V} {us:List Value} (i:Nat),qBf xs us->qBf (xs.take i) (us.take i)
 |_,_,0,_=>.nil
 |_,_,_+1,.nil=>.nil
 |_,_,i+1,.cons r t=>.cons r (qBf.takeL i t)
theorem qBf.dropL:∀ {xs:List V} {us:List Value} (i:Nat),qBf xs us->qBf (xs.drop i) (us.drop i)
 |_,_,0,h=>h
 |_,_,_+1,.nil=>.nil
 |_,_,i+1,.cons _ t=>qBf.dropL i t
theorem qQq:MtM X "list.insert" qV0:=by
 intro aB s σ H x vs v us Q I rx rv h;obtain⟨l,xs,i,y,rfl,rfl,hH,hi,hz,q⟩:=h;cases rx;obtain⟨u,w',rfl,r1,r2⟩:=qOz rv;obtain⟨t,rfl⟩:=r1;obtain⟨z,its,n,r,hl,e⟩:=I.lstM hH;have fi:¬(!Builtin.List.listFitsIndex (i:Int))=true:=by
  rw[fitsIndex_both (by omega) (by omega)];exact hAm
 have zz:its.toArray.size<=sizeLine:=by rw[hAl,<-hl];exact z
 obtain⟨k,hk⟩:∃k:Int,k=(i:Int):=⟨_,rfl⟩;rw[<-hk]at fi ⊢;have M:=AutoListH.list_insert_list_int_val_1 l its.toArray n k t w' fi zz;refine hEp F.slot_list_insert ⟨_,e,rfl⟩ F.entry_list_insert (F.args_list_insert_3 _ _ _) M ⟨e,?_⟩;refine⟨.non,_,I.lset (its':=its.take i++w' :: its.drop i) hH e ?_ (qBf.append (qBf.takeL i r) (.cons r2 (qBf.dropL i r))) ?_,rfl,q⟩
 ·have k':(if k<0 then (k+((its.toArray.size:Nat):Int)).toNat else min k.toNat its.toArray.size)=i:=by
   rw[hk,hDv (by omega),hBa,hAl];omega
  dsimp only;rw[k'];apply Array.ext';simp;rw[hA6 (by rw[hCn];exact hA3 _)]
 ·rw[hA9,hB2,hAh,hCn];exact hB1 (qAi (by omega))
end
end L2
namespace My
open PySem L2
theorem qRp(a b:Nat):Builtin.bitOr (a:Int) (b:Int)=((a ||| b:Nat):Int):=by
 have x:∀x:Int,Builtin.bitNot (Builtin.bitNot x)=x:=λx=>by unfold Builtin.bitNot;omega
 unfold Builtin.bitOr;have na:¬(0:Int)<=Builtin.bitNot (a:Int):=by unfold Builtin.bitNot;omega
 have nb:¬(0:Int)<=Builtin.bitNot (b:Int):=by unfold Builtin.bitNot;omega
 have o:Builtin.bitAnd (Builtin.bitNot (a:Int)) (Builtin.bitNot (b:Int))=Builtin.bitNot ((a ||| b:Nat):Int):=by
  unfold Builtin.bitAnd;rw[hDs na,hDs nb];show Builtin.bitNot _=_;rw[x,x];simp
 rw[o,x]
theorem qR6(z k:Nat):(z:Int)*2^((k:Int)).toNat=((z <<< k:Nat):Int):=by
 rw[hBa,Nat.shiftLeft_eq,Int.natCast_mul,Int.natCast_pow];rfl
theorem qY8(m:Nat):(0:Int)<1*2^((m:Int)).toNat:=by
 rw[qCc];have:0<2^m:=hDl (by decide);omega
theorem qNq(xs:List V)(p:Nat):qOq xs none (some (p:Int))=xs.take p:=by
 unfold qOq;rw[HT.sIx_nat,HT.sIx_none,List.drop_zero,Nat.sub_zero];rcases Nat.le_total p xs.length with h|h
 ·rw[Nat.min_eq_left h]
 ·rw[Nat.min_eq_right h,hA6 (hA3 _),hA6 h]
def qT0:Sp:=λvs H Q _=>∃(pn pr:Addr) (aA row:List Str),vs=[.ref pn,.ref pr]/\LsS H pn aA/\LsS H pr row/\(∀n∈row,n∈aA)/\aA.length<=64/\row.length<=64/\∀H',Ext H H'->Q (iV (qF6 aA row)) H'
theorem zCu(B:Int)(n:Nat):∃x:Nat,B % (1*2^((n:Nat):Int).toNat)=(x:Int)/\x<2^n:=by
 rw[qCc];have p:0<2^n:=hDl (by decide);have h1:=hAw B (show((2^n:Nat):Int)≠0 by omega);have h2:=hAp B (show(0:Int)<((2^n:Nat):Int) by omega);exact⟨(B % ((2^n:Nat):Int)).toNat,by omega,by omega⟩
theorem qFj{p:Nat->Prop}{l:List Nat}{x:Nat}(h:∀y∈l,p y)(hx:p x):∀y∈l++[x],p y:=λy hy=>by
 rcases hAf.mp hy with z|z
 ·exact h y z
 ·rw[hAe.mp z];exact hx
def qT1:Sp:=λvs H Q _=>∃(b:Int) (m:Nat),vs=[.int b,iV m]/\m<=12/\∀(r:Addr) (ns:List Nat) (H':Hp),Ext H H'->H r=none->LsN H' r ns->ns.length<=9->(∀x∈ns,x<2^m)->Q (.ref r) H'
section
variable{P:Program}{w:World}{K:PySem.W.Frag}{mg:Str->Option Value}{base:Heap}{f f1 f2 f3 f4 f5:Addr}{fd fd1 fd2 fd3 fd4 fd5:FuncData}
theorem qYx:FnScope ["_law_names_here","_law_row_here"] ["_law_names_here","_law_row_here"] (qAa qLg):=fsk
theorem qWt(F:Fun K "_law_mask" "_law_mask" qLg f fd)(msu:mg "sum"=none):v6 1 f fd ["_law_names_here","_law_row_here"] qT0:=by
 refine F.okA qYx λcdv A outer s H vs Q E hr h=>?_
 obtain⟨pn,pr,aA,row,rfl,hn,hw,sub,ln,lw,q⟩:=h;refine⟨_,qAd (qAo (qAf (qDl rfl) rfl msu qDn (pa1 (qDf (N:=["_law_names_here","_law_row_here"]) (sc:=qAa qLg) (N':=["_law_name","_law_names_here"]) (sub:=[none,some 0]) rfl rfl (CmpOk.of (by decide +kernel)) rfl (qAv (pv 1))
   (λC s H fp=>⟨qAh (i:=0) (by show(["_law_name","_law_names_here"]:List Str).Nodup;decide) rfl (Or.inl rfl),qAx,qAg qDb qAc (show PE _ _ (tBM K _ (qUd K) _ _) from qB8 hAy PySem.F.slot_list_index PySem.F.type_list_index qIs (pv 1) (pa1 (pv 0)))⟩))))),?_⟩
 refine⟨_,rfl,pr,rfl,⟨_,SqL.of hw⟩,?_⟩;refine qAt (xs:=row.map V.str) (λj ys H2=>H2=H/\ys=((row.take j).map λn=>2^ixF aA n).map iV) ⟨rfl,rfl⟩ (λj ys H2 _ h=>by rw[h.1];exact SqL.of hw) ?_ ?_
 ·rintro j v ys H2 hx ⟨rfl,rfl⟩;obtain⟨n,rfl,hn'⟩:=qDr hx;have hj:=qA7 hn';obtain⟨a1,a2,a3⟩:=qD8 (sub n (hAd hn'));refine⟨sls,iteT (B:=False) ⟨_,rfl,.inl ⟨rfl,_,SqL.of hn⟩,_,rfl,pn,aA,n,ixF aA n,rfl,rfl,hn,a1,a2,by omega,_,_,rfl,rfl,⟨by omega,by omega,by decide⟩,?_⟩⟩;refine⟨by rw[hA1,hA1,hAh];exact qAi (by omega),nxt (qA7 hx) ⟨rfl,?_⟩⟩;rw[qAk hn',hA7,hA7];show _++[V.int (1*2^(((ixF aA n:Nat):Int)).toNat)]=_;rw[qCc];rfl
 ·rintro ys H2 ⟨rfl,rfl⟩ l hl;rw[hA1,hA6 (hA3 _)];refine⟨l,(row.map λn=>2^ixF aA n).map (λn:Nat=>(n:Int)),rfl,SqL.of (by rw[upd_same,qD9]),?_⟩;rw[qDq];exact q _ (Ext.new hl _)
abbrev frN:List Str:=["_law_big_here","_law_many","_law_found","_law_k"]
theorem qMq:FnScope frN ["_law_big_here","_law_many"] (qAa qOd):=fsk
theorem qWu(F:Fun K "_law_free" "_law_free" qOd f fd)(mr:mg "range"=none):v6 1 f fd ["_law_big_here","_law_many"] qT1:=by
 refine F.okA qMq λcdv A outer s H vs Q E hr h=>?_
 obtain⟨b,m,rfl,m12,q⟩:=h;refine⟨_,qAb (v0 2 qMq (qBe qA3))
  (qAb (qBs PassesOwn.never rfl (qBg rfl mr (pa1 (qAg qA9 (pv 0) qAc))) (v3 3 qMq)
   (qAb (qC3 (qB8 hAy hBb hBc qB1 (pv 2) (pa1 (qAg qA9 (qAg qA2 (pv 0) qAc) (qAg qDb qAc (pv 1))))))
   (qAd (v0 0 qMq (qAg qHu (qAg qA2 (pv 0) qAc) (pv 1))))))
  (qAd (qAo (pv 2)))),?_⟩
 refine⟨hAs _,λfo fo0=>?_⟩;have h1:=hAw b (show(10:Int)≠0 by decide);have h2:=hAp b (show(0:Int)<10 by decide);refine⟨_,rfl,_,_,rfl,rfl,(by show(0:Int)<_;decide),b % 10,rfl,by omega,by omega,?_⟩;refine qBt (lo:=0) (n:=(b % 10).toNat) (λi σ H'=>∃(b':Int) (x3:Option V) (ns:List Nat),σ=[some (.int b'),some (iV m),some (.ref fo),x3]/\Ext H H'/\LsN H' fo ns/\ns.length<=i/\∀x∈ns,x<2^m) ⟨b,none,[],rfl,Ext.new fo0 _,upd_same,hA3 _,λx hx=>(by cases hx)⟩ ?_ ?_
 ·rintro i σ H' hi ⟨b',x3,ns,rfl,e,hf,ln,lt⟩;obtain⟨x,hx,xl⟩:=zCu (b' / 10) m;refine⟨_,rfl,.inl ⟨rfl,_,SqL.of hf⟩,_,rfl,_,_,rfl,rfl,⟨by decide,by decide⟩,_,rfl,_,_,rfl,rfl,⟨by omega,by omega,by decide⟩,_,_,rfl,rfl,qY8 m,fo,_,_,rfl,rfl,hf,by rw[hA1];exact qAi (by omega),?_⟩;refine⟨_,rfl,_,_,rfl,rfl,⟨by decide,by decide⟩,_,rfl,_,_,rfl,rfl,(by show(0:Int)<=_;omega),?_⟩;refine⟨_,_,ns++[x],rfl,e.over fo0 _,?_,by rw[hA9];exact hD4 ln,qFj lt xl⟩;unfold LsN;rw[upd_same,hA7];show some (HO.lst (_++[V.int (b' / 10 % (1*2^((m:Int)).toNat))]))=_;rw[hx];rfl
 ·rintro σ H' ⟨b',x3,ns,rfl,e,hf,ln,lt⟩;exact⟨_,rfl,q fo ns _ e fo0 hf (by omega) lt⟩
end
theorem qUl{ms:List Nat}{m:Nat}(lt:∀x∈ms,x<2^m):((redL ms).map lo).Nodup:=by
 obtain⟨g,e⟩:=qDu (m:=m) ms lt;have rr:=qDh (ms.map (rv m));rw[<-e]at rr;have l1:=qS1 rr;rw[hAz,List.Nodup,hCq]at l1;rw[List.Nodup,hCq];refine hCl (λ{a b} ha hb h q=>h ?_) l1;show(rv m a).log2=(rv m b).log2;rw[qLk (g a ha).1 (g a ha).2,qLk (g b hb).1 (g b hb).2,q]
theorem zBk{ms:List Nat}{m i:Nat}(lt:∀x∈ms,x<2^m)(hi:i<m)(pr:Nat->Bool)(h:¬i∈(redL ms).map lo):2^i+(((redL ms).filter pr).map λz=>2^lo z).sum<2^m:=by
 obtain⟨g,_⟩:=qDu (m:=m) ms lt;have nd:=qUl lt;have nd2:(i :: ((redL ms).filter pr).map lo).Nodup:=hBo.mpr ⟨λz=>h (by
  obtain⟨u,hu,e⟩:=hAb.mp z;exact hAb.mpr ⟨u,(hB7.mp hu).1,e⟩),nd.sublist (hDm.map lo)⟩
 have e:2^i+(((redL ms).filter pr).map λz=>2^lo z).sum=((i :: ((redL ms).filter pr).map lo).map λl=>2^l).sum:=by
  rw[hAu,List.sum_cons,hAz];rfl
 rw[e];refine hBm _ λj hj=>?_
 rw[qEq _ nd2];refine hDs λz=>?_
 rcases hAc.mp z with z|z
 ·omega
 ·obtain⟨u,hu,e⟩:=hAb.mp z;have hm:=(hB7.mp hu).1;have:=qXc (g u hm).1 (g u hm).2;omega
theorem qY9{a b k:Nat}(ha:a<2^k)(hb:b<2^k):a ||| b<2^k:=Nat.or_lt_two_pow ha hb
theorem qNe{x m:Nat}(h:x<2^m):x<2^(m+1):=Nat.lt_trans h (hD1 (by decide) (by omega))
theorem qE4{j m:Nat}(h:j<=m):2^j<2^(m+1):=hD1 (by decide) (by omega)
def qT2:Sp:=λvs H Q _=>∃(p:Addr) (ms:List Nat) (m:Nat),vs=[.ref p,iV m]/\LsN H p ms/\ms.length<=24/\m<=12/\(∀x∈ms,x<2^m)/\∀(r:Addr) (ns:List Nat) (H':Hp),Ext H H'->H r=none->LsN H' r ns->ns.length<=12->(∀x∈ns,x<2^m)->Q (.ref r) H'
def qTx:Sp:=λvs H Q _=>∃k:Int,vs=[.int k]/\0<=k/\k<4/\∀(T b:Addr) (m:Nat) (ns:List Nat) (H':Hp),Ext H H'->H' T=some (.tup [iV m,.ref b])->LsN H' b ns->ns.length<=12->0<m->m<=12->(∀x∈ns,x<2^m)->Q (.ref T) H'
def qTz:Sp:=λvs H Q _=>∃(p:Addr) (ms:List Nat) (m M:Nat) (b:Int),vs=[.ref p,iV m,.int b,iV M]/\LsN H p ms/\ms.length<=12/\0<m/\M<=12/\m<=M/\(∀x∈ms,x<2^m)/\∀(r:Addr) (ns:List Nat) (H':Hp),Ext H H'->LsN H' r ns->ns.length<=24->(∀x∈ns,x<2^M)->Q (.ref r) H'
section
variable{P:Program}{w:World}{K:PySem.W.Frag}{mg:Str->Option Value}{base:Heap}{f f1 f2 f3 f4 f5:Addr}{fd fd1 fd2 fd3 fd4 fd5:FuncData}
abbrev coN:List Str:=["_law_numbers","_law_many","_law_rows","_law_fronts","_law_found","_law_place"]
theorem qJu:FnScope coN ["_law_numbers","_law_many"] (qAa qJv):=fsk
theorem qWx(F:Fun K "_law_crossing" "_law_crossing" qJv f fd)(G:v7 1 f1 fd1 ["_law_numbers"] qJn "_law_reduced")(msu:mg "sum"=none)(mr:mg "range"=none):v6 2 f fd ["_law_numbers","_law_many"] qT2:=by
 refine F.okA qJu λcdv A outer s H vs Q E hr h=>?_
 obtain⟨p,ms,m,rfl,hp,lm,m12,lt0,q⟩:=h;refine⟨_,qAb (v0 2 qJu (qAy G hr rfl .nil qAz (pa1 (pv 0))))
  (qAb (v0 3 qJu (qAf (qDl rfl) rfl msu qDn (pa1 (qB3 (N:=coN) (sc:=qAa qJv) (N':=["_law_row_here"]) (sub:=[none]) (qAv (pv 2)) (λC s H fp=>⟨qAx,qAg qCr (pv 0) (qQg qJg (pv 0))⟩)))))
  (qAb (v0 4 qJu (qBe qA3))
  (qAb (qBs PassesOwn.never rfl (qBg rfl mr (pa1 (pv 1))) (v5 5 qJu)
   (qAd (qBb (qAl qC7 (qAg qCr (qAg qHu (pv 3) (pv 5)) qAc) qAc (qAp _))
    (qAd (qC3 (qB8 hAy hBb hBc qB1 (pv 4) (qAe
     (qAg qBh (qAg qDb qAc (pv 5)) (qAf (qDl rfl) rfl msu qDn (pa1 (qB3 (N:=coN) (sc:=qAa qJv) (N':=["_law_row_here","_law_place"]) (sub:=[none,some 5]) (qAv (pv 2)) (λC s H fp=>⟨qD5 (qAl qC7 (qAg qCr (qAg qHu (pv 0) (pv 1)) qAc) qAc (qAp _)),qAg qCr (pv 0) (qQg qJg (pv 0))⟩))))) qA3))))
    qAu)))
  (qAd (qAo (pv 4)))))),?_⟩
 refine⟨_,rfl,p,ms,m,rfl,hp,lm,lt0,λro H1 e1 ro0 hro=>?_⟩;obtain⟨gm,_⟩:=qDu (m:=m) ms lt0;have lR:=qIh ms;refine⟨_,rfl,ro,rfl,⟨_,SqL.of hro⟩,?_⟩;refine qEc (λ_=>true) (λz=>2^lo z) hro (by omega) (λz hz C B c b=>⟨sls,?_⟩) ?_
 ·refine iteT (B:=B H1) ⟨_,rfl,_,rfl,_,rfl,_,_,rfl,rfl,?_⟩;have:=c rfl;rw[show iV (2^lo z)=V.int (Builtin.bitAnd (z:Int) (-(z:Int))) by rw[qLv (gm z hz).2]]at this;exact this
 intro l1 hl1;have n1:=e1.trans (Ext.new hl1 (.lst ((((redL ms).filter λ_=>true).map λz=>2^lo z).map iV)));refine⟨l1,(((redL ms).filter λ_=>true).map λz=>2^lo z).map (λn:Nat=>(n:Int)),rfl,SqL.of (by rw[upd_same,qD9]),?_⟩;rw[qDq];have hro1:=(Ext.new hl1 (.lst ((((redL ms).filter λ_=>true).map λz=>2^lo z).map iV))) _ _ hro;refine⟨hAs _,λfo fo1=>?_⟩;have fo0:=n1.none fo1;have n2:=n1.trans (Ext.new fo1 (.lst []));have hro2:=(Ext.new fo1 (.lst [])) _ _ hro1;revert n2 hro2;have hfo2:upd (upd H1 l1 (.lst ((((redL ms).filter λ_=>true).map λz=>2^lo z).map iV))) fo (.lst []) fo=some (.lst []):=upd_same;revert hfo2;generalize upd (upd H1 l1 (.lst ((((redL ms).filter λ_=>true).map λz=>2^lo z).map iV))) fo (.lst [])=H2;intro hfo2 n2 hro2;have rofo:ro≠fo:=qAw hro1 fo1;have frb:∀i,(((redL ms).filter λ_=>true).map λz=>2^lo z).sum.testBit i=decide (i∈(redL ms).map lo):=λi=>by
  have e:((redL ms).filter λ_=>true)=redL ms:=List.filter_eq_self.mpr λ_ _=>rfl
  rw[e,show((redL ms).map λz=>2^lo z)=((redL ms).map lo).map λl=>2^l by rw[hAz];rfl,qEq _ (qUl lt0)]
 revert frb;generalize (((redL ms).filter λ_=>true).map λz=>2^lo z).sum=fr;intro frb;refine⟨_,rfl,(m:Int),rfl,by omega,by omega,?_⟩;refine qBt (lo:=0) (n:=((m:Int)).toNat) (λi σ H'=>∃(x5:Option V) (ns:List Nat),σ=[some (.ref p),some (iV m),some (.ref ro),some (iV fr),some (.ref fo),x5]/\Ext H H'/\LsN H' ro (redL ms)/\LsN H' fo ns/\ns.length<=i/\∀x∈ns,x<2^m) ⟨none,[],rfl,n2,hro2,hfo2,hA3 _,λx hx=>(by cases hx)⟩ ?_ ?_
 ·rintro i σ H' hi ⟨x5,ns,rfl,e,hr',hf,ln,lt⟩;have hi':i<m:=by omega
  refine⟨_,rfl,_,rfl,_,_,rfl,rfl,(by show(0:Int)<=_;omega),_,_,rfl,rfl,rfl,_,rfl,?_⟩;refine qBp (λc=>?_) (λc=>?_)
  ·refine⟨_,rfl,.inl ⟨rfl,_,SqL.of hf⟩,_,rfl,_,_,rfl,rfl,⟨by omega,by omega,by decide⟩,?_⟩;refine⟨_,rfl,ro,rfl,⟨_,SqL.of hr'⟩,?_⟩;refine qEc (λz=>z.testBit i) (λz=>2^lo z) hr' (by omega) (λz hz C B c2 b2=>⟨sls,?_⟩) ?_
   ·refine⟨_,rfl,_,rfl,_,_,rfl,rfl,(by show(0:Int)<=_;omega),_,_,rfl,rfl,rfl,_,rfl,?_⟩;have key:(decide (V.int (Builtin.bitAnd ((z:Int) / 2^(0+(i:Int)).toNat) 1)=V.int 1)=true)↔z.testBit i=true:=by
     rw[hE0,V.int.injEq,show(0+(i:Int))=((i:Nat):Int) by omega,hBa,qGf];by_cases b:z.testBit i=true
     ·simp[b]
     ·simp[b]
    refine qBp (λcc=>⟨_,rfl,_,rfl,_,rfl,_,_,rfl,rfl,?_⟩) (λcc=>b2 ?_)
    ·have:=c2 (key.mp cc);rw[show iV (2^lo z)=V.int (Builtin.bitAnd (z:Int) (-(z:Int))) by rw[qLv (gm z hz).2]]at this;exact this
    ·cases q2:z.testBit i with
     |false=>rfl
     |true=>exact absurd (key.mpr q2) cc
   ·intro l2 hl2;have n3:=Ext.new hl2 (.lst ((((redL ms).filter λz=>z.testBit i).map λz=>2^lo z).map iV));refine⟨l2,(((redL ms).filter λz=>z.testBit i).map λz=>2^lo z).map (λn:Nat=>(n:Int)),rfl,SqL.of (by rw[upd_same,qD9]),?_⟩;rw[qDq];refine⟨_,_,rfl,rfl,fo,_,_,rfl,rfl,n3 _ _ hf,by rw[hA1];exact qAi (by omega),?_⟩;have ev:(λi j:Int=>V.int (i+j)) (1*2^(0+(i:Int)).toNat) (((((redL ms).filter λz=>z.testBit i).map λz=>2^lo z).sum:Nat):Int)=iV (2^i+((((redL ms).filter λz=>z.testBit i).map λz=>2^lo z).sum)):=by
     show V.int (_+_)=V.int _;rw[show(0+(i:Int))=((i:Nat):Int) by omega,qCc,Int.natCast_add]
    rw[ev];refine⟨_,ns++[2^i+((((redL ms).filter λz=>z.testBit i).map λz=>2^lo z).sum)],rfl,(e.trans n3).over fo0 _,?_,?_,by rw[hA9];exact hD4 ln,qFj lt (zBk lt0 hi' _ λz=>?_)⟩
    ·unfold LsN;rw[qAs rofo];exact n3 _ _ hr'
    ·unfold LsN;rw[upd_same,hA7];rfl
    ·rw[hE0,V.int.injEq,show(0+(i:Int))=((i:Nat):Int) by omega,hBa,qGf,frb,hDr z]at c;cases c
  ·exact⟨_,ns,rfl,e,hr',hf,by omega,lt⟩
 ·rintro σ H' ⟨x5,ns,rfl,e,hr',hf,ln,lt⟩;exact⟨_,rfl,q fo ns _ e fo0 hf (by omega) lt⟩
abbrev mrN:List Str:=["_law_base","_law_many","_law_big_here","_law_most","_law_way","_law_mate"]
theorem qFx:FnScope mrN ["_law_base","_law_many","_law_big_here","_law_most"] (qAa qLf):=fsk
abbrev mrC:List Str:=["_law_step","_law_mate","_law_many"]
theorem qWs(F:Fun K "_law_with_more" "_law_with_more" qLf f fd)(ml:mg "len"=none):v6 1 f fd ["_law_base","_law_many","_law_big_here","_law_most"] qTz:=by
 refine F.okA qFx λcdv A outer s H vs Q E hr h=>?_
 obtain⟨p,ms,m,M,b,rfl,hp,lm,m0,M12,mM,lt,q⟩:=h;refine⟨_,qAb (qM5 PassesOwn.never (qAl qEt (pv 1) (pv 3) (qAp _))
   (qAb (v0 4 qFx (qAg qA9 (pv 2) qAc))
   (qAb (v4 5 qFx (qAg qA9 (qAg qA2 (pv 2) qAc) (pv 1)))
   (qAb (v0 2 qFx (qAg qA2 (qAg qA2 (pv 2) qAc) (pv 1)))
   (qAb (qBb (PW.pt (qM3 (qAl qC7 (pv 4) qAc (qAp _)) (qIj (qAl qEt (qAf qAm rfl ml hAr (pa1 (pv 0))) qAc (qAp _)))))
     (qAd (v0 0 qFx (qAg qF2 (pv 0) (qBe (pa1 (qAg qDb qAc (pv 1)))))))
     (qAd (qBb (PW.pt (qM3 (qAl qC7 (pv 4) qAc (qAp _)) (qIj (qAl qEt (qAf qAm rfl ml hAr (pa1 (pv 0))) qAc (qAp _)))))
      (qAd (v0 0 qFx (qAg qF2 (pv 0) (qBe (pa1 (qAg qZa (qAg qDb qAc (pv 1)) (qAg qDb qAc (pv 5))))))))
      (qAd (qBb (qAl qC7 (pv 4) qAc (qAp _))
       (qAd (qY4 (i:=0) (N:=mrN) (sc:=qAa qLf) (N':=mrC) (sub:=[none,some 5,some 1]) rfl rfl (CmpOk.of (by decide +kernel)) rfl (qAv (pv 0))
        (λC s H fp=>⟨qAh (i:=0) (by show mrC.Nodup;decide) rfl (Or.inl rfl),qAx,qAg qZa (pv 0) (qAg qDb (qAg qCr (qAg qHu (pv 0) (pv 1)) qAc) (pv 2))⟩) qFx.nd rfl (Or.inl rfl)))
       qAu)))))
   (qAd (qQd (i:=1) qFx.nd rfl (Or.inr rfl) qAc qUo)))))))
  (qAd (qAo (pv 0))),?_⟩
 refine⟨λk σ H'=>∃(p:Addr) (ms:List Nat) (m:Nat) (b:Int) (x4 x5:Option V),k=M-m/\σ=[some (.ref p),some (iV m),some (.int b),some (iV M),x4,x5]/\Ext H H'/\LsN H' p ms/\ms.length<=12/\0<m/\m<=M/\∀x∈ms,x<2^m,⟨_,p,ms,m,b,none,none,rfl,rfl,Ext.refl _,hp,lm,m0,mM,lt⟩,?_⟩;clear hp lm m0 mM lt;rintro k σ H' ⟨p,ms,m,b,x4,x5,rfl,rfl,e,hp,lm,m0,mM,lt⟩;refine⟨_,rfl,_,rfl,_,_,rfl,rfl,_,rfl,?_⟩;refine qBp (λc=>?_) (λc=>?_)
 ·have c':m<M:=by
   have:(m:Int)<(M:Int):=hDu c;omega
  refine⟨λσ' H'=>∃k',k'<M-m/\∃(p:Addr) (ms:List Nat) (m:Nat) (b:Int) (x4 x5:Option V),k'=M-m/\σ'=[some (.ref p),some (iV m),some (.int b),some (iV M),x4,x5]/\Ext H H'/\LsN H' p ms/\ms.length<=12/\0<m/\m<=M/\∀x∈ms,x<2^m,λ_ _ h=>h,?_⟩;have mm0:(0:Int)<(m:Int):=by omega
  obtain⟨mt,hmt,mtl⟩:∃mt:Nat,b / 4 % (m:Int)=(mt:Int)/\mt<m:=by
   have h1:=hAw (b / 4) (show(m:Int)≠0 by omega);have h2:=hAp (b / 4) mm0;exact⟨(b / 4 % (m:Int)).toNat,by omega,by omega⟩
  refine⟨_,rfl,_,_,rfl,rfl,(by show(0:Int)<_;decide),?_⟩;refine⟨_,rfl,_,_,rfl,rfl,⟨by decide,by decide⟩,_,rfl,_,_,rfl,rfl,mm0,?_⟩;refine⟨_,rfl,_,_,rfl,rfl,⟨by decide,by decide⟩,_,rfl,_,_,rfl,rfl,⟨mm0,by omega⟩,?_⟩;have mte:(λi j:Int=>V.int (i % j)) (b / 4) (m:Int)=iV mt:=by show V.int _=V.int _;rw[hmt]
  rw[mte];have fin:∀(p':Addr) (ns:List Nat) (b':Int) (x4' x5':Option V) (H2:Hp),Ext H H2->LsN H2 p' ns->ns.length<=12->(∀x∈ns,x<2^(m+1))->∃k',k'<M-m/\∃(p:Addr) (ms:List Nat) (m2:Nat) (b:Int) (x4 x5:Option V),k'=M-m2/\[some (V.ref p'),some (V.int ((m:Int)+1)),some (.int b'),some (iV M),x4',x5']=[some (.ref p),some (iV m2),some (.int b),some (iV M),x4,x5]/\Ext H H2/\LsN H2 p ms/\ms.length<=12/\0<m2/\m2<=M/\∀x∈ms,x<2^m2:=λp' ns b' x4' x5' H2 h1 h2 h3 h4=>⟨M-(m+1),by omega,p',ns,m+1,b',x4',x5',rfl,rfl,h1,h2,h3,by omega,by omega,h4⟩
  have ltS:∀x∈ms,x<2^(m+1):=λx hx=>qNe (lt x hx)
  have nope:∀(k k':Int),k≠k'->decide (V.int (b % 4)=V.int k)=true->¬decide (V.int (b % 4)=V.int k')=true:=λk k' ne h1 h2=>by
   rw[hE0,V.int.injEq]at h1 h2;exact ne (h1.symm.trans h2)
  have bc:∀z:Nat,Builtin.bitAnd ((z:Int) / 2^((mt:Int)).toNat) 1=(((if z.testBit mt=true then 1 else 0:Nat):Nat):Int):=λz=>by
   rw[hBa,qGf];split <;> rfl
  refine⟨_,rfl,rfl,_,rfl,?_⟩;refine qBp (λc1=>?_) (λc1=>?_)
  ·refine⟨_,rfl,p,_,rfl,.inl (SqL.of hp),_,_,rfl,rfl,_,rfl,?_⟩;refine qBp (λc2=>?_) (λc2=>?_)
   ·have l8:ms.length<8:=by
     have:(((ms.map iV).length:Nat):Int)<8:=hDu c2;rw[hA1]at this;omega
    refine⟨_,rfl,_,rfl,_,_,rfl,rfl,⟨by omega,by omega,by decide⟩,(by show 1<=sizeLine;decide),λl hl=>?_⟩;have X1:=Ext.new hl (.lst [V.int (1*2^((m:Int)).toNat)]);refine⟨p,l,_,_,rfl,rfl,X1 _ _ hp,upd_same,?_,λl2 hl2=>?_⟩
    ·rw[hA1];show _+1<=sizeLine;exact hB1 (qAi (by omega))
    ·refine⟨_,rfl,_,_,rfl,rfl,fin l2 (ms++[2^m]) _ _ _ _ (e.trans (X1.trans (Ext.new hl2 _))) ?_ (by rw[hA9];show _+1<=12;omega) (qFj ltS (qE4 (hA3 _)))⟩;unfold LsN;rw[upd_same,hA7];show some (HO.lst (_++[V.int (1*2^((m:Int)).toNat)]))=_;rw[qCc];rfl
   ·refine⟨_,rfl,rfl,_,rfl,?_⟩;refine qBp (λc3=>absurd c3 (nope 0 1 (by decide) c1)) (λc3=>qEo ?_);refine⟨_,rfl,rfl,_,rfl,?_⟩;refine qBp (λc4=>absurd c4 (nope 0 2 (by decide) c1)) (λc4=>?_);exact⟨_,rfl,_,_,rfl,rfl,fin p ms _ _ _ _ e hp lm ltS⟩
  ·refine qEo ⟨_,rfl,rfl,_,rfl,?_⟩;have thr:∀(h:¬False),True:=λ_=>trivial
   refine qBp (λc3=>?_) (λc3=>?_)
   ·refine⟨_,rfl,p,_,rfl,.inl (SqL.of hp),_,_,rfl,rfl,_,rfl,?_⟩;refine qBp (λc2=>?_) (λc2=>?_)
    ·have l8:ms.length<8:=by
      have:(((ms.map iV).length:Nat):Int)<8:=hDu c2;rw[hA1]at this;omega
     refine⟨_,rfl,_,rfl,_,_,rfl,rfl,⟨by omega,by omega,by decide⟩,_,rfl,_,_,rfl,rfl,⟨by omega,by omega,by decide⟩,_,_,rfl,rfl,(by show 1<=sizeLine;decide),λl hl=>?_⟩;have X1:=Ext.new hl (.lst [V.int (Builtin.bitOr (1*2^((m:Int)).toNat) (1*2^((mt:Int)).toNat))]);refine⟨p,l,_,_,rfl,rfl,X1 _ _ hp,upd_same,?_,λl2 hl2=>?_⟩
     ·rw[hA1];show _+1<=sizeLine;exact hB1 (qAi (by omega))
     ·refine⟨_,rfl,_,_,rfl,rfl,fin l2 (ms++[2^m ||| 2^mt]) _ _ _ _ (e.trans (X1.trans (Ext.new hl2 _))) ?_ (by rw[hA9];show _+1<=12;omega) (qFj ltS (qY9 (qE4 (hA3 _)) (qE4 (by omega))))⟩;unfold LsN;rw[upd_same,hA7];show some (HO.lst (_++[V.int (Builtin.bitOr (1*2^((m:Int)).toNat) (1*2^((mt:Int)).toNat))]))=_;rw[qCc,qCc,qRp];rfl
    ·refine⟨_,rfl,rfl,_,rfl,?_⟩;refine qBp (λc4=>absurd c4 (nope 1 2 (by decide) c3)) (λc4=>?_);exact⟨_,rfl,_,_,rfl,rfl,fin p ms _ _ _ _ e hp lm ltS⟩
   ·refine qEo ⟨_,rfl,rfl,_,rfl,?_⟩;refine qBp (λc4=>?_) (λc4=>?_)
    ·refine⟨_,rfl,p,rfl,⟨_,SqL.of hp⟩,?_⟩;refine qEc (λ_=>true) (λz=>z ||| (if z.testBit mt=true then 1 else 0) <<< m) hp (by omega) (λz hz C B cc bb=>⟨sls,?_⟩) ?_
     ·refine iteT (B:=B H') ⟨_,rfl,_,rfl,_,rfl,_,_,rfl,rfl,(by show(0:Int)<=_;omega),_,_,rfl,rfl,_,rfl,_,_,rfl,rfl,⟨by omega,by omega,?_⟩,_,_,rfl,rfl,?_⟩
      ·rw[bc];split <;> decide
      ·have:=cc rfl;rw[show iV (z ||| (if z.testBit mt=true then 1 else 0) <<< m)=V.int (Builtin.bitOr (z:Int) (Builtin.bitAnd ((z:Int) / 2^((mt:Int)).toNat) 1*2^((m:Int)).toNat)) by rw[bc,qR6,qRp]]at this;exact this
     ·intro l hl;refine⟨_,rfl,_,_,rfl,rfl,fin l _ _ _ _ _ (e.trans (Ext.new hl _)) upd_same ?_ λx hx=>?_⟩
      ·rw[hA1];exact hAv (hBy _ _) lm
      ·obtain⟨z,hz,rfl⟩:=hAb.mp hx;refine qY9 (ltS z (hB7.mp hz).1) ?_;split
       ·rw[Nat.one_shiftLeft];exact qE4 (hA3 _)
       ·rw[Nat.zero_shiftLeft];exact hDl (by decide)
    ·exact⟨_,rfl,_,_,rfl,rfl,fin p ms _ _ _ _ e hp lm ltS⟩
 ·have c':¬(m:Int)<(M:Int):=λz=>c (hDr z)
  have:m=M:=by omega
  subst this;exact⟨_,rfl,q p ms _ e hp (by omega) lt⟩
end
theorem qTo(z p:Nat):Builtin.bitAnd (z:Int) (1*2^((p:Int)).toNat-1)=((z&&&(2^p-1):Nat):Int):=by
 rw[qCc];have:0<2^p:=hDl (by decide);rw[show((2^p:Nat):Int)-1=((2^p-1:Nat):Int) by omega,qCx]
theorem qH1{α β:Type}{R:α->β->Prop}:∀ {as:List α} {bs:List β} {cs:List α} {ds:List β},Paired R as bs->Paired R cs ds->Paired R (as++cs) (bs++ds)
 |_,_,_,_,.nil,h=>h
 |_,_,_,_,.cons a r,h=>.cons a (qH1 r h)
def rwE(x:Nat)(n:Nat):List (Int×Int):=(List.range n).map λ(y:Nat)=>((0+(x:Int)),(0+(y:Int)))
def prs:Nat->List (Int×Int)
 |0=>[]
 |i+1=>prs i++rwE i 6
def pr2(t:Int×Int):Bool:=decide (t.1<t.2) && decide (t.2<5)
def pr3(t:Int×Int):Bool:=decide (t.1<3) && decide (3<=t.2)
theorem qLj(x n:Nat):(rwE x n).length=n:=by unfold rwE;rw[hA1,hBq]
theorem qIk:∀i,(prs i).length=6*i
 |0=>rfl
 |i+1=>by
  show(prs i++rwE i 6).length=_;rw[hA9,qIk i,qLj];omega
theorem qV7:((prs 6).filter pr2).length<=12:=by decide +kernel
theorem qV5:((prs 6).filter pr3).length<=12:=by decide +kernel
theorem qV6:0<((prs 6).filter pr2).length:=by decide +kernel
theorem qV4:0<((prs 6).filter pr3).length:=by decide +kernel
theorem qHj{K:PySem.W.Frag}{as:List Addr}{es:List (Int×Int)}{Q:List V->Hp->Prop}{H1:Hp}{σ0:St}{g:TG}{tt:TT}{te:TE}{p:Addr}(pr:Int×Int->Bool)(hp:H1 p=some (.lst (as.map V.ref)))(pe:Paired (λa t=>H1 a=some (.tup (enV t))) as es)(ln:es.length<=36)
  (hs:∀a t,H1 a=some (.tup (enV t))->∀(C:V->Hp->Prop) (B:Hp->Prop),(pr t=true->C (.ref a) H1)->(pr t=false->B H1)->g (.ref a) σ0 H1 λσ2 H2=>Sle σ0 σ2/\tt σ2 H2 λb H3=>if b=true then te σ2 H3 C else B H3)
  (hd:∀bs,Paired (λa t=>H1 a=some (.tup (enV t))) bs (es.filter pr)->Q (bs.map V.ref) H1):qDm (Itl K p) σ0 g tt te Q H1:=by
 have la:as.length=es.length:=pe.length;refine qAt (xs:=as.map V.ref) (λj ys H2=>H2=H1/\∃bs:List Addr,ys=bs.map V.ref/\Paired (λa t=>H1 a=some (.tup (enV t))) bs ((es.take j).filter pr)) ⟨rfl,[],rfl,.nil⟩ (λj ys H2 _ h=>by rw[h.1];exact SqL.of hp) ?_ ?_
 ·rintro j x ys H2 hx ⟨rfl,bs,rfl,pb⟩;obtain⟨a,rfl,ha⟩:=qD4 hx;obtain⟨t,ht,h1⟩:=qA8 pe ha;have hj:=qA7 ht;have lb:bs.length=_:=pb.length;have sz:=hBy pr (es.take j);rw[hAh]at sz;refine hs a t h1 _ _ (λb=>⟨by rw[hA1];exact qAi (by omega),nxt (qA7 hx) ⟨rfl,bs++[a],by rw[hA7];rfl,?_⟩⟩) (λb=>nxt (qA7 hx) ⟨rfl,bs,rfl,?_⟩)
  ·rw[qZ4 ht b];exact pb.snoc h1
  ·rw[qZ5 ht b];exact pb
 ·rintro ys H2 ⟨rfl,bs,rfl,pb⟩;rw[hA1,la,hA6 (hA3 _)]at pb;exact hd bs pb
section
variable{P:Program}{w:World}{K:PySem.W.Frag}{mg:Str->Option Value}{base:Heap}{f f1 f2 f3 f4 f5:Addr}{fd fd1 fd2 fd3 fd4 fd5:FuncData}
abbrev smN:List Str:=["_law_kind","_law_base","_law_pairs","_law_one","_law_lights","_law_point"]
theorem qEz:FnScope smN ["_law_kind"] (qAa qHd):=fsk
abbrev smC:List Str:=["_law_k","_law_pair","_law_point"]
theorem qWp(F:Fun K "_law_small" "_law_small" qHd f fd)(G1:v7 2 f1 fd1 ["_law_numbers","_law_many"] qT2 "_law_crossing")
  (G2:v7 1 f2 fd2 ["_law_numbers"] qJn "_law_reduced") (msu:mg "sum"=none) (mr:mg "range"=none) (me:mg "enumerate"=none) (ml:mg "len"=none):v6 3 f fd ["_law_kind"] qTx:=by
 refine F.okA qEz λcdv A outer s H vs Q E hr h=>?_
 obtain⟨k,rfl,k0,k4,q⟩:=h;have hr1:=hr.mono (j:=1) (by decide);refine⟨_,qAb (qBb (qAl qEt (pv 0) qAc (qAp _))
   (qAb (v0 1 qEz (qBe (qAe qAc (qAe qAc (qAe qAc (pa1 qAc))))))
   (qAd (qAo (qB2 (qAe qAc (pa1 (qBm qB0 (qBe (qAe (pv 1) (pa1 (qAy G1 hr rfl .nil qAz (qAe (pv 1) (pa1 qAc)))))) (pv 0) (λ_ _=>rfl))))))))
   qAu)
  (qAb (v0 2 qEz (qBe qA3))
  (qAb (qBs PassesOwn.never rfl (qBg rfl mr (pa1 qAc)) (v5 3 qEz)
   (qAd (v0 2 qEz (qAg qF2 (pv 2) (qB3 (N:=smN) (sc:=qAa qHd) (N':=["_law_other","_law_one"]) (sub:=[none,some 3]) (qBg rfl mr (pa1 qAc)) (λC s H fp=>⟨qAx,qB2 (qAe (pv 1) (pa1 (pv 0)))⟩))))))
  (qAb (qE2 (λσ H2=>∃(pa:Addr) (x3:Option V) (es:List (Int×Int)),σ=[some (.int k),none,some (.ref pa),x3,none,none]/\Ext H H2/\qEa H2 pa es/\0<es.length/\es.length<=12) (qBb (qAl qC7 (pv 0) qAc (qAp _))
   (qAd (qM6 (i:=2) (N:=smN) (sc:=qAa qHd) (N':=["_law_pair"]) (sub:=[none]) (qAv (pv 2)) (λC s H fp=>⟨qD5 (qM4 qEt qEt (qBm (show IxR _ (qUc K) from qCb) (pv 0) qAc (λ_ _=>rfl)) (qBm (show IxR _ (qUc K) from qCb) (pv 0) qAc (λ_ _=>rfl)) qAc),pv 0⟩) qEz.nd rfl (Or.inl rfl)))
   (qAd (qM6 (i:=2) (N:=smN) (sc:=qAa qHd) (N':=["_law_pair"]) (sub:=[none]) (qAv (pv 2)) (λC s H fp=>⟨qD5 (qM4 qEt qSj (qBm (show IxR _ (qUc K) from qCb) (pv 0) qAc (λ_ _=>rfl)) qAc (qBm (show IxR _ (qUc K) from qCb) (pv 0) qAc (λ_ _=>rfl))),pv 0⟩) qEz.nd rfl (Or.inl rfl)))))
  (qAb (v0 4 qEz (qBe qA3))
  (qAb (qBs PassesOwn.never rfl (qBg rfl mr (pa1 qAc)) (v5 5 qEz)
   (qAd (qC3 (qB8 hAy hBb hBc qB1 (pv 4) (pa1 (qAf (qDl rfl) rfl msu qDn (pa1 (qDf (N:=smN) (sc:=qAa qHd) (N':=smC) (sub:=[none,none,some 5]) rfl rfl (CmpOk.of (by decide +kernel)) rfl (qIm rfl me (pa1 (pv 2)))
    (λC s H fp=>⟨(show PG _ _ (qUr K 2 _) from qCa rfl (qAr (qAh (i:=0) (by show smC.Nodup;decide) rfl (Or.inl rfl)) (qAr (qAh (i:=1) (by show smC.Nodup;decide) rfl (Or.inl rfl)) qBj))),
     qD5 (qAl (show OpR _ (compareOp .In) (rIn K false) from qE5) (pv 2) (pv 1) (by with_unfolding_all rfl)),qAg qDb qAc (pv 0)⟩)))))))))
  (qAd (qAo (qB2 (qAe (qAf qAm rfl ml hAr (pa1 (pv 2))) (pa1 (qAy G2 hr1 rfl .nil qAz (pa1 (pv 4))))))))))))),?_⟩
 refine⟨_,rfl,_,_,rfl,rfl,_,rfl,?_⟩;refine qBp (λc=>?_) (λc=>?_)
 ·have k2:k<2:=hDu c;refine⟨(by show 4<=sizeLine;decide),λl0 h0=>?_⟩;have X0:=Ext.new h0 (.lst ([7,25,42,75].map iV));have hl0:LsN (upd H l0 (.lst ([7,25,42,75].map iV))) l0 [7,25,42,75]:=upd_same;refine⟨_,rfl,_,rfl,l0,[7,25,42,75],7,rfl,hl0,by decide,by decide,by decide,λr ns H1 e1 r0 hr1' ln lt=>?_⟩;refine⟨(by show 2<=sizeLine;decide),λl1 hl1=>?_⟩;have X1:=Ext.new hl1 (.lst [V.ref l0,V.ref r]);obtain rfl|rfl:k=0\/k=1:=by omega
  ·refine⟨_,rfl,l1,_,_,_,rfl,rfl,SqL.of upd_same,(by exact qA5 (j:=0) rfl),(by show 2<=sizeLine;decide),λT hT=>?_⟩;have XT:=X1.trans (Ext.new hT (.tup [iV 7,V.ref l0]));exact q T l0 7 [7,25,42,75] _ (X0.trans (e1.trans XT)) upd_same (XT _ _ (e1 _ _ hl0)) (by decide) (by decide) (by decide) (by decide)
  ·refine⟨_,rfl,l1,_,_,_,rfl,rfl,SqL.of upd_same,(by exact qA5 (j:=1) rfl),(by show 2<=sizeLine;decide),λT hT=>?_⟩;have XT:=X1.trans (Ext.new hT (.tup [iV 7,V.ref r]));exact q T r 7 ns _ (X0.trans (e1.trans XT)) upd_same (XT _ _ hr1') ln (by decide) (by decide) lt
 refine⟨hAs _,λp0 hp0=>?_⟩;refine⟨6,rfl,by decide,by decide,qBt (lo:=0) (n:=6) (λi σ H'=>∃(pa:Addr) (x3:Option V),σ=[some (.int k),none,some (.ref pa),x3,none,none]/\Ext H H'/\qEa H' pa (prs i)) ⟨p0,none,rfl,Ext.new hp0 _,[],upd_same,.nil⟩ ?_ ?_⟩
 ·rintro i σ H' hi ⟨pa,x3,rfl,e,⟨as,hpa,pae⟩⟩;have la:as.length=6*i:=by rw[pae.length,qIk]
  refine⟨_,rfl,6,rfl,by decide,by decide,?_⟩;refine qGc (lo:=0) (n:=6) (λj ys H2=>Ext H' H2/\∃bs:List Addr,ys=bs.map V.ref/\Paired (λa t=>H2 a=some (.tup (enV t))) bs (rwE i j)) ⟨Ext.refl _,[],rfl,.nil⟩ ?_ ?_
  ·rintro j ys H2 hj ⟨e2,bs,rfl,pb⟩;have lb:bs.length=j:=by rw[pb.length,qLj]
   refine⟨sls,iteT (B:=False) ⟨_,rfl,_,rfl,(by show 2<=sizeLine;decide),λT hT=>⟨by rw[hA1];exact qAi (by omega),nxt hj ⟨e2.trans (Ext.new hT _),bs++[T],by rw[hA7];rfl,?_⟩⟩⟩⟩;have er:rwE i (j+1)=rwE i j++[((0+(i:Int)),(0+(j:Int)))]:=by
    unfold rwE;rw[hCi,hA7];rfl
   rw[er];exact Paired.snoc (Paired.mapP pb λa t z=>(Ext.new hT _) _ _ z) upd_same
  ·rintro ys H2 ⟨e2,bs,rfl,pb⟩ l hl;have lb:bs.length=6:=by rw[pb.length,qLj]
   have Xl:=e2.trans (Ext.new hl (.lst (bs.map V.ref)));refine⟨pa,l,_,_,rfl,rfl,Xl _ _ hpa,upd_same,by rw[hA1,hA1];exact hB1 (qAi (by omega)),λl3 hl3=>?_⟩;have X3:=Ext.new hl3 (.lst (as.map V.ref++bs.map V.ref));refine⟨l3,_,rfl,(e.trans Xl).trans X3,as++bs,by rw[upd_same,hA7],qH1 (Paired.mapP pae λa t z=>(Xl.trans X3) _ _ z) (Paired.mapP pb λa t z=>((Ext.new hl _).trans X3) _ _ z)⟩
 rintro σ H' ⟨pa,x3,rfl,e,⟨as,hpa,pae⟩⟩;refine⟨?_,?_⟩
 ·refine⟨_,rfl,rfl,_,rfl,?_⟩;refine qBp (λck=>?_) (λck=>?_)
  ·refine⟨_,rfl,pa,rfl,⟨_,SqL.of hpa⟩,?_⟩;refine qHj pr2 hpa pae (by rw[qIk];decide) (λa t ha C B c b=>⟨sls,?_⟩) ?_
   ·refine⟨_,rfl,a,_,_,_,rfl,rfl,SqT.of ha,(by exact qA5 (j:=0) rfl),_,rfl,a,_,_,_,rfl,rfl,SqT.of ha,(by exact qA5 (j:=1) rfl),_,_,rfl,rfl,_,rfl,?_⟩;refine qBp (λc1=>?_) (λc1=>?_)
    ·refine⟨_,_,rfl,rfl,_,rfl,?_⟩;refine qBp (λc2=>⟨_,rfl,c ?_⟩) (λc2=>b ?_)
     ·show(decide _ && decide _)=true;rw[c1,c2];rfl
     ·show(decide _ && decide _)=false;rw[c1,hCa];simpa using c2
    ·refine⟨_,rfl,qEo (b ?_)⟩;show(decide _ && decide _)=false;rw[show decide _=false by simpa using c1];rfl
   ·intro bs pb l hl;have Xl:=Ext.new hl (.lst (bs.map V.ref));exact⟨l,_,_,rfl,e.trans Xl,⟨bs,upd_same,Paired.mapP pb λa t z=>Xl _ _ z⟩,qV6,qV7⟩
  ·refine⟨_,rfl,pa,rfl,⟨_,SqL.of hpa⟩,?_⟩;refine qHj pr3 hpa pae (by rw[qIk];decide) (λa t ha C B c b=>⟨sls,?_⟩) ?_
   ·refine⟨_,rfl,a,_,_,_,rfl,rfl,SqT.of ha,(by exact qA5 (j:=0) rfl),_,_,rfl,rfl,_,rfl,?_⟩;refine qBp (λc1=>?_) (λc1=>?_)
    ·refine⟨_,rfl,a,_,_,_,rfl,rfl,SqT.of ha,(by exact qA5 (j:=1) rfl),_,_,rfl,rfl,_,rfl,?_⟩;refine qBp (λc2=>⟨_,rfl,c ?_⟩) (λc2=>b ?_)
     ·show(decide _ && decide _)=true;rw[c1,c2];rfl
     ·show(decide _ && decide _)=false;rw[c1,hCa];simpa using c2
    ·refine⟨_,rfl,qEo (b ?_)⟩;show(decide _ && decide _)=false;rw[show decide _=false by simpa using c1];rfl
   ·intro bs pb l hl;have Xl:=Ext.new hl (.lst (bs.map V.ref));exact⟨l,_,_,rfl,e.trans Xl,⟨bs,upd_same,Paired.mapP pb λa t z=>Xl _ _ z⟩,qV4,qV5⟩
 ·rintro σ H2 ⟨pa,x3,es,rfl,e,en,pos,le36⟩;obtain⟨bs,hpa,pae⟩:=id en;have lb:bs.length=es.length:=pae.length;refine⟨hAs _,λli li0=>?_⟩;refine⟨6,rfl,by decide,by decide,qBt (lo:=0) (n:=6) (λi σ H'=>∃(x5:Option V) (ns:List Nat),σ=[some (.int k),none,some (.ref pa),x3,some (.ref li),x5]/\Ext H2 H'/\LsN H' li ns/\ns.length<=i/\∀x∈ns,x<2^es.length) ⟨none,[],rfl,Ext.new li0 _,upd_same,hA3 _,λx hx=>(by cases hx)⟩ ?_ ?_⟩
  ·rintro i σ H' hi ⟨x5,ns,rfl,e2,hli,ln,lt⟩;refine⟨_,rfl,.inl ⟨rfl,_,SqL.of hli⟩,_,rfl,pa,_,rfl,SqL.of (e2 _ _ hpa),?_⟩;rw[hA1];refine qEw (λj ys H3=>Ext H' H3/\∃ms:List Nat,ys=ms.map iV/\ms.length<=j/\ms.sum<2^j) ⟨Ext.refl _,[],rfl,hA3 _,by decide⟩ (λj ys H3 _ p=>SqL.of (p.1 _ _ (e2 _ _ hpa))) ?_ ?_
   ·rintro j ys H3 T hj ⟨e3,ms,rfl,lm,sm⟩ hT;have gd:(bs.map V.ref).getD j .non = .ref bs[j]:=by rw[hA8,hAj,hA2 hj];rfl
    obtain⟨t,ht,h1⟩:=qA8 pae (hA2 hj);have e4:=e3.trans (Ext.new hT (.tup [V.int (j:Nat),(bs.map V.ref).getD j .non]));refine⟨T,_,rfl,SqT.of upd_same,rfl,_,_,rfl,_,_,rfl,rfl,?_⟩;refine⟨Sle.set _ (sls) (λu z=>by cases z),?_⟩;refine⟨_,rfl,_,rfl,bs[j],_,gd,.inr (SqT.of ((e2.trans e4) _ _ h1)),rfl,rfl,_,rfl,?_⟩;refine qBp (λc3=>?_) (λc3=>?_)
    ·refine⟨_,rfl,_,_,rfl,rfl,⟨by omega,by omega,by decide⟩,by rw[hA1];exact qAi (by omega),nxt hj ⟨e4,ms++[2^j],?_,by rw[hA9];exact hD4 lm,by rw[List.sum_append,List.sum_singleton,Nat.pow_succ];omega⟩⟩;rw[hA7];show _++[V.int (1*2^(((j:Nat):Int)).toNat)]=_;rw[qCc];rfl
    ·exact nxt hj ⟨e4,ms,rfl,Nat.le_succ_of_le lm,qNe sm⟩
   ·rintro ys H3 ⟨e3,ms,rfl,lm,sm⟩ l hl;have e4:=e3.trans (Ext.new hl (.lst (ms.map iV)));refine⟨l,ms.map (λn:Nat=>(n:Int)),rfl,SqL.of (by rw[upd_same,qD9]),?_⟩;rw[qDq];refine⟨li,_,_,rfl,rfl,e4 _ _ hli,by rw[hA1];exact qAi (by omega),?_⟩;refine⟨_,ns++[ms.sum],rfl,(e2.trans e4).over li0 _,?_,by rw[hA9];exact hD4 ln,qFj lt (by rw[<-lb];exact sm)⟩;unfold LsN;rw[upd_same,hA7];rfl
  ·rintro σ H' ⟨x5,ns,rfl,e2,hli,ln,lt0⟩;refine⟨_,rfl,pa,_,rfl,.inl (SqL.of (e2 _ _ hpa)),_,rfl,li,ns,es.length,rfl,hli,by omega,lt0,λr H5 e5 r0 hr5=>⟨(by show 2<=sizeLine;decide),λT hT=>?_⟩⟩;have lR:=qIh ns;have XT:=Ext.new hT (.tup [V.int (((bs.map V.ref).length:Nat):Int),V.ref r]);refine q T r es.length (redL ns) _ ((e.trans e2).trans (e5.trans XT)) ?_ (XT _ _ hr5) (by omega) pos le36 (λx hx=>((qDu (m:=es.length) ns lt0).1 x hx).1);rw[upd_same,hA1,lb]
end
theorem qVv{m:Nat}{l:List Nat}(n:Nat)(h:RR (l.map (rv m))):RR ((l.take n).map (rv m)):=by
 refine⟨λs hs=>?_,?_⟩
 ·obtain⟨t,ht,rfl⟩:=hAb.mp hs;exact h.nz _ (hB3 (hCc ht))
 ·rw[hDg];exact h.ap.sublist (List.take_sublist _ _)
theorem qP9{ms:List Nat}{m:Nat}(lt:∀x∈ms,x<2^m):(∀x∈redL ms,x<2^m)/\RR ((redL ms).map (rv m)):=by
 obtain⟨g,e⟩:=qDu (m:=m) ms lt;exact⟨λx hx=>(g x hx).1,by rw[e];exact qDh _⟩
def qTw(K:PySem.W.Frag):Sp:=λvs H Q _=>∃(a:Addr) (ns:List Int),vs=[.ref a,.int 1]/\SqL K H a (ns.map V.int)/\∀(T b:Addr) (m:Nat) (ms:List Nat) (H':Hp),Ext H H'->H' T=some (.tup [iV m,.ref b])->LsN H' b ms->m<=12->ms.length<=8->(∀x∈ms,x<2^m)->RR (ms.map (rv m))->m<=ms.length+8->Q (.ref T) H'
section
variable{P:Program}{w:World}{K:PySem.W.Frag}{mg:Str->Option Value}{base:Heap}{f f1 f2 f3 f4 f5 f6 f7:Addr}{fd fd1 fd2 fd3 fd4 fd5 fd6 fd7:FuncData}
abbrev stN:List Str:=["_law_script","_law_at","_law_big_here","_law_net_here","_law_many","_law_base","_law_most"]
theorem qCq:FnScope stN ["_law_script","_law_at"] (qAa qLc):=fsk
theorem qWo(F:Fun K "_law_steps_of" "_law_steps_of" qLc f fd)
  (G1:v7 2 f1 fd1 ["_law_script","_law_k"] (qK0 K) "_law_big")
  (G2:v7 3 f2 fd2 ["_law_script","_law_at"] (qR2 K) "_law_net")
  (G3:v7 1 f3 fd3 ["_law_net_here"] qKy "_law_even")
  (G4:v7 1 f4 fd4 ["_law_big_here","_law_many"] qT1 "_law_free")
  (G5:v7 3 f5 fd5 ["_law_kind"] qTx "_law_small")
  (G6:v7 1 f6 fd6 ["_law_base","_law_many","_law_big_here","_law_most"] qTz "_law_with_more")
  (G7:v7 1 f7 fd7 ["_law_numbers"] qJn "_law_reduced")
  (ml:mg "len"=none) (mmi:mg "min"=none):v6 4 f fd ["_law_script","_law_at"] (qTw K):=by
 refine F.okA qCq λcdv A outer s H vs Q E hr h=>?_
 obtain⟨a,ns,rfl,hS,q⟩:=h;have hr1:=hr.mono (j:=1) (by decide);have hr2:=hr.mono (j:=2) (by decide)
 let PB:Nat->St->Hp->Prop:=λbd σ H'=>∃(B:Int) (r:Addr) (m:Nat) (b:Addr) (ms:List Nat) (x6:Option V),σ=[some (.ref a),some (.int 1),some (.int B),some (.ref r),some (iV m),some (.ref b),x6]/\Ext H H'/\LsN H' b ms/\m<=12/\ms.length<=bd/\∀x∈ms,x<2^m
 refine⟨_,qAb (v0 2 qCq (qAy G1 hr2 rfl .nil qAz (qAe (pv 0) (pa1 (qAg qBh (pv 1) qAc)))))
  (qAb (v0 3 qCq (qAy G2 hr rfl .nil qAz (qAe (pv 0) (pa1 (pv 1)))))
  (qAb (qE2 (PB 12) (qE3 (qB2 (qAe (qAf qAm rfl ml hAr (pa1 (pv 3))) (pa1 (qAy G3 hr1 rfl .nil qAz (pa1 (pv 3)))))) (qCa rfl (qAr (v5 4 qCq) (qAr (v3 5 qCq) qBj)))))
  (qAb (qE2 (PB 24) (qBb (qAl qEt (qAg qA9 (pv 2) qAc) qAc (qAp _))
   (qAd (v0 5 qCq (qAg qF2 (pv 5) (qB6 qEr (qAy G4 hr1 rfl .nil qAz (qAe (qAg qA2 (pv 2) qAc) (pa1 (pv 4)))) qC5 (qC4 (qAg qBh qAc (qAg qA9 (pv 2) qAc)))))))
   qAu))
  (qAb (qE2 (PB 24) (qBb (qAl qC7 (qAg qA9 (pv 2) qAc) qAc (qAp _))
   (qAb (v4 4 qCq (qAg qBh qAc (qAg qA9 (qAg qA2 (pv 2) qAc) qAc)))
   (qAd (v0 5 qCq (qAy G4 hr1 rfl .nil qAz (qAe (qAg qA2 (pv 2) qAc) (pa1 (pv 4)))))))
   qAu))
  (qAb (qE2 (PB 24) (qBb (qAl qFp (qAg qA9 (pv 2) qAc) qAc (qAp _))
   (qAb (qE3 (qAy G5 hr rfl .nil qAz (pa1 (qAg qA9 (qAg qA2 (pv 2) qAc) qAc))) (qCa rfl (qAr (v5 4 qCq) (qAr (v3 5 qCq) qBj))))
   (qAb (v0 6 qCq (qAf (qG7 rfl) rfl mmi qG9 (qAe qAc (pa1 (qAg qBh (pv 4) (qAg qA9 (qAg qA2 (pv 2) qAc) qAc))))))
   (qAb (v0 5 qCq (qAy G6 hr1 rfl .nil qAz (qAe (pv 5) (qAe (pv 4) (qAe (qAg qA2 (pv 2) qAc) (pa1 (pv 6)))))))
   (qAd (v4 4 qCq (pv 6))))))
   qAu))
  (qAb (v0 5 qCq (qB6 qEr (qAy G7 hr1 rfl .nil qAz (pa1 (pv 5))) qC5 (qC4 qAc)))
  (qAb (qM5 PassesOwn.never (qAl qFp (qAg qEm (pv 4) (qAf qAm rfl ml hAr (pa1 (pv 5)))) qAc (qAp _))
   (qAb (qQd (i:=4) qCq.nd rfl (Or.inr rfl) qAc qZw)
   (qAd (v0 5 qCq (qAy G7 hr1 rfl .nil qAz (pa1 (qB3 (N:=stN) (sc:=qAa qLc) (N':=["_law_step","_law_many"]) (sub:=[none,some 4]) (qAv (pv 5)) (λC s H fp=>⟨qAx,qAg qCr (pv 0) (qAg qEm (qAg qDb qAc (pv 1)) qAc)⟩))))))))
  (qAd (qAo (qB2 (qAe (pv 4) (pa1 (pv 5))))))))))))),?_⟩
 refine⟨_,rfl,_,rfl,_,_,rfl,rfl,a,ns,_,rfl,hS,by decide,by decide,λB=>?_⟩;refine⟨_,rfl,_,rfl,a,ns,1,rfl,by decide,by decide,hS,λr net H1 e1 r0 nt ln tx rs _ _=>?_⟩;refine⟨?_,?_⟩
 ·obtain⟨as,hn1,pr⟩:=id nt;have lA:as.length=net.length:=pr.length;refine⟨_,rfl,r,_,rfl,.inl (SqL.of hn1),_,rfl,r,net,rfl,nt,(by omega),λev F Kp ps' H2 e2 ev0 hev pok' ei kw=>?_⟩;have lF:F.length<=12:=by have:=ei.len;omega
  refine⟨(by show 2<=sizeLine;decide),λT hT=>⟨T,_,rfl,SqT.of upd_same,rfl,_,_,rfl,_,_,rfl,rfl,?_⟩⟩;have XT:=Ext.new hT (.tup [V.int (((as.map V.ref).length:Nat):Int),V.ref ev]);exact⟨B,r,(as.map V.ref).length,ev,F,none,rfl,e1.trans (e2.trans XT),XT _ _ hev,by rw[hA1];omega,by omega,λx hx=>by rw[hA1,lA];exact(ei.f1 x hx).1⟩
 rintro σ H2 ⟨B,r,m,b,ms,x6,rfl,e,hb,m12,lm,lt⟩;refine⟨?_,?_⟩
 ·refine⟨_,rfl,_,_,rfl,rfl,(by show(0:Int)<_;decide),_,_,rfl,rfl,_,rfl,?_⟩;refine qBp (λc=>?_) (λc=>?_)
  ·have c':B % 8<2:=hDu c;have b0:=hAw B (show(8:Int)≠0 by decide);obtain⟨t,ht⟩:∃t:Nat,1+B % 8=(t:Int):=⟨(1+B % 8).toNat,by omega⟩;refine⟨_,rfl,_,rfl,_,_,rfl,rfl,⟨by decide,by decide⟩,_,rfl,_,m,rfl,m12,λr2 ns2 H3 e3 r20 hr2' l2 lt2'=>?_⟩;refine⟨_,rfl,_,_,rfl,rfl,(by show(0:Int)<_;decide),_,_,rfl,rfl,_,rfl,r2,_,rfl,SqL.of hr2',λl hl=>?_⟩;rw[show qOq (ns2.map iV) none (some (1+B % 8))=(ns2.take t).map iV by rw[ht,qNq,hDg]];have Xl:=Ext.new hl (.lst ((ns2.take t).map iV));have ltk:=List.length_take_le t ns2;have lt2:(ns2.take t).length<=ns2.length:=by rw[hAh];omega
   refine⟨b,l,_,_,rfl,rfl,(e3.trans Xl) _ _ hb,upd_same,by rw[hA1,hA1];exact hB1 (qAi (by omega)),λl3 hl3=>?_⟩;exact⟨B,r,m,l3,ms++ns2.take t,x6,rfl,((e.trans e3).trans Xl).trans (Ext.new hl3 _),by unfold LsN;rw[upd_same,hA7],m12,by rw[hA9];omega,λx hx=>(hAf.mp hx).elim (lt x) λz=>lt2' x (hCc z)⟩
  ·exact⟨B,r,m,b,ms,x6,rfl,e,hb,m12,by omega,lt⟩
 clear e hb m12 lm lt;rintro σ H2 ⟨B,r,m,b,ms,x6,rfl,e,hb,m12,lm,lt⟩;refine⟨?_,?_⟩
 ·refine⟨_,rfl,_,_,rfl,rfl,(by show(0:Int)<_;decide),rfl,_,rfl,?_⟩;refine qBp (λc=>?_) (λc=>?_)
  ·have b0:=hAw (B / 8) (show(12:Int)≠0 by decide);have b1:=hAp (B / 8) (show(0:Int)<12 by decide);obtain⟨m',hm'⟩:∃m':Nat,1+B / 8 % 12=(m':Int):=⟨(1+B / 8 % 12).toNat,by omega⟩;have ev:(λi j:Int=>V.int (i+j)) 1 (B / 8 % 12)=iV m':=congrArg V.int hm';refine⟨_,rfl,_,_,rfl,rfl,⟨by decide,by decide⟩,_,_,rfl,rfl,(by show(0:Int)<_;decide),_,_,rfl,rfl,?_⟩;rw[ev];exact⟨_,rfl,_,_,rfl,rfl,⟨by decide,by decide⟩,_,rfl,_,m',rfl,by omega,λr2 ns2 H3 e3 r20 hr2' l2 lt2'=>⟨B,r,m',r2,ns2,x6,rfl,e.trans e3,hr2',by omega,by omega,lt2'⟩⟩
  ·exact⟨B,r,m,b,ms,x6,rfl,e,hb,m12,lm,lt⟩
 clear e hb m12 lm lt;rintro σ H2 ⟨B,r,m,b,ms,x6,rfl,e,hb,m12,lm,lt⟩;refine⟨?_,?_⟩
 ·refine⟨_,rfl,_,_,rfl,rfl,(by show(0:Int)<_;decide),_,_,rfl,rfl,_,rfl,?_⟩;refine qBp (λc=>?_) (λc=>?_)
  ·have b0:=hAw (B / 8) (show(4:Int)≠0 by decide);have b1:=hAp (B / 8) (show(0:Int)<4 by decide);have d0:=hAw (B / 32) (show(4:Int)≠0 by decide);have d1:=hAp (B / 32) (show(0:Int)<4 by decide);refine⟨_,rfl,_,_,rfl,rfl,⟨by decide,by decide⟩,_,_,rfl,rfl,(by show(0:Int)<_;decide),B / 8 % 4,rfl,b0,b1,λT b2 m2 ns2 H3 e3 hT hb2 l2 mp m36 lt2'=>?_⟩;refine⟨T,_,rfl,SqT.of hT,rfl,_,_,rfl,_,_,rfl,rfl,?_⟩;obtain⟨M,hM,M12,mM⟩:∃M:Nat,(if (m2:Int)+B / 32 % 4<12 then (m2:Int)+B / 32 % 4 else 12)=(M:Int)/\M<=12/\m2<=M:=by
    split
    ·exact⟨((m2:Int)+B / 32 % 4).toNat,by omega,by omega,by omega⟩
    ·exact⟨12,rfl,by decide,m36⟩
   refine⟨_,rfl,_,rfl,_,_,rfl,rfl,⟨by decide,by decide⟩,_,_,rfl,rfl,(by show(0:Int)<_;decide),_,_,rfl,rfl,12,(m2:Int)+B / 32 % 4,rfl,?_⟩;rw[hM];refine⟨_,rfl,_,rfl,_,rfl,_,_,rfl,rfl,⟨by decide,by decide⟩,_,rfl,b2,ns2,m2,M,_,rfl,hb2,l2,mp,M12,mM,lt2',λr3 ns3 H4 e4 hr3 l3 lt3=>?_⟩;exact⟨_,rfl,B,r,M,r3,ns3,_,rfl,e.trans (e3.trans e4),hr3,M12,l3,lt3⟩
  ·exact⟨B,r,m,b,ms,x6,rfl,e,hb,m12,lm,lt⟩
 clear e hb m12 lm lt;rintro σ H2 ⟨B,r,m,b,ms,x6,rfl,e,hb,m12,lm,lt⟩;obtain⟨lt0,rr0⟩:=qP9 lt;refine⟨_,rfl,b,ms,m,rfl,hb,lm,lt,λr2 H3 e3 r20 hr2'=>⟨_,rfl,r2,_,rfl,SqL.of hr2',λl hl=>?_⟩⟩;rw[show qOq ((redL ms).map iV) none (some 8)=((redL ms).take 8).map iV by rw[show(8:Int)=((8:Nat):Int) from rfl,qNq,hDg]];have Xl:=Ext.new hl (.lst (((redL ms).take 8).map iV));refine⟨λk σ H'=>∃(m:Nat) (b:Addr) (ms:List Nat),k=m/\σ=[some (.ref a),some (.int 1),some (.int B),some (.ref r),some (iV m),some (.ref b),x6]/\Ext H H'/\LsN H' b ms/\m<=12/\ms.length<=8/\(∀x∈ms,x<2^m)/\RR (ms.map (rv m)),⟨_,m,l,_,rfl,rfl,(e.trans e3).trans Xl,upd_same,m12,(by rw[hAh];omega),λx hx=>lt0 x (hCc hx),qVv 8 rr0⟩,?_⟩;clear e hb m12 lm lt lt0 rr0 hr2' hl Xl;rintro k σ H' ⟨m,b,ms,rfl,rfl,e,hb,m12,lm,lt,rr⟩;refine⟨_,rfl,_,rfl,b,_,rfl,.inl (SqL.of hb),_,_,rfl,rfl,_,_,rfl,rfl,_,rfl,?_⟩;refine qBp (λc=>?_) (λc=>?_)
 ·have c':8<k:=by
   have:(8:Int)<(k:Int)-(((ms.map iV).length:Nat):Int):=hDu c;omega
  refine⟨λσ' H'=>∃k',k'<k/\∃(m:Nat) (b:Addr) (ms:List Nat),k'=m/\σ'=[some (.ref a),some (.int 1),some (.int B),some (.ref r),some (iV m),some (.ref b),x6]/\Ext H H'/\LsN H' b ms/\m<=12/\ms.length<=8/\(∀x∈ms,x<2^m)/\RR (ms.map (rv m)),λ_ _ h=>h,?_⟩;refine⟨_,rfl,_,_,rfl,rfl,?_⟩;have ev:V.int ((k:Int)-1)=iV (k-1):=congrArg V.int (by omega);show(λz H2=>_) (V.int ((k:Int)-1)) H';rw[ev];refine⟨_,rfl,b,rfl,⟨_,SqL.of hb⟩,?_⟩;refine qEc (λ_=>true) (λz=>z&&&(2^(k-1)-1)) hb (by omega) (λz hz C B' cc bb=>⟨sls,?_⟩) ?_
  ·refine iteT (B:=B' H') ⟨_,rfl,_,rfl,_,_,rfl,rfl,⟨by omega,by omega,by decide⟩,_,_,rfl,rfl,_,_,rfl,rfl,?_⟩;have:=cc rfl;rw[show iV (z&&&(2^(k-1)-1))=V.int (Builtin.bitAnd (z:Int) (1*2^(((k-1:Nat):Int)).toNat-1)) by rw[qTo]]at this;exact this
  ·intro l2 hl2;have X2:=Ext.new hl2 (.lst (((ms.filter λ_=>true).map λz=>z&&&(2^(k-1)-1)).map iV));have l2l:((ms.filter λ_=>true).map λz=>z&&&(2^(k-1)-1)).length<=8:=by
    rw[hA1];exact hAv (hBy _ _) lm
   have lt1:∀x∈(ms.filter λ_=>true).map λz=>z&&&(2^(k-1)-1),x<2^(k-1):=λx hx=>by
    obtain⟨z,_,rfl⟩:=hAb.mp hx;have p:0<2^(k-1):=hDl (by decide);have:=Nat.and_le_right (n:=z) (m:=2^(k-1)-1);omega
   obtain⟨lt2,rr2⟩:=qP9 lt1;refine⟨l2,_,k-1,rfl,upd_same,by omega,lt1,λr3 H4 e4 r30 hr3=>?_⟩;exact⟨k-1,by omega,k-1,r3,_,rfl,rfl,e.trans (X2.trans e4),hr3,by omega,hAv (qIh _) l2l,lt2,rr2⟩
 ·refine⟨_,rfl,_,rfl,(by show 2<=sizeLine;decide),λT hT=>?_⟩;have XT:=Ext.new hT (.tup [iV k,V.ref b]);have c':¬(8:Int)<(k:Int)-(((ms.map iV).length:Nat):Int):=λz=>c (hDr z)
  rw[hA1]at c';exact q T b k ms _ (e.trans XT) upd_same (XT _ _ hb) m12 lm lt rr (by omega)
end
theorem zA1{aA:List Str}(nd:aA.Nodup){ms us:List Nat}(lt:∀x∈ms,x<2^aA.length)(rr:RR (ms.map (rv aA.length)))(h1:∀x∈us,Spn ms x)(h2:∀x∈ms,x∈us):Rk aA (us.map (qOi aA))=ms.length:=by
 have ltu:∀x∈us,x<2^aA.length:=λx hx=>(h1 x hx).lt lt
 have e:(us.map (qOi aA)).map (maskF aA)=us.map (rv aA.length):=by
  rw[hAz];refine hC3 λx hx=>?_
  show maskF aA (qOi aA x)=_;rw[<-qVw,qJ4 nd (qVu _ _)]
 unfold Rk;rw[e];have r1:=qDh (us.map (rv aA.length));have sp:∀y,Spn (red (us.map (rv aA.length))) y↔Spn (ms.map (rv aA.length)) y:=λy=>by
  rw[qDt,qO8 ltu,qO8 lt];exact and_congr_right λ_=>⟨λa=>a.mono h1,λa=>a.mono λx hx=>.mem (h2 x hx)⟩
 have:=((hCe r1.nd rr.nd).mpr λz=>⟨qFm r1 rr sp z,qFm rr r1 (λy=>(sp y).symm) z⟩).length_eq;rw[this,hA1]
theorem qVf{ms:List Nat}{z d:Nat}(h:Spn ms z)(hd:d<2):Spn ms (z*d):=by
 rcases(show d=0\/d=1 by omega) with rfl|rfl
 ·rw[Nat.mul_zero];exact .zero
 ·rw[Nat.mul_one];exact h
structure TabN(aA:List Str)(rows:List (List Str)):Prop where
 rn:qHf aA
 nm:∀n∈aA,qDz n
 rw:∀r∈rows,∃x,r=qOi aA x
 bn:Bnd aA rows
def qPh(K:PySem.W.Frag):Sp:=λvs H Q _=>∃(a:Addr) (ns:List Int),vs=[.ref a,.int 1]/\SqL K H a (ns.map V.int)/\∀(T:Addr) (aA:List Str) (rows:List (List Str)) (H':Hp),Ext H H'->qHe H' T aA rows->TabN aA rows->Q (.ref T) H'
section
variable{P:Program}{w:World}{K:PySem.W.Frag}{mg:Str->Option Value}{base:Heap}{f f1 f2 f3 f4 f5 f6 f7:Addr}{fd fd1 fd2 fd3 fd4 fd5 fd6 fd7:FuncData}
abbrev tbN:List Str:=["_law_script","_law_at","_law_many","_law_base","_law_names_here","_law_rows","_law_big_here","_law_k","_law_mix","_law_row_here"]
theorem qD2:FnScope tbN ["_law_script","_law_at"] (qAa qLb):=fsk
theorem qWn(F:Fun K "_law_table" "_law_table" qLb f fd)
  (G1:v7 4 f1 fd1 ["_law_script","_law_at"] (qTw K) "_law_steps_of")
  (G2:v7 1 f2 fd2 ["_law_big_here","_law_many"] qKx "_law_names")
  (G3:v7 2 f3 fd3 ["_law_script","_law_k"] (qK0 K) "_law_big")
  (G4:v7 1 f4 fd4 ["_law_names_here","_law_number"] qTy "_law_row")
  (ml:mg "len"=none) (mL:mg "list"=none) (mso:mg "sorted"=none) (mr:mg "range"=none):v6 5 f fd ["_law_script","_law_at"] (qPh K):=by
 refine F.okA qD2 λcdv A outer s H vs Q E hr h=>?_
 obtain⟨a,ns,rfl,hS,q⟩:=h;have hr1:=hr.mono (j:=1) (by decide);have hr2:=hr.mono (j:=2) (by decide);refine⟨_,qAb (qE3 (qAy G1 hr rfl .nil qAz (qAe (pv 0) (pa1 (pv 1)))) (qCa rfl (qAr (v3 2 qD2) (qAr (v3 3 qD2) qBj))))
  (qAb (v4 4 qD2 (qAf qF3 rfl mso qBv (pa1 (qAy G2 hr1 rfl .nil qAz (qAe (qAy G3 hr2 rfl .nil qAz (qAe (pv 0) (pa1 (qAg qBh (pv 1) qAc)))) (pa1 (pv 2)))))))
  (qAb (v0 5 qD2 (qBd qF4 rfl mL qC1 (pa1 (pv 3))))
  (qAb (v0 6 qD2 (qAy G3 hr2 rfl .nil qAz (qAe (pv 0) (pa1 (qAg qBh (pv 1) qAc)))))
  (qAb (qBs PassesOwn.never rfl (qBg rfl mr (pa1 (qAg qA9 (pv 6) qAc))) (v3 7 qD2)
   (qAb (v0 8 qD2 qAc)
   (qAb (qBs PassesOwn.never rfl (qAv (qB6 qEr (pv 5) qC5 (qC4 (qAf qAm rfl ml hAr (pa1 (pv 3)))))) (v3 9 qD2)
    (qAb (v0 8 qD2 (qAg qF1 (pv 8) (qAg qEn (pv 9) (qAg qA9 (qAg qA2 (pv 6) qAc) qAc))))
    (qAd (v0 6 qD2 (qAg qA2 (pv 6) qAc)))))
   (qAd (qC3 (qB8 hAy PySem.F.slot_list_insert PySem.F.type_list_insert qQq (pv 5) (qAe (qAg qA9 (qAg qA2 (pv 6) qAc) (qAg qBh (qAf qAm rfl ml hAr (pa1 (pv 5))) qAc)) (pa1 (pv 8)))))))))
  (qAd (qAo (qB2 (qAe (pv 4) (pa1 (qB3 (N:=tbN) (sc:=qAa qLb) (N':=["_law_row_here","_law_names_here"]) (sub:=[none,some 4]) (qAv (qB6 qEr (pv 5) qC5 (qC4 qAc))) (λC s H fp=>⟨qAx,qAy G4 hr1 rfl .nil qAz (qAe (pv 1) (pa1 (pv 0)))⟩))))))))))),?_⟩
 refine⟨_,rfl,_,rfl,a,ns,rfl,hS,λT0 b m ms H1 e1 hT0 hb m12 lm lt rr mm=>?_⟩;refine⟨T0,_,rfl,SqT.of hT0,rfl,_,_,rfl,_,_,rfl,rfl,?_⟩;refine⟨_,rfl,_,rfl,_,_,rfl,rfl,a,ns,_,rfl,Ext.sqL e1 hS,by decide,by decide,λB1=>?_⟩;refine⟨_,rfl,B1,(m:Int),rfl,by omega,by omega,λnr ss H2 e2 nr0 hss lss tx ndc=>?_⟩;have nd0:ss.Nodup:=ndc (by omega);refine⟨nr,ss,rfl,SqL.of hss,by omega,λnm aA hnm pm srt=>?_⟩;have nd:aA.Nodup:=pm.symm.nodup nd0;have rn:qHf aA:=qIg srt nd;have ok:∀x∈aA,qDz x:=λx hx=>tx x (pm.mem_iff.mp hx)
 have lnm:aA.length=m:=by rw[pm.length_eq,lss];omega
 have ln:aA.length<=12:=by rw[pm.length_eq,lss];omega
 have X2:=Ext.new hnm (.lst (aA.map V.str));have E2:=e1.trans (e2.trans X2);have hb2:=(e2.trans X2) _ _ hb;have hn2:LsS (upd H2 nm (.lst (aA.map V.str))) nm aA:=upd_same;revert E2 hb2 hn2;generalize upd H2 nm (.lst (aA.map V.str))=Hb;intro E2 hb2 hn2;refine⟨_,rfl,b,_,rfl,.inl (SqL.of hb2),λrw rw0=>?_⟩;have X3:=Ext.new rw0 (.lst (ms.map iV));refine⟨_,rfl,_,rfl,_,_,rfl,rfl,a,ns,_,rfl,Ext.sqL (E2.trans X3) hS,by decide,by decide,λB2=>?_⟩;have h1:=hAw B2 (show(9:Int)≠0 by decide);have h2:=hAp B2 (show(0:Int)<9 by decide);refine⟨_,rfl,_,_,rfl,rfl,(by show(0:Int)<_;decide),B2 % 9,rfl,by omega,by omega,?_⟩;refine qBt (lo:=0) (n:=(B2 % 9).toNat) (λi σ H'=>∃(B:Int) (x7 x8 x9:Option V) (ns:List Nat),σ=[some (.ref a),some (.int 1),some (iV m),some (.ref b),some (.ref nm),some (.ref rw),some (.int B),x7,x8,x9]/\Ext Hb H'/\LsN H' rw ns/\ns.length<=8+i/\(∀x∈ns,Spn ms x)/\∀x∈ms,x∈ns) ⟨B2,none,none,none,ms,rfl,X3,upd_same,by omega,λx hx=>.mem hx,λx hx=>hx⟩ ?_ ?_
 ·rintro i σ H' hi ⟨B,x7,x8,x9,ns,rfl,e,hrw,ln2,sp1,sp2⟩;refine⟨_,rfl,_,rfl,b,_,rfl,.inl (SqL.of (e _ _ hb2)),_,rfl,rw,_,rfl,SqL.of hrw,λsl hsl=>?_⟩;rw[qNq,hA1,<-hDg];have Xs:=Ext.new hsl (.lst ((ns.take ms.length).map iV));have hs2:LsN (upd H' sl (.lst ((ns.take ms.length).map iV))) sl (ns.take ms.length):=upd_same;have hrw2:=Xs _ _ hrw;have e2':=e.trans Xs;revert hs2 hrw2 e2';generalize upd H' sl (.lst ((ns.take ms.length).map iV))=H3;intro hs2 hrw2 e2';refine⟨sl,rfl,⟨_,SqL.of hs2⟩,?_⟩;refine qCu (xs:=(ns.take ms.length).map iV) (λj σ H''=>H''=H3/\∃(B:Int) (x9:Option V) (mix:Nat),Spn ms mix/\σ=[some (.ref a),some (.int 1),some (iV m),some (.ref b),some (.ref nm),some (.ref rw),some (.int B),some (.int (0+(i:Int))),some (iV mix),x9]) ⟨rfl,B,x9,0,.zero,rfl⟩ (λj σ H'' _ h=>by rw[h.1];exact SqL.of hs2) ?_ ?_
  ·rintro j v σ H'' hx ⟨rfl,B,x9,mix,smx,rfl⟩;obtain⟨z,rfl,hz⟩:=qD0 hx;have d0:=hAw (B / 9) (show(2:Int)≠0 by decide);have d1:=hAp (B / 9) (show(0:Int)<2 by decide);obtain⟨d,hd⟩:∃d:Nat,B / 9 % 2=(d:Int):=⟨(B / 9 % 2).toNat,by omega⟩;have ev:(λi j:Int=>V.int (Builtin.bitXor i j)) (mix:Int) ((z:Int)*(B / 9 % 2))=iV (mix^^^(z*d)):=by
    show V.int (Builtin.bitXor (mix:Int) ((z:Int)*(B / 9 % 2)))=V.int _;rw[hd,<-Int.natCast_mul,qDy]
   refine⟨_,rfl,_,rfl,_,rfl,_,_,rfl,rfl,⟨by decide,by decide⟩,_,_,rfl,rfl,(by show(0:Int)<_;decide),_,_,rfl,rfl,.inr ⟨by omega,by omega⟩,_,_,rfl,rfl,?_⟩;rw[ev];exact⟨_,rfl,_,_,rfl,rfl,⟨by decide,by decide⟩,rfl,_,_,_,smx.xor (qVf (sp1 z (hCc (hAd hz))) (by omega)),rfl⟩
  ·rintro σ H'' ⟨rfl,B,x9,mix,smx,rfl⟩;have l1:(0:Int)<((ns.length:Nat):Int)+1:=by omega
   have i0:=hAw (B / 9) (show((ns.length:Nat):Int)+1≠0 by omega);have i1:=hAp (B / 9) l1;obtain⟨p,hp⟩:∃p:Nat,B / 9 % (((ns.length:Nat):Int)+1)=(p:Int):=⟨(B / 9 % (((ns.length:Nat):Int)+1)).toNat,by omega⟩;have hp':B / 9 % ((((ns.map iV).length:Nat):Int)+1)=(p:Int):=by rw[hA1];exact hp
   refine⟨_,rfl,.inl ⟨rfl,_,SqL.of hrw2⟩,_,rfl,_,_,rfl,rfl,⟨by decide,by decide⟩,_,rfl,rw,_,rfl,.inl (SqL.of hrw2),_,_,rfl,rfl,_,_,rfl,rfl,(by show(0:Int)<(((ns.map iV).length:Nat):Int)+1;omega),_,rfl,?_⟩;refine⟨rw,ns.map iV,p,iV mix,rfl,congrArg (λz=>[V.int z,iV mix]) hp',hrw2,by rw[hA1];omega,by rw[hA1];omega,?_⟩;refine⟨B,_,_,x9,ns.take p++mix :: ns.drop p,rfl,e2'.over rw0 _,?_,?_,λx hx=>?_,λx hx=>?_⟩
   ·unfold LsN;rw[upd_same,hA7,hAu,hDg,List.map_drop]
   ·rw[hA9,hB2,hAh,hCn];omega
   ·rcases hAf.mp hx with z|z
    ·exact sp1 x (hCc z)
    ·rcases hAc.mp z with rfl|z
     ·exact smx
     ·exact sp1 x (List.mem_of_mem_drop z)
   ·have:=sp2 x hx;rw[<-List.take_append_drop p ns]at this;rcases hAf.mp this with z|z
    ·exact hAk _ z
    ·exact hAa _ (hA4 _ z)
 ·rintro σ H' ⟨B,x7,x8,x9,ns,rfl,e,hrw,ln2,sp1,sp2⟩;refine⟨_,rfl,_,rfl,_,rfl,rw,_,rfl,SqL.of hrw,λsl hsl=>?_⟩;rw[show qOq (ns.map iV) none (some 16)=(ns.take 16).map iV by rw[show(16:Int)=((16:Nat):Int) from rfl,qNq,hDg]];have Xs:=Ext.new hsl (.lst ((ns.take 16).map iV));have l16:(ns.take 16).length<=16:=by rw[hAh];omega
  have tk16:ns.take 16=ns:=hA6 (by omega);have sp1':∀x∈ns.take 16,Spn ms x:=by rw[tk16];exact sp1
  have sp2':∀x∈ms,x∈ns.take 16:=by rw[tk16];exact sp2
  have hs2:LsN (upd H' sl (.lst ((ns.take 16).map iV))) sl (ns.take 16):=upd_same;have e2':=e.trans Xs;revert hs2 e2';generalize upd H' sl (.lst ((ns.take 16).map iV))=H3;clear tk16;generalize ns.take 16=us at l16 sp1' sp2';intro hs2 e2';refine⟨sl,rfl,⟨_,SqL.of hs2⟩,?_⟩;refine qAt (xs:=us.map iV) (λj ys H4=>Ext H3 H4/\∃as,ys=as.map V.ref/\Paired (LsS H4) as ((us.take j).map (qOi aA))) ⟨Ext.refl _,[],rfl,.nil⟩ (λj ys H4 _ h=>SqL.of (h.1 _ _ hs2)) ?_ ?_
  ·rintro j v ys H4 hx ⟨e4,as,rfl,pr⟩;obtain⟨x,rfl,hx'⟩:=qD0 hx;have hj:=qA7 hx';have la:as.length=_:=pr.length;rw[hA1,hAh]at la;refine⟨sls,iteT (B:=False) ⟨_,rfl,_,rfl,nm,aA,x,rfl,(e2'.trans e4) _ _ hn2,ln,λr3 H5 e5 r30 h3=>⟨?_,nxt (qA7 hx) ⟨e4.trans e5,as++[r3],by rw[hA7];rfl,?_⟩⟩⟩⟩
   ·rw[hA1];exact qAi (by omega)
   ·rw[qAk hx',hA7];exact Paired.snoc (Paired.mapP pr λa t z=>e5 _ _ z) h3
  ·rintro ys H4 ⟨e4,as,rfl,pr⟩ bb hbb;rw[hA1,hA6 (hA3 _)]at pr;have XB:=Ext.new hbb (.lst (as.map V.ref));refine⟨(by show 2<=sizeLine;decide),λT hT=>?_⟩;have XT:=Ext.new hT (.tup [V.ref nm,V.ref bb]);refine q T aA (us.map (qOi aA)) _ (E2.trans (e2'.trans (e4.trans (XB.trans XT)))) ⟨nm,bb,upd_same,(e2'.trans (e4.trans (XB.trans XT))) _ _ hn2,⟨as,XT _ _ upd_same,Paired.mapP pr λa t z=>(XB.trans XT) _ _ z⟩⟩ ⟨rn,ok,λr hr=>?_,?_⟩
   rotate_left
   ·have rk:=zA1 (qP6 rn) (by rw[lnm];exact lt) (by rw[lnm];exact rr) sp1' sp2';exact⟨ln,by rw[hA1];exact l16,by rw[rk];exact lm,by rw[rk,lnm];exact mm⟩
   obtain⟨x,_,rfl⟩:=hAb.mp hr;exact⟨x,rfl⟩
end
end My
namespace L2
open PySem PySem.Spec PyProof.Rows PySem.SeqAt PySem.MeetsSeq
end L2
namespace L2
open PySem PySem.Spec PyProof.Rows
end L2
namespace L2
open PySem PySem.Spec PyProof.Rows PySem.SeqAt
section
variable{X:Cx}
theorem qQk:OpR X (compareOp .LtE) (λx y H Q=>∃i j,x = .str i/\y = .str j/\Q (.bl (!decide (j.cps.toList<i.cps.toList))) H):=by
 intro aB s σ H x y v u Q I rx ry h;obtain⟨i,j,rfl,rfl,q⟩:=h;obtain⟨t,rfl⟩:=rx;obtain⟨t',rfl⟩:=ry;exact PySem.P.le_str (qBa I q rfl)
end
end L2
namespace L2
open PySem PySem.Spec PyProof.Rows PySem.Builtin PySem.Builtin.Str
def zA3:V->List V->Hp->VK->Prop:=λx vs H Q=>∃(l:Addr) (ss:List Str) (z:Str),x = .str z/\vs=[.ref l]/\H l=some (.lst (ss.map V.str))/\(ss.map (·.length)).sum+ss.length*z.length<=16777216/\Q (.str (Txt.join z ss)) H
theorem qLt:MtR X "str.join" zA3:=by
 intro aB s σ H x vs v us Q I rx rv h;obtain⟨l,ss,z,rfl,rfl,hH,hz,q⟩:=h;obtain⟨t,rfl⟩:=rx;obtain⟨u,rfl,ru⟩:=rv.one;cases ru;obtain⟨zz,its,n,r,hl,e⟩:=I.lstM hH;exact join_list (items:=its.toArray) ⟨_,e,rfl,n,rfl⟩ (qDg r) hz λt' k=>⟨.str _,H,I.tok _,⟨_,rfl⟩,q⟩
def qUb(K:PySem.W.Frag):V->List V->Hp->VK->Prop:=λx vs H Q=>∃(l:Addr) (ss:List Str) (z:Str),x = .str z/\vs=[.ref l]/\SqT K H l (ss.map V.str)/\(ss.map (·.length)).sum+ss.length*z.length<=16777216/\Q (.str (Txt.join z ss)) H
theorem qSx:MtR X "str.join" (qUb X.K):=by
 intro aB s σ H x vs v us Q I rx rv h;obtain⟨l,ss,z,rfl,rfl,hH,hz,q⟩:=h;obtain⟨t,rfl⟩:=rx;obtain⟨u,rfl,ru⟩:=rv.one;cases ru;obtain⟨its,r,pl,_⟩:=I.tuple hH;exact join_tuple (items:=its.toArray) pl (qDg r) hz λt' k=>⟨.str _,H,I.tok _,⟨_,rfl⟩,q⟩
theorem qJd:∀l:List (Str×Tok),qBf ((l.map (·.1)).map V.str) (strValues l)
 |[]=>.nil
 |(x,t) :: l=>.cons ⟨t,rfl⟩ (qJd l)
def qM2:V->List V->Hp->VK->Prop:=λx vs H Q=>∃z y:Str,x = .str z/\vs=[.str y]/\(y.length == 0)=false/\z.length+2<=sizeLine/\∀l,H l=none->Q (.ref l) (upd H l (.lst ((Txt.split z y).map V.str)))
theorem qCi:MtR X "str.split" qM2:=by
 intro aB s σ H xv vs v us Q I rx rv h;obtain⟨x,y,rfl,rfl,hy,hsz,q⟩:=h;obtain⟨t,rfl⟩:=rx;obtain⟨w,rfl,ru⟩:=rv.one;obtain⟨u,rfl⟩:=ru;have hn:(partsBetween x (occurrences x y 0 x.length (x.length+1)) y.length).length<=sizeLine:=by
  have e1:=StrLaws.occ_length_le x y 0 x.length (x.length+1);rw[length_partsBetween];omega
 have fin:∀(l:List (Str×Tok)) (k:Nat),l.map (·.1)=Txt.split x y->l.length<=sizeLine->EP X aB σ Q (.ref s.heap.objs.size) { s with heap:=s.heap.push { cls:=.type "list",data:=.seq (strValues l).toArray },toks:=k }:=λl k e hl=>by
  have r:=qJd l;rw[e]at r;have hz:((Txt.split x y).map V.str).length<=sizeLine:=by rw[<-e,hA1,hA1];exact hl
  exact⟨.ref s.heap.objs.size,_,I.laid (t':=k) (λb o e=>Heap.get?_push_of_some _ e) (hA3 _) (show qCg X.prog X.w _ _ _ (.lst ((Txt.split x y).map V.str)) from ⟨hz,_,_,r,Heap.get?_push_size _ rfl⟩),rfl,q _ (I.hok.fresh (hA3 _))⟩
 cases h1:(decide (x.length<y.length) || decide (strKind x<strKind y))
 ·cases hf:(occurrences x y 0 x.length (x.length+1)).isEmpty
  ·refine hEp F.slot_str_split (hEo _ _ _) F.entry_str_split (F.args_str_split_2 _ _) (meets_str_split_sep x y t u h1 hy hf (by omega) hn) ?_;show wants _ _ _ { s with toks:=_,heap:=s.heap.push { cls:=.type "list",data:=.seq (strsFrom s.toks (partsBetween x (occurrences x y 0 x.length (x.length+1)) y.length)).toArray } };rw[strsFrom_eq];have e:(numbered s.toks (partsBetween x (occurrences x y 0 x.length (x.length+1)) y.length)).map (·.1)=Txt.split x y:=(numbered_texts s.toks (partsBetween x (occurrences x y 0 x.length (x.length+1)) y.length)).trans ((hDv (ne_true_of_eq_false h1)).trans (hDv (ne_true_of_eq_false hf))).symm;refine fin (numbered s.toks _) _ e ?_;have e2:=congrArg List.length (numbered_texts s.toks (partsBetween x (occurrences x y 0 x.length (x.length+1)) y.length));rw[hA1]at e2;rw[e2];exact hn
  ·exact hEp F.slot_str_split (hEo _ _ _) F.entry_str_split (F.args_str_split_2 _ _) (meets_str_split_not_found x y t u h1 hy hf) (fin [(x,t)] s.toks ((hDv (ne_true_of_eq_false h1)).trans (hDw hf)).symm (by show 1<=sizeLine;decide))
 ·exact hEp F.slot_str_split (hEo _ _ _) F.entry_str_split (F.args_str_split_2 _ _) (meets_str_split_cannot_occur x y t u h1) (fin [(x,t)] s.toks (hDw h1).symm (by show 1<=sizeLine;decide))
theorem Walks.shift{prog:Program}{w:World}{A:Around}{I:Addr}{fp wr:List Addr}{n:Nat}{P:Nat->Value->Prop}{St:Nat->Heap->Prop}(W:Walks prog w A I fp wr (n+1) P St):Walks prog w A I fp wr n (λi v=>P (i+1) v) (λi h=>St (i+1) h) where
 sub:=W.sub
 frame:=λi h h' st hk=>W.frame (i+1) h h' st hk
 item:=λi s Q E hi st hQ=>W.item (i+1) s Q E (by omega) st hQ
 done:=λs Q E st hQ=>W.done s Q E st hQ
 self:=λi s Q E st hQ=>W.self (i+1) s Q E st hQ
section
variable{prog:Program}{w:World}{A:Around}{E:Value->Shared->Prop}{s:Shared}
theorem qTf(Q:List Value->Shared->Prop)(hit:s.heap.IsListIter it t 0)(ht:s.heap.IsList t items)(hx:items[0]?=some x)
  (hQ:∀h',h'.IsListIter it t 1->Heap.ExtBut it s.heap h'->Q [x] { s with heap:=h' }):wpAny (model prog w) A (draw (.ref it) 1) Q E s:=by
 show wpAny _ _ (pyNext (.ref it) >>= _) Q E s;refine hDq (wpAny_pyNext_list_item hit ht (x:=x) hx λh₁ hit₁ hs₁=>?_);refine hDq (hDx ?_);show wpAny _ _ (pure []) _ _ _;exact hDt (hDt (hQ h₁ hit₁ hs₁.extBut))
theorem qGb(hh:A.handled=none)(ht:s.heap.IsList t (x :: xs).toArray)(hz:xs.length<=sizeLine)
  (hQ:∀(s':Shared),(∀b o,b<s.heap.objs.size->s.heap.get? b=some o->s'.heap.get? b=some o)->s'.gens=s.gens->s'.drawn=s.drawn->s'.os=s.os->Q [x,.ref s'.heap.objs.size] { s' with heap:=s'.heap.push { cls:=.type "list",data:=.seq xs.toArray } }):wpAny (model prog w) A (unpackItems (.ref t) 2 (some 1)) Q E s:=by
 have hlt:t≠s.heap.objs.size:=by obtain⟨o,ho,_⟩:=ht;exact hAt (Heap.lt_size ho)
 have ltT:t<s.heap.objs.size:=by obtain⟨o,ho,_⟩:=ht;exact Heap.lt_size ho
 unfold unpackItems;refine hDq ?_;unfold notIterableAtAll;refine hDq (wpAny_specialOf ht.typeIs PySem.F.slot_list_iter.lookup ?_);refine hDt ?_;simp only[Bool.false_eq_true,if_false];refine hDq (hDx (hEi ht ?_));refine hDq (hDx (qTf (x:=x) _ ⟨_,Heap.get?_push_size _ rfl,rfl,rfl⟩ (ht.push _) (by simp) λh₁ hit₁ hs₁=>?_));rw[hDv (by simp)];have ht₁:h₁.IsList t (x :: xs).toArray:=(ht.push _).extBut hs₁ hlt;have sz:s.heap.objs.size<h₁.objs.size:=by
  obtain⟨o,ho,_⟩:=hit₁;exact Heap.lt_size ho
 have W:=(Walks.shift (n:=xs.length) (Walks.list (prog:=prog) (w:=w) (A:=A.in1) hh s.heap.objs.size t hlt (x :: xs).toArray)).toS;refine hDq (hDx (wpAny_collect_iter (T:="list_iterator") (.inr (.inr (.inl rfl))) W (λi s' st=>by obtain⟨⟨o,ho,hc,_⟩,_⟩:=st;exact⟨o,ho,hc⟩) ⟨hit₁,ht₁⟩ (λb hb=>?_) (by simp) (λs' acc hm ha=>?_) hz))
 ·simp only[hAc,hBf,hEa]at hb;rcases hb with rfl|rfl
  ·exact sz
  ·exact Nat.lt_trans ltT sz
 ·have ea:acc.toList=xs:=by
   obtain⟨a1,a2⟩:=ha;refine hDf λi=>?_
   by_cases hi:i<acc.size
   ·have e1:acc[i]?=some acc[i]:=hCy hi;have e2:=a2 i acc[i] e1;rw[hBv,e1]
    simpa using e2.symm
   ·rw[hBd (by simpa using hi),hBd (by omega)]
  rw[ea];simp only[Nat.reduceSub,Nat.sub_zero,hBx,if_false,List.take_length,List.drop_length];refine hDq (wpAny_newList ?_ hz);refine hDt ?_;have:=hQ s' (λb o hb e=>hm.heap b o (λh=>by
   simp only[hAc,hBf,hEa]at h;rw[h]at hb;exact hBz _ hb) (hs₁ b o (hAt hb) (Heap.get?_push_of_some _ e))) hm.gens hm.drawn hm.os
  simpa using this
end
theorem qPn{s s':Shared}(h1:s'.gens=s.gens)(h2:s'.drawn=s.drawn)(h3:s'.os=s.os):s'={ s with heap:=s'.heap,toks:=s'.toks }:=by
 cases s';cases s
 simp_all
theorem qSg(h1:PG X e t)(h2:PGs X es u)
  (hs:(assignEach (.Starred e p :: es) X.env).map (·.2)=assign e X.env :: (assignEach es X.env).map (·.2):=by rfl):PGs X (.Starred e p :: es) (qZ2 t u):=by
 intro aB s σ H vs us Q I r h;obtain⟨v,vr,e1,h⟩:=h;subst e1;cases r with
 |cons r rr =>
  rw[hs];refine assignInOrder_cons (thn (h1 aB s σ H _ _ _ I r h) λ_ s1 ⟨σ1,H1,I1,q1⟩=>?_);exact h2 aB s1 σ1 H1 _ _ Q I1 rr q1
def zBh(K:PySem.W.Frag)(t:TGs):TG:=λv σ H Q=>∃a x xs,v = .ref a/\SqL K H a (x :: xs)/\∀l,H l=none->t [x,.ref l] σ (upd H l (.lst xs)) Q
theorem qV9{X:Cx}{pos:Pos}{es:List Expr}{k:Nat}{t:TGs}(hc:X.calm=true)(h:PGs X es t)
  (hn:(assignEach es X.env).length=2:=by rfl) (hst:(assignEach es X.env).findIdx? (·.1)=some 1:=by rfl):PG X (.Tuple es k pos) (zBh X.K t):=by
 intro aB s σ H v u Q I r hw;obtain⟨a,x,xs,e1,hq,hw⟩:=hw;subst e1;cases r;obtain⟨its,rv,pl,hz⟩:=I.list hq;cases rv with
 |cons rx rr =>
  rename_i y its';rw[assign_Tuple];refine hDq (hEc ?_);unfold unpack;rw[hn,hst];have lz:its'.length<=sizeLine:=by
   have:=rr.length;have h2:(x :: xs).length<=sizeLine:=hz;rw[hB2]at h2;omega
  refine hDq (hDx (qGb (I.ok.hd hc) pl.isList lz λs' hk h1 h2 h3=>?_));have es:=qPn h1 h2 h3;have I1:Inv X aB σ H s':=by
   rw[es];exact I.kept (t':=s'.toks) λb o e=>hk b o (Heap.lt_size e) e
  have hxs:xs.length<=sizeLine:=by rw[rr.length];exact lz
  have I2:Inv X aB σ (upd H s'.heap.objs.size (.lst xs)) { s' with heap:=s'.heap.push { cls:=.type "list",data:=.seq its'.toArray } } :=
   I1.laid (t':=s'.toks) (λb o e=>Heap.get?_push_of_some _ e) (hA3 _) (show qCg X.prog X.w _ _ _ (.lst xs) from ⟨hxs,_,_,rr,Heap.get?_push_size _ rfl⟩)
  exact h aB _ σ _ [x,.ref s'.heap.objs.size] _ Q I2 (.cons rx (.cons rfl .nil)) (hw _ (I1.hok.fresh (hA3 _)))
end L2
namespace My
open PySem L2 PySem.Builtin.Str
def jn(y:List Nat):List (List Nat)->List Nat
 |[]=>[]
 |[b]=>b
 |b :: c :: r=>b++y++jn y (c :: r)
theorem qQ0(z:List Nat):∀(ss:List (List Nat)) (b:List Nat),ss.foldl (λacc p=>acc++z++p) b=jn z (b :: ss)
 |[],b=>rfl
 |c :: r,b=>by
  show r.foldl (λacc p=>acc++z++p) (b++z++c)=b++z++jn z (c :: r);rw[qQ0 z r (b++z++c)];cases r with
  |nil=>rfl
  |cons d r=>show(b++z++c)++z++jn z (d :: r)=b++z++(c++z++jn z (d :: r));simp only[List.append_assoc]
theorem qDj(z:Str)(ss:List Str):(Txt.join z ss).cps.toList=jn z.cps.toList (ss.map λb=>b.cps.toList):=by
 unfold Txt.join glued;cases ss with
 |nil=>rfl
 |cons b r =>
  show((r.foldl (λacc p=>acc++z.cps++p.cps) b.cps)).toList=_;rw[hAu,<-qQ0];generalize b.cps=w
  induction r generalizing w with
  |nil=>rfl
  |cons c r ih =>
   rw[List.foldl_cons,hAu,List.foldl_cons,ih];simp
theorem qNj(c:Nat)(y:List Nat):∀B:List (List Nat),B≠[]->(B.length-1)*y.count c<=(jn y B).count c
 |[],h=>absurd rfl h
 |[b],_=>by simp
 |b :: e :: r,_=>by
  have:=qNj c y (e :: r) (by simp);show _<=(b++y++jn y (e :: r)).count c;rw[hBs,hBs];have e1:(b :: e :: r).length-1=(e :: r).length-1+1:=by simp
  rw[e1,Nat.succ_mul];omega
theorem qUn{y b:List Nat}:∀ {B:List (List Nat)},b∈B->b <:+: jn y B
 |[],h=>by cases h
 |[c],h=>by rw[hAe.mp h];exact List.infix_refl _
 |c :: e :: r,h=>by
  rcases hAc.mp h with rfl|h
  ·exact⟨[],y++jn y (e :: r),by show []++b++(y++jn y (e :: r))=b++y++jn y (e :: r);simp⟩
  ·exact(qUn h).trans ⟨c++y,[],by show(c++y)++jn y (e :: r)++[]=c++y++jn y (e :: r);simp⟩
abbrev cps(s:Str):List Nat:=s.cps.toList
theorem qH6(s y:Str):cps s=jn (cps y) ((Txt.split s y).map cps):=by
 have e:Txt.join y (Txt.split s y)=s:=(StrLaws.glued_eq_join y (Txt.split s y)).trans (StrLaws.join_split s y);exact(congrArg cps e).symm.trans (qDj y (Txt.split s y))
theorem qMg(s y:Str):Txt.split s y≠[]:=by
 unfold Txt.split;split
 ·simp
 ·split
  ·simp
  ·intro h;have:=congrArg List.length h;rw[length_partsBetween]at this;cases this
theorem qEy(s y:Str)(c:Nat)(h:1<=(cps y).count c):(Txt.split s y).length<=(cps s).count c+1:=by
 have h1:=qNj c (cps y) ((Txt.split s y).map cps) (by simpa using qMg s y);rw[<-qH6,hA1]at h1;have h2:(Txt.split s y).length-1<=((Txt.split s y).length-1)*(cps y).count c:=Nat.le_mul_of_pos_right _ h;omega
theorem qJm{s y p:Str}(h:p∈Txt.split s y):cps p <:+: cps s:=by
 rw[qH6 s y];exact qUn (hB3 h)
theorem qXh{p s:Str}(h:cps p <:+: cps s):p.length<=s.length:=by
 have:=h.length_le;have e1:(cps p).length=p.length:=by simp[cps,Str.length]
 have e2:(cps s).length=s.length:=by simp[cps,Str.length]
 omega
theorem qZx{p s:Str}(h:cps p <:+: cps s)(sm:Sm s):Sm p:=λc hc=>sm c (h.sublist.subset hc)
def BL(n:Nat)(l:List Nat):Prop:=∀v,v <:+: l->47∉v->v.count 32<=n
theorem BL.tot{n:Nat}{l:List Nat}(h:l.count 32<=n):BL n l:=λv i _=>hAv (i.sublist.count_le 32) h
theorem BL.inf{n:Nat}{l k:List Nat}(h:BL n l)(i:k <:+: l):BL n k:=λv j no=>h v (j.trans i) no
theorem BL.app{n m:Nat}{a b:List Nat}(ha:BL n a)(hb:BL m b):BL (n+m) (a++b):=λv i no=>by
 rcases List.infix_append_iff.mp i with h|h|⟨v1,v2,rfl,h1,h2⟩
 ·exact hAv (ha v h no) (hCw _ _)
 ·exact hAv (hb v h no) (Nat.le_add_left _ _)
 ·rw[hBs];exact Nat.add_le_add (ha v1 h1.isInfix λz=>no (hAk _ z)) (hb v2 h2.isInfix λz=>no (hAa _ z))
theorem BL.cut{n:Nat}{a b:List Nat}(ha:BL n a)(hb:BL n b):BL n (a++47 :: b):=λv i no=>by
 rcases List.infix_append_iff.mp i with h|h|⟨v1,v2,rfl,h1,h2⟩
 ·exact ha v h no
 ·rcases List.infix_cons_iff.mp h with h|h
  ·cases v with
   |nil=>simp
   |cons x v =>
    have e:x=47:=(List.cons_prefix_cons.mp h).1;exact absurd (by rw[e];exact hA5) no
  ·exact hb v h no
 ·cases v2 with
  |nil=>rw[hC7];rw[hC7]at no;exact ha v1 h1.isInfix no
  |cons x v2 =>
   have e:x=47:=(List.cons_prefix_cons.mp h2).1;exact absurd (by rw[e];simp) no
def Ed(s t:Str):Prop:=∃(p q:Nat) (x:List Nat),cps t=(cps s).take p++x++(cps s).drop q/\p<=q/\x.length<=1/\∀c∈x,c<128
theorem qRy(l:List Nat)(p:Nat):l.take p <:+: l:=(List.take_prefix p l).isInfix
theorem qTe(l:List Nat)(q:Nat):l.drop q <:+: l:=(List.drop_suffix q l).isInfix
theorem Ed.count{s t:Str}(h:Ed s t)(c:Nat):(cps t).count c<=(cps s).count c+1:=by
 obtain⟨p,q,x,e,pq,xl,_⟩:=h;rw[e,hBs,hBs];have h1:x.count c<=1:=hAv List.count_le_length xl;have h2:((cps s).take p).count c+((cps s).drop q).count c<=(cps s).count c:=by
  have e2:(cps s).count c=((cps s).take p).count c+((cps s).drop p).count c:=by rw[<-hBs,List.take_append_drop]
  have h3:((cps s).drop q).count c<=((cps s).drop p).count c:=by
   have:(cps s).drop q=((cps s).drop p).drop (q-p):=by rw[List.drop_drop];congr 1;omega
   rw[this];exact(List.drop_sublist _ _).count_le c
  omega
 omega
theorem Ed.len{s t:Str}(h:Ed s t):t.length<=s.length+1:=by
 obtain⟨p,q,x,e,pq,xl,_⟩:=h;have:=congrArg List.length e;rw[hA9,hA9,hAh,hCn]at this;have e1:(cps t).length=t.length:=by simp[cps,Str.length]
 have e2:(cps s).length=s.length:=by simp[cps,Str.length]
 omega
theorem Ed.sm{s t:Str}(h:Ed s t)(sm:Sm s):Sm t:=λc hc=>by
 obtain⟨p,q,x,e,pq,xl,xm⟩:=h;have:c∈cps t:=hc;rw[e]at this;rcases hAf.mp this with z|z
 ·rcases hAf.mp z with z|z
  ·exact sm c (hCc z)
  ·exact xm c z
 ·exact sm c (List.mem_of_mem_drop z)
theorem Ed.bl{n:Nat}{s t:Str}(h:Ed s t)(b:BL n (cps s)):BL (n+1+n) (cps t):=by
 obtain⟨p,q,x,e,pq,xl,xm⟩:=h;rw[e];exact BL.app (BL.app (b.inf (qRy _ _)) (BL.tot (hAv List.count_le_length xl))) (b.inf (qTe _ _))
structure TX(s:Str):Prop where
 len:s.length<=3000
 sm:Sm s
 sl:(cps s).count 47<=18
 co:(cps s).count 44<=13
 bl:BL 59 (cps s)
theorem TX.of_table{s t:Str}(h:(cps s).count 47<=16/\(cps s).count 44<=11/\s.length<=2000/\Sm s/\BL 14 (cps s))(e:s=t\/Ed s t\/∃u,Ed s u/\Ed u t):TX t:=by
 obtain⟨h1,h2,h3,h4,h5⟩:=h;have mono:∀ {n:Nat} {l:List Nat},BL n l->n<=59->BL 59 l:=λb le v i no=>hAv (b v i no) le
 rcases e with rfl|e|⟨u,e,e2⟩
 ·exact⟨by omega,h4,by omega,by omega,mono h5 (by decide)⟩
 ·have a:=e.count 47;have b:=e.count 44;have c:=e.len;exact⟨by omega,e.sm h4,by omega,by omega,mono (e.bl h5) (by decide)⟩
 ·have a:=e.count 47;have b:=e.count 44;have c:=e.len;have a2:=e2.count 47;have b2:=e2.count 44;have c2:=e2.len;exact⟨by omega,e2.sm (e.sm h4),by omega,by omega,mono (e2.bl (e.bl h5)) (by decide)⟩
theorem TX.of_net{s t:Str}(h:(cps s).count 47<=16/\(cps s).count 44<=11/\s.length<=2000/\Sm s/\(cps s).count 32<=40)(e:s=t\/Ed s t\/∃u,Ed s u/\Ed u t):TX t:=by
 obtain⟨h1,h2,h3,h4,h5⟩:=h;rcases e with rfl|e|⟨u,e,e2⟩
 ·exact⟨by omega,h4,by omega,by omega,BL.tot (by omega)⟩
 ·have a:=e.count 47;have b:=e.count 44;have c:=e.len;have d:=e.count 32;exact⟨by omega,e.sm h4,by omega,by omega,BL.tot (by omega)⟩
 ·have a:=e.count 47;have b:=e.count 44;have c:=e.len;have d:=e.count 32;have a2:=e2.count 47;have b2:=e2.count 44;have c2:=e2.len;have d2:=e2.count 32;exact⟨by omega,e2.sm (e.sm h4),by omega,by omega,BL.tot (by omega)⟩
theorem qB5{n:Nat}(h:n<=4000):n<sizeLine:=Nat.lt_of_le_of_lt h (by decide)
end My
namespace My
open PySem L2
theorem nk(K:PySem.W.Frag):PySem.W.kitOne K (.type "NoneType") (.type "str")=some false/\PySem.W.kitOne K (.type "NoneType") (.type "list")=some false:=⟨by kernel_rfl,by kernel_rfl⟩
theorem bk(K:PySem.W.Frag):PySem.W.kitOne K (.type "bool") (.type "str")=some false/\PySem.W.kitOne K (.type "bool") (.type "list")=some false:=⟨by kernel_rfl,by kernel_rfl⟩
theorem ik(K:PySem.W.Frag):PySem.W.kitOne K (.type "int") (.type "str")=some false/\PySem.W.kitOne K (.type "int") (.type "list")=some false:=⟨by kernel_rfl,by kernel_rfl⟩
theorem sk(K:PySem.W.Frag):PySem.W.kitOne K (.type "str") (.type "list")=some false:=by kernel_rfl
theorem lk(K:PySem.W.Frag):PySem.W.kitOne K (.type "list") (.type "str")=some false:=by kernel_rfl
theorem tk(K:PySem.W.Frag):PySem.W.kitOne K (.type "tuple") (.type "str")=some false/\PySem.W.kitOne K (.type "tuple") (.type "list")=some false:=⟨by kernel_rfl,by kernel_rfl⟩
def inB(c:Str):Bool:=!(Builtin.Str.occurrences sg c 0 sg.length 1).isEmpty
def sgn(x:Str)(i:Nat):Str:=⟨#[x.cps.toList.getD i 0]⟩
def qXx(s:Str):List Bool:=(List.range s.cps.size).map λi=>inB (sgn s i)
def nameB(s:Str):Bool:=decide (1<=s.length) && (decide (s.length<=6) && (qXx s).all id)
def nmV:V->Bool
 |.str s=>nameB s
 |_=>false
def Item(H:Hp)(x:V)(D:PyData):Prop:=(x = .non/\D = .none)\/(∃b,x = .bl b/\D = .bool b)\/(∃i,x = .int i/\D = .int i)\/(∃s:Str,x = .str s/\D = .str s/\s.length<=3000/\Sm s) \/
 (∃(a:Addr) (ss:List Str),x = .ref a/\D = .list (ss.map .str)/\LsS H a ss/\SOk ss/\ss.length<=20/\∀s∈ss,s.length<=3000/\Sm s)\/(∃(a:Addr) (ss:List Str),x = .ref a/\D = .tuple (ss.map .str)/\H a=some (.tup (ss.map V.str))/\SOk ss/\ss.length<=20)
theorem Item.ext{H H':Hp}{x:V}{D:PyData}(h:Item H x D)(e:Ext H H'):Item H' x D:=by
 rcases h with h|h|h|h|⟨a,ss,h1,h2,h3,h4⟩|⟨a,ss,h1,h2,h3,h4⟩
 ·exact .inl h
 ·exact .inr (.inl h)
 ·exact .inr (.inr (.inl h))
 ·exact .inr (.inr (.inr (.inl h)))
 ·exact .inr (.inr (.inr (.inr (.inl ⟨a,ss,h1,h2,e _ _ h3,h4⟩))))
 ·exact .inr (.inr (.inr (.inr (.inr ⟨a,ss,h1,h2,e _ _ h3,h4⟩))))
theorem Item.ty{K:PySem.W.Frag}{H:Hp}{x:V}{D:PyData}(h:Item H x D):(∃s:Str,x = .str s/\s.length<=3000/\Sm s)\/(nmV x=false/\∃t,TyOf K H x t/\PySem.W.kitOne K t (.type "str")=some false):=by
 rcases h with ⟨rfl,_⟩|⟨b,rfl,_⟩|⟨i,rfl,_⟩|⟨s,rfl,_,h,hm⟩|⟨a,ss,rfl,_,h3,h4⟩|⟨a,ss,rfl,_,h3,h4⟩
 ·exact .inr ⟨rfl,_,.non,(nk K).1⟩
 ·exact .inr ⟨rfl,_,.bl b,(bk K).1⟩
 ·exact .inr ⟨rfl,_,.int i,(ik K).1⟩
 ·exact .inl ⟨s,rfl,h,hm⟩
 ·exact .inr ⟨rfl,_,.lst h3,lk K⟩
 ·exact .inr ⟨rfl,_,.tup h3,(tk K).1⟩
def qPf:Sp:=λvs H Q _=>∃(x:V) (D:PyData),vs=[x]/\Item H x D/\∀H',Ext H H'->Q (.bl (nmV x)) H'
section
variable{P:Program}{w:World}{K:PySem.W.Frag}{mg:Str->Option Value}{base:Heap}{f f1:Addr}{fd fd1:FuncData}
theorem qYt:FnScope ["thing"] ["thing"] (qAa qLa):=fsk
theorem qWk{t1 t2:Tok}(F:Fun K "is_name" "is_name" qLa f fd)(ml:mg "len"=none)(mi:mg "isinstance"=none)(ms:mg "str"=none)(ma:mg "all"=none)(mS:mg "SIGNS"=some (.str sg t1))(mM:mg "MOST_SIGNS"=some (.int 6 t2)):v6 1 f fd ["thing"] qPf:=by
 refine F.okA qYt λcdv A outer s H vs Q E hr h=>?_
 obtain⟨x,D,rfl,hI,q⟩:=h;refine⟨_,qAb (qBb (PW.pt (qDv (qBz (qBy (qAf qBl rfl mi qA6 (qAe (pv 0) (pa1 (qC6 (v:=.ty "str") rfl ms qFg rfl))))))
   (qDv (qAl qEt (qAf qCn rfl ml hAr (pa1 (pv 0))) qAc (qAp _)) (qDi (qAl qFp (qAf qCn rfl ml hAr (pa1 (pv 0))) (qCd (v:=.int 6) rfl mM ⟨t2,rfl⟩) (qAp _))))))
   (qAd (qAo qGt)) qAu)
  (qAd (qAo (qAf (qBu rfl) rfl ma qBw (qAe
   (qDf (N:=["thing"]) (sc:=qAa qLa) (N':=["sign"]) (sub:=[none]) rfl rfl (CmpOk.of (by decide +kernel)) rfl (qUg (pv 0))
    (λC s H fp=>⟨qAh (i:=0) (by show(["sign"]:List Str).Nodup;decide) rfl (Or.inl rfl),qAx,qCe qJz (pv 0) (qCd (v:=.str sg) rfl mS ⟨t1,rfl⟩) (by with_unfolding_all rfl)⟩)) qA3)))),?_⟩
 rcases Item.ty (K:=K) hI with ⟨z,rfl,hz,sm⟩|⟨hn,t,ty,kt⟩
 ·have wl:z.length<=sizeLine:=hB1 (qB5 (by omega));have nf:∀b:Bool,nameB z=b->∀H',Ext H H'->Q (.bl b) H':=λb e H' he=>by subst e;exact q H' he
  refine⟨_,rfl,_,_,_,true,rfl,.str z,qDc _ _,true,rfl,qEo ?_⟩;refine⟨_,rfl,z,rfl,wl,_,_,rfl,rfl,_,rfl,?_⟩;refine qBp (λc=>?_) (λc=>?_)
  ·have c':(z.length:Int)<1:=hDu c;refine iteT (nf false ?_ H (Ext.refl _));unfold nameB;rw[hDs (by omega)];rfl
  have c':¬(z.length:Int)<1:=λy=>c (hDr y)
  refine⟨_,rfl,z,rfl,wl,_,_,rfl,rfl,_,rfl,?_⟩;refine qBp (λd=>?_) (λd=>?_)
  ·have d':(6:Int)<z.length:=hDu d;refine nf false ?_ H (Ext.refl _);unfold nameB;rw[hDr (by omega),hDs (by omega)];rfl
  have d':¬(6:Int)<z.length:=λy=>d (hDr y)
  refine⟨_,rfl,z,rfl,?_⟩;refine qJh (λi ys H'=>H'=H/\ys=(List.range i).map λi=>V.bl (inB (sgn z i))) ⟨rfl,rfl⟩ ?_ ?_
  ·rintro i ys H' hi ⟨rfl,rfl⟩;refine⟨sls,?_⟩;refine iteT (B:=False) ?_;refine⟨_,rfl,_,_,rfl,rfl,?_,nxt hi ⟨rfl,?_⟩⟩
   ·rw[hA1,hBq];exact qB5 (by have:z.cps.size=z.length:=rfl;omega)
   ·rw[hCi,hA7];rfl
  ·rintro ys H' ⟨rfl,rfl⟩ r hr';refine⟨r,qXx z,rfl,?_,nf _ ?_ _ (Ext.new hr' _)⟩
   ·refine SqL.of ?_;rw[upd_same];unfold qXx;rw[hAz];rfl
   ·unfold nameB;rw[hDr (by omega),hDr (by omega)];rfl
 ·refine⟨_,rfl,_,_,_,false,rfl,ty,kt,false,rfl,iteT (iteT ?_)⟩;have:=q H (Ext.refl _);rw[hn]at this;exact this
end
def ltV:V->V->Bool
 |.str a,.str b=>decide (a.cps.toList<b.cps.toList)
 |_,_=>false
def qGp(xs:List V):Prop:=(∀i,i<xs.length->nmV (xs.getD i .non)=true)/\∀i,i+1<xs.length->ltV (xs.getD i .non) (xs.getD (i+1) .non)=true
theorem qGv{x:V}(h:nmV x=true):∃s:Str,x = .str s:=by
 cases x with
 |str s=>exact⟨s,rfl⟩
 |_=>cases h
theorem qTa{xs:List V}{i:Nat}(hi:i<xs.length):xs.getD i .non∈xs:=by
 rw[hA8,hA2 hi];exact hBl hi
theorem qL1(xs:List V):qOq xs (some 1) none=xs.drop 1:=by
 unfold qOq;have e:HT.sIx xs.length 0 (some 1)=min 1 xs.length:=HT.sIx_nat xs.length 0 1;have e2:HT.sIx xs.length xs.length none=xs.length:=rfl;rw[e,e2];cases xs with
 |nil=>rfl
 |cons x r =>
  rw[show min 1 (x :: r).length=1 by simp];exact hA6 (by simp)
def qKz(K:PySem.W.Frag):Sp:=λvs H Q _=>∃x:V,vs=[x]/\((∃(a:Addr) (xs:List V),x = .ref a/\H a=some (.lst xs)/\xs.length<=3001/\(∀y∈xs,∃D,Item H y D)/\∀(b:Bool) H',(b=true↔qGp xs)->Ext H H'->Q (.bl b) H') \/
 (∃t,TyOf K H x t/\PySem.W.kitOne K t (.type "list")=some false/\Q (.bl false) H))
section
variable{P:Program}{w:World}{K:PySem.W.Frag}{mg:Str->Option Value}{base:Heap}{f f1:Addr}{fd fd1:FuncData}
theorem qVo:FnScope ["thing"] ["thing"] (qAa qF0):=fsk
theorem qSu(F:Fun K "is_row" "is_row" qF0 f fd)(G:v7 1 f1 fd1 ["thing"] qPf "is_name")(mi:mg "isinstance"=none)(mL:mg "list"=none)(ma:mg "all"=none)(mz:mg "zip"=none) :
  v6 2 f fd ["thing"] (qKz K):=by
 refine F.okA qVo λcdv A outer s H vs Q E hr h=>?_
 obtain⟨x,rfl,h⟩:=h;refine⟨_,qAb (qBb (PW.pt (qDv (qBz (qBy (qAf qBl rfl mi qA6 (qAe (pv 0) (pa1 (qC6 (v:=.ty "list") rfl mL qC1 rfl))))))
   (qDi (qBz (qBy (qAf (qBu rfl) rfl ma qBw (qAe
    (qDf (N:=["thing"]) (sc:=qAa qF0) (N':=["one"]) (sub:=[none]) rfl rfl (CmpOk.of (by decide +kernel)) rfl (qAv (pv 0))
     (λC s H fp=>⟨qAh (i:=0) (by show(["one"]:List Str).Nodup;decide) rfl (Or.inl rfl),qAx,qAy G hr rfl .nil qAz (pa1 (pv 0))⟩)) qA3)))))))
   (qAd (qAo qGt)) qAu)
  (qAd (qAo (qAf (qBu rfl) rfl ma qBw (qAe
   (qDf (N:=["thing"]) (sc:=qAa qF0) (N':=["one","other"]) (sub:=[none,none]) rfl rfl (CmpOk.of (by decide +kernel)) rfl (qUf rfl mz (qAe (pv 0) (pa1 (qB6 qEr (pv 0) (qC4 qAc) qC5))))
    (λC s H fp=>⟨(show PG _ _ (qUr K 2 _) from qCa rfl (qAr (qAh (i:=0) (by show(["one","other"]:List Str).Nodup;decide) rfl (Or.inl rfl)) (qAr (qAh (i:=1) (by show(["one","other"]:List Str).Nodup;decide) rfl (Or.inl rfl)) qBj))),qAx,qCe qQj (pv 0) (pv 1) (qAp _)⟩)) qA3)))),?_⟩
 rcases h with ⟨a,xs,rfl,ha,hl,hI,q⟩|⟨t,ty,kt,q⟩
 ·refine⟨_,rfl,_,_,_,true,rfl,.lst ha,qDc _ _,true,rfl,qEo ?_⟩;have hz:xs.length<=sizeLine:=hB1 (qB5 (by omega));refine⟨_,rfl,a,rfl,⟨_,SqL.of ha⟩,?_⟩;refine qJi (xs:=xs) (λv=>some (V.bl (nmV v))) (SqL.of ha) hz (λx hx H1 he C hC=>?_) λH1 he=>?_
  ·obtain⟨D,hD⟩:=hI x hx;refine⟨sls,iteT (B:=False) ⟨_,rfl,x,D,rfl,hD.ext he,λH' he'=>hC H' he'⟩⟩
  ·intro r hr1;have e1:xs.filterMap (λv=>some (V.bl (nmV v)))=(xs.map nmV).map V.bl:=by
    rw[hAz];exact congrFun (List.filterMap_eq_map (f:=V.bl∘nmV)) xs
   rw[e1];refine⟨r,xs.map nmV,rfl,SqL.of upd_same,(xs.map nmV).all id,rfl,?_⟩;have e2:=he.trans (Ext.new hr1 (.lst ((xs.map nmV).map V.bl)));refine qBp (λc=>?_) (λc=>?_)
   ·refine q false _ ⟨λz=>(by cases z),λz=>?_⟩ e2;have z2:(xs.map nmV).all id=true:=by
     rw[hDo,hC0];intro y hy;obtain⟨i,hi,rfl⟩:=List.mem_iff_getElem.mp hy;have:=z.1 i hi;rw[hA8,hA2 hi]at this;exact this
    rw[z2]at c;cases c
   ·have z2:(xs.map nmV).all id=true:=by
     cases h3:(xs.map nmV).all id with
     |true=>rfl
     |false=>rw[h3]at c;exact absurd rfl c
    have hnm:∀i,i<xs.length->nmV (xs.getD i .non)=true:=λi hi=>by
     rw[hDo,hC0]at z2;exact z2 _ (qTa hi)
    refine⟨_,rfl,_,rfl,_,rfl,a,xs,rfl,SqL.of (e2 _ _ ha),λr2 hr2=>?_⟩;rw[qL1];have e3:=e2.trans (Ext.new hr2 (.lst (xs.drop 1)));refine⟨a,r2,xs,xs.drop 1,rfl,SqL.of (e3 _ _ ha),SqL.of upd_same,?_⟩;have hm:min xs.length (xs.drop 1).length=xs.length-1:=by rw[hCn];omega
    rw[hm];refine qEw (λi ys H'=>Ext (upd (upd H1 r (.lst ((xs.map nmV).map V.bl))) r2 (.lst (xs.drop 1))) H'/\ys=(List.range i).map λi=>V.bl (ltV (xs.getD i .non) (xs.getD (i+1) .non))) ⟨Ext.refl _,rfl⟩ (λi ys H' _ p=>⟨SqL.of (p.1 _ _ (e3 _ _ ha)),SqL.of (p.1 _ _ upd_same)⟩) ?_ ?_
    ·rintro i ys H' T hi ⟨p,rfl⟩ hT;have d1:(xs.drop 1).getD i .non=xs.getD (i+1) .non:=by
      rw[hA8,List.getElem?_drop,hA8,Nat.add_comm]
     obtain⟨s1,h1⟩:=qGv (hnm i (by omega));obtain⟨s2,h2⟩:=qGv (hnm (i+1) (by omega));refine⟨T,_,rfl,SqT.of upd_same,rfl,_,_,rfl,_,_,rfl,rfl,?_⟩;refine⟨Sle.set _ (sls) (λu z=>by cases z),iteT (B:=False) ⟨_,rfl,_,rfl,s1,s2,h1,d1.trans h2,?_,nxt hi ⟨p.trans (Ext.new hT _),?_⟩⟩⟩
     ·rw[hA1,hBq];exact qB5 (by omega)
     ·rw[hCi,hA7,hC9,h1,h2];rfl
    ·rintro ys H' ⟨p,rfl⟩ r3 hr3;refine⟨r3,(List.range (xs.length-1)).map λi=>ltV (xs.getD i .non) (xs.getD (i+1) .non),rfl,?_,q _ _ ?_ (e3.trans (p.trans (Ext.new hr3 _)))⟩
     ·rw[hAz];exact SqL.of upd_same
     ·rw[hDo,hC0];constructor
      ·intro z;exact⟨hnm,λi hi=>z i (hB9.mpr (by omega))⟩
      ·intro z i hi;exact z.2 i (by have:=hB9.mp hi;omega)
 ·exact⟨_,rfl,_,_,_,false,rfl,ty,kt,false,rfl,iteT (iteT q)⟩
end
theorem tkN(K:PySem.W.Frag):PySem.W.kitOne K (.type "NoneType") (.type "tuple")=some false:=by kernel_rfl
theorem tkI(K:PySem.W.Frag):PySem.W.kitOne K (.type "int") (.type "tuple")=some false:=by kernel_rfl
theorem tkS(K:PySem.W.Frag):PySem.W.kitOne K (.type "str") (.type "tuple")=some false:=by kernel_rfl
theorem tkL(K:PySem.W.Frag):PySem.W.kitOne K (.type "list") (.type "tuple")=some false:=by kernel_rfl
def zBr(H:Hp)(x:V):Prop:=x = .non\/(∃b,x = .bl b)\/(∃i,x = .int i)\/(∃s:Str,x = .str s)\/∃(a:Addr) (xs:List V),x = .ref a/\H a=some (.tup xs)
theorem zBr.ty{H:Hp}{x:V}(K:PySem.W.Frag)(h:zBr H x):∃t,TyOf K H x t/\PySem.W.kitOne K t (.type "list")=some false:=by
 rcases h with rfl|⟨b,rfl⟩|⟨i,rfl⟩|⟨s,rfl⟩|⟨a,xs,rfl,h2⟩
 ·exact⟨_,.non,(nk K).2⟩
 ·exact⟨_,.bl b,(bk K).2⟩
 ·exact⟨_,.int i,(ik K).2⟩
 ·exact⟨_,.str s,sk K⟩
 ·exact⟨_,.tup h2,(tk K).2⟩
def qX4(H:Hp)(x:V):Prop:=x = .non\/(∃i,x = .int i)\/(∃s:Str,x = .str s)\/∃(a:Addr) (xs:List V),x = .ref a/\H a=some (.lst xs)
theorem qX4.ext{H H':Hp}{x:V}(h:qX4 H x)(e:Ext H H'):qX4 H' x:=by
 rcases h with h|h|h|⟨a,xs,h1,h2⟩
 ·exact .inl h
 ·exact .inr (.inl h)
 ·exact .inr (.inr (.inl h))
 ·exact .inr (.inr (.inr ⟨a,xs,h1,e _ _ h2⟩))
theorem qX4.ty{H:Hp}{x:V}(K:PySem.W.Frag)(h:qX4 H x):∃t,TyOf K H x t/\PySem.W.kitOne K t (.type "tuple")=some false:=by
 rcases h with rfl|⟨i,rfl⟩|⟨s,rfl⟩|⟨a,xs,rfl,h2⟩
 ·exact⟨_,.non,tkN K⟩
 ·exact⟨_,.int i,tkI K⟩
 ·exact⟨_,.str s,tkS K⟩
 ·exact⟨_,.lst h2,tkL K⟩
section
variable{σ0:St}{g:TG}{tt:TT}{te:TE}{Q:List V->Hp->Prop}{H1:Hp}
theorem qNy{K:PySem.W.Frag}{a:Addr}{xs:List V}(Pv:Nat->List V->Hp->Prop)(h0:Pv 0 [] H1)(hl:∀i ys H,i<=xs.length->Pv i ys H->SqT K H a xs)
  (hs:∀i x ys H,xs[i]?=some x->Pv i ys H->g x σ0 H λσ2 H2=>Sle σ0 σ2/\tt σ2 H2 λb H3=>if b=true then te σ2 H3 (λv H4=>ys.length<sizeLine/\Nxt xs.length i Pv (ys++[v]) H4) else Nxt xs.length i Pv ys H3)
  (hd:∀ys H,Pv xs.length ys H->Q ys H):qDm (Itt K a) σ0 g tt te Q H1:=by
 refine⟨λi m ys H=>m=xs.length-i/\i<=xs.length/\Pv i ys H,⟨xs.length,by simp,hAs _,h0⟩,?_⟩;rintro i m ys H ⟨rfl,hi,p⟩;have q:=hl i ys H hi p;by_cases hlt:i<xs.length
 ·refine .inr ⟨⟨xs,xs[i],q,by simp[hlt]⟩,λx H' y=>?_⟩;obtain⟨e,y⟩:=y;subst e;exact hs i x ys _ (y xs q) p
 ·have e:i=xs.length:=by omega
  subst e;exact .inl ⟨⟨xs,q,hA3 _⟩,hd ys H p⟩
theorem qHi{K:PySem.W.Frag}{a:Addr}{xs:List V}(f:V->Option V)(hS:H1 a=some (.tup xs))(hz:xs.length<=sizeLine)
  (hs:∀x∈xs,∀H,Ext H1 H->∀C:Option V->Hp->Prop,(∀H',Ext H H'->C (f x) H')->g x σ0 H λσ2 H2=>Sle σ0 σ2/\tt σ2 H2 λb H3=>if b=true then te σ2 H3 (λv H4=>C (some v) H4) else C none H3)
  (hd:∀H',Ext H1 H'->Q (xs.filterMap f) H'):qDm (Itt K a) σ0 g tt te Q H1:=by
 refine qNy (xs:=xs) (λi ys H=>Ext H1 H/\ys=(xs.take i).filterMap f) ⟨Ext.refl _,by simp⟩ (λi ys H _ h=>SqT.of (h.1 _ _ hS)) ?_ ?_
 ·rintro i x ys H hx ⟨he,rfl⟩;have hi:i<xs.length:=(hAi.mp hx).1;have hm:x∈xs:=hAd hx;have tk:(xs.take (i+1)).filterMap f=(xs.take i).filterMap f++(f x).toList:=by
   rw[List.take_add_one,hx,hCx];cases e:f x <;> simp[e]
  have hl:((xs.take i).filterMap f).length<sizeLine:=by
   have h1:=hC4 f (xs.take i);rw[hAh]at h1;omega
  refine hs x hm H he (λo H4=>match o with|some v=>((xs.take i).filterMap f).length<sizeLine/\Nxt xs.length i _ ((xs.take i).filterMap f++[v]) H4|none=>Nxt xs.length i _ ((xs.take i).filterMap f) H4) (λH' he'=>?_);cases e:f x with
  |none=>exact nxt hi ⟨he.trans he',by rw[tk,e];simp⟩
  |some v=>exact⟨hl,nxt hi ⟨he.trans he',by rw[tk,e];simp⟩⟩
 ·rintro ys H ⟨he,rfl⟩;rw[hA6 (hA3 _)];exact hd H he
end
def Prt(H:Hp)(x:V)(o:Option (List V)):Prop:=(∃(a:Addr) (xs:List V),o=some xs/\x = .ref a/\H a=some (.tup xs)/\xs.length<=3001/\∀y∈xs,∃D,Item H y D)\/(o=none/\qX4 H x)
theorem Prt.ext{H H':Hp}{x:V}{o:Option (List V)}(h:Prt H x o)(e:Ext H H'):Prt H' x o:=by
 rcases h with ⟨a,xs,h1,h2,h3,h4,h5⟩|⟨h1,h2⟩
 ·exact .inl ⟨a,xs,h1,h2,e _ _ h3,h4,λy hy=>by obtain⟨D,hD⟩:=h5 y hy;exact⟨D,hD.ext e⟩⟩
 ·exact .inr ⟨h1,h2.ext e⟩
def qX2(t:Tr):Prop:=nameB t.1=true/\nameB t.2.1=true/\nameB t.2.2=true/\leB t.2.1 t.2.2=true
def zAk(o:Option (List V)):Prop:=∃t:Tr,o=some (trV t)/\qX2 t
theorem qO5{t u:Tr}(e:trV t=trV u):t=u:=by
 obtain⟨a,b,c⟩:=t;obtain⟨a',b',c'⟩:=u;have e':[V.str a,V.str b,V.str c]=[V.str a',V.str b',V.str c']:=e;simp only[hDc,V.str.injEq,and_true]at e';obtain⟨e1,e2,e3⟩:=e';subst e1 e2 e3;rfl
def qPk:Sp:=λvs H Q _=>∃(x:V) (o:Option (List V)),vs=[x]/\Prt H x o/\∀(b:Bool) H',(b=true↔zAk o)->Ext H H'->Q (.bl b) H'
abbrev Nd:=Option (List (Option (List V)))
def Nt(H:Hp)(v:V)(d:Nd):Prop:=(d=none/\zBr H v)\/∃(a:Addr) (xs:List V) (os:List (Option (List V))),v = .ref a/\H a=some (.lst xs)/\d=some os/\Paired (Prt H) xs os/\xs.length<=20
def NdOf(net:List Tr):Nd:=some (net.map λt=>some (trV t))
def zBs(d:Nd):Prop:=∃net:List Tr,d=NdOf net/\(∀t∈net,qX2 t)/\qGp ((net.map (·.1)).map V.str)
theorem NdOf.inj{a b:List Tr}(e:NdOf a=NdOf b):a=b:=by
 have e':=hAq e;clear e
 induction a generalizing b with
 |nil=>cases b with
  |nil=>rfl
  |cons=>cases e'
 |cons x r ih=>cases b with
  |nil=>cases e'
  |cons y r' =>
   rw[hAu,hAu,hDc,Option.some.injEq]at e';rw[qO5 e'.1,ih e'.2]
theorem qS4{H:Hp}{s:Str}{D:PyData}(h:Item H (.str s) D):s.length<=3000/\Sm s:=by
 rcases h with ⟨z,_⟩|⟨b,z,_⟩|⟨i,z,_⟩|⟨u,z,_,h,hm⟩|⟨a,ss,z,_⟩|⟨a,ss,z,_⟩
 ·cases z
 ·cases z
 ·cases z
 ·cases z;exact⟨h,hm⟩
 ·cases z
 ·cases z
theorem qMb{H:Hp}:∀ {xs:List V} {os:List (Option (List V))},Paired (Prt H) xs os->(∀o∈os,zAk o)->∃(as:List Addr) (net:List Tr),xs=as.map V.ref/\os=net.map (λt=>some (trV t))/\(∀t∈net,qX2 t/\t.1.length<=3000/\Sm t.1)/\Paired (λa t=>H a=some (.tup (trV t))) as net
 |[],[],_,_=>⟨[],[],rfl,rfl,λt h=>(by cases h),.nil⟩
 |[],_ :: _,h,_=>by cases h
 |_ :: _,[],h,_=>by cases h
 |x :: xs,o :: os,h,ht=>by
  cases h with
  |cons h1 h2 =>
   obtain⟨as,net,rfl,rfl,tt,pr⟩:=qMb h2 λo ho=>ht o (hA4 _ ho)
   obtain⟨t,rfl,tt0⟩:=ht o hA5;rcases h1 with ⟨a,xs,e1,rfl,h3,_,h5⟩|⟨e1,_⟩
   ·cases e1;obtain⟨D,hD⟩:=h5 (.str t.1) hA5;refine⟨a :: as,t :: net,rfl,rfl,λu hu=>?_,.cons h3 pr⟩;rcases hAc.mp hu with rfl|z
    ·exact⟨tt0,qS4 hD⟩
    ·exact tt u z
   ·cases e1
theorem qEf:∀ {ss:List Str},qGp (ss.map V.str)->qHf ss
 |[],_=>List.Pairwise.nil
 |x :: r,h=>by
  have tl:qGp (r.map V.str):=by
   refine⟨λi hi=>?_,λi hi=>?_⟩
   ·have:=h.1 (i+1) (by rw[hAu,hB2];omega);exact this
   ·have:=h.2 (i+1) (by rw[hAu,hB2];omega);exact this
  have ih:=qEf tl;refine hBt.mpr ⟨λy hy=>?_,ih⟩;cases r with
  |nil=>cases hy
  |cons z r' =>
   have xz:qMs x z=true:=h.2 0 (by rw[hAu,hAu,hB2,hB2];omega);rcases hAc.mp hy with rfl|hy
   ·exact xz
   ·exact qEe xz ((hBt.mp ih).1 y hy)
def qT3:Sp:=λvs H Q _=>∃(v:V) (d:Nd),vs=[v]/\Nt H v d/\∀(b:Bool) H',(b=true↔zBs d)->Ext H H'->Q (.bl b) H'
theorem qU4{xs:List V}:(xs.map nmV).all id=true↔∀x∈xs,nmV x=true:=by
 rw[hDo,hC0];rfl
theorem zB2{α:Type}{l:List α}(h:l.length=3):∃a b c,l=[a,b,c]:=match l,h with | [a,b,c],_=>⟨a,b,c,rfl⟩
theorem qO6{xs:List V}(h:zAk (some xs)):xs.length=3/\∀x∈xs,nmV x=true:=by
 obtain⟨t,e,h1,h2,h3,_⟩:=h;cases e;refine⟨rfl,λx hx=>?_⟩;simp only[trV,hAc,hBf,hEa]at hx;rcases hx with rfl|rfl|rfl
 ·exact h1
 ·exact h2
 ·exact h3
section
variable{P:Program}{w:World}{K:PySem.W.Frag}{mg:Str->Option Value}{base:Heap}{f f1 f2 f3:Addr}{fd fd1 fd2 fd3:FuncData}
theorem qVn:FnScope ["thing"] ["thing"] (qAa qGn):=fsk
theorem qSt(F:Fun K "is_tie" "is_tie" qGn f fd)(G:v7 1 f1 fd1 ["thing"] qPf "is_name")(mi:mg "isinstance"=none)(mt:mg "tuple"=none)(ma:mg "all"=none)(ml:mg "len"=none) :
  v6 2 f fd ["thing"] qPk:=by
 refine F.okA qVn λcdv A outer s H vs Q E hr h=>?_
 obtain⟨x,o,rfl,hP,q⟩:=h;refine⟨_,qAb (qBb (PW.pt (qDv (qBz (qBy (qAf qBl rfl mi qA6 (qAe (pv 0) (pa1 (qC6 (v:=.ty "tuple") rfl mt qCf rfl))))))
   (qDv (qAl qFo (qAf qAm rfl ml hAr (pa1 (pv 0))) qAc (qAp _))
   (qDi (qBz (qBy (qAf (qBu rfl) rfl ma qBw (qAe
    (qDf (N:=["thing"]) (sc:=qAa qGn) (N':=["part"]) (sub:=[none]) rfl rfl (CmpOk.of (by decide +kernel)) rfl (qM7 (pv 0))
     (λC s H fp=>⟨qAh (i:=0) (by show(["part"]:List Str).Nodup;decide) rfl (Or.inl rfl),qAx,qAy G hr rfl .nil qAz (pa1 (pv 0))⟩)) qA3))))))))
   (qAd (qAo qGt)) qAu)
  (qAd (qAo (qCe qQk (qBm qCb (pv 0) qAc (λ_ _=>rfl)) (qBm qCb (pv 0) qAc (λ_ _=>rfl)) (qAp _)))),?_⟩
 rcases hP with ⟨a,xs,rfl,rfl,ha,hl,hI⟩|⟨rfl,hN⟩
 ·refine⟨_,rfl,_,_,_,true,rfl,.tup ha,qDc _ _,true,rfl,qEo ?_⟩;refine⟨_,rfl,a,_,rfl,.inr (SqT.of ha),rfl,_,rfl,?_⟩;refine qBp (λc=>?_) (λc=>?_)
  ·refine iteT (q false H ⟨λz=>(by cases z),λz=>?_⟩ (Ext.refl _));have:=(qO6 z).1;rw[this]at c;cases c
  have l3:xs.length=3:=by
   have:((xs.length:Nat):Int)=3:=by simpa using c
   omega
  have hz:xs.length<=sizeLine:=hB1 (qB5 (by omega));refine⟨_,rfl,a,rfl,⟨_,SqT.of ha⟩,?_⟩;refine qHi (xs:=xs) (λv=>some (V.bl (nmV v))) ha hz (λx hx H1 he C hC=>?_) λH1 he=>?_
  ·obtain⟨D,hD⟩:=hI x hx;refine⟨sls,iteT (B:=False) ⟨_,rfl,x,D,rfl,hD.ext he,λH' he'=>hC H' he'⟩⟩
  ·intro r hr1;have e1:xs.filterMap (λv=>some (V.bl (nmV v)))=(xs.map nmV).map V.bl:=by
    rw[hAz];exact congrFun (List.filterMap_eq_map (f:=V.bl∘nmV)) xs
   rw[e1];refine⟨r,xs.map nmV,rfl,SqL.of upd_same,(xs.map nmV).all id,rfl,?_⟩;have e2:=he.trans (Ext.new hr1 (.lst ((xs.map nmV).map V.bl)));refine qBp (λc=>?_) (λc=>?_)
   ·refine q false _ ⟨λz=>(by cases z),λz=>?_⟩ e2;have:=qU4.mpr (qO6 z).2;rw[this]at c;cases c
   ·have z2:(xs.map nmV).all id=true:=by
     cases h3:(xs.map nmV).all id with
     |true=>rfl
     |false=>rw[h3]at c;exact absurd rfl c
    have hnm:=qU4.mp z2;obtain⟨x,y,z,rfl⟩:=zB2 l3;obtain⟨s1,rfl⟩:=qGv (hnm x (by simp));obtain⟨s2,rfl⟩:=qGv (hnm y (by simp));obtain⟨s3,rfl⟩:=qGv (hnm z (by simp));have ha2:=e2 _ _ ha;refine⟨_,rfl,a,_,_,_,rfl,rfl,SqT.of ha2,(by exact qA5 (j:=1) rfl),?_⟩;refine⟨_,rfl,a,_,_,_,rfl,rfl,SqT.of ha2,(by exact qA5 (j:=2) rfl),s2,s3,rfl,rfl,q _ _ ⟨λz=>?_,λz=>?_⟩ e2⟩
    ·exact⟨(s1,s2,s3),rfl,hnm (.str s1) (by simp),hnm (.str s2) (by simp),hnm (.str s3) (by simp),z⟩
    ·obtain⟨t,e,_,_,_,h4⟩:=z;have e':trV (s1,s2,s3)=trV t:=hAq e;cases qO5 e';exact h4
 ·obtain⟨t,ty,kt⟩:=hN.ty K;exact⟨_,rfl,_,_,_,false,rfl,ty,kt,false,rfl,iteT (iteT (q false H ⟨λz=>(by cases z),λ⟨t,e,_⟩=>(by cases e)⟩ (Ext.refl _)))⟩
theorem qYz:FnScope ["thing"] ["thing"] (qAa qLh):=fsk
theorem qWz(F:Fun K "has_net_form" "has_net_form" qLh f fd)(G1:v7 2 f1 fd1 ["thing"] qPk "is_tie")
  (G2:v7 2 f2 fd2 ["thing"] (qKz K) "is_row")
  (G3:v7 1 f3 fd3 ["net"] qPb "ties_of") (mi:mg "isinstance"=none) (mL:mg "list"=none) (ma:mg "all"=none) :
  v6 3 f fd ["thing"] qT3:=by
 refine F.okA qYz λcdv A outer s H vs Q E hr h=>?_
 obtain⟨v,d,rfl,hN,q⟩:=h;have hr1:=hr.mono (j:=1) (by decide);refine⟨_,qAb (qBb (PW.pt (qDv (qBz (qBy (qAf qBl rfl mi qA6 (qAe (pv 0) (pa1 (qC6 (v:=.ty "list") rfl mL qC1 rfl))))))
   (qDi (qBz (qBy (qAf (qBu rfl) rfl ma qBw (qAe
    (qDf (N:=["thing"]) (sc:=qAa qLh) (N':=["part"]) (sub:=[none]) rfl rfl (CmpOk.of (by decide +kernel)) rfl (qAv (pv 0))
     (λC s H fp=>⟨qAh (i:=0) (by show(["part"]:List Str).Nodup;decide) rfl (Or.inl rfl),qAx,qAy G1 hr rfl .nil qAz (pa1 (pv 0))⟩)) qA3)))))))
   (qAd (qAo qGt)) qAu)
  (qAd (qAo (qAy G2 hr rfl .nil qAz (pa1 (qAy G3 hr1 rfl .nil qAz (pa1 (pv 0))))))),?_⟩
 rcases hN with ⟨rfl,nl⟩|⟨a,xs,os,rfl,ha,rfl,pr,hl⟩
 ·obtain⟨t,ty,kt⟩:=nl.ty K;exact⟨_,rfl,_,_,_,false,rfl,ty,kt,false,rfl,iteT (iteT (q false H ⟨λz=>(by cases z),λ⟨t,e,_⟩=>(by cases e)⟩ (Ext.refl _)))⟩
 refine⟨_,rfl,_,_,_,true,rfl,.lst ha,qDc _ _,true,rfl,qEo ?_⟩;have lo:xs.length=os.length:=pr.length;refine⟨_,rfl,a,rfl,⟨_,SqL.of ha⟩,?_⟩;refine qAt (xs:=xs) (λi ys H1=>Ext H H1/\∃bs:List Bool,ys=bs.map V.bl/\bs.length=i/\(bs.all id=true↔∀o∈os.take i,zAk o)) ⟨Ext.refl _,[],rfl,rfl,⟨λ_ o ho=>(by rw[hC6]at ho;cases ho),λ_=>rfl⟩⟩ (λi ys H1 _ h=>SqL.of (h.1 _ _ ha)) ?_ ?_
 ·rintro i x ys H1 hx ⟨he,bs,rfl,lb,hb⟩;obtain⟨o,ho,hP⟩:=qA8 pr hx;have hi:=qA7 hx;refine⟨sls,iteT (B:=False) ⟨_,rfl,x,o,rfl,hP.ext he,λb H2 eb e2=>⟨?_,nxt hi ⟨he.trans e2,bs++[b],by rw[hA7];rfl,by rw[hA9,lb];rfl,?_⟩⟩⟩⟩
  ·rw[hA1];exact qB5 (by omega)
  ·rw[qAk ho,List.all_append,hBe];constructor
   ·rintro⟨z1,z2⟩ o' ho';rcases hAf.mp ho' with z|z
    ·exact hb.mp z1 o' z
    ·rw[hAe]at z;subst z;exact eb.mp (by simpa using z2)
   ·intro z;exact⟨hb.mpr λo' ho'=>z o' (hAk _ ho'),by simpa using eb.mpr (z o (hAa _ (hAe.mpr rfl)))⟩
 ·rintro ys H1 ⟨he,bs,rfl,lb,hb⟩ r hr1;rw[lo,hA6 (hA3 _)]at hb;refine⟨r,bs,rfl,SqL.of upd_same,bs.all id,rfl,?_⟩;have e2:=he.trans (Ext.new hr1 (.lst (bs.map V.bl)));refine qBp (λc=>?_) (λc=>?_)
  ·refine q false _ ⟨λz=>(by cases z),λ⟨net,e,tt,_⟩=>?_⟩ e2;have e':os=net.map λt=>some (trV t):=hAq e
   have:bs.all id=true:=hb.mpr λo ho=>by
    rw[e']at ho;obtain⟨t,ht,rfl⟩:=hAb.mp ho;exact⟨t,rfl,tt t ht⟩
   rw[this]at c;cases c
  ·have z2:bs.all id=true:=by
    cases h3:bs.all id with
    |true=>rfl
    |false=>rw[h3]at c;exact absurd rfl c
   obtain⟨as,net,rfl,rfl,tt,pn⟩:=qMb pr (hb.mp z2);have ln:as.length=net.length:=pn.length;rw[hA1]at hl;refine⟨_,rfl,a,net,rfl,⟨as,e2 _ _ ha,Paired.mapP pn λa t z=>e2 _ _ z⟩,by omega,λr2 H2 e3 r20 hr2=>?_⟩;refine⟨_,rfl,.inl ⟨r2,_,rfl,hr2,by rw[hA1,hA1];omega,λy hy=>?_,λb H3 eb e4=>q b H3 (eb.trans ⟨λz=>?_,λz=>?_⟩) ((e2.trans e3).trans e4)⟩⟩
   ·obtain⟨n,hn,rfl⟩:=hAb.mp hy;obtain⟨t,ht,rfl⟩:=hAb.mp hn;exact⟨.str t.1,.inr (.inr (.inr (.inl ⟨t.1,rfl,rfl,(tt t ht).2⟩)))⟩
   ·exact⟨net,rfl,λt ht=>(tt t ht).1,z⟩
   ·obtain⟨net',e,_,z'⟩:=z;cases NdOf.inj e;exact z'
end
end My
namespace L2
open PySem PySem.Spec PyProof.Rows
def TrC(h base:Heap)(e:Addr)(cls a0 fl:Value):Prop:=∃(oe:Obj) (vs:Array Value) (T:Addr) (oT:Obj) (ts:Array Value),h.get? e=some oe/\(oe.cls=cls/\vs[0]?=some a0/\vs[2]?=some .none)/\oe.data = .fields vs/\vs[1]?=some (.ref T)/\base.get? T=none/\T≠e/\h.get? T=some oT/\oT.data = .fields ts/\ts[3]?=some fl
structure FlyC(base:Heap)(l:List Env)(e:Addr)(cls a0 fl:Value)(h:Heap):Prop where
 stays:base.StaysIn h
 nob:base.get? e=none
 fun_:h.FunFrames base l
 tr:TrC h base e cls a0 fl
theorem FlyC.there(x:FlyC base l e cls a0 fl h):∃ob,h.get? e=some ob/\ob.cls=cls/\∃vs,ob.data = .fields vs/\vs[2]?=some .none:=by
 obtain⟨oe,vs,T,oT,ts,h1,h2,h3,_⟩:=x.tr;exact⟨oe,h1,h2.1,vs,h3,h2.2.2⟩
section
variable{M:Model}{A:Around}{E:Value->Shared->Prop}{s:Shared}
theorem qIz{base:Heap}{l:List Env}{e:Addr}{cls a0 fl:Value}{Q:Unit->Shared->Prop}(x:FlyC base l e cls a0 fl s.heap)(hQ:∀h',FlyC base l e cls a0 .none h'->s.heap.UpToSlots h'->Q () { s with heap:=h' }):wpAny M A (setFlight (.ref e) none) Q E s:=by
 obtain⟨x1,x2,x3,oe,vs,T,oT,ts,t1,t2,t3,t4,t5,t6,t7,t8,t9⟩:=x;have lt:3<ts.size:=(hCt.mp t9).1;have oth:∀b,b≠T->(s.heap.update T (Obj.mapFields (·.setIfInBounds 3 Value.none))).get? b=s.heap.get? b:=λb hb=>Heap.get?_update_other _ _ (Ne.symm hb)
 have nor:∀b o,s.heap.get? b=some o->(∀v,o.data≠.fields v)->b≠T:=λb o hb hnf q=>by rw[q,t7]at hb;cases hb;exact hnf ts t8
 unfold setFlight;refine hDq (wpAny_field t1 t3 t4 ?_);rw[hDw (show((Value.ref T != Value.none):Bool)=true by simp)];refine wpAny_setField t7 t8 lt (hQ _ ⟨λb o hb=>(oth b λq=>by rw[q,t5]at hb;cases hb).trans (x1 b o hb),x2,x3.of_keeps λb o hb hnf=>⟨o,(oth b (nor b o hb hnf)).trans hb,rfl⟩,oe,vs,T,_,_,(oth e (Ne.symm t6)).trans t1,t2,t3,t4,t5,t6,Heap.get?_update_self _ t7 (Obj.isFreed_of_fields (Obj.data_mapFields t8 _)),Obj.data_mapFields t8 _,by simp[lt]⟩ λb o hb hnf=>⟨o.slots,(oth b (nor b o hb hnf)).trans hb⟩)
theorem qUt{base:Heap}{env:Env}{outer:List Env}{L e:Addr}{oe:Obj}{vs:Array Value}{head a0:Value}{hadNext:Bool}{Q:Unit->Shared->Prop}(hfr:A.frames=some (env :: outer))(hl:s.heap.FunFrames base (env :: outer))(hf:env.frame=some L)
  (he:s.heap.get? e=some oe) (hkb:base.StaysIn s.heap) (hen:base.get? e=none) (hd:oe.data = .fields vs) (hsz:1<vs.size) (h0:vs[0]?=some a0) (h2:vs[2]?=some .none)
  (hQ:∀h',FlyC base (env :: outer) e oe.cls a0 (rawInt L) h'->s.heap.UpToSlots h'->Q () { s with heap:=h' }) :
  wpAny M A (do let a ← frameOf env;let pl ← entryPlaceOf L hadNext;let b ← EntryCells.newEntry head a .none (rawInt L) .none pl;setField (.ref e) 1 b) Q E s:=by
 have nst:e∉(env :: outer).filterMap (·.frame):=λhm=>by
  obtain⟨_,o,ho,hnf⟩:=hl.mem hm;rw[he]at ho;cases ho;exact hnf vs hd
 refine hDq (wpAny_frameOf_fun hfr hl hf λg1 s1=>hDq (wpAny_entryPlaceOf λpl hpl=>?_));unfold EntryCells.newEntry newFields;refine hDq (hE2 ?_ (hpl.sizeOk5 _ _ _ _ _));have e1:g1.get? e=some oe:=(s1.2.1 e nst).trans he;have k1:base.StaysIn g1:=λb o hb=>(s1.2.1 b λhm=>by rw[(hl.mem hm).1]at hb;cases hb).trans (hkb b o hb)
 generalize hob:({ cls:=.type "traceback",dict:=none,data:=.fields ([head,.ref L,.none,rawInt L,.none]++(if pl.isEmpty then List.replicate 6 Value.none else pl)).toArray }:Obj)=ob;have obd:∃ts,ob.data = .fields ts/\ts[3]?=some (rawInt L):=by
  rw[<-hob];refine⟨_,rfl,?_⟩;rw[List.getElem?_toArray,hCg (by simp)];rfl
 have obf:ob.isFreed=false:=by rw[<-hob];rfl
 clear hob;have e2:=Heap.get?_push_of_some (h:=g1) ob e1;refine wpAny_setField e2 hd hsz (hQ _ ?_ ?_)
 all_goals
  have ne:g1.objs.size≠e:=hDn (Heap.lt_size e1);have kp:∀b o,b≠e->g1.get? b=some o->((g1.push ob).update e (Obj.mapFields (·.setIfInBounds 1 (Value.ref g1.objs.size)))).get? b=some o:=λb o hb e=>by
   rw[Heap.get?_update_other _ _ (Ne.symm hb)];exact Heap.get?_push_of_some _ e
  have nr:∀b o,s.heap.get? b=some o->(∀v,o.data≠.fields v)->b≠e:=λb o hb hnf q=>by rw[q,he]at hb;cases hb;exact hnf vs hd
 ·have d3:=Obj.data_mapFields hd (·.setIfInBounds 1 (Value.ref g1.objs.size));obtain⟨ts,td,t3⟩:=obd;refine⟨λb o hb=>kp b o (λq=>by rw[q,hen]at hb;cases hb) (k1 b o hb),hen,hl.of_keeps λb o hb hnf=>?_,_,_,g1.objs.size,ob,ts,Heap.get?_update_self _ e2 (Obj.isFreed_of_fields d3),⟨Obj.cls_mapFields _ _,?_,?_⟩,d3,by simp[hsz],k1.fresh,ne,(Heap.get?_update_other _ _ (Ne.symm ne)).trans (Heap.get?_push_size g1 obf),td,t3⟩
  ·obtain⟨sl,hs⟩:=s1.2.2 b o hb;exact⟨_,kp b _ (nr b o hb hnf) hs,rfl⟩
  ·rw[Array.getElem?_setIfInBounds_ne (by decide)];exact h0
  ·rw[Array.getElem?_setIfInBounds_ne (by decide)];exact h2
 ·intro b o hb hnf;obtain⟨sl,hs⟩:=s1.2.2 b o hb;exact⟨sl,kp b _ (nr b o hb hnf) hs⟩
theorem qZn{base:Heap}{env:Env}{outer:List Env}{L e:Addr}{oe:Obj}{vs:Array Value}{a0:Value}{Q:Unit->Shared->Prop}(hfr:A.frames=some (env :: outer))(hl:s.heap.FunFrames base (env :: outer))(hf:env.frame=some L)
  (he:s.heap.get? e=some oe) (hkb:base.StaysIn s.heap) (hen:base.get? e=none) (hd:oe.data = .fields vs) (h1:vs[1]?=some .none) (h0:vs[0]?=some a0) (h2:vs[2]?=some .none)
  (hQ:∀h',FlyC base (env :: outer) e oe.cls a0 (rawInt L) h'->s.heap.UpToSlots h'->Q () { s with heap:=h' }):wpAny M A (noteFrame (.ref e) env) Q E s:=by
 unfold noteFrame;simp only[hf];refine hDq (wpAny_field he hd h1 ?_);rw[hDv (by decide)];exact qUt hfr hl hf he hkb hen hd (hCt.mp h1).1 h0 h2 hQ
theorem zBa{base:Heap}{env:Env}{outer:List Env}{L e:Addr}{cls a0:Value}{Q:Unit->Shared->Prop}(hfr:A.frames=some (env :: outer))(hf:env.frame=some L)(x:FlyC base (env :: outer) e cls a0 .none s.heap)
  (hQ:∀h',FlyC base (env :: outer) e cls a0 (rawInt L) h'->s.heap.UpToSlots h'->Q () { s with heap:=h' }):wpAny M A (noteFrame (.ref e) env) Q E s:=by
 obtain⟨x1,x2,x3,oe,vs,T,oT,ts,t1,⟨rfl,ta,tc⟩,t3,t4,t5,t6,t7,t8,t9⟩:=x;unfold noteFrame;simp only[hf];refine hDq (wpAny_field t1 t3 t4 ?_);rw[hDw (show((Value.ref T != Value.none):Bool)=true by simp)];refine hDq (wpAny_field t7 t8 t9 ?_);rw[hDv (show ¬(((Value.none == rawInt L):Bool)=true) by simp[rawInt])];refine hDq (wpAny_setField t7 t8 (hCt.mp t9).1 ?_);have oth:∀b,b≠T->(s.heap.update T (Obj.mapFields (·.setIfInBounds 3 Value.none))).get? b=s.heap.get? b:=λb hb=>Heap.get?_update_other _ _ (Ne.symm hb)
 have nor:∀b o,s.heap.get? b=some o->(∀v,o.data≠.fields v)->b≠T:=λb o hb hnf q=>by rw[q,t7]at hb;cases hb;exact hnf ts t8
 exact qUt hfr (x3.of_keeps λb o hb hnf=>⟨o,(oth b (nor b o hb hnf)).trans hb,rfl⟩) hf ((oth e (Ne.symm t6)).trans t1) (λb o hb=>(oth b λq=>by rw[q,t5]at hb;cases hb).trans (x1 b o hb)) x2 t3 (hCt.mp t4).1 ta tc
  λh' fl up=>hQ h' fl λb o hb hnf=>up b o ((oth b (nor b o hb hnf)).trans hb) hnf
end
def Fly(H:Hp)(h0 h:Heap)(e:Addr)(cls:Value):Prop :=
 h0.get? e=none/\H e=none/\∃(a0:Value) (oe:Obj) (vs:Array Value) (T:Addr) (oT:Obj) (ts:Array Value),h.get? e=some oe/\(oe.cls=cls/\vs[0]?=some a0/\vs[2]?=some .none)/\oe.data = .fields vs/\vs[1]?=some (.ref T)/\T≠e/\h0.get? T=none/\H T=none/\h.get? T=some oT/\oT.data = .fields ts/\ts[3]?=some .none
def CXe(P:Program)(w:World):CXT:=λouter H s E e s'=>∃(ea:Addr) (cls:Value) (H':Hp),e = .ref ea/\s'.os=s.os/\AllBare s'.gens/\Un (frs outer) [] H H' s.heap s'.heap/\HOk P w H' s'.heap/\Fly H' s.heap s'.heap ea cls/\E cls none H'
theorem qQm:∀ {o:HO},qCg P w H h a o->∃ob,h.get? a=some ob
 |.lst _,x=>by obtain⟨_,_,_,_,e⟩:=x;exact⟨_,e⟩
 |.tup _,x=>by obtain⟨_,_,_,p⟩:=x;obtain⟨ob,e,_⟩:=p;exact⟨_,e⟩
 |.dK _,x=>by obtain⟨_,_,_,_,ob,_,_,e,_⟩:=x;exact⟨_,e⟩
 |.dT _,x=>by obtain⟨_,_,_,_,ob,_,_,e,_⟩:=x;exact⟨_,e⟩
 |.set _ _,x=>by obtain⟨ob,_,_,_,e,_⟩:=x;exact⟨_,e⟩
 |.ins _ _ _,x=>by obtain⟨_,_,_,e,_⟩:=x;exact⟨_,e⟩
 |.own _,x=>x
 |.xd _,x=>by obtain⟨_,⟨ob,_,_,e,_⟩,_⟩:=x;exact⟨_,e⟩
 |.rng _ _,x=>by obtain⟨_,_,_,e⟩:=x;exact⟨_,e⟩
 |.frz _ _,x=>⟨_,x.1⟩
 |.tbl _,x=>⟨_,x⟩
 |.met _ _,x=>⟨_,x⟩
 |.ext _,x=>x.2.1
theorem qIy{h b1 b2:Heap}:∀ {l:List Env},h.FunFrames b1 l->(∀a∈frs l,b2.get? a=none)->h.FunFrames b2 l
 |[],_,_=>trivial
 |env :: r,hl,hn=>by
  obtain⟨k,⟨L,o,f,_,ho,hd⟩,hr⟩:=hl;have m:frs (env :: r)=L :: frs r:=by unfold frs;rw[hCf,f]
  rw[m]at hn;exact⟨k,⟨L,o,f,hn L hA5,ho,hd⟩,qIy hr λa ha=>hn a (hA4 _ ha)⟩
section
variable{P:Program}{w:World}{K:PySem.W.Frag}{mg:Str->Option Value}{base:Heap}{N:List Str}{qual:Str}{scope:Scope}{f:Addr}{cd:Value}{A:Around}{outer:List Env}{s:Shared}{H:Hp}{E:XK}
abbrev cxE(P:Program)(w:World)(K:PySem.W.Frag)(mg:Str->Option Value)(base:Heap)(N:List Str)(qual:Str)(scope:Scope)(f:Addr)(cd:Value)(A:Around)(outer:List Env)(s:Shared)(H:Hp)(E:XK):Cx:=qTi (CXe P w) P w K mg base N qual scope f cd A outer s H E
theorem qXd(J:Inv (cxE P w K mg base N qual scope f cd A outer s H E) aB σ H' s')(He:H' ea=none)(Hs:s.heap.get? ea=none)
  (ex:List Addr) (hex:∀t∈ex,H' t=none/\s.heap.get? t=none) (lf:FlyC (PySem.W.hideAll s'.heap (ea :: (ex++frs (cxE P w K mg base N qual scope f cd A outer s H E).stack))) (cxE P w K mg base N qual scope f cd A outer s H E).stack ea cls a0 .none h'') (l4:s'.heap.UpToSlots h'') (q:E cls none H') :
  CXe P w outer H s E (.ref ea) { s' with heap:=h'' }:=by
 obtain⟨l1,_,l2,oe,vs,T,oT,ts,t1,t2,t3,t4,t5,t6,t7,t8,t9⟩:=lf;have fr:=J.stack;have frf:=J.stkFree;have kp:∀b o,s'.heap.get? b=some o->b≠ea->b∉ex->b∉frs (cxE P w K mg base N qual scope f cd A outer s H E).stack->h''.get? b=some o:=λb o e n1 n2 n3=>l1 b o (hDi _ e (by
  rw[hAc,hAf];rintro(z|z|z)
  ·exact n1 z
  ·exact n2 z
  ·exact n3 z))
 have old:∀b o,s.heap.get? b=some o->b≠ea/\b∉ex/\b≠(envOfC qual scope s.heap.objs.size f cd).locals:=λb o e=>by
  refine⟨λz=>?_,λz=>?_,λz=>?_⟩
  ·rw[z,Hs]at e;cases e
  ·rw[(hex b z).2]at e;cases e
  ·have lt:=Heap.lt_size e;rw[z]at lt;exact absurd (hAo lt J.ok.above) (hBz _)
 have stk:∀b,b∈frs (cxE P w K mg base N qual scope f cd A outer s H E).stack->b=(envOfC qual scope s.heap.objs.size f cd).locals\/b∈frs outer:=λb hb=>by
  have:frs (cxE P w K mg base N qual scope f cd A outer s H E).stack=(envOfC qual scope s.heap.objs.size f cd).locals :: frs outer:=rfl;rw[this]at hb;exact hAc.mp hb
 have stk':∀b,b∈frs outer->b∈frs (cxE P w K mg base N qual scope f cd A outer s H E).stack:=λb hb=>hA4 _ hb
 have sl:∀b o,s'.heap.get? b=some o->b∈frs (cxE P w K mg base N qual scope f cd A outer s H E).stack->∃z,h''.get? b=some { o with slots:=z }:=λb o e hb=>by
  obtain⟨_,o',ho',hd⟩:=fr.mem hb;rw[e]at ho';cases ho';exact l4 b o e hd
 have trk:∀b u,H' b=some u->b≠ea/\b∉ex/\b∉frs (cxE P w K mg base N qual scope f cd A outer s H E).stack:=λb u e=>by
  refine⟨λz=>?_,λz=>?_,λz=>?_⟩
  ·rw[z,He]at e;cases e
  ·rw[(hex b z).1]at e;cases e
  ·rw[frf b z]at e;cases e
 refine⟨ea,cls,H',rfl,J.os,J.bare,⟨λb o e n hb hx=>?_,λb o e n hb hx=>?_,J.base.free,λb o e hx=>?_,J.base.tups,J.base.frzs,J.base.tbls⟩,λa o e=>?_,⟨Hs,He,a0,oe,vs,T,oT,ts,t1,t2,t3,t4,t6,?_,?_,t7,t8,t9⟩,q⟩
 ·obtain⟨o1,o2,o3⟩:=old b o e;exact kp b o (J.base.keep b o e n hb hx) o1 o2 λz=>(stk b z).elim o3 hb
 ·obtain⟨z,e1⟩:=J.base.slot b o e n hb hx;obtain⟨z2,e2⟩:=sl b _ e1 (stk' b hb);exact⟨z2,e2⟩
 ·obtain⟨o1,o2,o3⟩:=old b o e;obtain⟨o',e1⟩:=J.base.there b o e hx;by_cases hb:b∈frs (cxE P w K mg base N qual scope f cd A outer s H E).stack
  ·obtain⟨z,e2⟩:=sl b o' e1 hb;exact⟨_,e2⟩
  ·exact⟨o',kp b o' e1 o1 o2 hb⟩
 ·refine(J.hok a o e).stay (λb u hb q'=>?_) (λb z=>z) λb xs z=>z
  have hb':∃v,H' b=some v:=by
   rcases hb with z|z
   ·rw[z];exact⟨_,e⟩
   ·exact⟨_,z⟩
  obtain⟨v,hv⟩:=hb';obtain⟨n1,n2,n3⟩:=trk b v hv;exact kp b u q' n1 n2 n3
 all_goals
  have cs:s'.heap.get? T=none\/T∈ex:=by
   cases z:s'.heap.get? T with
   |none=>exact .inl rfl
   |some o =>
    refine .inr ?_;by_cases h2:T∈ex
    ·exact h2
    ·exfalso;by_cases h3:T∈frs (cxE P w K mg base N qual scope f cd A outer s H E).stack
     ·obtain⟨y,e2⟩:=sl T o z h3;rw[t7]at e2;obtain⟨_,o',ho',hd⟩:=fr.mem h3;rw[z]at ho';cases ho';cases e2;exact hd _ t8
     ·have:=hDi (ea :: (ex++frs (cxE P w K mg base N qual scope f cd A outer s H E).stack)) z (by
       rw[hAc,hAf];rintro(y|y|y)
       ·exact t6 y
       ·exact h2 y
       ·exact h3 y)
      rw[t5]at this;cases this
 ·rcases cs with z|z
  ·cases y:s.heap.get? T with
   |none=>rfl
   |some o =>
    obtain⟨o',e1⟩:=J.base.there T o y (λz=>by cases z);rw[z]at e1;cases e1
  ·exact(hex T z).2
 ·rcases cs with z|z
  ·cases y:H' T with
   |none=>rfl
   |some u =>
    exfalso;obtain⟨o,ho⟩:=qQm (J.hok T u y);rw[z]at ho;cases ho
  ·exact(hex T z).1
end
section
variable{P:Program}{w:World}{K:PySem.W.Frag}{mg:Str->Option Value}{base:Heap}{N:List Str}{qual:Str}{scope:Scope}{f:Addr}{cd:Value}{A:Around}{outer:List Env}{s:Shared}{H:Hp}{E:XK}
theorem qSf(J:Inv (cxE P w K mg base N qual scope f cd A outer s H E) aB σ H' s2)(hm:Heap.MadeExcOf s2.heap h' ea cls args)(q:E cls none H') :
  (cxE P w K mg base N qual scope f cd A outer s H E).xe (.ref ea) { s2 with heap:=h' }:=by
 have J3:Inv (cxE P w K mg base N qual scope f cd A outer s H E) aB σ H' { s2 with heap:=h' }:=J.kept (t':=s2.toks) hm.keeps;have He:H' ea=none:=by
  cases y:H' ea with
  |none=>rfl
  |some u =>
   obtain⟨o,ho⟩:=qQm (J.hok ea u y);rw[hm.new]at ho;cases ho
 have Hs:s.heap.get? ea=none:=by
  cases y:s.heap.get? ea with
  |none=>rfl
  |some o =>
   obtain⟨o',e1⟩:=J.base.there ea o y (λz=>by cases z);rw[hm.new]at e1;cases e1
 obtain⟨t,ht,_,_⟩:=hm.there;show wpAny (model P w) _ (leaving (envOfC qual scope s.heap.objs.size f cd) (.ref ea)) _ _ _;unfold leaving;refine hDq (qZn (a0:=.ref t) (base:=PySem.W.hideAll h' (ea :: ([]++frs (cxE P w K mg base N qual scope f cd A outer s H E).stack))) (outer:=outer) (s:={ s2 with heap:=h' }) J3.ok.frames (qIy J3.stack λa ha=>hCp _ (hA4 _ ha)) rfl ht (λb o z=>PySem.W.of_hideAll _ z) (hCp _ hA5) rfl rfl rfl rfl λg1 fl1 up1=>qIz fl1 λh'' lf up2=>?_);exact qXd (s':={ s2 with heap:=h' }) J3 He Hs [] (λt ht=>by cases ht) lf (up1.trans up2) q
def qYf(C:Addr)(E:XK)(t:TA):TS:=λD σ H=>t σ H λvs H1=>vs.length<=sizeLine/\E (.ref C) none H1
theorem qCt(hh:A.handled=none)(Fn:ExcBaseFacts Bn newId inN bmN)(hBn:bmB.contains (.type Bn)=true)(F:ExcBaseFacts B nid initId bmB)(O:OwnCls x C bmB newId mg base)
  (ha:PA (cxE P w K mg base N qual scope f cd A outer s H E) (e :: es) t) (hg:Gl (cxE P w K mg base N qual scope f cd A outer s H E) x) (hb:bmB.contains (.type "BaseException")=true) (hdb:(x == ("__debug__" : Str))=false:=by decide)
  (he:starEach (e :: es) (cxE P w K mg base N qual scope f cd A outer s H E).env=(false,eval e (cxE P w K mg base N qual scope f cd A outer s H E).env) :: starEach es (cxE P w K mg base N qual scope f cd A outer s H E).env:=by rfl) (hpl:(backTo cpos (starEach (e :: es) (cxE P w K mg base N qual scope f cd A outer s H E).env)).any (·.1)=false:=by rfl) :
  PS (cxE P w K mg base N qual scope f cd A outer s H E) (.Raise (some (.Call (.Name x np) (e :: es) [] cpos)) none pos) (qYf C E t):=by
 intro aB s1 σ H1 D I h;obtain⟨bm,N',nm,q,bs,hdct,sn,sub,ab,col,dd,k0,k1,k2,k3,k5,mN,hC,hN,hni,T⟩:=O.2;refine wpAny_Raise_call_subU (C:=C) (nm:=nm) (q:=q) (N:=N') (bs:=bs) (bm:=bm) (hdct:=hdct) (sn:=sn) (sub:=sub) (ab:=ab) (col:=col) (dd:=dd) (k0:=k0) (k1:=k1) (k2:=k2) (k3:=k3) (k5:=k5) Fn hBn F (T.hasType hb) hh hpl hni ?_;refine qFs I hg O.1 ⟨rfl,?_⟩ hdb;rw[he];refine Calls.evalArgs_plain ?_;have:=ha cpos aB s1 σ H1 _ I h;rw[he]at this;refine thn this λus s2 ⟨vs,H2,I2,rv,hl,hE⟩=>⟨rfl,by rw[<-rv.length];exact hl,I2.bk _ _ hC,hN.keeps I2.bk,T.keeps I2.bk,λh' ea hm=>qSf I2 hm hE⟩
theorem Fun.okE{x:Str}{st:Stmt}{fd:FuncData}{ps:List Str}{k:Nat}{sp:Sp}(F:Fun K x qual st f fd)(S:FnScope N ps (qAa st))(len:∀vs H Q E,sp vs H Q E->vs.length=ps.length)
  (hbody:∀(cdv:Value) (A:Around) (outer:List Env) (s:Shared) (H:Hp) (vs:List V) (Q:VK) (E:XK),Room k (A.deeper (envOfC qual (qAa st) s.heap.objs.size f cdv))->A.handled=none->sp vs H Q E ->
   ∃t,PSs (cxE P w K mg base N qual (qAa st) f cdv A outer s H E) (qAn st) t/\t { nx:=λ_ H'=>Q .non H',rt:=Q } (start N vs) H):FnOk P w K mg base (CXe P w) (k+1) f fd ps sp:=by
 obtain⟨oc,od,kV,doc,pm,an,cdv,ct,osl,rfl,lk,hcd⟩:=F.ex;exact qZ3 lk hcd S len λA outer s H vs Q E hr hsp=>hbody cdv A outer s H vs Q E hr hr.hd hsp
end
section
variable{X:Cx}{aB:List (Addr×Obj)}{σ:St}{H:Hp}{s:Shared}{h':Heap}
theorem Inv.move(I:Inv X aB σ H s)(hp:∀p∈pn++pins',p∈X.pn++aB)(hA:A.frames=X.A.frames)(hc:calm=true->A.handled=none) :
  Inv { X with A:=A,calm:=calm,xe:=xe,pn:=pn } pins' σ H s :=
 ⟨⟨I.ok.mod,I.ok.kind,I.ok.glob,I.ok.blt,I.ok.above,I.ok.inj,I.ok.has,I.ok.cab,hc,hA.trans I.ok.frames,I.ok.stk,I.ok.exf,I.ok.bs,I.ok.bsz,I.ok.noex,I.ok.exfs,I.ok.funs,I.ok.frf⟩,I.os,I.bare,I.base,I.loc,I.cell,I.free,I.freeC,λp h=>I.pin p (hp p h),I.hok,I.len⟩
structure New(X:Cx)(aB:List (Addr×Obj))(b:Addr):Prop where
 s0:X.s₀.heap.get? b=none
 loc:b≠X.env.locals
 cel:∀x c,X.env.cells.lookup x=some c->c≠b
 pin:∀p∈X.pn++aB,p.1≠b
theorem Inv.new_of(I:Inv X aB σ H s)(hex:X.ex=[])(e:s.heap.get? b=none):New X aB b:=by
 refine⟨?_,λz=>?_,λx c hc z=>?_,λp hp z=>?_⟩
 ·cases y:X.s₀.heap.get? b with
  |none=>rfl
  |some o =>
   obtain⟨o',e1⟩:=I.base.there b o y (by rw[hex];intro z;cases z);rw[e]at e1;cases e1
 ·obtain⟨m,⟨o,_,_,ho,_⟩,_⟩:=I.loc;rw[<-z,e]at ho;cases ho
 ·obtain⟨v,o,ho,_⟩:=I.cell x c hc;rw[z,e]at ho;cases ho
 ·have:=(I.pin p hp).1;rw[z,e]at this;cases this
theorem Inv.exs(I:Inv X aB σ H s)(hn:∀b∈ch,New X aB b):Inv { X with ex:=X.ex++ch } aB σ H s :=
 ⟨⟨I.ok.mod,I.ok.kind,I.ok.glob,I.ok.blt,I.ok.above,I.ok.inj,I.ok.has,I.ok.cab,I.ok.hd,I.ok.frames,I.ok.stk,λb hb=>(hAf.mp hb).elim (I.ok.exf b) λz=>⟨(hn b z).loc,(hn b z).cel⟩,I.ok.bs,I.ok.bsz,
  λb o e hb=>(hAf.mp hb).elim (I.ok.noex b o e) λz=>(by
   have:=(I.ok.bs b o e).1;rw[(hn b z).s0]at this;cases this),
  λb hb hf=>(hAf.mp hb).elim (λz=>I.ok.exfs b z hf) λz=>(by
   obtain⟨_,o,ho,_⟩:=I.ok.funs.mem hf;rw[(hn b z).s0]at ho;cases ho),I.ok.funs,I.ok.frf⟩,I.os,I.bare,
  ⟨λb o e n hb hx=>I.base.keep b o e n hb λz=>hx (hAk _ z),λb o e n hb hx=>I.base.slot b o e n hb λz=>hx (hAk _ z),λb o e n hx=>I.base.free b o e n λz=>hx (hAk _ z),λb o e hx=>I.base.there b o e λz=>hx (hAk _ z),I.base.tups,I.base.frzs,I.base.tbls⟩,
  I.loc,I.cell,I.free,I.freeC,I.pin,I.hok,I.len⟩
theorem Inv.unexs(ok:X.Ok)(I:Inv { X with ex:=X.ex++ch } aB σ H s)(hn:∀b∈ch,New X aB b):Inv X aB σ H s:=by
 have nx:∀b o,X.s₀.heap.get? b=some o->b∉X.ex->b∉X.ex++ch:=λb o e hx hb=>(hAf.mp hb).elim hx λz=>by rw[(hn b z).s0]at e;cases e
 exact⟨ok,I.os,I.bare,⟨λb o e n hb hx=>I.base.keep b o e n hb (nx b o e hx),λb o e n hb hx=>I.base.slot b o e n hb (nx b o e hx),λb o e n hx=>I.base.free b o e n (nx b o e hx),λb o e hx=>I.base.there b o e (nx b o e hx),I.base.tups,I.base.frzs,I.base.tbls⟩,
  I.loc,I.cell,I.free,I.freeC,I.pin,I.hok,I.len⟩
theorem Inv.flown(J:Inv X aB σ H s)(hn:∀b∈ch,New X aB b)(hH:∀b∈ch,H b=none)(st:(PySem.W.hideAll s.heap (ch++frs X.stack)).StaysIn h')(up:s.heap.UpToSlots h'):Inv X aB σ H { s with heap:=h' }:=by
 have kp:∀b o,s.heap.get? b=some o->b∉ch->b∉frs X.stack->h'.get? b=some o:=λb o e n1 n2=>st b o (hDi _ e λz=>(hAf.mp z).elim n1 n2)
 have sl:∀b o,s.heap.get? b=some o->b∈frs X.stack->∃z,h'.get? b=some { o with slots:=z }:=λb o e hb=>by
  obtain⟨_,o',ho',hd⟩:=J.stack.mem hb;rw[e]at ho';cases ho';exact up b o e hd
 have u:Un (frs X.stack) ch H H s.heap h':=⟨λb o e _ n1 n2=>kp b o e n2 n1,λb o e _ hb _=>sl b o e hb,λ_ _ _ n _=>n,λb o e n2=>by
  by_cases hb:b∈frs X.stack
  ·obtain⟨z,e2⟩:=sl b o e hb;exact⟨_,e2⟩
  ·exact⟨o,kp b o e n2 hb⟩,λ_ _ e=>e,λ_ _ _ e=>e,λb ps e=>⟨#[],by rw[e];simp⟩⟩
 have hok:HOk X.prog X.w H h':=λa o e=>by
  refine(J.hok a o e).stay (λb u hb q=>?_) (λ_ z=>z) λ_ _ z=>z
  have hv:∃v,H b=some v:=hb.elim (λz=>⟨o,by rw[z];exact e⟩) λz=>⟨_,z⟩
  obtain⟨v,hv⟩:=hv;exact kp b u q (λz=>by rw[hH b z]at hv;cases hv) λz=>by rw[J.stkFree b z]at hv;cases hv
 exact Inv.unexs J.ok ((J.exs hn).call' (s':={ s with heap:=h' }) (ch:=ch) rfl u hok J.bare λb hb=>⟨.inl (hAa _ hb),(hn b hb).loc,(hn b hb).cel,(hn b hb).pin⟩) hn
def exO(ea:Addr)(cls:Value):HO:=.ext λh=>∃o,h.get? ea=some o/\o.cls=cls/\∃vs,o.data = .fields vs/\vs[2]?=some .none
theorem Inv.adopt(J:Inv X aB σ H s)(n:New X aB ea)(he:H ea=none)(ho:∃o,s.heap.get? ea=some o/\o.cls=cls/\∃vs,o.data = .fields vs/\vs[2]?=some .none):Inv X aB σ (upd H ea (exO ea cls)) s:=by
 have ne:∀b o,H b=some o->b≠ea:=λb o e z=>by rw[z,he]at e;cases e
 have n0:∀b o,X.s₀.heap.get? b=some o->b≠ea:=λb o e z=>by rw[z,n.s0]at e;cases e
 refine⟨J.ok,J.os,J.bare,⟨J.base.keep,J.base.slot,λb o e nn hx=>?_,J.base.there,λb xs e=>?_,λb o u e=>?_,λb ps e=>?_⟩,J.loc,J.cell,?_,λx c e=>?_,λp hp=>?_,λa o e=>?_,J.len⟩
 ·rw[qAs (n0 b o e)];exact J.base.free b o e nn hx
 ·rw[qAs (ne b _ (J.base.tups b xs e))];exact J.base.tups b xs e
 ·rw[qAs (ne b _ (J.base.frzs b o u e))];exact J.base.frzs b o u e
 ·obtain⟨m,e1⟩:=J.base.tbls b ps e;exact⟨m,by rw[qAs (ne b _ e1)];exact e1⟩
 ·rw[qAs (Ne.symm n.loc)];exact J.free
 ·rw[qAs (n.cel x c e)];exact J.freeC x c e
 ·obtain⟨a1,a2,a3⟩:=J.pin p hp;exact⟨a1,by rw[qAs (n.pin p hp)];exact a2,a3⟩
 ·by_cases z:a=ea
  ·subst z;rw[upd_same]at e;cases e;obtain⟨o,h1,h2⟩:=ho;refine⟨⟨o,h1,h2⟩,⟨o,h1⟩,λg1 g2 ⟨o',q1,q2⟩ k=>⟨o',k o' q1,q2⟩⟩
  ·rw[qAs z]at e;refine(J.hok a o e).stay (λ_ _ _ q=>q) (λb q=>?_) λb xs q=>?_
   ·rw[qAs (ne b _ q)];exact q
   ·rw[qAs (ne b _ q)];exact q
theorem qCm(I:Inv X aB σ H s)(hN:X.N.Nodup)(hi:X.N[i]?=some n)(hx:X.env.scope.names.lookup n=some .local)
  (h:∀s',Inv X aB (σ.set i none) H s'->Q () s'):wpAny M A (do bindName X.env n .none;unbindBehindTheSuite X.env n pos) Q E s:=by
 have hcls:(X.env.scope.kind == .class || (X.env.scope.kind == .module && X.env.locals != X.env.globals))=false:=by rw[I.ok.kind];rfl
 refine hDq (wpAny_bindName (qEd I hN hi (.inl hx) (v:=.non) (u:=.none) rfl (λs1 J=>?_) (.inr hx)));have hiσ:i < σ.length:=by rw[I.len];exact(hAi.mp hi).1
 obtain⟨m,hn,hl⟩:=id J.loc;have hv:∃v,m n=some v:=by
  obtain⟨u,_,l⟩:=hl i n .non hi (hD5 hiσ) (.inl hx);rcases l with ⟨_,e⟩|⟨k,_⟩
  ·exact⟨u,e⟩
  ·have k0:X.env.kindOf n=some .local:=hx;rcases k with k|k <;> (rw[k0]at k;cases k)
 obtain⟨v,hv⟩:=hv;unfold unbindBehindTheSuite;refine wpAny_onRaise (wpAny_unbindName_local hx hn hv hcls λh' u hn' hs=>?_);have eq:∀b,b≠X.env.locals->h'.get? b=s1.heap.get? b:=λb hb=>hs.2 b hb
 obtain⟨oL,_,_,hoL,_⟩:=id hn';have nL:∀b o,X.s₀.heap.get? b=some o->b≠X.env.locals:=λb o e=>hAt (hAo (Heap.lt_size e) J.ok.above)
 refine h _ ⟨J.ok,J.os,J.bare,⟨λb o e n hb hx=>(eq b (nL b o e)).trans (J.base.keep b o e n hb hx),λb o e n hb hx=>?_,J.base.free,λb o e hx=>?_,J.base.tups,J.base.frzs,J.base.tbls⟩,⟨_,hn',λj y v' e1 e2 e3=>?_⟩,λy c e=>?_,J.free,J.freeC,λp hp=>?_,λa o e=>?_,by rw[List.length_set];exact I.len⟩
 ·obtain⟨z,e1⟩:=J.base.slot b o e n hb hx;exact⟨z,(eq b (nL b o e)).trans e1⟩
 ·obtain⟨o',e1⟩:=J.base.there b o e hx;exact⟨o',(eq b (nL b o e)).trans e1⟩
 ·by_cases hj:j=i
  ·subst hj;rw[hD5 hiσ]at e2;cases e2
  ·rw[hD0 (Ne.symm hj)]at e2;obtain⟨u',r',q⟩:=hl j y v' e1 (by rw[hD0 (Ne.symm hj)];exact e2) e3;refine⟨u',r',?_⟩;rcases q with ⟨k,e⟩|⟨k,c,e,o,ho,hd⟩
   ·refine .inl ⟨k,?_⟩;show(if y=n then u else m y)=some u';rw[hDv (λ(z:y=n)=>hj (qIp hN (by rw[z]at e1;exact e1) hi))];exact e
   ·exact .inr ⟨k,c,e,o,(eq c (J.cne y c e)).trans ho,hd⟩
 ·obtain⟨v,o,ho,hd⟩:=J.cell y c e;exact⟨v,o,(eq c (J.cne y c e)).trans ho,hd⟩
 ·obtain⟨a1,a2,a3,a4⟩:=J.pin p hp;exact⟨(eq p.1 a3).trans a1,a2,a3,a4⟩
 ·refine(J.hok a o e).stay (λb u hb q=>(eq b λz=>?_).trans q) (λ_ z=>z) λ_ _ z=>z
  have hv:∃v,H b=some v:=hb.elim (λz=>⟨o,by rw[z];exact e⟩) λz=>⟨_,z⟩
  obtain⟨v,hv⟩:=hv;rw[z,J.free]at hv;cases hv
end
end L2
namespace L2
open PySem PySem.Spec PyProof.Rows Builtin Builtin.ObjectAttr Builtin.Getset_descriptor
section
variable{prog:Program}{w:World}{A:Around}{E:Value->Shared->Prop}{s:Shared}{K:PySem.W.Frag}{x D:Addr}
structure XCls(K:PySem.W.Frag)(D:Addr):Prop where
 c:(PySem.W.clsIn K D).isSome=true
 ga:PySem.W.findIn K (.ref D) "__getattribute__"=some (some (.builtin "BaseException.__getattribute__"))
 gt:PySem.W.findIn K (.ref D) "__getattr__"=some none
 cl:PySem.W.findIn K (.ref D) "__class__"=some (some (.builtin "object.__class__"))
 sp:PySem.W.specialIn K (.builtin "object.__class__") "__get__"=some (some (.builtin "getset_descriptor.__get__"))
 tk:PySem.W.takesIn K (.builtin "object.__class__")=some true
 ob:PySem.W.mroIn K D (.type "object")=some true
 be:PySem.W.mroIn K D (.type "BaseException")=some true
theorem qQ8(Z:XCls K D)(X:K.In h):PySem.W.Looks M h (find (.ref x) (.ref D) "__class__") (.bind (.builtin "getset_descriptor.__get__") (.builtin "object.__class__")):=by
 have L1:=PySem.W.looks_findIn (M:=M) X Z.cl;have L2:PySem.W.Looks M h (getOf (some (.builtin "object.__class__"))) (some (.builtin "getset_descriptor.__get__")):=PySem.W.looks_specialIn X Z.sp;have L3:=PySem.W.looks_takesIn (M:=M) X Z.tk;exact L1.andThen (L2.andThen ((show PySem.W.Looks M h (dataDescriptor? (some (.builtin "object.__class__")) (some (.builtin "getset_descriptor.__get__"))) (some (.builtin "getset_descriptor.__get__",.builtin "object.__class__")) from L3.andThen .now).andThen (PySem.W.Looks.tag .now)))
theorem zAl(Z:XCls K D)(X:K.In s.heap)(L0:PySem.W.Looks (model prog w) s.heap (typeOf (.ref x)) (.ref D))(h:R (.ok (.ret (.ref D))) s) :
  codeAny (model prog w) A (.call (.builtin "getset_descriptor.__get__") ⟨[.builtin "object.__class__",.ref x,tp],[]⟩) R s:=by
 obtain⟨hh,g,dr,t,os⟩:=s;have L1:=PySem.W.looks_mroIn (M:=model prog w) X Z.ob;refine codeAny_call_builtin PySem.W.KF.slot_gs.plain PySem.W.KF.entry_gs (PySem.W.KF.slot_gs.check _ _ _ _ _ _ _ _ PySem.W.KF.type_class (PySem.W.KF.args_gs _ _ _) ?_);unfold Builtin.«getset_descriptor.__get__» descrGet;rw[PySem.W.dga_obj];refine hDq (hDt ?_);unfold descrGetter descrCheckInstance descrNameAndClass isInstance;simp only[PySem.W.KF.owner_class]
 repeat lk
 refine⟨Code.quiet_builtin _ (by decide +kernel),hE7 PySem.W.KF.entry_class ?_⟩;unfold Builtin.«object.__class__» shownTypeOf
 repeat lk
 exact h
theorem qU9(Z:XCls K D)(X:K.In s.heap)(L0:PySem.W.Looks M s.heap (typeOf (.ref x)) (.ref D))(h:Q () s):wpAny M A (checkBuiltinCall "BaseException.__getattribute__" ⟨[.ref x,nameV],[]⟩) Q E s:=by
 obtain⟨hh,g,d,t,os⟩:=s;have hk:builtinKind "BaseException.__getattribute__"=some .slot:=by decide +kernel
 have hsplit:splitId "BaseException.__getattribute__"=some ("BaseException","__getattribute__"):=by decide +kernel
 have ha:=F.args_bexc_ga (.ref x) nameV;have L1:PySem.W.Looks M hh (isInstance (.ref x) (.type "BaseException")) true:=L0.andThen (PySem.W.looks_mroIn X Z.be);simp only[checkBuiltinCall,hk,hsplit];refine hDq (L1.at ?_)
 repeat (first|wp_step|assumption)
theorem qU7(Z:XCls K D)(X:K.In s.heap)(L0:PySem.W.Looks (model prog w) s.heap (typeOf (.ref x)) (.ref D))(h:Q (.done (.ret (.ref D))) s) :
  wpAny (model prog w) A (Builtin.«object.__getattribute__» ⟨[.ref x,.str "__class__" tk],[]⟩) Q E s:=by
 obtain⟨hh,g,d,t,os⟩:=s;have L3:=qQ8 (x:=x) (M:=model prog w) Z X;refine hDq (hDt (hDq (hDt (hDq (L0.at (hDq (L3.at ?_)))))));show wpAny _ _ (holding [Value.builtin "object.__class__"] (call (.builtin "getset_descriptor.__get__") [.builtin "object.__class__",.ref x,.ref D]) >>= ret) _ _ _;exact hDq (hDx (wpAny_call (zAl (s:=⟨hh,g,d,t,os⟩) Z X L0 (hDt h))))
theorem qU8(Z:XCls K D)(X:K.In s.heap)(L0:PySem.W.Looks (model prog w) s.heap (typeOf (.ref x)) (.ref D))(h:Q (some (.ref D)) { s with toks:=s.toks+1 }) :
  wpAny (model prog w) A (getAttr? (.ref x) "__class__") Q E s:=by
 obtain⟨hh,g,d,t,os⟩:=s;have L1:=PySem.W.looks_findIn (M:=model prog w) X Z.ga;have L2:=PySem.W.looks_findIn (M:=model prog w) X Z.gt;have hx2:(Value.builtin "BaseException.__getattribute__" == Value.builtin "object.__getattribute__")=false:=by decide +kernel
 have hx1:(onTheHeap (Value.ref D) && Value.builtin "BaseException.__getattribute__" == Value.builtin "object.__getattribute__")=false:=by rw[hx2];rfl
 unfold getAttr? getAttrBy? getAttrBy;refine hDq (wpAny_mkText (hDq (hEg (hDx (hDq (L0.at (hDq (L1.at ?_))))))));dsimp only;rw[hx1,hDv hAm];unfold getAttrByItsOwn hookBefore callGetattribute boundAndCalled;rw[hDw (show onTheHeap (Value.ref D)=true from rfl)];refine hDq (L2.at ?_);refine hDq (hEg (hDx ?_));show wpAny _ _ (bindSpecial (.builtin "BaseException.__getattribute__") (.ref x) >>= _) _ _ _;refine hDq (wpAny_of_eq (F.excAttr_ValueError.ga.bind _) ?_);refine wpAny_call (codeAny_call_builtin F.excAttr_ValueError.ga.plain F.entry_bexc_ga (qU9 (s:=⟨hh,g,d,t+1,os⟩) Z X L0 (qU7 (s:=⟨hh,g,d,t+1,os⟩) Z X L0 ?_)));exact PySem.W.handed_on rfl (hDt h)
theorem qS3(Z:XCls K D):PySem.W.KitX K (.ref x) (.ref D) (λh=>∃o,h.get? x=some o/\o.cls = .ref D) where
 ty:=λM h _ ⟨o,h1,h2⟩=>by rw[<-h2];exact(PySem.W.Looks.ld h1).andThen .now
 it:=λ_ _ X _=>by
  obtain⟨cd,hc⟩:=hCk.mp Z.c;unfold PySem.W.clsIn at hc;split at hc
  ·rename_i c' d' cd' sl' ho;intro A' Q' E' s' k q;unfold isType loadHead;exact hDq (wpAny_loadPart (k _ _ (X _ _ ho)) (hDt q))
  ·cases hc
 ne:=λh tp dd its n sl X htp=>by
  obtain⟨cd,hc⟩:=hCk.mp Z.c;refine Bool.eq_false_iff.mpr λq=>?_
  have e:D=tp:=Value.ref.inj (beq_iff_eq.mp q);subst e;unfold PySem.W.clsIn at hc;split at hc
  ·rename_i c' d' cd' sl' ho;have z:=(X _ _ ho).symm.trans htp;cases z
  ·cases hc
 ca:=λ{prog w A E Q s} X I k=>qU8 Z X (by obtain⟨o,h1,h2⟩:=I;rw[<-h2];exact(PySem.W.Looks.ld h1).andThen .now) k
end
def qX1(K:PySem.W.Frag):List V->Hp->VK->Prop:=λxs H Q=>∃(a D:Addr) (y:V) (c:Value) (b:Bool),xs=[.ref a,y]/\H a=some (exO a (.ref D))/\XCls K D/\(∀u,qC2 y u->u=c)/\PySem.W.kitOne K (.ref D) c=some b/\Q (.bl b) H
theorem qFe:qB9 X (.builtin "isinstance") (qX1 X.K):=by
 intro aB s σ H xs us Q I r h;obtain⟨a,D,y,c,b,rfl,ha,Z,hc,e,q⟩:=h;obtain⟨u,w',rfl,rx,rc⟩:=qOz r;cases(show u=Value.ref a from rx);cases hc w' rc;have ok:qCg X.prog X.w H s.heap a (exO a (.ref D)):=I.hok a _ ha;exact hBu (qS3 Z) I.kIn (let ⟨o,h1,h2,_⟩:=ok.1;⟨o,h1,h2⟩) e (λz=>nomatch z) λtk=>⟨.bl b,H,I.tok tk,rfl,q⟩
end L2
namespace My
open PySem L2
abbrev vB:List Value:=[.type "ValueError",.type "Exception",.type "BaseException",.type "object"]
def qCk(s:Str):List Str:=if s = "-" then [] else Txt.split s " "
def rowsF(s:Str):List (List Str):=(Txt.split s " / ").map qCk
def nmsT(s:Str):List Str:=(rowsF s).headD []
def rwsT(s:Str):List (List Str):=(rowsF s).tail
theorem qIf(s:Str):rowsF s=nmsT s :: rwsT s:=by
 have h:rowsF s≠[]:=by unfold rowsF;simpa using qMg s " / "
 unfold nmsT rwsT;revert h;cases rowsF s with
 |nil=>intro h;exact absurd rfl h
 |cons a r=>intro _;rfl
def zB7(aA r:List Str):Prop:=qGp (r.map V.str)/\∀n∈r,n∈aA
def qI8(aA:List Str)(rows:List (List Str)):Prop:=qGp (aA.map V.str)/\∀r∈rows,zB7 aA r
def TxR(r:List Str):Prop:=r.length<=3001/\∀s∈r,s.length<=3000/\Sm s
theorem TxR.item{H:Hp}{r:List Str}(h:TxR r):∀y∈r.map V.str,∃D,Item H y D:=λy hy=>by
 obtain⟨s,hs,rfl⟩:=hAb.mp hy;exact⟨.str s,.inr (.inr (.inr (.inl ⟨s,rfl,rfl,h.2 s hs⟩)))⟩
theorem qCl{s y:Str}{c:Nat}(l:s.length<=3000)(sm:Sm s)(hc:1<=(cps y).count c):TxR (Txt.split s y):=by
 have h1:=qEy s y c hc;have h2:(cps s).count c<=(cps s).length:=List.count_le_length;have e:(cps s).length=s.length:=by simp[cps,Str.length]
 refine⟨by omega,λp hp=>?_⟩;have i:=qJm hp;have:=qXh i;exact⟨by omega,qZx i sm⟩
theorem qJb{s:Str}(l:s.length<=3000)(sm:Sm s):TxR (qCk s):=by
 unfold qCk;split
 ·exact⟨hAs _,λs h=>by cases h⟩
 ·exact qCl (c:=32) l sm (by decide)
theorem qIe{s:Str}(h:TX s):∀r∈rowsF s,TxR r:=λr hr=>by
 obtain⟨p,hp,rfl⟩:=hAb.mp hr;have t:=(qCl (c:=47) h.len h.sm (by decide:1<=(cps " / ").count 47)).2 p hp;exact qJb t.1 t.2
theorem qMu{s:Str}(h:TX s):(rowsF s).length<=19:=by
 have:=qEy s " / " 47 (by decide);have:=h.sl;unfold rowsF;rw[hA1];omega
def qMh:Sp:=λvs H Q _=>∃s:Str,vs=[.str s]/\s.length<=3000/\∀r H',Ext H H'->H r=none->LsS H' r (qCk s)->Q (.ref r) H'
def qYn:Sp:=λvs H Q _=>∃(T:Addr) (aA:List Str) (rows:List (List Str)),vs=[.ref T]/\qHe H T aA rows/\TxR aA/\(∀r∈rows,TxR r)/\rows.length<=3000/\∀b H',(b=true↔qI8 aA rows)->Ext H H'->Q (.bl b) H'
def qOr(K:PySem.W.Frag)(H:Hp)(v:V):Prop:=∃t,TyOf K H v t/\PySem.W.kitOne K t (.type "str")=some false
def qYj(K:PySem.W.Frag)(CN CT:Addr):Sp:=λvs H Q E=>∃v:V,vs=[v]/\((qOr K H v/\∀H',Ext H H'->E (.ref CN) none H')\/∃s:Str,v = .str s/\TX s/\(¬qI8 (nmsT s) (rwsT s)->∀H',Ext H H'->E (.ref CN) none H') /\
 (qI8 (nmsT s) (rwsT s)->¬Bnd (nmsT s) (rwsT s)->∀H',Ext H H'->E (.ref CT) none H')/\(qI8 (nmsT s) (rwsT s)->Bnd (nmsT s) (rwsT s)->∀T H',Ext H H'->qHe H' T (nmsT s) (rwsT s)->Q (.ref T) H'))
def pcsF(s:Str):List (List Str):=if s = "-" then [] else (Txt.split s ", ").map λp=>Txt.split p " "
def qRu(H:Hp)(r:Addr)(ps:List (List Str)):Prop:=∃as:List Addr,H r=some (.lst (as.map V.ref))/\Paired (λa p=>H a=some (.tup (p.map V.str))) as ps
theorem qRu.ext{H H':Hp}{r:Addr}{ps:List (List Str)}(h:qRu H r ps)(e:Ext H H'):qRu H' r ps:=by
 obtain⟨as,h1,h2⟩:=h;exact⟨as,e _ _ h1,Paired.mapP h2 λa p z=>e _ _ z⟩
def ndF(ps:List (List Str)):Nd:=some (ps.map λp=>some (p.map V.str))
theorem qLp{s:Str}(h:TX s):(pcsF s).length<=14/\∀p∈pcsF s,TxR p:=by
 unfold pcsF;split
 ·exact⟨hAs _,λp hp=>by cases hp⟩
 ·have h1:=qEy s ", " 44 (by decide);have h2:=h.co;refine⟨by rw[hA1];omega,λp hp=>?_⟩;obtain⟨q,hq,rfl⟩:=hAb.mp hp;have t:=(qCl (c:=44) h.len h.sm (by decide:1<=(cps ", ").count 44)).2 q hq;exact qCl (c:=32) t.1 t.2 (by decide)
theorem qRu.nt{H:Hp}{r:Addr}{ps:List (List Str)}(h:qRu H r ps)(l:ps.length<=20)(t:∀p∈ps,TxR p):Nt H (.ref r) (ndF ps):=by
 obtain⟨as,h1,h2⟩:=h;have la:as.length=ps.length:=h2.length;refine .inr ⟨r,as.map V.ref,ps.map λp=>some (p.map V.str),rfl,h1,rfl,?_,by rw[hA1];omega⟩;clear h1 la l;revert t
 induction h2 with
 |nil=>intro _;exact .nil
 |cons hx _ ih =>
  rename_i p _ _ _;intro t;refine .cons (.inl ⟨_,_,rfl,rfl,hx,?_,(t _ hA5).item⟩) (ih λq hq=>t q (hA4 _ hq));rw[hA1];exact(t _ hA5).1
theorem qRu.net{H:Hp}{r:Addr}{ps:List (List Str)}{net:List Tr}(h:qRu H r ps)(e:ndF ps=NdOf net):qDp H r net:=by
 obtain⟨as,h1,h2⟩:=h;refine⟨as,h1,?_⟩;clear h1;have e':=hAq e;clear e;revert net
 induction h2 with
 |nil =>
  intro net e';cases net with
  |nil=>exact .nil
  |cons=>cases e'
 |cons hx _ ih =>
  intro net e';cases net with
  |nil=>cases e'
  |cons t r' =>
   rw[hAu,hAu,hDc,Option.some.injEq]at e';refine .cons ?_ (ih e'.2);rw[<-e'.1];exact hx
def qRw(s:Str)(net:List Tr):Prop:=ndF (pcsF s)=NdOf net/\(∀t∈net,qX2 t)/\qGp ((net.map (·.1)).map V.str)
def qYk(K:PySem.W.Frag)(CN CT:Addr):Sp:=λvs H Q E=>∃v:V,vs=[v]/\((qOr K H v/\∀H',Ext H H'->E (.ref CN) none H')\/∃s:Str,v = .str s/\TX s/\((¬∃net,qRw s net)->∀H',Ext H H'->E (.ref CN) none H') /\
 (∀net,qRw s net->¬qU6 net->∀H',Ext H H'->E (.ref CT) none H')/\(∀net,qRw s net->qU6 net->∀r H',Ext H H'->qDp H' r net->Q (.ref r) H'))
def zA2(K:PySem.W.Frag):List V->Hp->VK->Prop:=λxs H Q=>∃p ys,xs=[.ref p]/\((SqL K H p ys/\∀l,H l=none->Q (.ref l) (upd H l (.tup ys)))\/(SqT K H p ys/\Q (.ref p) H))
theorem qBr{n:Nat}(h:n<=4000):n<=sizeLine:=hAv h (by decide)
abbrev scI:Scope:={ kind:=.function,names:=[(".0",.local),("row",.local),("is_row",.globalImplicit),("all",.globalImplicit),("names",.cell)],isGenerator:=false,isCoroutine:=false }
def zA6(K:PySem.W.Frag):List V->Hp->VK->Prop:=λxs H Q=>∃(p:Addr) (bs:List Bool),xs=[.ref p]/\SqL K H p (bs.map V.bl)/\Q (.bl (bs.all id)) H
section
variable{P:Program}{w:World}{K:PySem.W.Frag}{mg:Str->Option Value}{base:Heap}{f f1 f2 f3 CN CT:Addr}{fd fd1 fd2 fd3:FuncData}{newId inN:String}{bmN:List Value}
theorem qVl:FnScope ["text"] ["text"] (qAa qHo):=fsk
theorem qSk{t1:Tok}(F:Fun K "words_of" "words_of" qHo f fd)(mE:mg "EMPTY"=some (.str "-" t1)):v6 1 f fd ["text"] qMh:=by
 refine F.okA qVl λcdv A outer s H vs Q E hr h=>?_
 obtain⟨s0,rfl,hl,q⟩:=h;refine⟨_,(qAd (qAo (qEi (qAl qC7 (pv 0) (qCd (v:=.str "-") rfl mE ⟨t1,rfl⟩) (qAp _)) (qBe qA3) (qB8 hB0 hBh hBi qCi (pv 0) (pa1 qA1))))),?_⟩;refine⟨_,rfl,rfl,_,rfl,?_⟩;unfold qCk at q;by_cases ne:s0 = "-"
 ·rw[hDw ne]at q;rw[hDr (congrArg V.str ne)];exact iteT ⟨hAs _,λl hl=>q l _ (Ext.new hl _) hl upd_same⟩
 rw[hDv ne]at q;rw[hDs λz=>ne (V.str.inj z)];exact qEo ⟨_,rfl,rfl,_,_,rfl,rfl,by decide +kernel,qBr (by omega),λl hl'=>q l _ (Ext.new hl' _) hl' upd_same⟩
theorem qFi{bs:List Bool}{b:Bool}{α:Type}{G:α->Prop}{l:List α}{x:α}(h:bs.all id=true↔∀y∈l,G y)(hb:b=true↔G x):(bs++[b]).all id=true↔∀y∈l++[x],G y:=by
 rw[List.all_append,hBe];constructor
 ·rintro⟨z1,z2⟩ y hy;rcases hAf.mp hy with z|z
  ·exact h.mp z1 y z
  ·rw[hAe.mp z];exact hb.mp (by simpa using z2)
 ·intro z;exact⟨h.mpr λy hy=>z y (hAk _ hy),by simpa using hb.mpr (z x (hAa _ hA5))⟩
theorem qVp:FnScope ["thing","names","rows"] ["thing"] (qAa qVs):=fsk
theorem qZj(F:Fun K "has_table_form" "has_table_form" qVs f fd)(G1:v7 2 f1 fd1 ["thing"] (qKz K) "is_row")(mi:mg "isinstance"=none)(mtu:mg "tuple"=none)(mL:mg "list"=none)(ma:mg "all"=none)(ml:mg "len"=none):v6 3 f fd ["thing"] qYn:=by
 refine F.okA qVp λcdv A outer s H vs Q E hr h=>?_
 obtain⟨T,aA,rows,rfl,ti,tn,tr,lr,q⟩:=h;refine⟨_,(qAb (qBb (PW.pt (qDv (qBz (qBy (qAf qBl rfl mi qA6 (qAe (pv 0) (pa1 (qC6 (v:=.ty "tuple") rfl mtu qCf rfl)))))) (qDi (qAl qFo (qAf qAm rfl ml hAr (pa1 (pv 0))) qAc (qAp _))))) (qAd (qAo qGt)) qAu) (qAb (qE3 (pv 0) (qCa rfl (qAr (v5 1 qVp) (qAr (v3 2 qVp) qBj)))) (qAb (qBb (PW.pt (qDv (qBz (qBy (qAy G1 hr rfl .nil qAz (pa1 (pv 1))))) (qDi (qBz (qBy (qAf qBl rfl mi qA6 (qAe (pv 2) (pa1 (qC6 (v:=.ty "list") rfl mL qC1 rfl))))))))) (qAd (qAo qGt)) qAu) (qAd (qAo (qAf (qBu rfl) rfl ma qBw (pa1 (qDf (N:=["thing","names","rows"]) (sc:=qAa qVs) (N':=["row","names"]) (sub:=[none,some 1]) rfl rfl (CmpOk.of (by decide +kernel)) rfl (qAv (pv 2)) (λC s H fp=>⟨qAh (i:=0) (by show(["row","names"]:List Str).Nodup;decide) rfl (Or.inl rfl),qAx,qGu (qAy G1 hr rfl .nil qAz (pa1 (pv 0))) (qHs (qAf (show qB9 _ _ (zA6 K) from qBu rfl) rfl ma qBw (pa1 (qDf (N:=["row","names"]) (sc:=scI) (N':=["name","names"]) (sub:=[none,some 1]) rfl rfl (CmpOk.of (by decide +kernel)) rfl (show PI _ _ _ (qZz K _) from qAv (pv 0)) (λC s H fp=>⟨qAh (i:=0) (by show(["name","names"]:List Str).Nodup;decide) rfl (Or.inl rfl),qAx,qCe (show OpR _ _ (rIn K false) from qE5) (pv 0) (pv 1) (by with_unfolding_all rfl)⟩)))))⟩))))))))),?_⟩;obtain⟨a,b,hT,ha,as,hb,pr⟩:=id ti;have la:as.length=rows.length:=pr.length;refine⟨_,rfl,_,_,_,true,rfl,.tup hT,qDc _ _,true,rfl,qEo ?_⟩;refine⟨_,rfl,T,_,rfl,.inr (SqT.of hT),rfl,_,rfl,qEo ?_⟩;refine⟨_,rfl,T,_,rfl,SqT.of hT,rfl,_,_,rfl,_,_,rfl,rfl,?_⟩;refine⟨_,rfl,.ref a,rfl,.inl ⟨a,_,rfl,ha,by rw[hA1];exact tn.1,tn.item,λbn H1 ebn e1=>⟨bn,rfl,?_⟩⟩⟩;cases bn with
 |false=>exact iteT (q false H1 ⟨λz=>(by cases z),λz=>ebn.mpr z.1⟩ e1)
 |true =>
 refine qEo ?_;have rn:=ebn.mp rfl;have hb1:=e1 _ _ hb;refine⟨_,rfl,_,_,_,true,rfl,.lst hb1,qDc _ _,true,rfl,qEo ?_⟩;refine⟨_,rfl,b,rfl,⟨_,SqL.of hb1⟩,?_⟩;refine qAt (xs:=as.map V.ref) (λj ys H2=>Ext H1 H2/\∃bs:List Bool,ys=bs.map V.bl/\bs.length=j/\(bs.all id=true↔∀r∈rows.take j,zB7 aA r)) ⟨Ext.refl _,[],rfl,rfl,λ_ r hr=>(by rw[hC6]at hr;cases hr),λ_=>rfl⟩ (λj ys H2 _ h=>SqL.of (h.1 _ _ hb1)) ?_ ?_
 ·rintro j v ys H2 hv ⟨e2,bs,rfl,lb,hbs⟩;obtain⟨c,rfl,hc⟩:=qD4 hv;obtain⟨r,hr',hcr⟩:=qA8 pr hc;have hj:=qA7 hr';have t:=tr r (hAd hr');have small:(bs.map V.bl).length<sizeLine:=by rw[hA1];exact qB5 (by omega)
  have e12:=e1.trans e2;refine⟨sls,iteT (B:=False) ⟨_,rfl,.ref c,rfl,.inl ⟨c,_,rfl,e12 _ _ hcr,by rw[hA1];exact t.1,t.item,λbr H3 ebr e3=>⟨br,rfl,?_⟩⟩⟩⟩;cases br with
  |false =>
   refine qEo ⟨small,nxt (qA7 hv) ⟨e2.trans e3,bs++[false],by rw[hA7];rfl,by rw[hA9,lb];rfl,?_⟩⟩;rw[qAk hr'];exact qFi hbs ⟨λz=>(by cases z),λz=>ebr.mpr z.1⟩
  |true =>
   refine iteT ?_;have hc3:=(e12.trans e3) _ _ hcr;refine⟨_,rfl,c,rfl,⟨_,SqL.of hc3⟩,?_⟩;refine qAt (xs:=r.map V.str) (λi zs H4=>H4=H3/\∃cs:List Bool,zs=cs.map V.bl/\cs.length=i/\(cs.all id=true↔∀n∈r.take i,n∈aA)) ⟨rfl,[],rfl,rfl,λ_ r hr=>(by rw[hC6]at hr;cases hr),λ_=>rfl⟩ (λi zs H4 _ h=>by rw[h.1];exact SqL.of hc3) ?_ ?_
   ·rintro i u zs H4 hu ⟨rfl,cs,rfl,lc,hcs⟩;obtain⟨n,rfl,hn⟩:=qDr hu;have hi:=qA7 hn;have:=t.1;refine⟨sls,iteT (B:=False) ⟨_,rfl,_,rfl,a,_,rfl,.inl (SqL.of ((e12.trans e3) _ _ ha)),rfl,qG2 _,?_⟩⟩;rw[hDv (by decide),qIw];refine⟨by rw[hA1];exact qB5 (by omega),nxt (qA7 hu) ⟨rfl,cs++[decide (n∈aA)],by rw[hA7];rfl,by rw[hA9,lc];rfl,?_⟩⟩;rw[qAk hn];exact qFi hcs hE0
   ·rintro zs H4 ⟨rfl,cs,rfl,lc,hcs⟩ l hl;rw[hA1,hA6 (hA3 _)]at hcs;refine⟨l,cs,rfl,SqL.of upd_same,?_⟩;refine⟨small,nxt (qA7 hv) ⟨e2.trans (e3.trans (Ext.new hl _)),bs++[cs.all id],by rw[hA7];rfl,by rw[hA9,lb];rfl,?_⟩⟩;rw[qAk hr'];exact qFi hbs ⟨λz=>⟨ebr.mp rfl,hcs.mp z⟩,λz=>hcs.mpr z.2⟩
 ·rintro ys H2 ⟨e2,bs,rfl,lb,hbs⟩ l hl;rw[hA1,la,hA6 (hA3 _)]at hbs;exact⟨l,bs,rfl,SqL.of upd_same,q _ _ ⟨λz=>⟨rn,hbs.mp z⟩,λz=>hbs.mpr z.2⟩ (e1.trans (e2.trans (Ext.new hl _)))⟩
abbrev rtN:List Str:=["text","names","rows"]
theorem qK4:FnScope rtN ["text"] (qAa qGk):=fsk
theorem qSo(F:Fun K "read_table" "read_table" qGk f fd)(Fn:ExcBaseFacts "ValueError" newId inN bmN)(FB:ExcBaseFacts "ValueError" "ValueError.__new__" "ValueError.__init__" vB)(ON:PyProof.Rows.OwnCls "NoText" CN vB newId mg base)(OT:PyProof.Rows.OwnCls "TooMany" CT vB newId mg base)
  (G1:v7 1 f1 fd1 ["text"] qMh "words_of") (G2:v7 3 f2 fd2 ["thing"] qYn "has_table_form") (G3:v7 4 f3 fd3 ["table"] qPj "keeps_bounds") (mi:mg "isinstance"=none) (ms:mg "str"=none):FnOk P w K mg base (CXe P w) 5 f fd ["text"] (qYj K CN CT):=by
 refine F.okE qK4 (λvs H Q E h=>?_) (λcdv A outer s H vs Q E hr hh h=>?_)
 ·obtain⟨v,rfl,_⟩:=h;rfl
 obtain⟨v,rfl,h⟩:=h;have hr1:=hr.mono (j:=1) (by decide);have hr3:=hr.mono (j:=3) (by decide);refine⟨_,(qAb (qBb (qBz (qBy (qAf qBl rfl mi qA6 (qAe (pv 0) (pa1 (qC6 (v:=.ty "str") rfl ms qFg rfl)))))) (qAd (qCt hh Fn (by decide) FB ON (pa1 qA1) rfl (by decide))) qAu) (qAb (qE3 (qB3 (N:=rtN) (sc:=qAa qGk) (N':=["part"]) (sub:=[none]) (qAv (qB8 hB0 hBh hBi qCi (pv 0) (pa1 qA1))) (λC s H fp=>⟨qAx,(qAy G1 hr1 rfl .nil qAz (pa1 (pv 0)))⟩)) (qV9 rfl (qAr (v3 1 qK4) (qSg (v3 2 qK4) qBj)))) (qAb (qBb (qBz (qBy (qAy G2 hr3 rfl .nil qAz (pa1 (qB2 (qAe (pv 1) (pa1 (pv 2)))))))) (qAd (qCt hh Fn (by decide) FB ON (pa1 qA1) rfl (by decide))) qAu) (qAb (qBb (qBz (qBy (qAy G3 hr rfl .nil qAz (pa1 (qB2 (qAe (pv 1) (pa1 (pv 2)))))))) (qAd (qCt hh Fn (by decide) FB OT (pa1 qA1) rfl (by decide))) qAu) (qAd (qAo (qB2 (qAe (pv 1) (pa1 (pv 2)))))))))),?_⟩;rcases h with ⟨⟨t,ty,kt⟩,qn⟩|⟨s0,rfl,tx,qn,qt,q⟩
 ·exact⟨_,rfl,_,_,_,false,rfl,ty,kt,false,rfl,iteT ⟨(by show 1<=sizeLine;decide),qn _ (Ext.refl _)⟩⟩
 have lT:=tx.len;have rl:=qMu tx;have rx:=qIe tx;refine⟨_,rfl,_,_,_,true,rfl,.str _,qDc _ _,true,rfl,qEo ?_⟩;refine⟨_,rfl,rfl,_,_,rfl,rfl,by decide +kernel,qBr (by omega),λl hl=>?_⟩;have tp:=qCl (c:=47) tx.len tx.sm (by decide:1<=(cps " / ").count 47);have X1:=Ext.new hl (.lst ((Txt.split s0 " / ").map V.str));refine⟨l,rfl,⟨_,SqL.of upd_same⟩,?_⟩;refine qAt (xs:=(Txt.split s0 " / ").map V.str) (λj ys H2=>Ext (upd H l (.lst ((Txt.split s0 " / ").map V.str))) H2/\∃as,ys=as.map V.ref/\Paired (λa r=>LsS H2 a r/\H a=none) as ((rowsF s0).take j)) ⟨Ext.refl _,[],rfl,by rw[hC6];exact .nil⟩ (λj ys H2 _ h=>SqL.of (h.1 _ _ upd_same)) ?_ ?_
 ·rintro j v ys H2 hv ⟨e2,as,rfl,pr⟩;obtain⟨p,rfl,hp⟩:=qDr hv;have hr':(rowsF s0)[j]?=some (qCk p):=by unfold rowsF;rw[hAj,hp];rfl
  have hj:=qA7 hr';have la:as.length=_:=pr.length;rw[hAh]at la;refine⟨sls,iteT (B:=False) ⟨_,rfl,p,rfl,(tp.2 p (hAd hp)).1,λa H3 e3 a0 ha=>⟨?_,nxt (qA7 hv) ⟨e2.trans e3,as++[a],by rw[hA7];rfl,?_⟩⟩⟩⟩
  ·rw[hA1];exact qAi (by omega)
  ·rw[qAk hr'];exact Paired.snoc (Paired.mapP pr λa t z=>⟨e3 _ _ z.1,z.2⟩) ⟨ha,(X1.trans e2).none a0⟩
 rintro ys H2 ⟨e2,as,rfl,pr⟩ l2 hl2;have lsp:((Txt.split s0 " / ").map V.str).length=(rowsF s0).length:=by unfold rowsF;rw[hA1,hA1]
 rw[lsp,hA6 (hA3 _)]at pr;have rwe:=qIf s0;rw[rwe]at pr rx rl;have X2:=Ext.new hl2 (.lst (as.map V.ref));cases as with
 |nil=>cases pr
 |cons a bs =>
  have pa':LsS H2 a (nmsT s0)/\H a=none:=by cases pr with|cons h _=>exact h
  have pb:Paired (λa r=>LsS H2 a r/\H a=none) bs (rwsT s0):=by cases pr with|cons _ h=>exact h
  refine⟨l2,.ref a,bs.map V.ref,rfl,SqL.of upd_same,λl3 hl3=>⟨_,_,rfl,_,_,rfl,rfl,?_⟩⟩;have X3:=X2.trans (Ext.new hl3 (.lst (bs.map V.ref)));have E3:=X1.trans (e2.trans X3);have ha3:=X3 _ _ pa'.1;have hb3:qF5 (upd (upd H2 l2 (.lst ((a :: bs).map V.ref))) l3 (.lst (bs.map V.ref))) l3 (rwsT s0):=⟨bs,upd_same,Paired.mapP pb λc r z=>X3 _ _ z.1⟩;revert E3 ha3 hb3;generalize upd (upd H2 l2 (.lst ((a :: bs).map V.ref))) l3 (.lst (bs.map V.ref))=H3;intro E3 ha3 hb3;refine⟨_,rfl,_,rfl,(by show 2<=sizeLine;decide),λT1 hT1=>?_⟩;have Y1:=Ext.new hT1 (.tup [V.ref a,V.ref l3]);refine⟨T1,nmsT s0,rwsT s0,rfl,⟨a,l3,upd_same,Y1 _ _ ha3,hb3.ext Y1⟩,rx _ hA5,λr hr=>rx r (hA4 _ hr),by rw[hB2]at rl;omega,λb1 H4 eb1 e4=>⟨b1,rfl,?_⟩⟩;have Z4:=Y1.trans e4;cases b1 with
  |false=>exact iteT ⟨(by show 1<=sizeLine;decide),qn (λz=>by have:=eb1.mpr z;cases this) _ (E3.trans Z4)⟩
  |true =>
  refine qEo ?_;have gd:=eb1.mp rfl;refine⟨_,rfl,_,rfl,(by show 2<=sizeLine;decide),λT2 hT2=>?_⟩;have Y2:=Z4.trans (Ext.new hT2 (.tup [V.ref a,V.ref l3]));refine⟨T2,nmsT s0,rwsT s0,rfl,⟨a,l3,upd_same,Y2 _ _ ha3,hb3.ext Y2⟩,λbb H5 eb e5=>⟨bb,rfl,?_⟩⟩;have Z5:=Y2.trans e5;cases bb with
  |false=>exact iteT ⟨(by show 1<=sizeLine;decide),qt gd (λz=>by have:=eb.mpr z;cases this) _ (E3.trans Z5)⟩
  |true =>
  refine qEo ?_;refine⟨_,rfl,_,rfl,(by show 2<=sizeLine;decide),λT3 hT3=>?_⟩;have Y3:=Z5.trans (Ext.new hT3 (.tup [V.ref a,V.ref l3]));exact q gd (eb.mp rfl) T3 _ (E3.trans Y3) ⟨a,l3,upd_same,Y3 _ _ ha3,hb3.ext Y3⟩
theorem qK5:FnScope ["text","net"] ["text"] (qAa qFy):=fsk
theorem qSp{t1:Tok}(F:Fun K "read_net" "read_net" qFy f fd)(Fn:ExcBaseFacts "ValueError" newId inN bmN)(FB:ExcBaseFacts "ValueError" "ValueError.__new__" "ValueError.__init__" vB)(ON:PyProof.Rows.OwnCls "NoText" CN vB newId mg base)(OT:PyProof.Rows.OwnCls "TooMany" CT vB newId mg base)
  (G1:v7 3 f1 fd1 ["thing"] qT3 "has_net_form") (G2:v7 6 f2 fd2 ["net"] qYm "keeps_net_bounds") (mi:mg "isinstance"=none) (ms:mg "str"=none) (mtu:mg "tuple"=none) (mE:mg "EMPTY"=some (.str "-" t1)):FnOk P w K mg base (CXe P w) 7 f fd ["text"] (qYk K CN CT):=by
 refine F.okE qK5 (λvs H Q E h=>?_) (λcdv A outer s H vs Q E hr hh h=>?_)
 ·obtain⟨v,rfl,_⟩:=h;rfl
 obtain⟨v,rfl,h⟩:=h;have hr3:=hr.mono (j:=3) (by decide);rcases h with ⟨⟨t,ty,kt⟩,qn⟩|⟨s0,rfl,tx,qn,qt,q⟩
 ·refine⟨_,(qAb (qBb (qBz (qBy (qAf qBl rfl mi qA6 (qAe (pv 0) (pa1 (qC6 (v:=.ty "str") rfl ms qFg rfl)))))) (qAd (qCt hh Fn (by decide) FB ON (pa1 qA1) rfl (by decide))) qAu) (qAb (v0 1 qK5 (qEi (qAl qC7 (pv 0) (qCd (v:=.str "-") rfl mE ⟨t1,rfl⟩) (qAp _)) (qBe qA3) (qDf (N:=["text","net"]) (sc:=qAa qFy) (N':=["part"]) (sub:=[none]) rfl rfl (CmpOk.of (by decide +kernel)) rfl (qAv (qB8 hB0 hBh hBi qCi (pv 0) (pa1 qA1))) (λC s H fp=>⟨qAh (i:=0) (by show(["part"]:List Str).Nodup;decide) rfl (Or.inl rfl),qAx,(qBd (show qB9 _ (.type "tuple") (zA2 K) from qCw) rfl mtu qCf (pa1 (show PE _ _ (tBM K _ qM2 _ _) from qB8 hB0 hBh hBi qCi (pv 0) (pa1 qA1))))⟩)))) (qAb (qBb (qBz (qBy (qAy G1 hr3 rfl .nil qAz (pa1 (pv 1))))) (qAd (qCt hh Fn (by decide) FB ON (pa1 qA1) rfl (by decide))) qAu) (qAb (qBb (qBz (qBy (qAy G2 hr rfl .nil qAz (pa1 (pv 1))))) (qAd (qCt hh Fn (by decide) FB OT (pa1 qA1) rfl (by decide))) qAu) (qAd (qAo (pv 1))))))),?_⟩;exact⟨_,rfl,_,_,_,false,rfl,ty,kt,false,rfl,iteT ⟨(by show 1<=sizeLine;decide),qn _ (Ext.refl _)⟩⟩
 refine⟨_,(qAb (qBb (qBz (qBy (qAf qBl rfl mi qA6 (qAe (pv 0) (pa1 (qC6 (v:=.ty "str") rfl ms qFg rfl)))))) (qAd (qCt hh Fn (by decide) FB ON (pa1 qA1) rfl (by decide))) qAu) (qAb (qE2 (λσ H2=>∃r,σ=[some (.str s0),some (.ref r)]/\Ext H H2/\H r=none/\qRu H2 r (pcsF s0)) (v0 1 qK5 (qEi (qAl qC7 (pv 0) (qCd (v:=.str "-") rfl mE ⟨t1,rfl⟩) (qAp _)) (qBe qA3) (qDf (N:=["text","net"]) (sc:=qAa qFy) (N':=["part"]) (sub:=[none]) rfl rfl (CmpOk.of (by decide +kernel)) rfl (qAv (qB8 hB0 hBh hBi qCi (pv 0) (pa1 qA1))) (λC s H fp=>⟨qAh (i:=0) (by show(["part"]:List Str).Nodup;decide) rfl (Or.inl rfl),qAx,(qBd (show qB9 _ (.type "tuple") (zA2 K) from qCw) rfl mtu qCf (pa1 (show PE _ _ (tBM K _ qM2 _ _) from qB8 hB0 hBh hBi qCi (pv 0) (pa1 qA1))))⟩))))) (qAb (qBb (qBz (qBy (qAy G1 hr3 rfl .nil qAz (pa1 (pv 1))))) (qAd (qCt hh Fn (by decide) FB ON (pa1 qA1) rfl (by decide))) qAu) (qAb (qBb (qBz (qBy (qAy G2 hr rfl .nil qAz (pa1 (pv 1))))) (qAd (qCt hh Fn (by decide) FB OT (pa1 qA1) rfl (by decide))) qAu) (qAd (qAo (pv 1))))))),?_⟩;obtain⟨pl,px⟩:=qLp tx;have lT:=tx.len;refine⟨_,rfl,_,_,_,true,rfl,.str _,qDc _ _,true,rfl,qEo ?_⟩;refine⟨?_,?_⟩
 ·refine⟨_,rfl,rfl,_,rfl,?_⟩;by_cases ne:s0 = "-"
  ·have e0:pcsF s0=[]:=by unfold pcsF;rw[hDw ne]
   rw[hDr (congrArg V.str ne),e0];exact iteT ⟨hAs _,λl hl'=>⟨l,rfl,Ext.new hl' _,hl',[],upd_same,.nil⟩⟩
  have e0:pcsF s0=(Txt.split s0 ", ").map λp=>Txt.split p " ":=by unfold pcsF;rw[hDv ne]
  rw[hDs λz=>ne (V.str.inj z)];refine qEo ⟨_,rfl,rfl,_,_,rfl,rfl,by decide +kernel,qBr (by omega),λl hl'=>?_⟩;have tp:=qCl (c:=44) tx.len tx.sm (by decide:1<=(cps ", ").count 44);have X1:=Ext.new hl' (.lst ((Txt.split s0 ", ").map V.str));refine⟨l,rfl,⟨_,SqL.of upd_same⟩,?_⟩;refine qAt (xs:=(Txt.split s0 ", ").map V.str) (λj ys H2=>Ext (upd H l (.lst ((Txt.split s0 ", ").map V.str))) H2/\∃as,ys=as.map V.ref/\Paired (λa (p:List Str)=>H2 a=some (.tup (p.map V.str))) as ((pcsF s0).take j)) ⟨Ext.refl _,[],rfl,by rw[hC6];exact .nil⟩ (λj ys H2 _ h=>SqL.of (h.1 _ _ upd_same)) ?_ ?_
  ·rintro j v ys H2 hv ⟨e2,as,rfl,pr⟩;obtain⟨p,rfl,hp⟩:=qDr hv;have ht:(pcsF s0)[j]?=some (Txt.split p " "):=by rw[e0,hAj,hp];rfl
   have hj:=qA7 ht;have la:as.length=_:=pr.length;rw[hAh]at la;have lp:=(tp.2 p (hAd hp)).1;refine⟨sls,iteT (B:=False) ⟨_,rfl,rfl,_,_,rfl,rfl,by decide +kernel,qBr (by omega),λl3 hl3=>?_⟩⟩;refine⟨l3,_,rfl,.inl ⟨SqL.of upd_same,λl4 hl4=>⟨?_,nxt (qA7 hv) ⟨e2.trans ((Ext.new hl3 _).trans (Ext.new hl4 _)),as++[l4],by rw[hA7];rfl,?_⟩⟩⟩⟩
   ·rw[hA1];exact qAi (by omega)
   ·rw[qAk ht];exact Paired.snoc (Paired.mapP pr λa t z=>((Ext.new hl3 _).trans (Ext.new hl4 _)) _ _ z) upd_same
  ·rintro ys H2 ⟨e2,as,rfl,pr⟩ l2 hl2;have lsp:((Txt.split s0 ", ").map V.str).length=(pcsF s0).length:=by rw[e0,hA1,hA1]
   rw[lsp,hA6 (hA3 _)]at pr;have X2:=Ext.new hl2 (.lst (as.map V.ref));exact⟨l2,rfl,X1.trans (e2.trans X2),(X1.trans e2).none hl2,as,upd_same,Paired.mapP pr λa t z=>X2 _ _ z⟩
 rintro σ H2 ⟨r,rfl,e2,r0,nt⟩;refine⟨_,rfl,.ref r,ndF (pcsF s0),rfl,nt.nt (by omega) px,λb1 H3 eb1 e3=>⟨b1,rfl,?_⟩⟩;cases b1 with
 |false=>exact iteT ⟨(by show 1<=sizeLine;decide),qn (λ⟨net,z⟩=>by have:=eb1.mpr ⟨net,z⟩;cases this) _ (e2.trans e3)⟩
 |true =>
 refine qEo ?_;obtain⟨net,g1,g2,g3⟩:=eb1.mp rfl;have na:=(nt.ext e3).net g1;have ln:net.length<=14:=by
  have:=congrArg List.length (hAq g1);rw[hA1,hA1]at this;omega
 refine⟨_,rfl,r,net,rfl,na,by omega,qEf g3,λbb H4 eb e4=>⟨bb,rfl,?_⟩⟩;have e5:=e2.trans (e3.trans e4);cases bb with
 |false=>exact iteT ⟨(by show 1<=sizeLine;decide),qt net ⟨g1,g2,g3⟩ (λz=>by have:=eb.mpr z;cases this) _ e5⟩
 |true=>exact qEo ⟨_,rfl,q net ⟨g1,g2,g3⟩ (eb.mp rfl) r H4 e5 (na.ext e4)⟩
end
end My
namespace L2
open PySem PySem.Spec PyProof.Rows
section
variable{X:Cx}
theorem qQl:OpR X (compareOp .Gt) (λx y H Q=>∃i j,x = .str i/\y = .str j/\Q (.bl (decide (j.cps.toList<i.cps.toList))) H):=by
 intro aB s σ H x y v u Q I rx ry h;obtain⟨i,j,rfl,rfl,q⟩:=h;obtain⟨t,rfl⟩:=rx;obtain⟨t',rfl⟩:=ry;exact PySem.P.gt_str (qBa I q rfl)
end
end L2
namespace My
open PySem L2
theorem qMv{ss:List Str}(r:qHf ss)(n:∀s∈ss,nameB s=true):qGp (ss.map V.str):=by
 have at_:∀i (h:i<ss.length),(ss.map V.str).getD i .non = .str ss[i]:=λi h=>by
  rw[hA8,hAj,hA2 h];rfl
 refine⟨λi hi=>?_,λi hi=>?_⟩
 ·rw[hA1]at hi;rw[at_ i hi];exact n _ (hBl hi)
 ·rw[hA1]at hi;rw[at_ i (by omega),at_ (i+1) hi];exact qSa r (hBk i) (hA2 (by omega)) (hA2 hi)
theorem qP2{ss:List Str}(h:qGp (ss.map V.str)):∀s∈ss,nameB s=true:=λs hs=>by
 obtain⟨i,hi,rfl⟩:=List.mem_iff_getElem.mp hs;have:=h.1 i (by rw[hA1];exact hi);rw[hA8,hAj,hA2 hi]at this;exact this
theorem qPy{a b:Str}(h:qMs a b=true)(h':qMs b a=true):False:=by
 have:=qEe h h';rw[qF9]at this;cases this
theorem qEg{ss:List Str}(h:qHf ss):ss.Nodup:=h.imp λ{a b} z e=>by rw[e,qF9]at z;cases z
theorem qJy{a b:List Str}(ha:qHf a)(hb:qHf b)(m:∀x,x∈a↔x∈b):a=b :=
 ((hCe (qEg ha) (qEg hb)).mpr m).eq_of_pairwise (le:=λx y=>qMs x y=true) (λx y _ _ h h'=>(qPy h h').elim) ha hb
def qVg:Sp:=λvs H Q _=>∃s:Str,vs=[.str s]/\s.length<=3000/\Sm s/\∀H',Ext H H'->Q (.bl (nameB s)) H'
def Few(ws:List Str):Prop:=(∀s∈ws,nameB s=true)->ws.length<=60
def qPi:Sp:=λvs H Q _=>∃s:Str,vs=[.str s]/\s.length<=3000/\Sm s/\Few (qCk s)/\(qGp ((qCk s).map V.str)->∀r H',Ext H H'->LsS H' r (qCk s)->Q (.ref r) H')/\(¬qGp ((qCk s).map V.str)->∀H',Ext H H'->Q .non H')
section
variable{P:Program}{w:World}{K:PySem.W.Frag}{mg:Str->Option Value}{base:Heap}{f f1:Addr}{fd fd1:FuncData}
abbrev zB1:List Str:=["_law_word","_law_letters"]
theorem qYy:FnScope zB1 ["_law_word"] (qAa qVr):=fsk
theorem qZg(F:Fun K "_law_is_name" "_law_is_name" qVr f fd)(ml:mg "len"=none)(ma:mg "all"=none):v6 1 f fd ["_law_word"] qVg:=by
 refine F.okA qYy λcdv A outer s H vs Q E hr h=>?_
 obtain⟨z,rfl,hz,sm,q⟩:=h;refine⟨_,(qAb (v4 1 qYy qA1)
  (qAd (qAo (qGu (qSh qEt qEt qAc (qAf qCn rfl ml hAr (pa1 (pv 0))) qAc)
   (qHs (qAf (qBu rfl) rfl ma qBw (qAe
    (qB3 (N:=zB1) (sc:=qAa qVr) (N':=["_law_sign","_law_letters"]) (sub:=[none,some 1]) (qUg (pv 0)) (λC s H fp=>⟨qAx,qCe qJz (pv 0) (pv 1) (by with_unfolding_all rfl)⟩)) qA3))))))),?_⟩
 have wl:z.length<=sizeLine:=hB1 (qB5 (by omega));have nf:∀b:Bool,nameB z=b->∀H',Ext H H'->Q (.bl b) H':=λb e H' he=>by subst e;exact q H' he
 refine⟨_,rfl,z,rfl,wl,_,_,rfl,rfl,_,rfl,?_⟩;refine qBp (λc=>?_) (λc=>?_)
 ·have c':(0:Int)<z.length:=hDu c;refine⟨_,_,rfl,rfl,_,rfl,?_⟩;refine qBp (λd=>?_) (λd=>?_)
  ·have d':(z.length:Int)<7:=hDu d;refine⟨_,rfl,z,rfl,?_⟩;refine qJh (λi ys H'=>H'=H/\ys=(List.range i).map λi=>V.bl (inB (sgn z i))) ⟨rfl,rfl⟩ ?_ ?_
   ·rintro i ys H' hi ⟨rfl,rfl⟩;refine⟨sls,iteT (B:=False) ⟨_,rfl,_,rfl,_,_,rfl,rfl,?_,nxt hi ⟨rfl,?_⟩⟩⟩
    ·rw[hA1,hBq];exact qB5 (by have:z.cps.size=z.length:=rfl;omega)
    ·rw[hCi,hA7];rfl
   ·rintro ys H' ⟨rfl,rfl⟩ r hr';refine⟨r,qXx z,rfl,?_,nf _ ?_ _ (Ext.new hr' _)⟩
    ·refine SqL.of ?_;rw[upd_same];unfold qXx;rw[hAz];rfl
    ·unfold nameB;rw[hDr (by omega),hDr (by omega)];rfl
  ·have d':¬(z.length:Int)<7:=λy=>by rw[hDr y]at d;exact absurd rfl d
   refine nf false ?_ H (Ext.refl _);unfold nameB;rw[hDr (by omega),hDs (by omega)];rfl
 ·have c':¬(0:Int)<z.length:=λy=>c (hDr y)
  refine⟨_,rfl,qEo (nf false ?_ H (Ext.refl _))⟩;unfold nameB;rw[hDs (by omega)];rfl
abbrev zB0:List Str:=["_law_text","_law_words"]
theorem qPv:FnScope zB0 ["_law_text"] (qAa qGm):=fsk
theorem qSr(F:Fun K "_law_row_read" "_law_row_read" qGm f fd)
  (G1:v7 1 f1 fd1 ["_law_word"] qVg "_law_is_name")
  (ma:mg "all"=none) (mso:mg "sorted"=none) (mst:mg "set"=none):v6 2 f fd ["_law_text"] qPi:=by
 refine F.okA qPv λcdv A outer s H vs Q E hr h=>?_
 obtain⟨s0,rfl,hl,sm,few,qy,qn⟩:=h;refine⟨_,(qAb (qBb (qAl qC7 (pv 0) qA1 (qAp _)) (qAd (qAo (qBe qA3))) qAu)
  (qAb (v0 1 qPv (qB8 hB0 hBh hBi qCi (pv 0) (pa1 qA1)))
  (qAb (qBb (PW.pt (qDv (qBz (qBy (qAf (qBu rfl) rfl ma qBw (qAe
    (qB3 (N:=zB0) (sc:=qAa qGm) (N':=["_law_word"]) (sub:=[none]) (qAv (pv 1)) (λC s H fp=>⟨qAx,qAy G1 hr rfl .nil qAz (pa1 (pv 0))⟩)) qA3))))
    (qDi (qAl (qM9 (qJx hr)) (pv 1) (qAf (qCj rfl) rfl mso qBv (pa1 (qBd (qG6 rfl) rfl mst qG8 (pa1 (pv 1))))) (qAp _)))))
    (qAd (qAo qQh)) qAu)
  (qAd (qAo (pv 1)))))),?_⟩
 refine⟨_,rfl,rfl,_,rfl,?_⟩;by_cases ne:s0 = "-"
 ·have e0:qCk s0=[]:=by unfold qCk;rw[hDw ne]
  rw[hDr (congrArg V.str ne)];rw[e0]at qy;exact iteT ⟨hAs _,λl hl=>qy ⟨λi hi=>absurd hi (hBx _),λi hi=>absurd hi (hBx _)⟩ l _ (Ext.new hl _) upd_same⟩
 have e0:qCk s0=Txt.split s0 " ":=by unfold qCk;rw[hDv ne]
 rw[hDs λz=>ne (V.str.inj z)];have tp:=qJb hl sm;rw[e0]at tp few qy qn;generalize hw:Txt.split s0 " "=ws at tp few qy qn;refine qEo ⟨_,rfl,rfl,_,_,rfl,rfl,by decide +kernel,qBr (by omega),λl hl=>?_⟩;rw[hw];have X1:=Ext.new hl (.lst (ws.map V.str));have hL:(upd H l (.lst (ws.map V.str))) l=some (.lst (ws.map V.str)):=upd_same;revert X1 hL;generalize upd H l (.lst (ws.map V.str))=H1;intro X1 hL;have hz:(ws.map V.str).length<=sizeLine:=by rw[hA1];exact hB1 (qB5 (by have:=tp.1;omega))
 refine⟨_,rfl,l,rfl,⟨_,SqL.of hL⟩,?_⟩;refine qJi (xs:=ws.map V.str) (λv=>some (V.bl (nmV v))) (SqL.of hL) hz (λx hx H2 he C hC=>?_) λH2 he=>?_
 ·obtain⟨z,hz',rfl⟩:=hAb.mp hx;exact⟨sls,iteT (B:=False) ⟨_,rfl,z,rfl,(tp.2 z hz').1,(tp.2 z hz').2,λH' he'=>hC H' he'⟩⟩
 intro r hr1;have e1:(ws.map V.str).filterMap (λv=>some (V.bl (nmV v)))=(ws.map nameB).map V.bl:=by
  rw[hAz,List.filterMap_map];exact congrFun (List.filterMap_eq_map (f:=V.bl∘nameB)) ws
 rw[e1];refine⟨r,ws.map nameB,rfl,SqL.of upd_same,(ws.map nameB).all id,rfl,?_⟩;have X2:=X1.trans (he.trans (Ext.new hr1 (.lst ((ws.map nameB).map V.bl))));have hL2:=(he.trans (Ext.new hr1 (.lst ((ws.map nameB).map V.bl)))) _ _ hL;revert X2 hL2;generalize upd H2 r (.lst ((ws.map nameB).map V.bl))=H3;intro X2 hL2;have an:(ws.map nameB).all id=true↔∀s∈ws,nameB s=true:=by
  rw[hDo,hC0];rfl
 refine qBp (λc=>?_) (λc=>?_)
 ·refine iteT (qn (λz=>?_) H3 X2);rw[an.mpr (qP2 z)]at c;cases c
 have all:∀s∈ws,nameB s=true:=an.mp (by
  cases h:(ws.map nameB).all id with
  |true=>rfl
  |false=>rw[h]at c;exact absurd rfl c)
 have l60:=few all;refine⟨_,rfl,_,rfl,l,ws,rfl,SqL.of hL2,by omega,λr1 ss r10 nd ln mem=>?_⟩;refine⟨r1,ss,rfl,upd_same,by omega,λr2 ss' r20 pm srt=>?_⟩;have X3:=(Ext.new r10 (qX3 P w r1 ss)).trans (Ext.new r20 (.lst (ss'.map V.str)));have ok1:SOk ws:=λx hx=>(tp.2 x hx).2.ok
 have mem':∀x,x∈ss'↔x∈ws:=λx=>(pm.mem_iff).trans (mem x)
 have ok2:SOk ss':=λx hx=>ok1 x ((mem' x).mp hx)
 refine⟨qFn ws,qFn ss',qEp (X3 _ _ hL2),qEp upd_same,qCz ok1,qCz ok2,_,rfl,?_⟩;rw[hDw rfl,qG3];have rs:qHf ss':=qIg srt ((pm.nodup_iff).mpr nd);have key:qGp (ws.map V.str)↔ws=ss':=⟨λz=>qJy (qEf z) rs λx=>(mem' x).symm,λz=>qMv (by rw[z];exact rs) all⟩;refine qBp (λd=>?_) (λd=>?_)
 ·refine qn (λz=>?_) _ (X2.trans X3);rw[hDr (key.mp z)]at d;cases d
 ·refine⟨_,rfl,qy (key.mpr ?_) l _ (X2.trans X3) (X3 _ _ hL2)⟩;by_cases e:ws=ss'
  ·exact e
  ·rw[hDs e]at d;exact absurd rfl d
end
end My
namespace L2
open PySem PySem.Spec PyProof.Rows PySem.SeqAt
def zCl(K:PySem.W.Frag):R2:=λx y H Q=>∃ds d,DR K H y (.list ds)/\DR K H x d/\shaped (.list ds)=true/\shaped d=true/\Q (.bl (ds.any λz=>PyData.eqv z d)) H
theorem qZb{X:Cx}(hu:X.A.units+65<cLine):OpR X (compareOp .In) (zCl X.K):=by
 intro aB s σ H x y v u Q I rx ry h;obtain⟨ds,d,hy,hx,sy,sx,q⟩:=h;obtain⟨a1,r1⟩:=DR.reads I hx rx;obtain⟨a2,r2⟩:=DR.reads I hy ry;exact in_list_reads r2 r1 (canLay_of_shaped sy) (canLay_of_shaped sx) (room_in_shaped sx hu) ⟨.bl _,H,I,rfl,q⟩
end L2
namespace My
open PySem L2
theorem qY3{k:Nat}{A:Around}(hr:Room k A):A.units+65<cLine:=by have:=hr.un;omega
theorem qQz{c:Nat}{y:List Nat}:∀ {B:List (List Nat)},c∈jn y B->c∈y\/∃b∈B,c∈b
 |[],h=>by cases h
 |[b],h=>.inr ⟨b,hA5,h⟩
 |b :: e :: r,h=>by
  have h':c∈b++y++jn y (e :: r):=h;rcases hAf.mp h' with z|z
  ·rcases hAf.mp z with z|z
   ·exact .inr ⟨b,hA5,z⟩
   ·exact .inl z
  ·rcases qQz z with z|⟨x,hx,z⟩
   ·exact .inl z
   ·exact .inr ⟨x,hA4 _ hx,z⟩
theorem qZy:inB ⟨#[47]⟩=false:=by decide +kernel
theorem qSw{s:Str}(h:nameB s=true):47∉cps s:=λm=>by
 unfold nameB at h;rw[hBe,hBe]at h;obtain⟨i,hi,e⟩:=List.mem_iff_getElem.mp m;have h2:=h.2.2;unfold qXx at h2;rw[hDo,hC0]at h2;have hi':i<s.cps.size:=by simpa using hi
 have h3:inB (sgn s i)=true:=h2 i (hB9.mpr hi');have e2:sgn s i=⟨#[47]⟩:=by
  unfold sgn;rw[hA8,hA2 hi,e];rfl
 rw[e2,qZy]at h3;cases h3
theorem qQ9{s p:Str}(tx:TX s)(hp:p∈Txt.split s " / "):Few (qCk p):=λall=>by
 unfold qCk at all ⊢;split
 ·exact hAs _
 ·rename_i ne;rw[hDv ne]at all;have no:47∉cps p:=λm=>by
   rw[qH6 p " "]at m;rcases qQz m with z|⟨b,hb,z⟩
   ·have:cps (" " : Str)=[32]:=by decide +kernel
    rw[this]at z;exact absurd z (by decide)
   ·obtain⟨u,hu,rfl⟩:=hAb.mp hb;exact qSw (all u hu) z
  have h1:=tx.bl (cps p) (qJm hp) no;have h2:=qEy p " " 32 (by decide);omega
def RO(H:Hp)(v:V)(r:List Str):Prop:=(qGp (r.map V.str)/\∃a,v = .ref a/\LsS H a r)\/(¬qGp (r.map V.str)/\v = .non)
theorem RO.ext{H H':Hp}{v:V}{r:List Str}(h:RO H v r)(e:Ext H H'):RO H' v r:=by
 rcases h with ⟨h1,a,h2,h3⟩|h
 ·exact .inl ⟨h1,a,h2,e _ _ h3⟩
 ·exact .inr h
open Classical in
noncomputable def roD(r:List Str):PyData:=if qGp (r.map V.str) then qFn r else .none
theorem qLl{r:List Str}(h:qGp (r.map V.str)):roD r=qFn r:=hDw h
theorem qLm{r:List Str}(h:¬qGp (r.map V.str)):roD r = .none:=hDv h
theorem qUx{K:PySem.W.Frag}{H:Hp}:∀ {vs:List V} {F:List (List Str)},Paired (RO H) vs F->DRs K H vs (F.map roD)
 |_,_,.nil=>.nil
 |_,_,.cons h t=>by
  refine .cons ?_ (qUx t);rcases h with ⟨h1,a,rfl,h3⟩|⟨h1,rfl⟩
  ·rw[qLl h1];exact qEp h3
  ·rw[qLm h1];exact .non
theorem qUm:∀ {F:List (List Str)},(∀r∈F,SOk r)->PyData.canLayAll0 (F.map roD)=true/\PyData.depthAll (F.map roD)<=1
 |[],_=>⟨rfl,by decide⟩
 |x :: r,h=>by
  obtain⟨h1,h2⟩:=qUm (F:=r) λy hy=>h y (hA4 _ hy)
  by_cases c:qGp (x.map V.str)
  ·obtain⟨h3,h4⟩:=qE9 (h x hA5);rw[hAu,qLl c];refine⟨?_,?_⟩
   ·show(PyData.canLayAll0 (x.map .str) && PyData.canLayAll0 (r.map roD))=true;rw[h1,h3];rfl
   ·show max (PyData.depthAll (x.map .str)+1) (PyData.depthAll (r.map roD))<=1;rw[h4];omega
  ·rw[hAu,qLm c];refine⟨?_,?_⟩
   ·show(true && PyData.canLayAll0 (r.map roD))=true;rw[h1];rfl
   ·show max 0 (PyData.depthAll (r.map roD))<=1;omega
theorem qPo{F:List (List Str)}(h:∀r∈F,SOk r):SeqAt.shaped (.list (F.map roD))=true:=by
 obtain⟨h3,h4⟩:=qUm h;show(PyData.canLayAll0 (F.map roD) && decide (PyData.depthAll (F.map roD)+1<=64))=true;rw[h3,hDr (by omega)];rfl
theorem qU3{F:List (List Str)}:((F.map roD).any λz=>PyData.eqv z .none)=true↔¬∀r∈F,qGp (r.map V.str):=by
 rw[List.any_map,List.any_eq_true];constructor
 ·rintro⟨r,hr,e⟩ all;have e':PyData.eqv (roD r) .none=true:=e;rw[qLl (all r hr)]at e';cases e'
 ·intro h;obtain⟨r,h⟩:=Classical.not_forall.mp h;obtain⟨hr,h⟩:=Classical.not_imp.mp h;refine⟨r,hr,?_⟩;show PyData.eqv (roD r) .none=true;rw[qLm h];rfl
theorem qP4{H:Hp}:∀ {vs:List V} {F:List (List Str)},Paired (RO H) vs F->(∀r∈F,qGp (r.map V.str))->∃as:List Addr,vs=as.map V.ref/\Paired (LsS H) as F
 |_,_,.nil,_=>⟨[],rfl,.nil⟩
 |_,_,.cons h t,all=>by
  obtain⟨as,rfl,p⟩:=qP4 t λr hr=>all r (hA4 _ hr)
  rcases h with ⟨_,a,rfl,h3⟩|⟨h1,_⟩
  ·exact⟨a :: as,rfl,.cons h3 p⟩
  ·exact absurd (all _ hA5) h1
def qKo(s:Str)(D:PyData):Prop:=(¬qI8 (nmsT s) (rwsT s)/\D = .str "NoText")\/(qI8 (nmsT s) (rwsT s)/\¬Bnd (nmsT s) (rwsT s)/\D = .str "TooMany")\/(qI8 (nmsT s) (rwsT s)/\Bnd (nmsT s) (rwsT s)/\D=qXv (nmsT s) (rwsT s))
def qMi(K:PySem.W.Frag):Sp:=λvs H Q _=>∃s:Str,vs=[.str s]/\TX s/\∀v D H',Ext H H'->DR K H' v D->qKo s D->Q v H'
section
variable{P:Program}{w:World}{K:PySem.W.Frag}{mg:Str->Option Value}{base:Heap}{f f1 f2 f3:Addr}{fd fd1 fd2 fd3:FuncData}
abbrev tdN:List Str:=["_law_text","_law_rows","_law_row_here","_law_many","_law_high"]
theorem qJq:FnScope tdN ["_law_text"] (qAa qIb):=fsk
theorem qWg(F:Fun K "_law_table_due" "_law_table_due" qIb f fd)
  (G1:v7 2 f1 fd1 ["_law_text"] qPi "_law_row_read")
  (G2:v7 1 f2 fd2 ["_law_names_here","_law_row_here"] qT0 "_law_mask")
  (G3:v7 1 f3 fd3 ["_law_numbers"] qJn "_law_reduced")
  (ma:mg "all"=none) (ml:mg "len"=none):v6 3 f fd ["_law_text"] (qMi K):=by
 refine F.okA qJq λcdv A outer s H vs Q E hr h=>?_
 obtain⟨s0,rfl,tx,q⟩:=h;have hr1:=hr.mono (j:=1) (by decide);refine⟨_,(qAb (qE2 (λσ H2=>∃l vs,σ=[some (.str s0),some (.ref l),none,none,none]/\Ext H H2/\H2 l=some (.lst vs)/\Paired (RO H2) vs (rowsF s0)) (v4 1 qJq (qB3 (N:=tdN) (sc:=qAa qIb) (N':=["_law_part"]) (sub:=[none]) (qAv (qB8 hB0 hBh hBi qCi (pv 0) (pa1 qA1))) (λC s H fp=>⟨qAx,qAy G1 hr rfl .nil qAz (pa1 (pv 0))⟩))))
  (qAb (qBb (qAl (qZb (qY3 hr)) qQh (pv 1) (by with_unfolding_all rfl)) (qAd (qAo qA1)) qAu)
  (qAb (qBs PassesOwn.never rfl (qAv (pv 1)) (v3 2 qJq)
   (qAd (qBb (qBz (qBy (qAf (qBu rfl) rfl ma qBw (qAe
    (qB3 (N:=tdN) (sc:=qAa qIb) (N':=["_law_name","_law_rows"]) (sub:=[none,some 1]) (qAv (pv 2)) (λC s H fp=>⟨qAx,qCe (show OpR _ (compareOp .In) (rIn K false) from qE5) (pv 0) (qBm (show IxR _ (zAh K) from qB0) (pv 1) qAc (λ_ _=>rfl)) (by with_unfolding_all rfl)⟩)) qA3)))) (qAd (qAo qA1)) qAu)))
  (qAb (v0 3 qJq (qAf qAm rfl ml hAr (pa1 (qBm qB0 (pv 1) qAc (λ_ _=>rfl)))))
  (qAb (v0 4 qJq (qAf qAm rfl ml hAr (pa1 (qAy G3 hr1 rfl .nil qAz (qAe
    (qB3 (N:=tdN) (sc:=qAa qIb) (N':=["_law_row_here","_law_rows"]) (sub:=[none,some 1]) (qAv (qB6 qEr (pv 1) (qC4 qAc) qC5)) (λC s H fp=>⟨qAx,qAy G2 hr1 rfl .nil qAz (qAe (qBm (show IxR _ (zAh K) from qB0) (pv 1) qAc (λ_ _=>rfl)) (pa1 (pv 0)))⟩)) qA3)))))
  (qAb (qBb (PW.pt (qDv (qAl qFp (pv 3) qAc (qAp _)) (qDv (qAl qFp (qAf qAm rfl ml hAr (pa1 (pv 1))) qAc (qAp _)) (qDv (qAl qFp (pv 4) qAc (qAp _)) (qDi (qAl qFp (qAg qEm (pv 3) (pv 4)) qAc (qAp _)))))))
    (qAd (qAo qA1)) qAu)
  (qAd (qAo (qB2 (qAe (qBm qB0 (pv 1) qAc (λ_ _=>rfl)) (pa1 (qB6 qEr (pv 1) (qC4 qAc) qC5)))))))))))),?_⟩
 have lT:=tx.len;have rl:=qMu tx;have rx:=qIe tx;have tp:=qCl (c:=47) tx.len tx.sm (by decide:1<=(cps " / ").count 47);have lsp:((Txt.split s0 " / ").map V.str).length=(rowsF s0).length:=by unfold rowsF;rw[hA1,hA1]
 refine⟨?_,?_⟩
 ·refine⟨_,rfl,rfl,_,_,rfl,rfl,by decide +kernel,qBr (by omega),λl hl=>?_⟩;have X1:=Ext.new hl (.lst ((Txt.split s0 " / ").map V.str));refine⟨l,rfl,⟨_,SqL.of upd_same⟩,?_⟩;refine qAt (xs:=(Txt.split s0 " / ").map V.str) (λj ys H2=>Ext (upd H l (.lst ((Txt.split s0 " / ").map V.str))) H2/\Paired (RO H2) ys ((rowsF s0).take j)) ⟨Ext.refl _,by rw[hC6];exact .nil⟩ (λj ys H2 _ h=>SqL.of (h.1 _ _ upd_same)) ?_ ?_
  ·rintro j v ys H2 hv ⟨e2,pr⟩;obtain⟨p,rfl,hp⟩:=qDr hv;have hr':(rowsF s0)[j]?=some (qCk p):=by unfold rowsF;rw[hAj,hp];rfl
   have hj:=qA7 hr';have la:ys.length=_:=pr.length;rw[hAh]at la;have hpm:=hAd hp;have small:ys.length<sizeLine:=qB5 (by omega);refine⟨sls,iteT (B:=False) ⟨_,rfl,p,rfl,(tp.2 p hpm).1,(tp.2 p hpm).2,qQ9 tx hpm,λrp a H3 e3 ha=>⟨small,nxt (qA7 hv) ⟨e2.trans e3,?_⟩⟩,λrp H3 e3=>⟨small,nxt (qA7 hv) ⟨e2.trans e3,?_⟩⟩⟩⟩
   ·rw[qAk hr'];exact Paired.snoc (Paired.mapP pr λa t z=>z.ext e3) (.inl ⟨rp,a,rfl,ha⟩)
   ·rw[qAk hr'];exact Paired.snoc (Paired.mapP pr λa t z=>z.ext e3) (.inr ⟨rp,rfl⟩)
  ·rintro ys H2 ⟨e2,pr⟩ l2 hl2;rw[lsp,hA6 (hA3 _)]at pr;have X2:=Ext.new hl2 (.lst ys);exact⟨l2,ys,rfl,X1.trans (e2.trans X2),upd_same,Paired.mapP pr λa t z=>z.ext X2⟩
 rintro σ H2 ⟨l,vs,rfl,e2,hl,pr⟩;have okr:∀r∈rowsF s0,SOk r:=λr hr x hx=>((rx r hr).2 x hx).2.ok
 refine⟨_,rfl,(rowsF s0).map roD,.none,.lst (SqL.of hl) (qUx pr),.non,qPo okr,rfl,_,rfl,?_⟩;have rwe:=qIf s0;have no:∀H',Ext H2 H'->¬qI8 (nmsT s0) (rwsT s0)->Q (.str "NoText") H':=λH' e g=>q _ _ H' (e2.trans e) (.str _) (.inl ⟨g,rfl⟩)
 refine qBp (λc=>?_) (λc=>?_)
 ·refine no H2 (Ext.refl _) λg=>qU3.mp c λr hr=>?_
  rw[rwe]at hr;rcases hAc.mp hr with rfl|hr
  ·exact g.1
  ·exact(g.2 r hr).1
 have all:∀r∈rowsF s0,qGp (r.map V.str):=hCh λz=>c (qU3.mpr z)
 obtain⟨as,rfl,pa⟩:=qP4 pr all;clear pr c;have fewr:∀r∈rowsF s0,r.length<=60:=λr hr=>by
  obtain⟨p,hp,rfl⟩:=hAb.mp hr;exact qQ9 tx hp (qP2 (all _ hr))
 have la:as.length=(rowsF s0).length:=pa.length;rw[rwe]at pa la all fewr rl;cases as with
 |nil=>cases pa
 |cons a0 bs =>
 have h0:LsS H2 a0 (nmsT s0):=by cases pa with|cons h _=>exact h
 have pb:Paired (LsS H2) bs (rwsT s0):=by cases pa with|cons _ h=>exact h
 have n60:=fewr _ hA5;have rn:qHf (nmsT s0):=qEf (all _ hA5);refine⟨_,rfl,l,rfl,⟨_,SqL.of hl⟩,?_⟩;refine qCu (xs:=(a0 :: bs).map V.ref) (λi σ H3=>∃x2:Option V,σ=[some (.str s0),some (.ref l),x2,none,none]/\Ext H2 H3/\∀r∈(nmsT s0 :: rwsT s0).take i,∀n∈r,n∈nmsT s0) ⟨none,rfl,Ext.refl _,λr hr=>(by rw[hC6]at hr;cases hr)⟩ (λi σ H3 _ h=>by obtain⟨_,_,e3,_⟩:=h;exact SqL.of (e3 _ _ hl)) ?_ ?_
 ·rintro i v σ H3 hv ⟨x2,rfl,e3,sub⟩;obtain⟨c,rfl,hc⟩:=qD4 hv;obtain⟨r,hr',hcr⟩:=qA8 pa hc;have hm:=hAd hr';have hc3:=e3 _ _ hcr;have h03:=e3 _ _ h0;have hl3:=e3 _ _ hl;have r60:=fewr r hm;refine⟨_,rfl,c,rfl,⟨_,SqL.of hc3⟩,?_⟩;refine qAt (xs:=r.map V.str) (λj zs H4=>H4=H3/\∃cs:List Bool,zs=cs.map V.bl/\cs.length=j/\(cs.all id=true↔∀n∈r.take j,n∈nmsT s0)) ⟨rfl,[],rfl,rfl,λ_ r hr=>(by rw[hC6]at hr;cases hr),λ_=>rfl⟩ (λj zs H4 _ h=>by rw[h.1];exact SqL.of hc3) ?_ ?_
  ·rintro j u zs H4 hu ⟨rfl,cs,rfl,lc,hcs⟩;obtain⟨n,rfl,hn⟩:=qDr hu;have hj:=qA7 hn;refine⟨sls,iteT (B:=False) ⟨_,rfl,_,rfl,l,_,_,_,rfl,rfl,SqL.of hl3,(by exact qA5 (j:=0) rfl),a0,_,rfl,.inl (SqL.of h03),rfl,qG2 _,?_⟩⟩;rw[hDv (by decide),qIw];refine⟨by rw[hA1];exact qB5 (by omega),nxt (qA7 hu) ⟨rfl,cs++[decide (n∈nmsT s0)],by rw[hA7];rfl,by rw[hA9,lc];rfl,?_⟩⟩;rw[qAk hn];exact qFi hcs hE0
  ·rintro zs H4 ⟨rfl,cs,rfl,lc,hcs⟩ l4 hl4;rw[hA1,hA6 (hA3 _)]at hcs;refine⟨l4,cs,rfl,SqL.of upd_same,cs.all id,rfl,?_⟩;have e4:=e3.trans (Ext.new hl4 (.lst (cs.map V.bl)));refine qBp (λd=>?_) (λd=>?_)
   ·refine no _ e4 λg=>?_
    have:∀n∈r,n∈nmsT s0:=by
     rcases hAc.mp hm with rfl|hm
     ·exact λn hn=>hn
     ·exact(g.2 r hm).2
    rw[hcs.mpr this]at d;cases d
   ·have z2:cs.all id=true:=by
     cases h3:cs.all id with
     |true=>rfl
     |false=>rw[h3]at d;exact absurd rfl d
    refine⟨_,rfl,e4,λr' hr''=>?_⟩;rw[qAk hr']at hr'';rcases hAf.mp hr'' with z|z
    ·exact sub r' z
    ·rw[hAe.mp z];exact hcs.mp z2
 rintro σ H3 ⟨x2,rfl,e3,sub⟩;rw[hA1,la,hA6 (hA3 _)]at sub;have sub':∀r∈rwsT s0,∀n∈r,n∈nmsT s0:=λr hr=>sub r (hA4 _ hr)
 have good:qI8 (nmsT s0) (rwsT s0):=⟨all _ hA5,λr hr=>⟨all r (hA4 _ hr),sub' r hr⟩⟩;have hl3:=e3 _ _ hl;have h03:=e3 _ _ h0;have pb3:Paired (LsS H3) bs (rwsT s0):=Paired.mapP pb λa t z=>e3 _ _ z
 have lb:bs.length=(rwsT s0).length:=pb.length;rw[hB2]at rl;refine⟨_,rfl,l,_,_,_,rfl,rfl,SqL.of hl3,(by exact qA5 (j:=0) rfl),a0,_,rfl,.inl (SqL.of h03),?_⟩;rw[hA1];refine⟨_,rfl,1,rfl,l,_,rfl,SqL.of hl3,λl5 hl5=>?_⟩;rw[qL1];have X5:=Ext.new hl5 (.lst (((a0 :: bs).map V.ref).drop 1));have h5:(upd H3 l5 (.lst (((a0 :: bs).map V.ref).drop 1))) l5=some (.lst (bs.map V.ref)):=upd_same;have hl5':=X5 _ _ hl3;have h05:=X5 _ _ h03;have pb5:Paired (LsS (upd H3 l5 (.lst (((a0 :: bs).map V.ref).drop 1)))) bs (rwsT s0):=Paired.mapP pb3 λa t z=>X5 _ _ z
 revert X5 h5 hl5' h05 pb5;generalize upd H3 l5 (.lst (((a0 :: bs).map V.ref).drop 1))=H5;intro X5 h5 hl5' h05 pb5;refine⟨l5,rfl,⟨_,SqL.of h5⟩,?_⟩;refine qAt (xs:=bs.map V.ref) (λj ys H6=>Ext H5 H6/\ys=(((rwsT s0).take j).map (qF6 (nmsT s0))).map iV) ⟨Ext.refl _,rfl⟩ (λj ys H6 _ h=>SqL.of (h.1 _ _ h5)) ?_ ?_
 ·rintro j v ys H6 hv ⟨e6,rfl⟩;obtain⟨c,rfl,hc⟩:=qD4 hv;obtain⟨r,hr',hcr⟩:=qA8 pb5 hc;have hm:=hAd hr';refine⟨sls,iteT (B:=False) ⟨_,rfl,l,_,_,_,rfl,rfl,SqL.of (e6 _ _ hl5'),(by exact qA5 (j:=0) rfl),_,rfl,a0,c,_,r,rfl,e6 _ _ h05,e6 _ _ hcr,sub' r hm,by omega,by have:=fewr r (hA4 _ hm);omega,λH7 e7=>⟨?_,nxt (qA7 hv) ⟨e6.trans e7,?_⟩⟩⟩⟩
  ·rw[hA1,hA1,hAh];exact qB5 (by omega)
  ·rw[qAk hr',hA7,hA7];rfl
 rintro ys H6 ⟨e6,rfl⟩ l6 hl6;rw[hA1,lb,hA6 (hA3 _)];have E6:=e3.trans (X5.trans (e6.trans (Ext.new hl6 (.lst (((rwsT s0).map (qF6 (nmsT s0))).map iV)))));have nd:=qEg rn;have mk:∀r∈rwsT s0,qF6 (nmsT s0) r<2^(nmsT s0).length/\rv (nmsT s0).length (qF6 (nmsT s0) r)=maskF (nmsT s0) r:=λr hr=>qS0 nd (qEg (qEf (all r (hA4 _ hr)))) (sub' r hr)
 have lt:∀x∈(rwsT s0).map (qF6 (nmsT s0)),x<2^(nmsT s0).length:=λx hx=>by
  obtain⟨r,hr,rfl⟩:=hAb.mp hx;exact(mk r hr).1
 refine⟨l6,_,(nmsT s0).length,rfl,upd_same,by rw[hA1];omega,lt,λr7 H7 e7 r70 h7=>?_⟩;have rk:(redL ((rwsT s0).map (qF6 (nmsT s0)))).length=Rk (nmsT s0) (rwsT s0):=by
  obtain⟨_,e⟩:=qDu (m:=(nmsT s0).length) _ lt;have e2:((rwsT s0).map (qF6 (nmsT s0))).map (rv (nmsT s0).length)=(rwsT s0).map (maskF (nmsT s0)):=by
   rw[hAz];exact hC3 λr hr=>(mk r hr).2
  rw[e2]at e;have:=congrArg List.length e;rw[hA1]at this;exact this
 refine⟨r7,_,rfl,.inl (SqL.of h7),?_⟩;rw[hA1,rk];have E7:=E6.trans e7;have hl7:=E7 _ _ hl;have h07:=E7 _ _ h0;have pb7:Paired (LsS H7) bs (rwsT s0):=Paired.mapP pb λa t z=>E7 _ _ z
 have bad:¬Bnd (nmsT s0) (rwsT s0)->Q (.str "TooMany") H7:=λb=>q _ _ H7 (e2.trans E7) (.str _) (.inr (.inl ⟨good,b,rfl⟩))
 have lall:(((a0 :: bs).map V.ref).length:Int)=(rwsT s0).length+1:=by rw[hA1,hB2,lb];rfl
 refine⟨_,rfl,_,_,rfl,rfl,_,rfl,?_⟩;refine qBp (λc=>?_) (λc=>?_)
 ·have c':(12:Int)<(nmsT s0).length:=hDu c;exact bad λz=>absurd z.1 (by omega)
 have c':¬(12:Int)<(nmsT s0).length:=λy=>c (hDr y)
 refine⟨_,rfl,l,_,rfl,.inl (SqL.of hl7),_,_,rfl,rfl,_,rfl,?_⟩;refine qBp (λd=>?_) (λd=>?_)
 ·have d':(17:Int)<((a0 :: bs).map V.ref).length:=hDu d;exact bad λz=>absurd z.2.1 (by omega)
 have d':¬(17:Int)<((a0 :: bs).map V.ref).length:=λy=>d (hDr y)
 refine⟨_,rfl,_,_,rfl,rfl,_,rfl,?_⟩;refine qBp (λg=>?_) (λg=>?_)
 ·have g':(8:Int)<Rk (nmsT s0) (rwsT s0):=hDu g;exact bad λz=>absurd z.2.2.1 (by omega)
 have g':¬(8:Int)<Rk (nmsT s0) (rwsT s0):=λy=>g (hDr y)
 refine⟨_,rfl,_,rfl,_,_,rfl,rfl,_,_,rfl,rfl,_,rfl,?_⟩;refine qBp (λk=>?_) (λk=>?_)
 ·have k':(8:Int)<((nmsT s0).length:Int)-Rk (nmsT s0) (rwsT s0):=hDu k;exact bad λz=>absurd z.2.2.2 (by omega)
 have k':¬(8:Int)<((nmsT s0).length:Int)-Rk (nmsT s0) (rwsT s0):=λy=>k (hDr y)
 have bn:Bnd (nmsT s0) (rwsT s0):=⟨by omega,by omega,by omega,by omega⟩;refine⟨_,rfl,l,_,_,_,rfl,rfl,SqL.of hl7,(by exact qA5 (j:=0) rfl),_,rfl,1,rfl,l,_,rfl,SqL.of hl7,λl8 hl8=>⟨(by show 2<=sizeLine;decide),λT hT=>?_⟩⟩;have X8:=Ext.new hl8 (.lst (qOq ((a0 :: bs).map V.ref) (some 1) none));have X9:=X8.trans (Ext.new hT (.tup [V.ref a0,V.ref l8]));refine q _ (qXv (nmsT s0) (rwsT s0)) _ (e2.trans (E7.trans X9)) ?_ (.inr (.inr ⟨good,bn,rfl⟩));have hr8:qF5 (upd (upd H7 l8 (.lst (qOq ((a0 :: bs).map V.ref) (some 1) none))) T (.tup [V.ref a0,V.ref l8])) l8 (rwsT s0):=⟨bs,(Ext.new hT _) _ _ (by rw[upd_same,qL1];rfl),Paired.mapP pb7 λa t z=>X9 _ _ z⟩;exact .tup (SqT.of upd_same) (.cons (qEp (X9 _ _ h07)) (.cons (qRf hr8) .nil))
end
def SmN(net:List Tr):Prop:=∀t∈net,Sm t.1/\Sm t.2.1/\Sm t.2.2
def trD(t:Tr):PyData:=.tuple [.str t.1,.str t.2.1,.str t.2.2]
def qW5(net:List Tr):PyData:=.list (net.map trD)
theorem qZ6(t:Tr):PyData.eqv (trD t) (trD t)=true:=by
 show(t.1 == t.1 && (t.2.1 == t.2.1 && (t.2.2 == t.2.2 && true)))=true;simp
theorem qRb:∀net:List Tr,PyData.eqv (qW5 net) (qW5 net)=true
 |[]=>rfl
 |t :: r=>by
  have ih:PyData.eqvAll (r.map trD) (r.map trD)=true:=qRb r;show(PyData.eqv (trD t) (trD t) && PyData.eqvAll (r.map trD) (r.map trD))=true;rw[qZ6,ih];rfl
theorem qQx:∀ {net:List Tr},SmN net->PyData.canLayAll0 (net.map trD)=true/\PyData.depthAll (net.map trD)<=1
 |[],_=>⟨rfl,by decide⟩
 |t :: r,h=>by
  obtain⟨h1,h2⟩:=qQx (net:=r) λy hy=>h y (hA4 _ hy)
  obtain⟨t1,t2,t3⟩:=h t hA5;refine⟨?_,?_⟩
  ·show((PyData.strOk t.1 && (PyData.strOk t.2.1 && (PyData.strOk t.2.2 && true))) && PyData.canLayAll0 (r.map trD))=true;rw[h1,t1.ok,t2.ok,t3.ok];rfl
  ·show max (max 0 (max 0 (max 0 0))+1) (PyData.depthAll (r.map trD))<=1;omega
theorem qN6{net:List Tr}(h:SmN net):SeqAt.shaped (qW5 net)=true:=by
 obtain⟨h3,h4⟩:=qQx h;show(PyData.canLayAll0 (net.map trD) && decide (PyData.depthAll (net.map trD)+1<=64))=true;rw[h3,hDr (by omega)];rfl
theorem qRd{K:PySem.W.Frag}{H:Hp}:∀ {as:List Addr} {net:List Tr},Paired (λa t=>H a=some (.tup (trV t))) as net->DRs K H (as.map V.ref) (net.map trD)
 |_,_,.nil=>.nil
 |_,_,.cons h t=>.cons (.tup (SqT.of h) (.cons (.str _) (.cons (.str _) (.cons (.str _) .nil)))) (qRd t)
theorem qUy{K:PySem.W.Frag}{H:Hp}{p:Addr}{net:List Tr}(h:qDp H p net):DR K H (.ref p) (qW5 net):=by
 obtain⟨as,h1,h2⟩:=h;exact .lst (SqL.of h1) (qRd h2)
def trL(t:Tr):List Str:=[t.1,t.2.1,t.2.2]
def zBo(p:List Str):Prop:=∃t:Tr,p=trL t/\qX2 t
theorem qLr(net:List Tr):ndF (net.map trL)=NdOf net:=by
 unfold ndF NdOf;rw[hAz];rfl
theorem qE7{α β:Type}{f:α->β}(hf:∀a b,f a=f b->a=b):∀ {a b:List α},a.map f=b.map f->a=b
 |[],[],_=>rfl
 |[],_ :: _,h=>by cases h
 |_ :: _,[],h=>by cases h
 |x :: a,y :: b,h=>by
  rw[hAu,hAu,hDc]at h;rw[hf _ _ h.1,qE7 hf h.2]
theorem qW6{a b:List (List Str)}(h:ndF a=ndF b):a=b :=
 qE7 (λp q e=>qE7 (λx y e=>V.str.inj e) (hAq e)) (hAq h)
theorem qGw{s:Str}{net:List Tr}(h:qRw s net):pcsF s=net.map trL:=qW6 (h.1.trans (qLr net).symm)
theorem qJk:∀ {ps:List (List Str)},(∀p∈ps,zBo p)->∃net:List Tr,ps=net.map trL/\∀t∈net,qX2 t
 |[],_=>⟨[],rfl,λt h=>by cases h⟩
 |p :: ps,h=>by
  obtain⟨net,rfl,g⟩:=qJk λq hq=>h q (hA4 _ hq)
  obtain⟨t,rfl,tt⟩:=h p hA5;refine⟨t :: net,rfl,λu hu=>?_⟩;rcases hAc.mp hu with rfl|z
  ·exact tt
  ·exact g u z
def qKq(s:Str)(D:PyData):Prop:=((¬∃net,qRw s net)/\D = .str "NoText")\/∃net,qRw s net/\SmN net/\((¬qU6 net/\D = .str "TooMany")\/(qU6 net/\D=qW5 net))
def qMk(K:PySem.W.Frag):Sp:=λvs H Q _=>∃s:Str,vs=[.str s]/\TX s/\∀v D H',Ext H H'->DR K H' v D->qKq s D->Q v H'
section
variable{P:Program}{w:World}{K:PySem.W.Frag}{mg:Str->Option Value}{base:Heap}{f f1 f2 f3:Addr}{fd fd1 fd2 fd3:FuncData}
abbrev ndN:List Str:=["_law_text","_law_ties","_law_tie","_law_names_here","_law_low"]
theorem qJt:FnScope ndN ["_law_text"] (qAa qIc):=fsk
theorem qWj(F:Fun K "_law_net_due" "_law_net_due" qIc f fd)
  (G1:v7 1 f1 fd1 ["_law_word"] qVg "_law_is_name")
  (G2:v7 1 f2 fd2 ["_law_net_here"] qKy "_law_even")
  (ma:mg "all"=none) (ml:mg "len"=none) (mtu:mg "tuple"=none) (mso:mg "sorted"=none) (mst:mg "set"=none):v6 2 f fd ["_law_text"] (qMk K):=by
 refine F.okA qJt λcdv A outer s H vs Q E hr h=>?_
 obtain⟨s0,rfl,tx,q⟩:=h;refine⟨_,(qAb (qBb (qAl qC7 (pv 0) qA1 (qAp _)) (qAd (qAo (qBe qA3))) qAu)
  (qAb (qE2 (λσ H2=>∃r,σ=[some (.str s0),some (.ref r),none,none,none]/\Ext H H2/\qRu H2 r (pcsF s0)) (qM6 (i:=1) (N:=ndN) (sc:=qAa qIc) (N':=["_law_part"]) (sub:=[none]) (qAv (qB8 hB0 hBh hBi qCi (pv 0) (pa1 qA1))) (λC s H fp=>⟨qAx,(qBd (show qB9 _ (.type "tuple") (zA2 K) from qCw) rfl mtu qCf (pa1 (show PE _ _ (tBM K _ qM2 _ _) from qB8 hB0 hBh hBi qCi (pv 0) (pa1 qA1))))⟩) qJt.nd rfl (Or.inl rfl)))
  (qAb (qBs PassesOwn.never rfl (qAv (pv 1)) (v3 2 qJt)
   (qAd (qBb (PW.pt (qDv (qAl qFo (qAf qAm rfl ml hAr (pa1 (pv 2))) qAc (qAp _)) (qDv (qBz (qBy (qAf (qBu rfl) rfl ma qBw (qAe
    (qB3 (N:=ndN) (sc:=qAa qIc) (N':=["_law_word"]) (sub:=[none]) (qM7 (pv 2)) (λC s H fp=>⟨qAx,qAy G1 hr rfl .nil qAz (pa1 (pv 0))⟩)) qA3)))) (qDi (qAl qQl (qBm qCb (pv 2) qAc (λ_ _=>rfl)) (qBm qCb (pv 2) qAc (λ_ _=>rfl)) (qAp _)))))) (qAd (qAo qA1)) qAu)))
  (qAb (qM6 (i:=3) (N:=ndN) (sc:=qAa qIc) (N':=["_law_tie"]) (sub:=[none]) (qAv (pv 1)) (λC s H fp=>⟨qAx,qBm (show IxR _ (qUc K) from qCb) (pv 0) qAc (λ_ _=>rfl)⟩) qJt.nd rfl (Or.inl rfl))
  (qAb (qBb (qAl (qM9 (qJx hr)) (pv 3) (qAf (qCj rfl) rfl mso qBv (pa1 (qBd (qG6 rfl) rfl mst qG8 (pa1 (pv 3))))) (qAp _)) (qAd (qAo qA1)) qAu)
  (qAb (v0 4 qJt (qAf qAm rfl ml hAr (pa1 (qAy G2 hr rfl .nil qAz (pa1 (pv 1))))))
  (qAb (qBb (PW.pt (qDv (qAl qFp (qAf qAm rfl ml hAr (pa1 (pv 1))) qAc (qAp _)) (qDv (qAl qFp (pv 4) qAc (qAp _)) (qDi (qAl qFp (qAg qEm (qAf qAm rfl ml hAr (pa1 (pv 1))) (pv 4)) qAc (qAp _)))))) (qAd (qAo qA1)) qAu)
  (qAd (qAo (pv 1)))))))))),?_⟩
 obtain⟨pl,px⟩:=qLp tx;have lT:=tx.len;refine⟨_,rfl,rfl,_,rfl,?_⟩;by_cases ne:s0 = "-"
 ·have e0:pcsF s0=[]:=by unfold pcsF;rw[hDw ne]
  rw[hDr (congrArg V.str ne)];refine iteT ⟨hAs _,λl hl=>q _ (qW5 []) _ (Ext.new hl _) (.lst (SqL.of upd_same) .nil) (.inr ⟨[],⟨by rw[e0];rfl,λt h=>(by cases h),⟨λi hi=>absurd hi (hBx _),λi hi=>absurd hi (hBx _)⟩⟩,λt h=>(by cases h),.inr ⟨?_,rfl⟩⟩)⟩;exact⟨by decide,by decide +kernel,by decide +kernel⟩
 have e0:pcsF s0=(Txt.split s0 ", ").map λp=>Txt.split p " ":=by unfold pcsF;rw[hDv ne]
 rw[hDs λz=>ne (V.str.inj z)];refine qEo ⟨?_,?_⟩
 ·refine⟨_,rfl,rfl,_,_,rfl,rfl,by decide +kernel,qBr (by omega),λl hl'=>?_⟩;have tp:=qCl (c:=44) tx.len tx.sm (by decide:1<=(cps ", ").count 44);have X1:=Ext.new hl' (.lst ((Txt.split s0 ", ").map V.str));refine⟨l,rfl,⟨_,SqL.of upd_same⟩,?_⟩;refine qAt (xs:=(Txt.split s0 ", ").map V.str) (λj ys H2=>Ext (upd H l (.lst ((Txt.split s0 ", ").map V.str))) H2/\∃as,ys=as.map V.ref/\Paired (λa (p:List Str)=>H2 a=some (.tup (p.map V.str))) as ((pcsF s0).take j)) ⟨Ext.refl _,[],rfl,by rw[hC6];exact .nil⟩ (λj ys H2 _ h=>SqL.of (h.1 _ _ upd_same)) ?_ ?_
  ·rintro j v ys H2 hv ⟨e2,as,rfl,pr⟩;obtain⟨p,rfl,hp⟩:=qDr hv;have ht:(pcsF s0)[j]?=some (Txt.split p " "):=by rw[e0,hAj,hp];rfl
   have hj:=qA7 ht;have la:as.length=_:=pr.length;rw[hAh]at la;have lp:=(tp.2 p (hAd hp)).1;refine⟨sls,iteT (B:=False) ⟨_,rfl,rfl,_,_,rfl,rfl,by decide +kernel,qBr (by omega),λl3 hl3=>?_⟩⟩;refine⟨l3,_,rfl,.inl ⟨SqL.of upd_same,λl4 hl4=>⟨?_,nxt (qA7 hv) ⟨e2.trans ((Ext.new hl3 _).trans (Ext.new hl4 _)),as++[l4],by rw[hA7];rfl,?_⟩⟩⟩⟩
   ·rw[hA1];exact qAi (by omega)
   ·rw[qAk ht];exact Paired.snoc (Paired.mapP pr λa t z=>((Ext.new hl3 _).trans (Ext.new hl4 _)) _ _ z) upd_same
  ·rintro ys H2 ⟨e2,as,rfl,pr⟩ l2 hl2;have lsp:((Txt.split s0 ", ").map V.str).length=(pcsF s0).length:=by rw[e0,hA1,hA1]
   rw[lsp,hA6 (hA3 _)]at pr;have X2:=Ext.new hl2 (.lst (as.map V.ref));exact⟨l2,rfl,X1.trans (e2.trans X2),as,upd_same,Paired.mapP pr λa t z=>X2 _ _ z⟩
 rintro σ H2 ⟨r,rfl,e2,as,hr2,pr⟩;have la:as.length=(pcsF s0).length:=pr.length;have no:∀H',Ext H2 H'->(¬∃net,qRw s0 net)->Q (.str "NoText") H':=λH' e g=>q _ _ H' (e2.trans e) (.str _) (.inl ⟨g,rfl⟩)
 refine⟨_,rfl,r,rfl,⟨_,SqL.of hr2⟩,?_⟩;refine qCu (xs:=as.map V.ref) (λi σ H3=>∃x2:Option V,σ=[some (.str s0),some (.ref r),x2,none,none]/\Ext H2 H3/\∀p∈(pcsF s0).take i,zBo p) ⟨none,rfl,Ext.refl _,λp hp=>(by rw[hC6]at hp;cases hp)⟩ (λi σ H3 _ h=>by obtain⟨_,_,e3,_⟩:=h;exact SqL.of (e3 _ _ hr2)) ?_ ?_
 ·rintro i v σ H3 hv ⟨x2,rfl,e3,ok⟩;obtain⟨c,rfl,hc⟩:=qD4 hv;obtain⟨p,hp,hcp⟩:=qA8 pr hc;have hm:=hAd hp;have hc3:=e3 _ _ hcp;have t:=px p hm;have bad:(¬zBo p)->∀H4,Ext H3 H4->Q (.str "NoText") H4:=λz H4 e4=>no H4 (e3.trans e4) λ⟨net,g⟩=>z (by
   rw[qGw g]at hm;obtain⟨t,ht,rfl⟩:=hAb.mp hm;exact⟨_,rfl,g.2.1 _ ht⟩)
  refine⟨_,rfl,c,_,rfl,.inr (SqT.of hc3),rfl,_,rfl,?_⟩;rw[hA1];refine qBp (λd=>?_) (λd=>?_)
  ·refine bad (λ⟨t,e,_⟩=>?_) H3 (Ext.refl _);rw[e]at d;cases d
  have l3:p.length=3:=by
   have:((p.length:Nat):Int)=3:=by simpa using d
   omega
  obtain⟨x,y,z,rfl⟩:=zB2 l3;refine⟨_,rfl,c,rfl,⟨_,SqT.of hc3⟩,?_⟩;refine qHi (xs:=([x,y,z]:List Str).map V.str) (λv=>some (V.bl (nmV v))) hc3 (by show 3<=sizeLine;decide) (λu hu H4 he C hC=>?_) λH4 he=>?_
  ·obtain⟨n,hn,rfl⟩:=hAb.mp hu;exact⟨sls,iteT (B:=False) ⟨_,rfl,n,rfl,(t.2 n hn).1,(t.2 n hn).2,λH' he'=>hC H' he'⟩⟩
  intro l5 hl5;rw[show(([x,y,z]:List Str).map V.str).filterMap (λv=>some (V.bl (nmV v)))=[nameB x,nameB y,nameB z].map V.bl from rfl];refine⟨l5,[nameB x,nameB y,nameB z],rfl,SqL.of upd_same,([nameB x,nameB y,nameB z]:List Bool).all id,rfl,?_⟩;have X5:Ext H3 (upd H4 l5 (.lst ([nameB x,nameB y,nameB z].map V.bl))):=he.trans (Ext.new hl5 _);revert X5;generalize upd H4 l5 (.lst ([nameB x,nameB y,nameB z].map V.bl))=H5;intro X5;have al:([nameB x,nameB y,nameB z]:List Bool).all id=(nameB x && (nameB y && (nameB z && true))):=rfl;refine qBp (λd2=>?_) (λd2=>?_)
  ·refine iteT (bad (λ⟨t,e,t1,t2,t3,_⟩=>?_) H5 X5);cases e;rw[al,t1,t2,t3]at d2;cases d2
  have nms:(nameB x && (nameB y && (nameB z && true)))=true:=by
   cases h3:(nameB x && (nameB y && (nameB z && true))) with
   |true=>rfl
   |false=>rw[al,h3]at d2;exact absurd rfl d2
  rw[Bool.and_true,hBe,hBe]at nms;have hc5:=X5 _ _ hc3;refine⟨_,rfl,c,_,_,_,rfl,rfl,SqT.of hc5,(by exact qA5 (j:=1) rfl),_,rfl,c,_,_,_,rfl,rfl,SqT.of hc5,(by exact qA5 (j:=2) rfl),y,z,rfl,rfl,_,rfl,?_⟩;refine qBp (λd3=>?_) (λd3=>?_)
  ·refine bad (λ⟨t,e,t1,t2,t3,t4⟩=>?_) H5 X5;cases e;unfold leB at t4;rw[d3]at t4;cases t4
  ·refine⟨_,rfl,e3.trans X5,λp' hp'=>?_⟩;rw[qAk hp]at hp';rcases hAf.mp hp' with w|w
   ·exact ok p' w
   ·rw[hAe.mp w];refine⟨(x,y,z),rfl,nms.1,nms.2.1,nms.2.2,?_⟩;show(!decide (z.cps.toList<y.cps.toList))=true;cases h3:decide (z.cps.toList<y.cps.toList) with
    |false=>rfl
    |true=>exact absurd h3 d3
 rintro σ H3 ⟨x2,rfl,e3,ok⟩;rw[hA1,la,hA6 (hA3 _)]at ok;obtain⟨net,ep,tt⟩:=qJk ok;have ln:net.length<=14:=by rw[ep,hA1]at pl;exact pl
 have na:qDp H3 r net:=qRu.net (qRu.ext ⟨as,hr2,pr⟩ e3) (by rw[ep];exact qLr net);have smn:SmN net:=λt ht=>by
  have h:=px (trL t) (by rw[ep];exact hB3 ht);exact⟨(h.2 _ (by simp[trL])).2,(h.2 _ (by simp[trL])).2,(h.2 _ (by simp[trL])).2⟩
 have gn:∀net',qRw s0 net'->net'=net:=λnet' g=>by
  have:=(qGw g).symm.trans ep;refine qE7 (λa b e=>?_) this;obtain⟨a1,a2,a3⟩:=a;obtain⟨b1,b2,b3⟩:=b;unfold trL at e;simp only[hDc,and_true]at e;obtain⟨rfl,rfl,rfl⟩:=e;rfl
 clear ok pr la hr2 as;obtain⟨as,hn,pn⟩:=id na;refine⟨_,rfl,r,rfl,⟨_,SqL.of hn⟩,?_⟩;refine qEx (λt=>t.1) hn pn (by omega) (λa t ha C B c=>⟨sls,?_⟩) ?_
 ·exact iteT (B:=B H3) ⟨_,rfl,a,_,_,_,rfl,rfl,SqT.of ha,(by exact qA5 (j:=0) rfl),c⟩
 intro tl htl;have X4:=Ext.new htl (.lst ((net.map λt=>t.1).map V.str));have na4:=na.ext X4;have ht4:LsS (upd H3 tl (.lst ((net.map λt=>t.1).map V.str))) tl (net.map (·.1)):=upd_same;revert X4 na4 ht4;generalize upd H3 tl (.lst ((net.map λt=>t.1).map V.str))=H4;intro X4 na4 ht4;refine⟨_,rfl,_,rfl,tl,net.map (λt:Tr=>t.1),rfl,SqL.of ht4,by rw[hA1];omega,λr1 ss r10 nd lns mem=>?_⟩;rw[hA1]at lns;refine⟨r1,ss,rfl,upd_same,by omega,λr2 ss' r20 pm srt=>?_⟩;have X5:=(Ext.new r10 (qX3 P w r1 ss)).trans (Ext.new r20 (.lst (ss'.map V.str)));have ok1:SOk (net.map (·.1)):=λx hx=>by
  obtain⟨t,ht,rfl⟩:=hAb.mp hx;exact(smn t ht).1.ok
 have mem':∀x,x∈ss'↔x∈net.map (·.1):=λx=>(pm.mem_iff).trans (mem x)
 have ok2:SOk ss':=λx hx=>ok1 x ((mem' x).mp hx)
 refine⟨qFn (net.map (λt:Tr=>t.1)),qFn ss',qEp (X5 _ _ ht4),qEp upd_same,qCz ok1,qCz ok2,_,rfl,?_⟩;rw[hDw rfl,qG3];have rs:qHf ss':=qIg srt ((pm.nodup_iff).mpr nd);have nmall:∀x∈net.map (·.1),nameB x=true:=λx hx=>by
  obtain⟨t,ht,rfl⟩:=hAb.mp hx;exact(tt t ht).1
 have key:qGp ((net.map (·.1)).map V.str)↔net.map (·.1)=ss':=⟨λz=>qJy (qEf z) rs λx=>(mem' x).symm,λz=>qMv (by rw[z];exact rs) nmall⟩;have E5:=e3.trans (X4.trans X5);have na5:=na4.ext X5;refine qBp (λd=>?_) (λd=>?_)
 ·refine no _ E5 λ⟨net',g⟩=>?_
  cases gn net' g;rw[hDr (key.mp g.2.2)]at d;cases d
 have rp:qGp ((net.map (·.1)).map V.str):=key.mpr (by
  by_cases e:net.map (·.1)=ss'
  ·exact e
  ·rw[hDs e]at d;exact absurd rfl d)
 have g:qRw s0 net:=⟨by rw[ep];exact qLr net,tt,rp⟩;refine⟨_,rfl,r,net,rfl,na5,ln,λr6 Fl Kk ps H6 e6 r60 hF _ ei kl=>?_⟩;refine⟨r6,_,rfl,.inl (SqL.of hF),?_⟩;have e2':=ei.len;rw[hA1];obtain⟨as6,h6,p6⟩:=na5.ext e6;have la6:as6.length=net.length:=p6.length;have E6:=e2.trans (E5.trans e6);have bad:¬qU6 net->Q (.str "TooMany") H6:=λb=>q _ _ H6 E6 (.str _) (.inr ⟨net,g,smn,.inl ⟨b,rfl⟩⟩)
 refine⟨_,rfl,r,_,rfl,.inl (SqL.of h6),_,_,rfl,rfl,_,rfl,?_⟩;refine qBp (λc=>?_) (λc=>?_)
 ·have c':(12:Int)<((as6.map V.ref).length:Nat):=hDu c;rw[hA1]at c';exact bad λz=>absurd z.1 (by omega)
 have c':¬(12:Int)<((as6.map V.ref).length:Nat):=λy=>c (hDr y)
 rw[hA1]at c';refine⟨_,rfl,_,_,rfl,rfl,_,rfl,?_⟩;refine qBp (λd=>?_) (λd=>?_)
 ·have d':(8:Int)<(Fl.length:Int):=hDu d;exact bad λz=>absurd z.2.2 (by omega)
 have d':¬(8:Int)<(Fl.length:Int):=λy=>d (hDr y)
 refine⟨_,rfl,r,_,rfl,.inl (SqL.of h6),_,rfl,_,_,rfl,rfl,_,_,rfl,rfl,_,rfl,?_⟩;refine qBp (λk=>?_) (λk=>?_)
 ·have k':(8:Int)<((as6.map V.ref).length:Nat)-(Fl.length:Int):=hDu k;rw[hA1]at k';exact bad λz=>absurd z.2.1 (by omega)
 ·have k':¬(8:Int)<((as6.map V.ref).length:Nat)-(Fl.length:Int):=λy=>k (hDr y)
  rw[hA1]at k';exact⟨_,rfl,q _ (qW5 net) H6 E6 (qUy ⟨as6,h6,p6⟩) (.inr ⟨net,g,smn,.inr ⟨⟨by omega,by omega,by omega⟩,rfl⟩⟩)⟩
end
end My
namespace L2
open PySem PySem.Spec PyProof.Rows
section
variable{X:Cx}{aB:List (Addr×Obj)}{σ:St}{H:Hp}{s:Shared}{h':Heap}
def zAo(N:Nat)(K:PySem.W.Frag)(i:Nat)(C C2:Addr)(E:XK)(tb:TS)(ts ts2:Addr->TS):TS:=λD σ H=>tb D σ H/\∀(cls:Value) (H':Hp) (ea:Addr) (σ':St),E cls none H'->H' ea=none->σ'.length=N ->
 (PySem.W.exmOne K cls (.ref C)=some true/\ts ea { nx:=λσ2 H2=>D.nx (σ2.set i none) H2,rt:=D.rt,bk:=λσ2 H2=>D.bk (σ2.set i none) H2,ct:=λσ2 H2=>D.ct (σ2.set i none) H2 } (σ'.set i (some (.ref ea))) (upd H' ea (exO ea cls))) \/
 (PySem.W.exmOne K cls (.ref C)=some false/\PySem.W.exmOne K cls (.ref C2)=some true/\ts2 ea { nx:=λσ2 H2=>D.nx (σ2.set i none) H2,rt:=D.rt,bk:=λσ2 H2=>D.bk (σ2.set i none) H2,ct:=λσ2 H2=>D.ct (σ2.set i none) H2 } (σ'.set i (some (.ref ea))) (upd H' ea (exO ea cls)))
theorem qV2{tb:TS}{ts ts2:Addr->TS}{b02:Stmt}{suite2:List Stmt}{cn2:Str}{C2:Addr}{cp2 hp2:Pos}
  (hb:∀xe pn,qKp (CXe X.prog X.w) { X with xe:=xe,pn:=pn } E->PSs { X with xe:=xe,pn:=pn } body tb) (hg:Gl X cn) (hm:X.mg cn=some (.ref C))
  (hg2:Gl X cn2) (hm2:X.mg cn2=some (.ref C2)) (hs2:∀e:Addr,PSs { X with A:=X.A.mark (some (.ref e)),calm:=false,xe:=λ_ _=>False } (b02 :: suite2) (ts2 e))
  (hs:∀e:Addr,PSs { X with A:=X.A.mark (some (.ref e)),calm:=false,xe:=λ_ _=>False } (b0 :: suite) (ts e)) (nd:X.N.Nodup) (hi:X.N[i]?=some n) (hx:X.env.scope.names.lookup n=some .local)
  (hex:X.ex=[]) (hst:X.stack=X.env :: X.outer) (hfr:X.env.frame=some X.env.locals) (hd:(cn == ("__debug__" : Str))=false:=by decide) (hd2:(cn2 == ("__debug__" : Str))=false:=by decide) :
  PS X (.Try body [.ExceptHandler (some (.Name cn cp)) (some n) (b0 :: suite) hp,.ExceptHandler (some (.Name cn2 cp2)) (some n) (b02 :: suite2) hp2] [] [] pos) (zAo X.N.length X.K i C C2 E tb ts ts2):=by
 intro aB s σ H D I ⟨h1,h2⟩;refine wpAny_Try_except ?_;have B:=hb (λe s'=>∃pins' σ' H1 s1,Inv { X with pn:=X.pn++aB } pins' σ' H1 s1/\CXe X.prog X.w X.stack H1 s1 E e s') (X.pn++aB) (λpins' σ' H1 s1 e s' I' c=>⟨pins',σ',H1,s1,I'.move (λ_ z=>z) rfl I'.ok.hd,c⟩)
  [] s σ H D (I.move (λp hp=>by rw[hC7]at hp;exact hp) rfl I.ok.hd) h1
 have back:∀ {xe:Value->Shared->Prop} {pins':List (Addr×Obj)} {σ':St} {H':Hp} {s':Shared},Inv { X with xe:=xe,pn:=X.pn++aB } pins' σ' H' s'->Inv X aB σ' H' s':=λJ=>J.move (λp hp=>hAk _ hp) rfl J.ok.hd
 refine hDy B (λf s1 q=>?_) λe s1 q=>?_
 ·cases f with
  |next=>obtain⟨σ',H',J,q⟩:=q;exact hEe ⟨σ',H',back J,q⟩
  |brk=>obtain⟨σ',H',J,q⟩:=q;exact⟨σ',H',back J,q⟩
  |cont=>obtain⟨σ',H',J,q⟩:=q;exact⟨σ',H',back J,q⟩
  |ret u=>obtain⟨v,σ',H',J,r,q⟩:=q;exact⟨v,σ',H',back J,r,q⟩
 obtain⟨pins',σ',H1,s0,I1,ea,cls,H',rfl,os,bare,un,hok,⟨f1,f2,a0,oe,vs,T,oT,ts',t1,t2,t3,t4,t5,t6,t7,t8,t9,t10⟩,qE⟩:=q;have I0:Inv X aB σ' H1 s0:=back (xe:=X.xe) I1;have J:Inv X aB σ' H' s1:=I0.call' (ch:=[]) os un hok bare (λb z=>by cases z);have ne:New X aB ea:=I0.new_of hex f1;have nT:New X aB T:=I0.new_of hex t6;have hn:∀b∈[ea,T],New X aB b:=λb hb=>by
  rcases hAc.mp hb with z|z
  ·rw[z];exact ne
  ·rw[hAe.mp z];exact nT
 have hH:∀b∈[ea,T],H' b=none:=λb hb=>by
  rcases hAc.mp hb with z|z
  ·rw[z];exact f2
  ·rw[hAe.mp z];exact t7
 have fl:FlyC (PySem.W.hideAll s1.heap ([ea,T]++frs X.stack)) (X.env :: X.outer) ea cls a0 .none s1.heap:=by
  refine⟨λb o z=>PySem.W.of_hideAll _ z,hCp _ (by simp),?_,oe,vs,T,oT,ts',t1,t2,t3,t4,hCp _ (by simp),t5,t8,t9,t10⟩;rw[<-hst];exact qIy J.stack λa ha=>hCp _ (hAa _ ha)
 refine zBa (J.ok.frames.trans (by rw[hst])) hfr fl λg1 hl1 up1=>?_
 refine qIz hl1 λg2 fl2 up2=>?_
 have J2:Inv X aB σ' H' { s1 with heap:=g2 }:=J.flown hn hH fl2.stays (up1.trans up2);have LT:PySem.W.Looks (model X.prog X.w) g2 (typeOf (.ref ea)) cls:=by
  obtain⟨ob,he,hcls,_⟩:=fl2.there;rw[<-hcls];exact(PySem.W.Looks.ld he).andThen .now
 have back2:∀ {σ':St} {H':Hp} {s':Shared},Inv { X with A:=X.A.mark (some (.ref ea)),calm:=false,xe:=λ_ _=>False } aB σ' H' s'->Inv X aB σ' H' s':=λJ=>J.move (λ_ z=>z) rfl I.ok.hd
 rcases h2 cls H' ea σ' qE f2 J.len with ⟨hm1,hr1⟩|⟨hm1,hm3,hr1⟩
 ·have hsx:=hs ea;refine wpAny_handleBy_cons (codeAny_handlers_test ?_) (by intro q;cases q);refine qFs (X:={ X with A:=X.A.mark (some (.ref ea)),calm:=false,xe:=λ_ _=>False }) (J2.move (λ_ z=>z) rfl (λz=>by cases z)) hg hm ?_ hd;refine(PySem.W.exm_one J2.kIn LT hm1).here ?_;refine codeAny_handlers_suite_as ?_;refine qIz fl2 λg3 fl3 up3=>?_
  have J3:Inv X aB σ' H' { s1 with heap:=g3 }:=J.flown hn hH fl3.stays ((up1.trans up2).trans up3);have J4:=J3.adopt (cls:=cls) ne f2 fl3.there;refine qEd J4 nd hi (.inl hx) (v:=.ref ea) rfl (λs5 J5=>?_) (.inr hx);refine hDy (hsx aB s5 _ _ _ (J5.move (λ_ z=>z) rfl (λz=>by cases z)) hr1) (λf s6 q=>?_) λ_ _ z=>z.elim
  cases f with
  |next=>obtain⟨σ2,H2,K2,q⟩:=q;exact qCm (back2 K2) nd hi hx λs' K3=>⟨_,_,K3,q⟩
  |brk=>obtain⟨σ2,H2,K2,q⟩:=q;exact qCm (back2 K2) nd hi hx λs' K3=>⟨_,_,K3,q⟩
  |cont=>obtain⟨σ2,H2,K2,q⟩:=q;exact qCm (back2 K2) nd hi hx λs' K3=>⟨_,_,K3,q⟩
  |ret u=>obtain⟨v,σ2,H2,K2,r,q⟩:=q;exact qCm (back2 K2) nd hi hx λs' K3=>⟨v,_,_,K3,r,q⟩
 ·have hsx:=hs2 ea;refine wpAny_handleBy_cons (codeAny_handlers_test ?_) (by intro q;cases q);refine qFs (X:={ X with A:=X.A.mark (some (.ref ea)),calm:=false,xe:=λ_ _=>False }) (J2.move (λ_ z=>z) rfl (λz=>by cases z)) hg hm ?_ hd;refine(PySem.W.exm_one J2.kIn LT hm1).here ?_;refine wpAny_handleBy_cons (codeAny_handlers_test ?_) (by intro q;cases q);refine qFs (X:={ X with A:=X.A.mark (some (.ref ea)),calm:=false,xe:=λ_ _=>False }) (J2.move (λ_ z=>z) rfl (λz=>by cases z)) hg2 hm2 ?_ hd2;refine(PySem.W.exm_one J2.kIn LT hm3).here ?_;refine codeAny_handlers_suite_as ?_;refine qIz fl2 λg3 fl3 up3=>?_
  have J3:Inv X aB σ' H' { s1 with heap:=g3 }:=J.flown hn hH fl3.stays ((up1.trans up2).trans up3);have J4:=J3.adopt (cls:=cls) ne f2 fl3.there;refine qEd J4 nd hi (.inl hx) (v:=.ref ea) rfl (λs5 J5=>?_) (.inr hx);refine hDy (hsx aB s5 _ _ _ (J5.move (λ_ z=>z) rfl (λz=>by cases z)) hr1) (λf s6 q=>?_) λ_ _ z=>z.elim
  cases f with
  |next=>obtain⟨σ2,H2,K2,q⟩:=q;exact qCm (back2 K2) nd hi hx λs' K3=>⟨_,_,K3,q⟩
  |brk=>obtain⟨σ2,H2,K2,q⟩:=q;exact qCm (back2 K2) nd hi hx λs' K3=>⟨_,_,K3,q⟩
  |cont=>obtain⟨σ2,H2,K2,q⟩:=q;exact qCm (back2 K2) nd hi hx λs' K3=>⟨_,_,K3,q⟩
  |ret u=>obtain⟨v,σ2,H2,K2,r,q⟩:=q;exact qCm (back2 K2) nd hi hx λs' K3=>⟨v,_,_,K3,r,q⟩
end
end L2
namespace My
open PySem L2
theorem qRr:bootBuiltins "ValueError"=some (.type "ValueError"):=by decide +kernel
structure Refs(K:PySem.W.Frag)(mg:Str->Option Value)(CN CT R:Addr):Prop where
 zN:XCls K CN
 zT:XCls K CT
 re:mg "RoundError"=some (.ref R)
 mN:mg "NoText"=some (.ref CN)
 mT:mg "TooMany"=some (.ref CT)
 ve:mg "ValueError"=none
 is:mg "isinstance"=none
 xNN:PySem.W.exmOne K (.ref CN) (.ref CN)=some true
 xTN:PySem.W.exmOne K (.ref CT) (.ref CN)=some false
 xTT:PySem.W.exmOne K (.ref CT) (.ref CT)=some true
 rN:PySem.W.kitOne K (.ref CN) (.ref R)=some true
 rT:PySem.W.kitOne K (.ref CT) (.ref R)=some true
 vN:PySem.W.kitOne K (.ref CN) (.type "ValueError")=some true
 vT:PySem.W.kitOne K (.ref CT) (.type "ValueError")=some true
 nt:PySem.W.kitOne K (.ref CN) (.ref CT)=some false
theorem qQp{s:Str}{net:List Tr}(tx:TX s)(g:qRw s net):SmN net:=λt ht=>by
 have h:=(qLp tx).2 (trL t) (by rw[qGw g];exact hB3 ht);exact⟨(h.2 _ (by simp[trL])).2,(h.2 _ (by simp[trL])).2,(h.2 _ (by simp[trL])).2⟩
theorem qTg{K:PySem.W.Frag}{H:Hp}{T:Addr}{aA:List Str}{rows:List (List Str)}(h:qHe H T aA rows):DR K H (.ref T) (qXv aA rows):=by
 obtain⟨a,b,hT,ha,hb⟩:=h;exact .tup (SqT.of hT) (.cons (qEp ha) (.cons (qRf hb) .nil))
def qHn(K:PySem.W.Frag):Sp:=λvs H Q _=>∃(wy:Int) (v:V),vs=[.int wy,v]/\((qOr K H v/\∀H',Ext H H'->Q (.str "NoText") H')\/∃s:Str,v = .str s/\TX s /\
 ((wy=0/\∀u D H',Ext H H'->DR K H' u D->qKo s D->Q u H')\/(wy=1/\∀u D H',Ext H H'->DR K H' u D->qKq s D->Q u H')))
section
variable{P:Program}{w:World}{K:PySem.W.Frag}{mg:Str->Option Value}{base:Heap}{f f1 f2 CN CT R:Addr}{fd fd1 fd2:FuncData}
abbrev toN:List Str:=["_law_way","_law_text","e"]
theorem qT7:FnScope toN ["_law_way","_law_text"] (qAa qN8):=fsk
theorem zBc{α:Type}{l:List α}(h:l.length=3):∃a b c,l=[a,b,c]:=match l,h with | [a,b,c],_=>⟨a,b,c,rfl⟩
theorem qWe(F:Fun K "_law_told" "_law_told" qN8 f fd)(Z:Refs K mg CN CT R)(mi:mg "int"=none)
  (G1:Cl P w K mg base (CXe P w) 5 f1 fd1 ["text"] (qYj K CN CT) "read_table")
  (G2:Cl P w K mg base (CXe P w) 7 f2 fd2 ["text"] (qYk K CN CT) "read_net") :
  v6 8 f fd ["_law_way","_law_text"] (qHn K):=by
 refine F.okA qT7 λcdv A outer s H vs Q E hr h=>?_
 obtain⟨wy,v,rfl,h⟩:=h;have hr5:=hr.mono (j:=5) (by decide);refine⟨_,qAd (qV2 (C:=CN) (C2:=CT) (i:=2) (E:=λcls _ H'=>Ext H H'/\((cls = .ref CN/\∀H2,Ext H H2->Q (.str "NoText") H2)\/(cls = .ref CT/\∀H2,Ext H H2->Q (.str "TooMany") H2)))
   (λxe pn hP=>qAb (qBb (qAl qC7 (pv 0) qAc (qAp _)) (qAd (qAo (qAy G1 hr5 rfl .nil hP (pa1 (pv 1))))) qAu)
    (qAd (qAo (qAy G2 hr rfl .nil hP (pa1 (pv 1))))))
   rfl Z.mN rfl Z.mT
   (λev=>qAd (qAo (qAg qEj qA1 (qBd qFf rfl mi qFh (qAe
    (qGu (qAf (show qB9 _ _ (qX1 K) from qFe) rfl Z.is qA6 (qAe (pv 2) (pa1 (qCd (v:=.ref R) rfl Z.re rfl))))
    (qHs (qAf (show qB9 _ _ (qX1 K) from qFe) rfl Z.is qA6 (qAe (pv 2) (pa1 (qC6 (v:=.ty "ValueError") rfl Z.ve qRr rfl)))))) qA3)))))
   (λev=>qAd (qAo (qAg qEj qA1 (qBd qFf rfl mi qFh (qAe
    (qGu (qAf (show qB9 _ _ (qX1 K) from qFe) rfl Z.is qA6 (qAe (pv 2) (pa1 (qCd (v:=.ref R) rfl Z.re rfl))))
    (qGu (qAf (show qB9 _ _ (qX1 K) from qFe) rfl Z.is qA6 (qAe (pv 2) (pa1 (qC6 (v:=.ty "ValueError") rfl Z.ve qRr rfl))))
    (qHs (qY6 (qAf (show qB9 _ _ (qX1 K) from qFe) rfl Z.is qA6 (qAe (pv 2) (pa1 (qCd (v:=.ref CT) rfl Z.mT rfl)))))))) qA3)))))
   qT7.nd rfl rfl rfl rfl rfl),?_⟩
 refine⟨?_,λcls H' ea σ' hE he hl=>?_⟩
 ·refine⟨_,rfl,rfl,_,rfl,?_⟩;rcases h with ⟨ns,q⟩|⟨s0,rfl,tx,⟨rfl,q⟩|⟨rfl,q⟩⟩
  ·refine qBp (λ_=>?_) (λ_=>?_)
   ·exact⟨_,rfl,v,rfl,.inl ⟨ns,λH' e=>⟨e,.inl ⟨rfl,q⟩⟩⟩⟩
   ·exact⟨_,rfl,v,rfl,.inl ⟨ns,λH' e=>⟨e,.inl ⟨rfl,q⟩⟩⟩⟩
  ·rw[hDr rfl];exact iteT ⟨_,rfl,_,rfl,.inr ⟨s0,rfl,tx,λng H' e=>⟨e,.inl ⟨rfl,λH2 e2=>q _ _ H2 e2 (.str _) (.inl ⟨ng,rfl⟩)⟩⟩,λg nb H' e=>⟨e,.inr ⟨rfl,λH2 e2=>q _ _ H2 e2 (.str _) (.inr (.inl ⟨g,nb,rfl⟩))⟩⟩,λg b T H' e ti=>q _ _ H' e (qTg ti) (.inr (.inr ⟨g,b,rfl⟩))⟩⟩
  ·rw[hDs (by intro z;cases z)];exact qEo ⟨_,rfl,_,rfl,.inr ⟨s0,rfl,tx,λng H' e=>⟨e,.inl ⟨rfl,λH2 e2=>q _ _ H2 e2 (.str _) (.inl ⟨ng,rfl⟩)⟩⟩,λnet g nb H' e=>⟨e,.inr ⟨rfl,λH2 e2=>q _ _ H2 e2 (.str _) (.inr ⟨net,g,qQp tx g,.inl ⟨nb,rfl⟩⟩)⟩⟩,λnet g b r H' e na=>q _ _ H' e (qUy na) (.inr ⟨net,g,qQp tx g,.inr ⟨b,rfl⟩⟩)⟩⟩
 obtain⟨e1,hE⟩:=hE;obtain⟨s0,s1,s2,rfl⟩:=zBc hl;rcases hE with ⟨rfl,q⟩|⟨rfl,q⟩
 ·refine .inl ⟨Z.xNN,?_⟩;have hx:upd H' ea (exO ea (.ref CN)) ea=some (exO ea (.ref CN)):=upd_same;have E1:Ext H (upd H' ea (exO ea (.ref CN))):=e1.trans (Ext.new he _);refine⟨_,rfl,⟨ea,CN,.ref R,.ref R,true,rfl,hx,Z.zN,λu r=>r,Z.rN,true,rfl,iteT ?_⟩⟩;refine⟨_,rfl,⟨ea,CN,.ty "ValueError",.type "ValueError",true,rfl,hx,Z.zN,λu r=>r,Z.vN,true,rfl,iteT ?_⟩⟩;refine⟨_,rfl,⟨ea,CN,.ref CT,.ref CT,false,rfl,hx,Z.zN,λu r=>r,Z.nt,false,rfl,.inr ⟨true,rfl,?_⟩⟩⟩;exact⟨_,_,rfl,rfl,by decide,by decide,by decide,q _ E1⟩
 ·refine .inr ⟨Z.xTN,Z.xTT,?_⟩;have hx:upd H' ea (exO ea (.ref CT)) ea=some (exO ea (.ref CT)):=upd_same;have E1:Ext H (upd H' ea (exO ea (.ref CT))):=e1.trans (Ext.new he _);refine⟨_,rfl,⟨ea,CT,.ref R,.ref R,true,rfl,hx,Z.zT,λu r=>r,Z.rT,true,rfl,iteT ?_⟩⟩;refine⟨_,rfl,⟨ea,CT,.ty "ValueError",.type "ValueError",true,rfl,hx,Z.zT,λu r=>r,Z.vT,.inr ⟨true,rfl,?_⟩⟩⟩;exact⟨_,_,rfl,rfl,by decide,by decide,by decide,q _ E1⟩
end
theorem qS6(u:Option Int){i:Int}{n:Nat}(h:(n:Int)<=i):PySem.Builtin.Str.strSliceIndices (some i) u 1 n=PySem.Builtin.Str.strSliceIndices (some (n:Int)) u 1 n:=by
 have a:¬i<0:=by omega
 have b:¬((n:Int)<0):=by omega
 have c:min i (n:Int)=n:=by omega
 simp[PySem.Builtin.Str.strSliceIndices,a,b,c]
theorem zAa{x:Str}{j:Int}(h0:0<=j)(h1:j<=x.length):cps (Txt.slice x none (some j))=(cps x).take j.toNat:=by
 have e:Txt.slice x none (some j)=_:=PySem.StrLaws.sliceText_to (x:=x) (j:=j) ⟨h0,h1⟩;rw[e];show((x.cps.toList.drop 0).take (j-0).toNat).toArray.toList=_;rw[List.drop_zero,Int.sub_zero]
theorem qKd{x:Str}{j:Int}(h0:0<=j)(h1:j<=x.length):cps (Txt.slice x (some j) none)=(cps x).drop j.toNat:=by
 have e:Txt.slice x (some j) none=_:=PySem.StrLaws.sliceText_from (x:=x) (i:=j) ⟨h0,h1⟩;rw[e];show((x.cps.toList.drop j.toNat).take ((x.cps.toList.length:Int)-j).toNat).toArray.toList=_;refine hA6 ?_;rw[hCn];omega
theorem qTj{x:Str}{j:Int}(h0:0<=j):cps (Txt.slice x (some j) none)=(cps x).drop j.toNat:=by
 by_cases h1:j<=x.length
 ·exact qKd h0 h1
 ·have e:Txt.slice x (some j) none=Txt.slice x (some (x.length:Int)) none:=by
   unfold Txt.slice;rw[qS6 none (by omega)]
  rw[e,qKd (by omega) (by omega)];have l:(cps x).length=x.length:=by simp[cps,Str.length]
  rw[List.drop_of_length_le (by omega),List.drop_of_length_le (by omega)]
abbrev bs16:Str:="ab1z -/,-  A.:_0"
theorem zAd:bs16.cps.toList.length=16:=by decide +kernel
def bsC(i:Nat):Nat:=bs16.cps.toList.getD i 0
theorem zBl{i:Int}(h0:0<=i)(h1:i<16):atI bs16.cps.toList i=some (bsC i.toNat):=by
 have hk:i.toNat<bs16.cps.toList.length:=by rw[zAd];omega
 have:=qA5 (xs:=bs16.cps.toList) (j:=i.toNat) (v:=bsC i.toNat) (by
  unfold bsC;rw[hA8,hA2 hk];rfl)
 rw[hCs h0]at this;exact this
theorem qTk(i:Nat):bsC i<128:=by
 have:∀c∈bs16.cps.toList,c<128:=by decide +kernel
 unfold bsC;by_cases h:i<bs16.cps.toList.length
 ·rw[hA8,hA2 h];exact this _ (hBl h)
 ·rw[hA8,hBd (by omega)];decide
def EdN:Nat->Str->Str->Prop
 |0,s,t=>s=t
 |n+1,s,t=>∃u,EdN n s u/\Ed u t
theorem EdN.len:∀ {n:Nat} {s t:Str},EdN n s t->t.length<=s.length+n
 |0,_,_,h=>by rw[show _=_ from h];omega
 |n+1,_,_,⟨u,h1,h2⟩=>by have:=h1.len;have:=h2.len;omega
def Bt(s t:Str):Prop:=s=t\/Ed s t\/∃u,Ed s u/\Ed u t
theorem EdN.bt{n:Nat}{s t:Str}(h:EdN n s t)(l:n<=2):Bt s t:=by
 match n,h with
 |0,h=>exact .inl h
 |1,⟨u,h1,h2⟩=>cases h1;exact .inr (.inl h2)
 |2,⟨u,⟨u2,h0,h1⟩,h2⟩=>cases h0;exact .inr (.inr ⟨u,h1,h2⟩)
def qJo:Sp:=λvs H Q _=>∃(s:Str) (b:Int),vs=[.str s,.int b]/\s.length<=2000/\∀t,Bt s t->Q (.str t) H
theorem qW7{c:Nat}(b:Bool):cps (Txt.mul ⟨#[c]⟩ (if b=true then 1 else 0))=if b=true then [c] else []:=by
 cases b <;> rfl
theorem zBj{t:Str}{spot:Int}{c:Nat}(b1 b2:Bool)(h0:0<=spot)(h1:spot<=t.length)(hc:c<128) :
  Ed t (Txt.slice t none (some spot)++Txt.mul ⟨#[c]⟩ (if b1=true then 1 else 0)++Txt.slice t (some (spot+if b2=true then 1 else 0)) none):=by
 refine⟨spot.toNat,(spot+if b2=true then 1 else 0).toNat,if b1=true then [c] else [],?_,?_,?_,?_⟩
 ·show(Txt.slice t none (some spot)++Txt.mul ⟨#[c]⟩ (if b1=true then 1 else 0)++Txt.slice t (some (spot+if b2=true then 1 else 0)) none).cps.toList=_;rw[Str.cps_append,hDk,Str.cps_append,hDk];have e1:=zAa (x:=t) h0 h1;have e2:=qW7 (c:=c) b1;have e3:=qTj (x:=t) (j:=spot+if b2=true then 1 else 0) (by cases b2 <;> simp <;> omega);unfold cps at e1 e2 e3;rw[e1,e2,e3]
 ·cases b2 <;> simp <;> omega
 ·cases b1 <;> simp
 ·intro d hd;cases b1
  ·simp at hd
  ·have:d=c:=by simpa using hd
   omega
theorem zCt(b:Bool)(c:Nat):(Txt.mul ⟨#[c]⟩ (if b=true then 1 else 0)).length<=1:=by
 cases b
 ·exact hAs _
 ·exact hA3 _
theorem zB4(b:Bool):(0:Int)<=(if b=true then 1 else 0)/\(if b=true then 1 else 0)<=(100:Int):=by cases b <;> decide
section
variable{P:Program}{w:World}{K:PySem.W.Frag}{mg:Str->Option Value}{base:Heap}{f f1:Addr}{fd fd1:FuncData}
abbrev beN:List Str:=["_law_text","_law_big_here","_law_signs","_law_k","_law_spot","_law_sign","_law_way"]
theorem qE0:FnScope beN ["_law_text","_law_big_here"] (qAa qOg):=fsk
theorem qW2(F:Fun K "_law_bent" "_law_bent" qOg f fd)(mr:mg "range"=none)(ml:mg "len"=none)(mi:mg "int"=none):v6 1 f fd ["_law_text","_law_big_here"] qJo:=by
 refine F.okA qE0 λcdv A outer s H vs Q E hr h=>?_
 obtain⟨s0,b,rfl,hl,q⟩:=h;refine⟨_,(qAb (v0 2 qE0 qA1)
  (qAb (qBs PassesOwn.never rfl (qBg rfl mr (pa1 (qAg qA9 (pv 1) qAc))) (v3 3 qE0)
   (qAb (v0 1 qE0 (qAg qA2 (pv 1) qAc))
   (qAb (v0 4 qE0 (qAg qA9 (pv 1) (qAg qBh (qAf qCn rfl ml hAr (pa1 (pv 0))) qAc)))
   (qAb (v0 5 qE0 (qBm qQ1 (pv 2) (qAg qA9 (qAg qA2 (pv 1) qAc) qAc) (λ_ _=>rfl)))
   (qAb (v0 6 qE0 (qAg qA9 (qAg qA2 (pv 1) qAc) qAc))
   (qAb (v0 0 qE0 (qAg qC0 (qAg qC0 (qB6 qMl (pv 0) qC5 (qC4 (pv 4))) (qAg qEj (pv 5) (qBd qFf rfl mi qFh (pa1 (qCe qEt (pv 6) qAc (qAp _))))))
     (qB6 qMl (pv 0) (qC4 (qAg qBh (pv 4) (qBd qFf rfl mi qFh (pa1 (qCe qFp (pv 6) qAc (qAp _)))))) qC5)))
   (qAd (v0 1 qE0 (qAg qA2 (pv 1) qAc)))))))))
  (qAd (qAo (pv 0))))),?_⟩
 have b3:=hAw b (show(3:Int)≠0 by decide);have b3':=hAp b (show(0:Int)<3 by decide);refine⟨_,rfl,_,_,rfl,rfl,(by show(0:Int)<_;decide),b % 3,rfl,by omega,by omega,?_⟩;refine qBt (lo:=0) (n:=(b % 3).toNat) (λi σ H'=>H'=H/\∃(b':Int) (t:Str) (x3 x4 x5 x6:Option V),σ=[some (.str t),some (.int b'),some (.str bs16),x3,x4,x5,x6]/\EdN i s0 t) ⟨rfl,b,s0,none,none,none,none,rfl,rfl⟩ ?_ ?_
 ·rintro i σ H' hi ⟨rfl,b',t,x3,x4,x5,x6,rfl,ed⟩;have lt:=ed.len;have wl:t.length<=sizeLine:=qBr (by omega);have s1:=hAw (b' / 3) (show((t.length:Nat):Int)+1≠0 by omega);have s2:=hAp (b' / 3) (show(0:Int)<((t.length:Nat):Int)+1 by omega);have c1:=hAw (b' / 3 / 1024) (show(16:Int)≠0 by decide);have c2:=hAp (b' / 3 / 1024) (show(0:Int)<16 by decide);refine⟨_,rfl,_,_,rfl,rfl,⟨by decide,by decide⟩,?_⟩;refine⟨_,rfl,_,rfl,t,rfl,wl,_,_,rfl,rfl,_,_,rfl,rfl,(by omega),?_⟩;refine⟨_,rfl,_,rfl,_,_,rfl,rfl,⟨by decide,by decide⟩,_,_,rfl,rfl,(by show(0:Int)<_;decide),bs16,_,bsC (b' / 3 / 1024 % 16).toNat,rfl,rfl,by decide +kernel,zBl c1 c2,?_⟩;refine⟨_,rfl,_,_,rfl,rfl,⟨by decide,by decide⟩,_,_,rfl,rfl,(by show(0:Int)<_;decide),?_⟩;have hed:=zBj (t:=t) (spot:=b' / 3 % (((t.length:Nat):Int)+1)) (c:=bsC (b' / 3 / 1024 % 16).toNat) (decide (b' / 3 / 16384 % 3<2)) (decide ((0:Int)<b' / 3 / 16384 % 3)) s1 (by omega) (qTk _);have l1:=Txt.slice_le t none (some (b' / 3 % (((t.length:Nat):Int)+1)));have ml1:=zCt (decide (b' / 3 / 16384 % 3<2)) (bsC (b' / 3 / 1024 % 16).toNat);have l2:=Txt.slice_le t (some (b' / 3 % (((t.length:Nat):Int)+1)+if decide ((0:Int)<b' / 3 / 16384 % 3)=true then 1 else 0)) none;refine⟨_,rfl,_,rfl,_,rfl,t,rfl,wl,_,rfl,_,rfl,_,_,rfl,rfl,.inr ⟨_,rfl,?_⟩⟩;refine⟨_,_,rfl,rfl,(by show 1<=100;decide),(zB4 _).1,(zB4 _).2,?_⟩;refine⟨_,_,rfl,rfl,qBr (by omega),?_⟩;refine⟨_,rfl,_,rfl,_,rfl,_,_,rfl,rfl,.inr ⟨_,rfl,?_⟩⟩;refine⟨_,_,rfl,rfl,_,rfl,t,rfl,wl,_,_,rfl,rfl,qBr (by have h:=hed.len;rw[Str.length_append]at h;omega),?_⟩;refine⟨_,rfl,_,_,rfl,rfl,⟨by decide,by decide⟩,?_⟩;exact⟨rfl,_,_,_,_,_,_,rfl,t,ed,hed⟩
 ·rintro σ H' ⟨rfl,b',t,x3,x4,x5,x6,rfl,ed⟩;exact⟨_,rfl,q t (ed.bt (by omega))⟩
end
theorem qGz(c:Nat)(y:List Nat){n:Nat}:∀B:List (List Nat),(∀b∈B,b.count c<=n)->(jn y B).count c<=B.length*n+(B.length-1)*y.count c
 |[],_=>by simp[jn]
 |[b],h=>by simpa [jn] using h b hA5
 |b :: e :: r,h=>by
  have ih:=qGz c y (e :: r) λx hx=>h x (hA4 _ hx)
  have h1:=h b hA5;show(b++y++jn y (e :: r)).count c<=_;rw[hBs,hBs];have e1:(b :: e :: r).length=(e :: r).length+1:=rfl;have e2:(e :: r).length-1+1=(e :: r).length:=by simp
  rw[e1,Nat.succ_mul,Nat.add_sub_cancel];have e3:(e :: r).length*y.count c=((e :: r).length-1)*y.count c+y.count c:=by rw[<-Nat.succ_mul,Nat.succ_eq_add_one,e2]
  omega
theorem qJ8(y:List Nat){n:Nat}:∀B:List (List Nat),(∀b∈B,b.length<=n)->(jn y B).length<=B.length*(n+y.length)
 |[],_=>by simp[jn]
 |[b],h=>by
  have:=h b hA5;show b.length<=1*_;omega
 |b :: e :: r,h=>by
  have ih:=qJ8 y (e :: r) λx hx=>h x (hA4 _ hx)
  have h1:=h b hA5;show(b++y++jn y (e :: r)).length<=_;rw[hA9,hA9];have e1:(b :: e :: r).length=(e :: r).length+1:=rfl;rw[e1,Nat.succ_mul];omega
theorem qBi{z:Str}{ss:List Str}{c n m:Nat}(h:∀s∈ss,(cps s).count c<=n)(l:ss.length<=m):(cps (Txt.join z ss)).count c<=m*n+(m-1)*(cps z).count c:=by
 have:=qGz c (cps z) (n:=n) (ss.map cps) λb hb=>by
  obtain⟨s,hs,rfl⟩:=hAb.mp hb;exact h s hs
 rw[hA1]at this;have e:cps (Txt.join z ss)=jn (cps z) (ss.map cps):=qDj z ss;rw[e];have h1:ss.length*n<=m*n:=Nat.mul_le_mul_right _ l;have h2:(ss.length-1)*(cps z).count c<=(m-1)*(cps z).count c:=Nat.mul_le_mul_right _ (by omega);omega
theorem qL3(s:Str):(cps s).length=s.length:=by simp[cps,Str.length]
theorem qDk{z:Str}{ss:List Str}{n m:Nat}(h:∀s∈ss,s.length<=n)(l:ss.length<=m):(Txt.join z ss).length<=m*(n+z.length):=by
 have:=qJ8 (cps z) (n:=n) (ss.map cps) λb hb=>by
  obtain⟨s,hs,rfl⟩:=hAb.mp hb;rw[qL3];exact h s hs
 rw[hA1,qL3]at this;have e:cps (Txt.join z ss)=jn (cps z) (ss.map cps):=qDj z ss;rw[<-e,qL3]at this;exact hAv this (Nat.mul_le_mul_right _ l)
theorem qIu{z:Str}{ss:List Str}(hz:Sm z)(h:∀s∈ss,Sm s):Sm (Txt.join z ss):=λc hc=>by
 have e:cps (Txt.join z ss)=jn (cps z) (ss.map cps):=qDj z ss;have hc':c∈jn (cps z) (ss.map cps):=by rw[<-e];exact hc
 rcases qQz hc' with w|⟨b,hb,w⟩
 ·exact hz c w
 ·obtain⟨s,hs,rfl⟩:=hAb.mp hb;exact h s hs c w
theorem qPp:∀c∈sg.cps.toList,c≠32/\c≠47/\c≠44:=by decide +kernel
theorem qDz.sm{s:Str}(h:qDz s):Sm s:=λc hc=>qR7 c (h.1 c hc)
theorem qDz.no{s:Str}(h:qDz s):(cps s).count 32=0/\(cps s).count 47=0/\(cps s).count 44=0 :=
 ⟨List.count_eq_zero.mpr λz=>(qPp _ (h.1 _ z)).1 rfl,List.count_eq_zero.mpr λz=>(qPp _ (h.1 _ z)).2.1 rfl,List.count_eq_zero.mpr λz=>(qPp _ (h.1 _ z)).2.2 rfl⟩
def wrF(row:List Str):Str:=if row=[] then "-" else Txt.join " " row
def tbW(aA:List Str)(rows:List (List Str)):Str:=Txt.join " / " ((aA :: rows).map wrF)
def tiW(t:Tr):Str:=Txt.join " " [t.1,t.2.1,t.2.2]
def ntJ(net:List Tr):Str:=Txt.join ", " (net.map tiW)
theorem qK1{s:Str}(h:(s.cps.toList.all λc=>decide (c<128))=true):Sm s:=λc hc=>hDu ((hC0.mp h) c hc)
structure WrOk(s:Str):Prop where
 len:s.length<=84
 sm:Sm s
 b:(cps s).count 32<=12
 sl:(cps s).count 47=0
 co:(cps s).count 44=0
theorem qVa{row:List Str}(h:∀n∈row,qDz n)(l:row.length<=12):WrOk (wrF row):=by
 unfold wrF;split
 ·exact⟨by decide,qK1 (by decide +kernel),by decide +kernel,by decide +kernel,by decide +kernel⟩
 ·have c32:=qBi (z:=" ") (ss:=row) (c:=32) (n:=0) (m:=12) (λs hs=>by rw[(h s hs).no.1];exact hA3 _) l;have c47:=qBi (z:=" ") (ss:=row) (c:=47) (n:=0) (m:=12) (λs hs=>by rw[(h s hs).no.2.1];exact hA3 _) l;have c44:=qBi (z:=" ") (ss:=row) (c:=44) (n:=0) (m:=12) (λs hs=>by rw[(h s hs).no.2.2];exact hA3 _) l;have ln:=qDk (z:=" ") (ss:=row) (n:=6) (m:=12) (λs hs=>(h s hs).2.2) l;have e32:(cps " ").count 32=1:=by decide +kernel
  have e47:(cps " ").count 47=0:=by decide +kernel
  have e44:(cps " ").count 44=0:=by decide +kernel
  have el:(" " : Str).length=1:=by decide +kernel
  rw[e32]at c32;rw[e47]at c47;rw[e44]at c44;rw[el]at ln;exact⟨by omega,qIu (qK1 (by decide +kernel)) λs hs=>(h s hs).sm,by omega,by omega,by omega⟩
theorem qXq:∀(B:List (List Nat)) (pre:List Nat),(∀b∈B,b.count 32<=12)->pre.count 32<=1->BL 14 (pre++jn [32,47,32] B)
 |[],pre,_,h=>BL.tot (by rw[show jn [32,47,32] []=[] from rfl,hC7];omega)
 |[b],pre,hB,h=>BL.tot (by
  have:=hB b hA5;rw[show jn [32,47,32] [b]=b from rfl,hBs];omega)
 |b :: e :: r,pre,hB,h=>by
  have ih:=qXq (e :: r) [32] (λx hx=>hB x (hA4 _ hx)) (by decide);have hb:=hB b hA5;have e1:pre++jn [32,47,32] (b :: e :: r)=(pre++b++[32])++47 :: ([32]++jn [32,47,32] (e :: r)):=by
   show pre++(b++[32,47,32]++jn [32,47,32] (e :: r))=_;simp
  rw[e1];exact BL.cut (BL.tot (by rw[hBs,hBs];have:([32]:List Nat).count 32=1:=(by decide);omega)) ih
theorem zAn{aA:List Str}{rows:List (List Str)}(h:∀r∈aA :: rows,(∀n∈r,qDz n)/\r.length<=12)(l:rows.length<=16){t:Str}(b:Bt (tbW aA rows) t):TX t:=by
 have wr:∀s∈(aA :: rows).map wrF,WrOk s:=λs hs=>by
  obtain⟨r,hr,rfl⟩:=hAb.mp hs;exact qVa (h r hr).1 (h r hr).2
 have lm:((aA :: rows).map wrF).length<=17:=by rw[hA1,hB2];omega
 have c47:=qBi (z:=" / ") (ss:=(aA :: rows).map wrF) (c:=47) (n:=0) (m:=17) (λs hs=>by rw[(wr s hs).sl];exact hA3 _) lm;have c44:=qBi (z:=" / ") (ss:=(aA :: rows).map wrF) (c:=44) (n:=0) (m:=17) (λs hs=>by rw[(wr s hs).co];exact hA3 _) lm;have ln:=qDk (z:=" / ") (ss:=(aA :: rows).map wrF) (n:=84) (m:=17) (λs hs=>(wr s hs).len) lm;have e47:(cps " / ").count 47=1:=by decide +kernel
 have e44:(cps " / ").count 44=0:=by decide +kernel
 have el:(" / " : Str).length=3:=by decide +kernel
 rw[e47]at c47;rw[e44]at c44;rw[el]at ln;refine TX.of_table ⟨by omega,by omega,by omega,qIu (qK1 (by decide +kernel)) λs hs=>(wr s hs).sm,?_⟩ b;have e:cps (Txt.join " / " ((aA :: rows).map wrF))=jn (cps " / ") (((aA :: rows).map wrF).map cps):=qDj _ _;rw[e,show cps (" / " : Str)=[32,47,32] by decide +kernel];have:=qXq (((aA :: rows).map wrF).map cps) [] (λx hx=>by
  obtain⟨s,hs,rfl⟩:=hAb.mp hx;exact(wr s hs).b) (by decide)
 rw[List.nil_append]at this;exact this
theorem qVb{t:Tr}(h:TxT t):(tiW t).length<=21/\Sm (tiW t)/\(cps (tiW t)).count 32<=2/\(cps (tiW t)).count 47=0/\(cps (tiW t)).count 44=0:=by
 have nm:∀s∈[t.1,t.2.1,t.2.2],qDz s:=λs hs=>by
  simp only[hAc,hBf,hEa]at hs;rcases hs with rfl|rfl|rfl
  ·exact h.1
  ·exact h.2.1
  ·exact h.2.2.1
 have l3:[t.1,t.2.1,t.2.2].length<=3:=hA3 _;have c32:=qBi (z:=" ") (ss:=[t.1,t.2.1,t.2.2]) (c:=32) (n:=0) (m:=3) (λs hs=>by rw[(nm s hs).no.1];exact hA3 _) l3;have c47:=qBi (z:=" ") (ss:=[t.1,t.2.1,t.2.2]) (c:=47) (n:=0) (m:=3) (λs hs=>by rw[(nm s hs).no.2.1];exact hA3 _) l3;have c44:=qBi (z:=" ") (ss:=[t.1,t.2.1,t.2.2]) (c:=44) (n:=0) (m:=3) (λs hs=>by rw[(nm s hs).no.2.2];exact hA3 _) l3;have ln:=qDk (z:=" ") (ss:=[t.1,t.2.1,t.2.2]) (n:=6) (m:=3) (λs hs=>(nm s hs).2.2) l3;have e32:(cps " ").count 32=1:=by decide +kernel
 have e47:(cps " ").count 47=0:=by decide +kernel
 have e44:(cps " ").count 44=0:=by decide +kernel
 have el:(" " : Str).length=1:=by decide +kernel
 rw[e32]at c32;rw[e47]at c47;rw[e44]at c44;rw[el]at ln;exact⟨ln,qIu (qK1 (by decide +kernel)) λs hs=>(nm s hs).sm,c32,by unfold tiW;omega,by unfold tiW;omega⟩
theorem zA9{net:List Tr}(h:TxN net)(l:net.length<=12){t:Str}(b:Bt (ntJ net) t):TX t:=by
 have ti:∀s∈net.map tiW,s.length<=21/\Sm s/\(cps s).count 32<=2/\(cps s).count 47=0/\(cps s).count 44=0:=λs hs=>by
  obtain⟨u,hu,rfl⟩:=hAb.mp hs;exact qVb (h u hu)
 have lm:(net.map tiW).length<=12:=by rw[hA1];exact l
 have c32:=qBi (z:=", ") (ss:=net.map tiW) (c:=32) (n:=2) (m:=12) (λs hs=>(ti s hs).2.2.1) lm;have c47:=qBi (z:=", ") (ss:=net.map tiW) (c:=47) (n:=0) (m:=12) (λs hs=>by rw[(ti s hs).2.2.2.1];exact hA3 _) lm;have c44:=qBi (z:=", ") (ss:=net.map tiW) (c:=44) (n:=0) (m:=12) (λs hs=>by rw[(ti s hs).2.2.2.2];exact hA3 _) lm;have ln:=qDk (z:=", ") (ss:=net.map tiW) (n:=21) (m:=12) (λs hs=>(ti s hs).1) lm;have e32:(cps ", ").count 32=1:=by decide +kernel
 have e47:(cps ", ").count 47=0:=by decide +kernel
 have e44:(cps ", ").count 44=1:=by decide +kernel
 have el:(", " : Str).length=2:=by decide +kernel
 rw[e32]at c32;rw[e47]at c47;rw[e44]at c44;rw[el]at ln;exact TX.of_net ⟨by omega,by omega,by omega,qIu (qK1 (by decide +kernel)) λs hs=>(ti s hs).2.1,by omega⟩ b
theorem zBi{t:Str}(b:Bt "" t):TX t:=TX.of_net ⟨by decide +kernel,by decide +kernel,by decide,Sm.nil,by decide +kernel⟩ b
def dsh(n:Nat):Str:=("a" : Str)++Txt.mul " / -" (n:Int)
theorem qUw:TX (dsh 16)/\TX (dsh 17):=by
 have bl:∀n,n=16\/n=17->cps (dsh n)=jn [32,47,32] ([97] :: List.replicate n [45]):=by
  rintro n (rfl|rfl) <;> decide +kernel
 have b:∀n,n=16\/n=17->BL 59 (cps (dsh n)):=λn hn=>by
  rw[bl n hn];have:=qXq ([97] :: List.replicate n [45]) [] (λx hx=>by
   rcases hAc.mp hx with rfl|hx
   ·decide
   ·rw[(List.mem_replicate.mp hx).2];decide) (by decide)
  rw[List.nil_append]at this;exact λv i no=>hAv (this v i no) (by decide)
 exact⟨⟨by decide +kernel,qK1 (by decide +kernel),by decide +kernel,by decide +kernel,b _ (.inl rfl)⟩,⟨by decide +kernel,qK1 (by decide +kernel),by decide +kernel,by decide +kernel,b _ (.inr rfl)⟩⟩
theorem qVe{K:PySem.W.Frag}{H H':Hp}{a:Addr}{xs:List V}(e:Ext H H')(h:SqT K H a xs):SqT K H' a xs:=by
 rcases h with (h|⟨o,h⟩)|h
 ·exact .inl (.inl (e _ _ h))
 ·exact .inl (.inr ⟨o,e _ _ h⟩)
 ·exact .inr h
mutual
theorem DR.ext{K:PySem.W.Frag}{H H':Hp}(e:Ext H H'):∀ {v:V} {d:PyData},DR K H v d->DR K H' v d
 |_,_,.non=>.non
 |_,_,.bl b=>.bl b
 |_,_,.int i=>.int i
 |_,_,.str s=>.str s
 |_,_,.lst h t=>.lst (e.sqL h) (DRs.ext e t)
 |_,_,.tup h t=>.tup (qVe e h) (DRs.ext e t)
theorem DRs.ext{K:PySem.W.Frag}{H H':Hp}(e:Ext H H'):∀ {vs:List V} {ds:List PyData},DRs K H vs ds->DRs K H' vs ds
 |_,_,.nil=>.nil
 |_,_,.cons h t=>.cons (DR.ext e h) (DRs.ext e t)
end
theorem qI1(s:Str):PyData.eqv (.str s) (.str s)=true:=by
 show(s == s)=true;simp
theorem qKo.same{s:Str}{D D':PyData}(tx:TX s)(h:qKo s D)(h':qKo s D'):D=D'/\PyData.eqv D D=true/\SeqAt.shaped D=true:=by
 have e:D=D':=by
  rcases h with ⟨a,rfl⟩|⟨a,b,rfl⟩|⟨a,b,rfl⟩ <;> rcases h' with ⟨a',rfl⟩|⟨a',b',rfl⟩|⟨a',b',rfl⟩ <;> first|rfl|exact absurd a' a|exact absurd a a'|exact absurd b' b|exact absurd b b'
 refine⟨e,?_⟩;clear e h';rcases h with ⟨a,rfl⟩|⟨a,b,rfl⟩|⟨a,b,rfl⟩
 ·exact⟨qI1 _,by decide +kernel⟩
 ·exact⟨qI1 _,by decide +kernel⟩
 ·have rx:=qIe tx;rw[qIf]at rx;exact⟨qXm _ _,qN5 (λx hx=>((rx _ hA5).2 x hx).2.ok) λr hr x hx=>((rx r (hA4 _ hr)).2 x hx).2.ok⟩
theorem qKq.same{s:Str}{D D':PyData}(h:qKq s D)(h':qKq s D'):D=D'/\PyData.eqv D D=true/\SeqAt.shaped D=true:=by
 have e:D=D':=by
  rcases h with ⟨a,rfl⟩|⟨net,g,sm,b⟩ <;> rcases h' with ⟨a',rfl⟩|⟨net',g',sm',b'⟩
  ·rfl
  ·exact absurd ⟨net',g'⟩ a
  ·exact absurd ⟨net,g⟩ a'
  ·have:net=net':=qE7 (λa b e=>by
    obtain⟨a1,a2,a3⟩:=a;obtain⟨b1,b2,b3⟩:=b;unfold trL at e;simp only[hDc,and_true]at e;obtain⟨rfl,rfl,rfl⟩:=e;rfl) ((qGw g).symm.trans (qGw g'))
   subst this;rcases b with ⟨b,rfl⟩|⟨b,rfl⟩ <;> rcases b' with ⟨b',rfl⟩|⟨b',rfl⟩ <;> first|rfl|exact absurd b' b|exact absurd b b'
 refine⟨e,?_⟩;clear e h';rcases h with ⟨a,rfl⟩|⟨net,g,sm,⟨b,rfl⟩|⟨b,rfl⟩⟩
 ·exact⟨qI1 _,by decide +kernel⟩
 ·exact⟨qI1 _,by decide +kernel⟩
 ·exact⟨qRb _,qN6 sm⟩
end My
namespace My
open PySem L2
structure PSx(X:Cx)(st:Stmt)(t:TS):Prop where
 h:PS X st t
structure PSsx(X:Cx)(l:List Stmt)(t:TS):Prop where
 h:PSs X l t
theorem qQc{X:Cx}{st:Stmt}{t:TS}(h:PSx X st t):PSsx X [st] t:=⟨qAd h.h⟩
theorem qCh{X:Cx}{st:Stmt}{l:List Stmt}{t u:TS}(h:PSx X st t)(r:PSsx X l u):PSsx X (st :: l) (qOt t u):=⟨qAb h.h r.h⟩
theorem qCp{X:Cx}{st:Stmt}{t t':TS}(h:PSx X st t)(i:∀D σ H,t' D σ H->t D σ H):PSx X st t':=⟨λaB s σ H D I hw=>h.h aB s σ H D I (i D σ H hw)⟩
def qPg:Sp:=λvs H Q _=>∃(p:Addr) (row:List Str),vs=[.ref p]/\LsS H p row/\row.length<=20/\(∀n∈row,qDz n)/\∀H',Ext H H'->Q (.str (wrF row)) H'
theorem qMc{f:Str->Nat}{n:Nat}:∀ {l:List Str},(∀x∈l,f x<=n)->(l.map f).sum<=l.length*n
 |[],_=>by simp
 |x :: l,h=>by
  have h1:=h x hA5;have h2:=qMc (l:=l) λy hy=>h y (hA4 _ hy)
  rw[hAu,List.sum_cons,hB2,Nat.succ_mul];omega
section
variable{P:Program}{w:World}{K:PySem.W.Frag}{mg:Str->Option Value}{base:Heap}{f f1 f2 f3 f4 f5 f6 f7:Addr}{fd fd1 fd2 fd3 fd4 fd5 fd6 fd7:FuncData}
theorem qYv:FnScope ["_law_row_here"] ["_law_row_here"] (qAa qOc):=fsk
theorem qWm(F:Fun K "_law_written" "_law_written" qOc f fd):v6 1 f fd ["_law_row_here"] qPg:=by
 refine F.okA qYv λcdv A outer s H vs Q E hr h=>?_
 obtain⟨p,row,rfl,hp,hl,hn,q⟩:=h;refine⟨_,(qAb (qBb (qAl (qZc (qJx hr)) (pv 0) (qBe qA3) (qAp _)) (qAd (qAo qA1)) qAu)
  (qAd (qAo (qB8 hB0 hDd hDe qLt qA1 (pa1 (pv 0)))))),?_⟩
 refine⟨_,rfl,hAs _,λl hl'=>?_⟩;have X1:=Ext.new hl' (.lst []);have ok:SOk row:=λn h=>(hn n h).sm.ok
 refine⟨_,_,qEp (X1 _ _ hp),qEp (show LsS _ l [] from upd_same),qCz ok,qCz (λx hx=>by cases hx),_,rfl,?_⟩;rw[hDv (by decide),qG3];by_cases e:row=[]
 ·rw[hDr e];refine iteT ?_;have:=q _ X1;rw[e]at this;exact this
 ·rw[hDs e];refine qEo ⟨rfl,_,rfl,p,row," ",rfl,rfl,X1 _ _ hp,?_,?_⟩
  ·have h1:=qMc (f:=(·.length)) (n:=6) (l:=row) λs hs=>(hn s hs).2.2
   have h2:(" " : Str).length=1:=by decide +kernel
   rw[h2];omega
  ·have:=q _ X1;unfold wrF at this;rw[hDv e]at this;exact this
abbrev zAf:List Str:=["_law_script","_law_table_here","_law_net_here","_law_texts","_law_k","_law_big_here","_law_text","_law_thing"]
theorem qHc:FnScope zAf ["_law_script"] (qAa qMt):=fsk
def wS(i:Nat):Stmt:=(qAn qMt).getD i (.Pass ⟨0,0,0,0⟩)
theorem hbW:qAn qMt=[wS 0,wS 1,wS 2,wS 3,wS 4,wS 5,wS 6]:=rfl
abbrev WX(P:Program)(w:World)(K:PySem.W.Frag)(mg:Str->Option Value)(base:Heap)(f:Addr)(cdv:Value)(A:Around)(outer:List Env)(s:Shared)(H0:Hp)(E:XK):Cx:=(qTi CX0 P w K mg base zAf "law" (qAa qMt) f cdv A outer s H0 E).nox
variable{cdv:Value}{A:Around}{outer:List Env}{s:Shared}{H0:Hp}{E:XK}
def tW2:TS:=λD σ H=>∃(a T np:Addr) (aA:List Str) (rows:List (List Str)),σ=[some (.ref a),some (.ref T),some (.ref np),none,none,none,none,none]/\qHe H T aA rows/\(∀r∈aA :: rows,(∀n∈r,qDz n)/\r.length<=12)/\rows.length<=16 /\
 ∀tx H1,Ext H H1->H1 tx=none->D.nx [some (.ref a),some (.ref T),some (.ref np),some (.ref tx),none,none,none,none] (upd H1 tx (.lst [.str (tbW aA rows)]))
theorem ws2(hr:Room 1 (WX P w K mg base f cdv A outer s H0 E).A)(G1:v7 1 f1 fd1 ["_law_row_here"] qPg "_law_written"):PSx (WX P w K mg base f cdv A outer s H0 E) (wS 2) tW2:=by
 refine qCp ⟨qAj (i:=3) qHc.nd rfl (Or.inl rfl) (qBe (pa1 (qB8 hB0 hDd hDe qLt qA1 (qAe
   (qB3 (N:=zAf) (sc:=qAa qMt) (N':=["_law_row_here"]) (sub:=[none]) (qAv (qAg qF2 (qBe (pa1 (qBm qCb (pv 1) qAc (λ_ _=>rfl)))) (qBm qCb (pv 1) qAc (λ_ _=>rfl)))) (λC s H fp=>⟨qAx,qAy G1 hr rfl .nil qAz (pa1 (pv 0))⟩)) qA3))))⟩ ?_
 rintro D σ H ⟨a,T,np,aA,rows,rfl,⟨na,rb,hT,hn,as,hrb,pr⟩,nm,lr,q⟩;have la:as.length=rows.length:=pr.length;refine⟨rfl,_,rfl,T,_,_,_,rfl,rfl,SqT.of hT,(by exact qA5 (j:=0) rfl),(by show 1<=sizeLine;decide),λl1 hl1=>?_⟩;have X1:=Ext.new hl1 (.lst [V.ref na]);refine⟨_,rfl,T,_,_,_,rfl,rfl,SqT.of (X1 _ _ hT),(by exact qA5 (j:=1) rfl),l1,rb,_,_,rfl,rfl,upd_same,X1 _ _ hrb,?_,λl2 hl2=>?_⟩
 ·rw[hA1];exact hB1 (qAi (by show 1+as.length<=1000;omega))
 have X2:=X1.trans (Ext.new hl2 (.lst ([V.ref na]++as.map V.ref)));have h2:(upd (upd H l1 (.lst [V.ref na])) l2 (.lst ([V.ref na]++as.map V.ref))) l2=some (.lst ((na :: as).map V.ref)):=upd_same;have p2:Paired (LsS (upd (upd H l1 (.lst [V.ref na])) l2 (.lst ([V.ref na]++as.map V.ref)))) (na :: as) (aA :: rows):=.cons (X2 _ _ hn) (Paired.mapP pr λa t z=>X2 _ _ z);refine⟨l2,rfl,⟨_,SqL.of h2⟩,?_⟩;refine qAt (xs:=(na :: as).map V.ref) (λj ys H2=>Ext (upd (upd H l1 (.lst [V.ref na])) l2 (.lst ([V.ref na]++as.map V.ref))) H2/\ys=(((aA :: rows).take j).map wrF).map V.str) ⟨Ext.refl _,rfl⟩ (λj ys H2 _ h=>SqL.of (h.1 _ _ h2)) ?_ ?_
 ·rintro j v ys H2 hv ⟨e2,rfl⟩;obtain⟨c,rfl,hc⟩:=qD4 hv;obtain⟨r,hr',hcr⟩:=qA8 p2 hc;have hm:=hAd hr';have hj:=qA7 hr';rw[hB2]at hj;refine⟨sls,iteT (B:=False) ⟨_,rfl,c,r,rfl,e2 _ _ hcr,by have:=(nm r hm).2;omega,(nm r hm).1,λH3 e3=>⟨?_,nxt (qA7 hv) ⟨e2.trans e3,?_⟩⟩⟩⟩
  ·rw[hA1,hA1,hAh];exact qAi (by omega)
  ·rw[qAk hr',hA7,hA7];rfl
 rintro ys H2 ⟨e2,rfl⟩ l3 hl3;have ln:((na :: as).map V.ref).length=(aA :: rows).length:=by rw[hA1,hB2,hB2,la]
 rw[ln,hA6 (hA3 _)];have X3:=Ext.new hl3 (.lst (((aA :: rows).map wrF).map V.str));refine⟨l3,(aA :: rows).map wrF," / ",rfl,rfl,upd_same,?_,(by show 1<=sizeLine;decide),λtx htx=>?_⟩
 ·have h1:=qMc (f:=(·.length)) (n:=84) (l:=(aA :: rows).map wrF) λs hs=>by
   obtain⟨r,hr,rfl⟩:=hAb.mp hs;exact(qVa (nm r hr).1 (nm r hr).2).len
  have h2:(" / " : Str).length=3:=by decide +kernel
  rw[hA1,hB2]at h1 ⊢;rw[h2];omega
 exact q tx _ (X2.trans (e2.trans X3)) htx
def tW3:TS:=λD σ H=>∃(a T np tx:Addr) (net:List Tr) (s1:Str) (Hb:Hp),σ=[some (.ref a),some (.ref T),some (.ref np),some (.ref tx),none,none,none,none]/\Ext Hb H/\Hb tx=none/\qDp Hb np net/\net.length<=12/\TxN net/\H tx=some (.lst [.str s1]) /\
 ∀H',Ext Hb H'->H' tx=some (.lst [.str s1,.str (ntJ net)])->D.nx σ H'
theorem ws3:PSx (WX P w K mg base f cdv A outer s H0 E) (wS 3) tW3:=by
 refine qCp ⟨qC3 (qB8 hAy hBb hBc qB1 (pv 3) (pa1 (qB8 hB0 hDd hDe qLt qA1 (qAe
   (qB3 (N:=zAf) (sc:=qAa qMt) (N':=["_law_tie"]) (sub:=[none]) (qAv (pv 2)) (λC s H fp=>⟨qAx,(show PE _ _ (tBM K _ (qUb K) _ _) from qB8 hB0 hDd hDe qSx qA1 (pa1 (pv 0)))⟩)) qA3))))⟩ ?_
 rintro D σ H ⟨a,T,np,tx,net,s1,Hb,rfl,eb,tx0,nt,ln,tn,htx,q⟩;obtain⟨as,hp,pr⟩:=nt.ext eb;have la:as.length=net.length:=pr.length;refine⟨_,rfl,.inl ⟨rfl,_,SqL.of htx⟩,rfl,_,rfl,np,rfl,⟨_,SqL.of hp⟩,?_⟩;refine qAt (xs:=as.map V.ref) (λj ys H2=>Ext H H2/\ys=((net.take j).map tiW).map V.str) ⟨Ext.refl _,rfl⟩ (λj ys H2 _ h=>SqL.of (h.1 _ _ hp)) ?_ ?_
 ·rintro j v ys H2 hv ⟨e2,rfl⟩;obtain⟨u,t,rfl,ht,hu⟩:=qIq pr hv;have hi:=qA7 ht;have tt:=tn t (hAd ht);refine⟨sls,iteT (B:=False) ⟨rfl,_,rfl,u,[t.1,t.2.1,t.2.2]," ",rfl,rfl,SqT.of (e2 _ _ hu),?_,?_,nxt (qA7 hv) ⟨e2,?_⟩⟩⟩
  ·have h1:t.1.length<=6:=tt.1.2.2;have h2:t.2.1.length<=6:=tt.2.1.2.2;have h3:t.2.2.length<=6:=tt.2.2.1.2.2;have h4:(" " : Str).length=1:=by decide +kernel
   rw[h4];show t.1.length+(t.2.1.length+(t.2.2.length+0))+3*1<=16777216;omega
  ·rw[hA1,hA1,hAh];exact qAi (by omega)
  ·rw[qAk ht,hA7,hA7];rfl
 rintro ys H2 ⟨e2,rfl⟩ l3 hl3;rw[hA1,la,hA6 (hA3 _)];have X3:=e2.trans (Ext.new hl3 (.lst ((net.map tiW).map V.str)));refine⟨l3,net.map tiW,", ",rfl,rfl,upd_same,?_,tx,_,_,rfl,rfl,X3 _ _ htx,(by show 1<sizeLine;decide),?_⟩
 ·have h1:=qMc (f:=(·.length)) (n:=21) (l:=net.map tiW) λs hs=>by
   obtain⟨t,ht,rfl⟩:=hAb.mp hs;exact(qVb (tn t ht)).1
  have h2:(", " : Str).length=2:=by decide +kernel
  rw[hA1]at h1 ⊢;rw[h2];omega
 exact q _ ((eb.trans X3).over tx0 _) upd_same
end
def wB(i:Nat):Stmt:=match wS 4 with
 |.For _ _ b _ _=>b.getD i (.Pass ⟨0,0,0,0⟩)
 |_=>.Pass ⟨0,0,0,0⟩
def wT(i:Nat):Stmt:=match wS 5 with
 |.For _ _ b _ _=>b.getD i (.Pass ⟨0,0,0,0⟩)
 |_=>.Pass ⟨0,0,0,0⟩
abbrev WSt(a T np tx:Addr)(x4 x5 x6 x7:Option V):St:=[some (.ref a),some (.ref T),some (.ref np),some (.ref tx),x4,x5,x6,x7]
structure WI(K:PySem.W.Frag)(H:Hp)(a tx:Addr)(ns:List Int)(s1 s2:Str):Prop where
 sc:SqL K H a (ns.map V.int)
 tx:H tx=some (.lst [.str s1,.str s2])
 b1:∀t,Bt s1 t->TX t
 b2:∀t,Bt s2 t->TX t
 l1:s1.length<=2000
 l2:s2.length<=2000
theorem WI.ext{K:PySem.W.Frag}{H H':Hp}{a tx:Addr}{ns:List Int}{s1 s2:Str}(h:WI K H a tx ns s1 s2)(e:Ext H H'):WI K H' a tx ns s1 s2:=⟨e.sqL h.sc,e _ _ h.tx,h.b1,h.b2,h.l1,h.l2⟩
section
variable{P:Program}{w:World}{K:PySem.W.Frag}{mg:Str->Option Value}{base:Heap}{f f1 f2 f3 f4 f5 f6 f7:Addr}{fd fd1 fd2 fd3 fd4 fd5 fd6 fd7:FuncData}
variable{cdv:Value}{A:Around}{outer:List Env}{s:Shared}{H0:Hp}{E:XK}
def tB0(K:PySem.W.Frag):TS:=λD σ H=>∃(a T np tx:Addr) (k:Nat) (x5 x6 x7:Option V) (ns:List Int),σ=WSt a T np tx (some (.int k)) x5 x6 x7/\k<=50/\SqL K H a (ns.map V.int)/\∀b:Int,D.nx (WSt a T np tx (some (.int k)) (some (.int b)) x6 x7) H
theorem wb0(hr:Room 2 (WX P w K mg base f cdv A outer s H0 E).A)(G1:v7 2 f1 fd1 ["_law_script","_law_k"] (qK0 K) "_law_big"):PSx (WX P w K mg base f cdv A outer s H0 E) (wB 0) (tB0 K):=by
 refine qCp ⟨qAj (i:=5) qHc.nd rfl (Or.inl rfl) (qAy G1 hr rfl .nil qAz (qAe (pv 0) (pa1 (qAg qBh qAc (pv 4)))))⟩ ?_;rintro D σ H ⟨a,T,np,tx,k,x5,x6,x7,ns,rfl,hk,sc,q⟩;exact⟨_,rfl,_,rfl,_,_,rfl,rfl,a,ns,_,rfl,sc,by omega,by omega,λv=>q v⟩
def tB1(K:PySem.W.Frag):TS:=λD σ H=>∃(a T np tx:Addr) (k:Nat) (b:Int) (x6 x7:Option V) (s1 s2:Str),σ=WSt a T np tx (some (.int k)) (some (.int b)) x6 x7/\H tx=some (.lst [.str s1,.str s2])/\s1.length<=2000/\s2.length<=2000/\∀t,(Bt s1 t\/Bt s2 t)->D.nx (WSt a T np tx (some (.int k)) (some (.int b)) (some (.str t)) x7) H
theorem wb1(hr:Room 1 (WX P w K mg base f cdv A outer s H0 E).A)(G1:v7 1 f1 fd1 ["_law_text","_law_big_here"] qJo "_law_bent"):PSx (WX P w K mg base f cdv A outer s H0 E) (wB 1) (tB1 K):=by
 refine qCp ⟨qAj (i:=6) qHc.nd rfl (Or.inl rfl) (qAy G1 hr rfl .nil qAz (qAe (qBm qB0 (pv 3) (qAg qA9 (pv 4) qAc) (λ_ _=>rfl)) (pa1 (qAg qA2 (pv 5) qAc))))⟩ ?_;rintro D σ H ⟨a,T,np,tx,k,b,x6,x7,s1,s2,rfl,htx,l1,l2,q⟩;obtain⟨u,hu,lu,ru⟩:∃u,atI [V.str s1,V.str s2] ((k:Int) % 2)=some (.str u)/\u.length<=2000/\∀t,Bt u t->Bt s1 t\/Bt s2 t:=by
  rcases(show(k:Int) % 2=0\/(k:Int) % 2=1 by omega) with e|e
  ·rw[e];exact⟨s1,rfl,l1,λt h=>.inl h⟩
  ·rw[e];exact⟨s2,rfl,l2,λt h=>.inr h⟩
 exact⟨_,rfl,_,rfl,_,_,rfl,rfl,(by show(0:Int)<_;decide),tx,_,_,_,rfl,rfl,SqL.of htx,hu,_,rfl,_,_,rfl,rfl,⟨by decide,by decide⟩,u,_,rfl,lu,λt h=>q t (ru t h)⟩
def tB2:TS:=λD σ H=>∃(a T np tx:Addr) (k:Nat) (b:Int) (t:Str) (x7:Option V),σ=WSt a T np tx (some (.int k)) (some (.int b)) (some (.str t)) x7/\TX t/\∀t',TX t'->D.nx (WSt a T np tx (some (.int k)) (some (.int b)) (some (.str t')) x7) H
theorem wb2(hr:Room 1 (WX P w K mg base f cdv A outer s H0 E).A)(G1:v7 1 f1 fd1 ["_law_text","_law_big_here"] qJo "_law_bent"):PSx (WX P w K mg base f cdv A outer s H0 E) (wB 2) tB2:=by
 refine qCp ⟨qBb (qAl qC7 (qAg qA9 (pv 5) qAc) qAc (qAp _)) (qAd (v0 6 qHc (qAy G1 hr rfl .nil qAz (qAe qA1 (pa1 (qAg qA2 (pv 5) qAc)))))) qAu⟩ ?_;rintro D σ H ⟨a,T,np,tx,k,b,t,x7,rfl,tt,q⟩;refine⟨_,rfl,_,_,rfl,rfl,(by show(0:Int)<_;decide),rfl,_,rfl,qBp (λ_=>?_) (λ_=>q t tt)⟩;exact⟨_,rfl,_,_,rfl,rfl,⟨by decide,by decide⟩,"",_,rfl,by decide,λt' h=>q t' (zBi h)⟩
theorem wb3:PSx (WX P w K mg base f cdv A outer s H0 E) (wB 3) tB2:=by
 refine qCp ⟨qBb (qAl qC7 (qAg qA9 (pv 5) qAc) qAc (qAp _)) (qAd (v0 6 qHc (qAg qC0 qA1 (qAg qEj qA1 (qAg qBh qAc (qAg qA9 (qAg qA2 (pv 5) qAc) qAc)))))) qAu⟩ ?_;rintro D σ H ⟨a,T,np,tx,k,b,t,x7,rfl,tt,q⟩;refine⟨_,rfl,_,_,rfl,rfl,(by show(0:Int)<_;decide),rfl,_,rfl,qBp (λ_=>?_) (λ_=>q t tt)⟩;have c1:=hAw (b / 32) (show(2:Int)≠0 by decide);have c2:=hAp (b / 32) (show(0:Int)<2 by decide);refine⟨_,rfl,_,_,rfl,rfl,⟨by decide,by decide⟩,_,_,rfl,rfl,(by show(0:Int)<_;decide),_,_,rfl,rfl,_,_,rfl,rfl,by decide +kernel,by omega,by omega,?_⟩;rcases(show b / 32 % 2=0\/b / 32 % 2=1 by omega) with e|e
 ·rw[e];exact⟨_,_,rfl,rfl,by decide +kernel,q (dsh 16) qUw.1⟩
 ·rw[e];exact⟨_,_,rfl,rfl,by decide +kernel,q (dsh 17) qUw.2⟩
def tB4(K:PySem.W.Frag):TS:=λD σ H=>∃(a T np tx:Addr) (k:Nat) (b:Int) (t:Str) (x7:Option V),σ=WSt a T np tx (some (.int k)) (some (.int b)) (some (.str t)) x7/\TX t/\∀H',Ext H H'->D.nx σ H'
theorem wb4(hr:Room 8 (WX P w K mg base f cdv A outer s H0 E).A)
  (G1:v7 8 f1 fd1 ["_law_way","_law_text"] (qHn K) "_law_told")
  (G2:v7 3 f2 fd2 ["_law_text"] (qMi K) "_law_table_due")
  (G3:v7 2 f3 fd3 ["_law_text"] (qMk K) "_law_net_due"):PSx (WX P w K mg base f cdv A outer s H0 E) (wB 4) (tB4 K):=by
 have hr2:=hr.mono (j:=2) (by decide);have hr3:=hr.mono (j:=3) (by decide);refine qCp ⟨qBb (PW.pt (qDv (qAl (qM9 (qJx hr)) (qAy G1 hr rfl .nil qAz (qAe qAc (pa1 (pv 6)))) (qAy G2 hr3 rfl .nil qAz (pa1 (pv 6))) (qAp _))
   (qDi (qAl (qM9 (qJx hr)) (qAy G1 hr rfl .nil qAz (qAe qAc (pa1 (pv 6)))) (qAy G3 hr2 rfl .nil qAz (pa1 (pv 6))) (qAp _))))) (qAd (qAo qGt)) qAu⟩ ?_
 rintro D σ H ⟨a,T,np,tx,k,b,t,x7,rfl,tt,q⟩;refine⟨_,rfl,0,_,rfl,.inr ⟨t,rfl,tt,.inl ⟨rfl,λu D1 H1 e1 d1 td1=>?_⟩⟩⟩;refine⟨_,rfl,t,rfl,tt,λv D2 H2 e2 d2 td2=>?_⟩;obtain⟨rfl,ev,sh⟩:=td1.same tt td2;refine⟨D1,D1,DR.ext e2 d1,d2,sh,sh,_,rfl,?_⟩;rw[hDw rfl,ev];refine qEo ?_;refine⟨_,rfl,1,_,rfl,.inr ⟨t,rfl,tt,.inr ⟨rfl,λu D3 H3 e3 d3 td3=>?_⟩⟩⟩;refine⟨_,rfl,t,rfl,tt,λv D4 H4 e4 d4 td4=>?_⟩;obtain⟨rfl,ev2,sh2⟩:=td3.same td4;refine⟨D3,D3,DR.ext e4 d3,d4,sh2,sh2,_,rfl,?_⟩;rw[hDw rfl,ev2];exact qEo (q H4 (e1.trans (e2.trans (e3.trans e4))))
def tT0(K:PySem.W.Frag):TS:=λD σ H=>∃(x0 x1 x2 x3 x4 x5 x6:Option V) (v:V),σ=[x0,x1,x2,x3,x4,x5,x6,some v]/\qOr K H v/\(∀H',Ext H H'->qOr K H' v)/\∀H',Ext H H'->D.nx σ H'
theorem wt0(hr:Room 8 (WX P w K mg base f cdv A outer s H0 E).A)
  (G1:v7 8 f1 fd1 ["_law_way","_law_text"] (qHn K) "_law_told"):PSx (WX P w K mg base f cdv A outer s H0 E) (wT 0) (tT0 K):=by
 refine qCp ⟨qBb (PW.pt (qDv (qAl qFo (qAy G1 hr rfl .nil qAz (qAe qAc (pa1 (pv 7)))) qA1 (qAp _))
   (qDi (qAl qFo (qAy G1 hr rfl .nil qAz (qAe qAc (pa1 (pv 7)))) qA1 (qAp _))))) (qAd (qAo qGt)) qAu⟩ ?_
 rintro D σ H ⟨x0,x1,x2,x3,x4,x5,x6,v,rfl,ns,nx,q⟩;refine⟨_,rfl,0,v,rfl,.inl ⟨ns,λH1 e1=>⟨rfl,_,rfl,qBp (λc=>absurd c (by simp)) (λ_=>?_)⟩⟩⟩;exact⟨_,rfl,1,v,rfl,.inl ⟨nx H1 e1,λH2 e2=>⟨rfl,_,rfl,qBp (λc=>absurd c (by simp)) (λ_=>q H2 (e1.trans e2))⟩⟩⟩
end
end My
namespace L2
open PySem
structure PAx(X:Cx)(es:List Expr)(t:TA):Prop where
 h:PA X es t
structure PEx(X:Cx)(e:Expr)(t:TE):Prop where
 h:PE X e t
section
variable{X:Cx}{es:List Expr}{e:Expr}{ta:TE}{t:TA}{p:Pos}{c:Nat}
theorem qQb:PAx X [] qXw:=⟨qA3⟩
theorem zCp{es':List Expr}(ha:PEx X (.List es' p) ta)(hr:PAx X es t):PAx X (.List es' p :: es) (qEl ta t):=⟨qAe ha.h hr.h rfl⟩
theorem zCn{es':List Expr}(ha:PEx X (.Tuple es' c p) ta)(hr:PAx X es t):PAx X (.Tuple es' c p :: es) (qEl ta t):=⟨qAe ha.h hr.h rfl⟩
theorem zA7{x:Str}{j}(hr:PAx X es t):PAx X (.Constant (.str x) j p :: es) (qEl (tC (.str x)) t):=⟨qAe qA1 hr.h rfl⟩
theorem zCq{x:Int}{j}(hr:PAx X es t):PAx X (.Constant (.int x) j p :: es) (qEl (tC (.int x)) t):=⟨qAe qAc hr.h rfl⟩
theorem zCr{x:Bool}{j}(hr:PAx X es t):PAx X (.Constant (.bool x) j p :: es) (qEl (tC (.bl x)) t):=⟨qAe qGt hr.h rfl⟩
theorem zCo{j}(hr:PAx X es t):PAx X (.Constant .none j p :: es) (qEl (tC .non) t):=⟨qAe qQh hr.h rfl⟩
theorem zB6(h:PAx X es t):PEx X (.Tuple es c p) (zAg t):=⟨qB2 h.h⟩
theorem zC1(h:PAx X es t):PEx X (.List es p) (zAt t):=⟨qBe h.h⟩
end
end L2
namespace My
open PySem L2
def qR3(K:PySem.W.Frag):Sp:=λvs H Q _=>∃(a:Addr) (ns:List Int),vs=[.ref a]/\SqL K H a (ns.map V.int)/\ns.length<=63/\∀H',Q (.bl true) H'
theorem qX9:∃i1 i2 i3 i4 q,wS 4 = .For (.Name "_law_k" i1) (.Call (.Name "range" i2) [.Constant (.int 12) 0 i3] [] i4) [wB 0,wB 1,wB 2,wB 3,wB 4] [] q:=⟨_,_,_,_,_,rfl⟩
theorem qX8:∃i1 c1 c2 c3 c4 c5 c6 c7 c8 c9 k1 k2 q,wS 5 = .For (.Name "_law_thing" i1) (.Tuple [.Constant .none 0 c1,.Constant (.int 7) 0 c2,.Constant (.bool true) 0 c3,.List [.Constant (.str "a") 0 c4] c5,.Tuple [.Constant (.str "a") 0 c6,.Constant (.str "b") 0 c7] k1 c8] k2 c9) [wT 0] [] q:=⟨_,_,_,_,_,_,_,_,_,_,_,_,_,rfl⟩
section
variable{P:Program}{w:World}{K:PySem.W.Frag}{mg:Str->Option Value}{base:Heap}{f f1 f2 f3 f4 f5 f6 f7 f8:Addr}{fd fd1 fd2 fd3 fd4 fd5 fd6 fd7 fd8:FuncData}
variable{cdv:Value}{A:Around}{outer:List Env}{s:Shared}{H0:Hp}{E:XK}
def tW4(K:PySem.W.Frag):TS:=λD σ H=>∃(a T np tx:Addr) (ns:List Int) (s1 s2:Str),σ=WSt a T np tx none none none none/\WI K H a tx ns s1 s2/\∀x4 x5 x6 x7 H',D.nx (WSt a T np tx x4 x5 x6 x7) H'
theorem ws4(hr:Room 8 (WX P w K mg base f cdv A outer s H0 E).A)(mr:mg "range"=none)
  (G1:v7 2 f1 fd1 ["_law_script","_law_k"] (qK0 K) "_law_big")
  (G2:v7 1 f2 fd2 ["_law_text","_law_big_here"] qJo "_law_bent")
  (G3:v7 8 f3 fd3 ["_law_way","_law_text"] (qHn K) "_law_told")
  (G4:v7 3 f4 fd4 ["_law_text"] (qMi K) "_law_table_due")
  (G5:v7 2 f5 fd5 ["_law_text"] (qMk K) "_law_net_due"):PSx (WX P w K mg base f cdv A outer s H0 E) (wS 4) (tW4 K):=by
 obtain⟨i1,i2,i3,i4,qq,e⟩:=qX9;rw[e];clear e;have hr1:=hr.mono (j:=1) (by decide);have hr2:=hr.mono (j:=2) (by decide);have r0:PSx (WX P w K mg base f cdv A outer s H0 E) (wB 0) (tB0 K):=wb0 hr2 G1;have r1:PSx (WX P w K mg base f cdv A outer s H0 E) (wB 1) (tB1 K):=wb1 hr1 G2;have r2:PSx (WX P w K mg base f cdv A outer s H0 E) (wB 2) tB2:=wb2 hr1 G2;have r3:PSx (WX P w K mg base f cdv A outer s H0 E) (wB 3) tB2:=wb3;have r4:PSx (WX P w K mg base f cdv A outer s H0 E) (wB 4) (tB4 K):=wb4 hr G3 G4 G5;have rr:PSsx (WX P w K mg base f cdv A outer s H0 E) [wB 0,wB 1,wB 2,wB 3,wB 4] (qOt (tB0 K) (qOt (tB1 K) (qOt tB2 (qOt tB2 (tB4 K))))):=qCh r0 (qCh r1 (qCh r2 (qCh r3 (qQc r4))));refine qCp ⟨qBs PassesOwn.never rfl (qBg rfl mr (pa1 qAc)) (v3 4 qHc) rr.h⟩ ?_;rintro D σ H ⟨a,T,np,tx,ns,s1,s2,rfl,wi,q⟩;refine⟨12,rfl,by decide,by decide,qBt (lo:=0) (n:=12) (λi σ H'=>∃x4 x5 x6 x7:Option V,σ=WSt a T np tx x4 x5 x6 x7/\Ext H H') ⟨_,_,_,_,rfl,Ext.refl _⟩ ?_ ?_⟩
 ·rintro i σ H' hi ⟨x4,x5,x6,x7,rfl,e⟩;have w1:=wi.ext e;have ei:(0:Int)+(i:Int)=((i:Nat):Int):=by omega
  rw[show((0:Int)+(i:Int))=((i:Nat):Int) from ei];refine⟨a,T,np,tx,i,x5,x6,x7,ns,rfl,by omega,w1.sc,λb=>?_⟩;refine⟨a,T,np,tx,i,b,x6,x7,s1,s2,rfl,w1.tx,w1.l1,w1.l2,λt ht=>?_⟩;have tt:TX t:=ht.elim (w1.b1 t) (w1.b2 t);refine⟨a,T,np,tx,i,b,t,x7,rfl,tt,λt2 tt2=>?_⟩;refine⟨a,T,np,tx,i,b,t2,x7,rfl,tt2,λt3 tt3=>?_⟩;exact⟨a,T,np,tx,i,b,t3,x7,rfl,tt3,λH2 e2=>⟨_,_,_,_,rfl,e.trans e2⟩⟩
 ·rintro σ H' ⟨x4,x5,x6,x7,rfl,e⟩;exact q _ _ _ _ _
def tW5:TS:=λD σ H=>∃(a T np tx:Addr) (x4 x5 x6 x7:Option V),σ=WSt a T np tx x4 x5 x6 x7/\∀x7' H',D.nx (WSt a T np tx x4 x5 x6 x7') H'
theorem ws5(hr:Room 8 (WX P w K mg base f cdv A outer s H0 E).A)
  (G3:v7 8 f3 fd3 ["_law_way","_law_text"] (qHn K) "_law_told"):PSx (WX P w K mg base f cdv A outer s H0 E) (wS 5) tW5:=by
 obtain⟨i1,c1,c2,c3,c4,c5,c6,c7,c8,c9,k1,k2,qq,e⟩:=qX8;rw[e];clear e;have r0:PSx (WX P w K mg base f cdv A outer s H0 E) (wT 0) (tT0 K):=wt0 hr G3;have it:PEx (WX P w K mg base f cdv A outer s H0 E) (.Tuple [.Constant .none 0 c1,.Constant (.int 7) 0 c2,.Constant (.bool true) 0 c3,.List [.Constant (.str "a") 0 c4] c5,.Tuple [.Constant (.str "a") 0 c6,.Constant (.str "b") 0 c7] k1 c8] k2 c9) (zAg (qEl (tC .non) (qEl (tC (.int 7)) (qEl (tC (.bl true)) (qEl (zAt (qEl (tC (.str "a")) qXw)) (qEl (zAg (qEl (tC (.str "a")) (qEl (tC (.str "b")) qXw))) qXw)))))):=zB6 (zCo (zCq (zCr (zCp (zC1 (zA7 qQb)) (zCn (zB6 (zA7 (zA7 qQb))) qQb)))));refine qCp ⟨qBs PassesOwn.never rfl (qM7 it.h) (v3 7 qHc) (qAd r0.h)⟩ ?_;rintro D σ H ⟨a,T,np,tx,x4,x5,x6,x7,rfl,q⟩;refine⟨(by show 1<=sizeLine;decide),λl1 hl1=>⟨(by show 2<=sizeLine;decide),λt2 ht2=>⟨(by show 5<=sizeLine;decide),λt3 ht3=>?_⟩⟩⟩;have Y1:=Ext.new ht2 (.tup [V.str "a",V.str "b"]);have Y2:=Ext.new ht3 (.tup [V.non,V.int 7,V.bl true,V.ref l1,V.ref t2]);have h1:(upd (upd (upd H l1 (.lst [V.str "a"])) t2 (.tup [V.str "a",V.str "b"])) t3 (.tup [V.non,V.int 7,V.bl true,V.ref l1,V.ref t2])) l1=some (.lst [V.str "a"]):=Y2 _ _ (Y1 _ _ upd_same);have h2:(upd (upd (upd H l1 (.lst [V.str "a"])) t2 (.tup [V.str "a",V.str "b"])) t3 (.tup [V.non,V.int 7,V.bl true,V.ref l1,V.ref t2])) t2=some (.tup [V.str "a",V.str "b"]):=Y2 _ _ upd_same;have h3:(upd (upd (upd H l1 (.lst [V.str "a"])) t2 (.tup [V.str "a",V.str "b"])) t3 (.tup [V.non,V.int 7,V.bl true,V.ref l1,V.ref t2])) t3=some (.tup [V.non,V.int 7,V.bl true,V.ref l1,V.ref t2]):=upd_same;revert h1 h2 h3;generalize upd (upd (upd H l1 (.lst [V.str "a"])) t2 (.tup [V.str "a",V.str "b"])) t3 (.tup [V.non,V.int 7,V.bl true,V.ref l1,V.ref t2])=H1;intro h1 h2 h3;refine⟨t3,rfl,⟨_,SqT.of h3⟩,?_⟩;refine qXl (xs:=[V.non,V.int 7,V.bl true,V.ref l1,V.ref t2]) (λi σ H'=>∃x7:Option V,σ=WSt a T np tx x4 x5 x6 x7/\Ext H1 H') ⟨_,rfl,Ext.refl _⟩ (λi σ H' _ h=>by obtain⟨_,_,e⟩:=h;exact SqT.of (e _ _ h3)) ?_ ?_
 ·rintro i v σ H' hv ⟨x7,rfl,e⟩;have ns:∀H2,Ext H1 H2->qOr K H2 v:=λH2 e2=>by
   have hm:=hAd hv;simp only[hAc,hBf,hEa]at hm;rcases hm with rfl|rfl|rfl|rfl|rfl
   ·exact⟨_,.non,(nk K).1⟩
   ·exact⟨_,.int 7,(ik K).1⟩
   ·exact⟨_,.bl true,(bk K).1⟩
   ·exact⟨_,.lst (e2 _ _ h1),lk K⟩
   ·exact⟨_,.tup (e2 _ _ h2),(tk K).1⟩
  exact⟨_,_,_,_,_,_,_,v,rfl,ns H' e,λH2 e2=>ns H2 (e.trans e2),λH2 e2=>⟨_,rfl,e.trans e2⟩⟩
 ·rintro σ H' ⟨x7,rfl,e⟩;exact q _ _
def tW0(K:PySem.W.Frag):TS:=λD σ H=>∃(a:Addr) (ns:List Int),σ=[some (.ref a),none,none,none,none,none,none,none]/\SqL K H a (ns.map V.int)/\∀T aA rows H',Ext H H'->qHe H' T aA rows->TabN aA rows->D.nx [some (.ref a),some (.ref T),none,none,none,none,none,none] H'
theorem ws0(hr:Room 5 (WX P w K mg base f cdv A outer s H0 E).A)(G1:v7 5 f1 fd1 ["_law_script","_law_at"] (qPh K) "_law_table"):PSx (WX P w K mg base f cdv A outer s H0 E) (wS 0) (tW0 K):=by
 refine qCp ⟨qAj (i:=1) qHc.nd rfl (Or.inl rfl) (qAy G1 hr rfl .nil qAz (qAe (pv 0) (pa1 qAc)))⟩ ?_;rintro D σ H ⟨a,ns,rfl,sc,q⟩;exact⟨_,rfl,a,ns,rfl,sc,λT aA rows H' e ti tn=>q T aA rows H' e ti tn⟩
def tW1(K:PySem.W.Frag):TS:=λD σ H=>∃(a T:Addr) (ns:List Int),σ=[some (.ref a),some (.ref T),none,none,none,none,none,none]/\SqL K H a (ns.map V.int)/\∀np net H',Ext H H'->qDp H' np net->net.length<=12->TxN net->D.nx [some (.ref a),some (.ref T),some (.ref np),none,none,none,none,none] H'
theorem ws1(hr:Room 3 (WX P w K mg base f cdv A outer s H0 E).A)(G1:v7 3 f1 fd1 ["_law_script","_law_at"] (qR2 K) "_law_net"):PSx (WX P w K mg base f cdv A outer s H0 E) (wS 1) (tW1 K):=by
 refine qCp ⟨qAj (i:=2) qHc.nd rfl (Or.inl rfl) (qAy G1 hr rfl .nil qAz (qAe (pv 0) (pa1 qAc)))⟩ ?_;rintro D σ H ⟨a,T,ns,rfl,sc,q⟩;exact⟨_,rfl,a,ns,10,rfl,by decide,by decide,sc,λnp net H' e _ nt ln tn _ _ _=>q np net H' e nt ln tn⟩
def tW6:TS:=λD σ H=>D.rt (.bl true) H
theorem ws6:PSx (WX P w K mg base f cdv A outer s H0 E) (wS 6) tW6:=⟨qAo qGt⟩
theorem qP3(aA:List Str)(k:Nat):(qOi aA k).length<=aA.length:=by
 unfold qOi;refine hAv (hC4 _ _) ?_;rw[hBq];exact hA3 _
theorem zAc{aA:List Str}{rows:List (List Str)}(h:∀r∈aA :: rows,(∀n∈r,qDz n)/\r.length<=12)(l:rows.length<=16):(tbW aA rows).length<=2000:=by
 have ln:=qDk (z:=" / ") (ss:=(aA :: rows).map wrF) (n:=84) (m:=17) (λs hs=>by
  obtain⟨r,hr,rfl⟩:=hAb.mp hs;exact(qVa (h r hr).1 (h r hr).2).len) (by rw[hA1,hB2];omega)
 have el:(" / " : Str).length=3:=by decide +kernel
 rw[el]at ln;exact hAv ln (by decide)
theorem qZm{net:List Tr}(h:TxN net)(l:net.length<=12):(ntJ net).length<=2000:=by
 have ln:=qDk (z:=", ") (ss:=net.map tiW) (n:=21) (m:=12) (λs hs=>by
  obtain⟨u,hu,rfl⟩:=hAb.mp hs;exact(qVb (h u hu)).1) (by rw[hA1];exact l)
 have el:(", " : Str).length=2:=by decide +kernel
 rw[el]at ln;exact hAv ln (by decide)
theorem qZh(F:Fun K "law" "law" qMt f fd)
  (G1:v7 5 f1 fd1 ["_law_script","_law_at"] (qPh K) "_law_table")
  (G2:v7 3 f2 fd2 ["_law_script","_law_at"] (qR2 K) "_law_net")
  (G3:v7 1 f3 fd3 ["_law_row_here"] qPg "_law_written")
  (G4:v7 2 f4 fd4 ["_law_script","_law_k"] (qK0 K) "_law_big")
  (G5:v7 1 f5 fd5 ["_law_text","_law_big_here"] qJo "_law_bent")
  (G6:v7 8 f6 fd6 ["_law_way","_law_text"] (qHn K) "_law_told")
  (G7:v7 3 f7 fd7 ["_law_text"] (qMi K) "_law_table_due")
  (G8:v7 2 f8 fd8 ["_law_text"] (qMk K) "_law_net_due")
  (mr:mg "range"=none):v6 9 f fd ["_law_script"] (qR3 K):=by
 refine F.okA qHc λcdv A outer s H vs Q E hr h=>?_
 obtain⟨a,ns,rfl,hS,hl,q⟩:=h;have hr1:=hr.mono (j:=1) (by decide);have hr3:=hr.mono (j:=3) (by decide);have hr5:=hr.mono (j:=5) (by decide);have r0:PSx (WX P w K mg base f cdv A outer s H E) (wS 0) (tW0 K):=ws0 hr5 G1;have r1:PSx (WX P w K mg base f cdv A outer s H E) (wS 1) (tW1 K):=ws1 hr3 G2;have r2:PSx (WX P w K mg base f cdv A outer s H E) (wS 2) tW2:=ws2 hr1 G3;have r3:PSx (WX P w K mg base f cdv A outer s H E) (wS 3) tW3:=ws3;have r4:PSx (WX P w K mg base f cdv A outer s H E) (wS 4) (tW4 K):=ws4 hr mr G4 G5 G6 G7 G8;have r5:PSx (WX P w K mg base f cdv A outer s H E) (wS 5) tW5:=ws5 hr G6;have r6:PSx (WX P w K mg base f cdv A outer s H E) (wS 6) tW6:=ws6;have rr:PSsx (WX P w K mg base f cdv A outer s H E) [wS 0,wS 1,wS 2,wS 3,wS 4,wS 5,wS 6] (qOt (tW0 K) (qOt (tW1 K) (qOt tW2 (qOt tW3 (qOt (tW4 K) (qOt tW5 tW6)))))):=qCh r0 (qCh r1 (qCh r2 (qCh r3 (qCh r4 (qCh r5 (qQc r6))))));rw[hbW];refine⟨_,rr.h,?_⟩;refine⟨a,ns,rfl,hS,λT aA rows H1 e1 ti tn=>?_⟩;have nm:∀r∈aA :: rows,(∀n∈r,qDz n)/\r.length<=12:=λr hr=>by
  have l12:=tn.bn.1;rcases hAc.mp hr with rfl|hr
  ·exact⟨tn.nm,l12⟩
  ·obtain⟨x,rfl⟩:=tn.rw r hr;have:=qP3 aA x;refine⟨λn hn=>?_,by omega⟩;obtain⟨i,_,e,_⟩:=qSz.mp hn;exact tn.nm n (hAd e)
 have lr:=tn.bn.2.1;refine⟨a,T,ns,rfl,e1.sqL hS,λnp net H2 e2 nt ln tx=>?_⟩;obtain⟨ta,tb,t1,t2,t3⟩:=ti;refine⟨a,T,np,aA,rows,rfl,⟨ta,tb,e2 _ _ t1,e2 _ _ t2,t3.ext e2⟩,nm,lr,λxx H3 e3 x0=>?_⟩;have X4:=Ext.new x0 (.lst [V.str (tbW aA rows)]);refine⟨a,T,np,xx,net,tbW aA rows,H3,rfl,X4,x0,nt.ext e3,ln,tx,upd_same,λH4 e4 h4=>?_⟩;refine⟨a,T,np,xx,ns,tbW aA rows,ntJ net,rfl,⟨((e1.trans e2).trans (e3.trans e4)).sqL hS,h4,λt b=>zAn nm lr b,λt b=>zA9 tx ln b,zAc nm lr,qZm tx ln⟩,λx4 x5 x6 x7 H5=>?_⟩;exact⟨a,T,np,xx,x4,x5,x6,x7,rfl,λx7' H6=>q H6⟩
end
theorem zl1{α:Type}{l:List α}(h:l.length=1):∃a,l=[a]:=match l,h with | [a],_=>⟨a,rfl⟩
theorem zl2{α:Type}{l:List α}(h:l.length=2):∃a b,l=[a,b]:=match l,h with | [a,b],_=>⟨a,b,rfl⟩
theorem zl3{α:Type}{l:List α}(h:l.length=3):∃a b c,l=[a,b,c]:=match l,h with | [a,b,c],_=>⟨a,b,c,rfl⟩
theorem zl4{α:Type}{l:List α}(h:l.length=4):∃a b c d,l=[a,b,c,d]:=match l,h with | [a,b,c,d],_=>⟨a,b,c,d,rfl⟩
theorem qUi{K:PySem.W.Frag}{h:Heap}{mg:Str->Option Value}{x:Str}{C:Addr}{bm0:List Value}{newId:String}(X:K.In h)(G:h.Ns mainGlobals mg)(e:PySem.W.nsIn K mainGlobals x=some (some (.ref C)))(q:PySem.W.excIn K C bm0 newId=true):PyProof.Rows.OwnCls x C bm0 newId mg h:=by
 refine⟨hAg X G e,?_⟩;unfold PySem.W.excIn at q;split at q
 ·rename_i dd cd sl ho;split at q
  ·rename_i C' bm k0 k1 k2 k3 n k5 hm hs;simp only[hBe,beq_iff_eq,Bool.not_eq_true']at q;obtain⟨⟨⟨⟨⟨rfl,rfl⟩,hdel⟩,ht⟩,hok⟩,hni⟩:=q;obtain⟨nm,bs,mro,ns,qn,hd,sn,sub,ab,col,del⟩:=cd;dsimp only at hm hdel hok hni;subst hm hdel;obtain⟨l⟩:=sl;simp only at hs;subst hs;exact⟨bm,ns,nm,qn,bs,hd,sn,sub,ab,col,dd,k0,k1,k2,k3,k5,_,X _ _ ho,.of_isNs (PySem.W.isNs_of_in X hok),PySem.W.nsMap_none_of_in X hok hni,PySem.W.tail_of_in X ht⟩
  ·cases q
 ·cases q
theorem zBv{K:PySem.W.Frag}{C:Addr}{cdC:ClassData}(x1:PySem.W.clsIn K C=some cdC)(x2:PySem.W.findIn K (.ref C) "__getattribute__"=some (some (.builtin "BaseException.__getattribute__")))(x3:PySem.W.findIn K (.ref C) "__getattr__"=some none)(x4:PySem.W.findIn K (.ref C) "__class__"=some (some (.builtin "object.__class__")))
  (x5:PySem.W.specialIn K (.builtin "object.__class__") "__get__"=some (some (.builtin "getset_descriptor.__get__"))) (x6:PySem.W.takesIn K (.builtin "object.__class__")=some true) (x7:PySem.W.mroIn K C (.type "object")=some true) (x8:PySem.W.mroIn K C (.type "BaseException")=some true):XCls K C:=⟨by rw[x1];rfl,x2,x3,x4,x5,x6,x7,x8⟩
theorem all_mk{l:PySem.W.OpenLaw}{w:World}{K:PySem.W.Frag}{h:Heap}{mg:Str->Option Value}{fa CN CT R f1 f2 f3 f4 f5 f6 f7 f8 f9 f10 f11 f12 f13 f14 f15 f16 f17 f18 f19 f20 f21 f22 f23 f24 f25 f26 f27 f28 f29 f30 f31 f32 f33 f34 f35 f36 f37 f38 f39 f40 f41 f42 f43 f44 f45 f46:Addr}{cdCN cdCT:ClassData}{tk_EMPTY tk_SIGNS tk_MOST_SIGNS tk_MOST_NAMES tk_MOST_ROWS tk_MOST_STEPS:Tok}(X:K.In h)(G:h.Ns mainGlobals mg)(hfa:mg "law"=some (.ref fa))
  {od1 an1 od2 an2 od3 an3 od4 an4 od5 an5 od6 an6 od7 an7 od8 an8 od9 an9 od10 an10 od11 an11 od12 an12 od13 an13 od14 an14 od15 an15 od16 an16 od17 an17 od18 an18 od19 an19 od20 an20 od21 an21 od22 an22 od23 an23 od24 an24 od25 an25 od26 an26 od27 an27 od28 an28 od29 an29 od30 an30 od31 an31 od32 an32 od33 an33 od34 an34 od35 an35 od36 an36 od37 an37 od38 an38 od39 an39 od40 an40 od41 an41 od42 an42 od43 an43 od44 an44 od45 an45 od46 an46:Option Addr} {sl1 sl2 sl3 sl4 sl5 sl6 sl7 sl8 sl9 sl10 sl11 sl12 sl13 sl14 sl15 sl16 sl17 sl18 sl19 sl20 sl21 sl22 sl23 sl24 sl25 sl26 sl27 sl28 sl29 sl30 sl31 sl32 sl33 sl34 sl35 sl36 sl37 sl38 sl39 sl40 sl41 sl42 sl43 sl44 sl45 sl46:Array (Option Value)} {oc1 kV1 dc1 pm1 cd1 ct1 oc2 kV2 dc2 pm2 cd2 ct2 oc3 kV3 dc3 pm3 cd3 ct3 oc4 kV4 dc4 pm4 cd4 ct4 oc5 kV5 dc5 pm5 cd5 ct5 oc6 kV6 dc6 pm6 cd6 ct6 oc7 kV7 dc7 pm7 cd7 ct7 oc8 kV8 dc8 pm8 cd8 ct8 oc9 kV9 dc9 pm9 cd9 ct9 oc10 kV10 dc10 pm10 cd10 ct10 oc11 kV11 dc11 pm11 cd11 ct11 oc12 kV12 dc12 pm12 cd12 ct12 oc13 kV13 dc13 pm13 cd13 ct13 oc14 kV14 dc14 pm14 cd14 ct14 oc15 kV15 dc15 pm15 cd15 ct15 oc16 kV16 dc16 pm16 cd16 ct16 oc17 kV17 dc17 pm17 cd17 ct17 oc18 kV18 dc18 pm18 cd18 ct18 oc19 kV19 dc19 pm19 cd19 ct19 oc20 kV20 dc20 pm20 cd20 ct20 oc21 kV21 dc21 pm21 cd21 ct21 oc22 kV22 dc22 pm22 cd22 ct22 oc23 kV23 dc23 pm23 cd23 ct23 oc24 kV24 dc24 pm24 cd24 ct24 oc25 kV25 dc25 pm25 cd25 ct25 oc26 kV26 dc26 pm26 cd26 ct26 oc27 kV27 dc27 pm27 cd27 ct27 oc28 kV28 dc28 pm28 cd28 ct28 oc29 kV29 dc29 pm29 cd29 ct29 oc30 kV30 dc30 pm30 cd30 ct30 oc31 kV31 dc31 pm31 cd31 ct31 oc32 kV32 dc32 pm32 cd32 ct32 oc33 kV33 dc33 pm33 cd33 ct33 oc34 kV34 dc34 pm34 cd34 ct34 oc35 kV35 dc35 pm35 cd35 ct35 oc36 kV36 dc36 pm36 cd36 ct36 oc37 kV37 dc37 pm37 cd37 ct37 oc38 kV38 dc38 pm38 cd38 ct38 oc39 kV39 dc39 pm39 cd39 ct39 oc40 kV40 dc40 pm40 cd40 ct40 oc41 kV41 dc41 pm41 cd41 ct41 oc42 kV42 dc42 pm42 cd42 ct42 oc43 kV43 dc43 pm43 cd43 ct43 oc44 kV44 dc44 pm44 cd44 ct44 oc45 kV45 dc45 pm45 cd45 ct45 oc46 kV46 dc46 pm46 cd46 ct46:Value}
  (a1:PySem.W.nsIn K mainGlobals "is_name"=some (some (.ref f1)))
  (l1:K.lookup f1=some ⟨oc1,od1,.func (PySem.W.fnOf "is_name" "is_name" (qAq qLa) (qAn qLa) (qAa qLa) .none kV1 dc1 pm1 an1 cd1 ct1),sl1⟩)
  (c1:PySem.W.codeIn K cd1 "is_name"=true)
  (k1:PySem.W.keepIn K (.ref f1)=true)
  (a2:PySem.W.nsIn K mainGlobals "is_row"=some (some (.ref f2)))
  (l2:K.lookup f2=some ⟨oc2,od2,.func (PySem.W.fnOf "is_row" "is_row" (qAq qF0) (qAn qF0) (qAa qF0) .none kV2 dc2 pm2 an2 cd2 ct2),sl2⟩)
  (c2:PySem.W.codeIn K cd2 "is_row"=true)
  (k2:PySem.W.keepIn K (.ref f2)=true)
  (a3:PySem.W.nsIn K mainGlobals "mask_of"=some (some (.ref f3)))
  (l3:K.lookup f3=some ⟨oc3,od3,.func (PySem.W.fnOf "mask_of" "mask_of" (qAq qN9) (qAn qN9) (qAa qN9) .none kV3 dc3 pm3 an3 cd3 ct3),sl3⟩)
  (c3:PySem.W.codeIn K cd3 "mask_of"=true)
  (k3:PySem.W.keepIn K (.ref f3)=true)
  (a4:PySem.W.nsIn K mainGlobals "row_of"=some (some (.ref f4)))
  (l4:K.lookup f4=some ⟨oc4,od4,.func (PySem.W.fnOf "row_of" "row_of" (qAq qGj) (qAn qGj) (qAa qGj) .none kV4 dc4 pm4 an4 cd4 ct4),sl4⟩)
  (c4:PySem.W.codeIn K cd4 "row_of"=true)
  (k4:PySem.W.keepIn K (.ref f4)=true)
  (a5:PySem.W.nsIn K mainGlobals "lessened"=some (some (.ref f5)))
  (l5:K.lookup f5=some ⟨oc5,od5,.func (PySem.W.fnOf "lessened" "lessened" (qAq qOa) (qAn qOa) (qAa qOa) .none kV5 dc5 pm5 an5 cd5 ct5),sl5⟩)
  (c5:PySem.W.codeIn K cd5 "lessened"=true)
  (k5:PySem.W.keepIn K (.ref f5)=true)
  (a6:PySem.W.nsIn K mainGlobals "reduced"=some (some (.ref f6)))
  (l6:K.lookup f6=some ⟨oc6,od6,.func (PySem.W.fnOf "reduced" "reduced" (qAq qK9) (qAn qK9) (qAa qK9) .none kV6 dc6 pm6 an6 cd6 ct6),sl6⟩)
  (c6:PySem.W.codeIn K cd6 "reduced"=true)
  (k6:PySem.W.keepIn K (.ref f6)=true)
  (a7:PySem.W.nsIn K mainGlobals "lead_of"=some (some (.ref f7)))
  (l7:K.lookup f7=some ⟨oc7,od7,.func (PySem.W.fnOf "lead_of" "lead_of" (qAq qOb) (qAn qOb) (qAa qOb) .none kV7 dc7 pm7 an7 cd7 ct7),sl7⟩)
  (c7:PySem.W.codeIn K cd7 "lead_of"=true)
  (k7:PySem.W.keepIn K (.ref f7)=true)
  (a8:PySem.W.nsIn K mainGlobals "crossed_masks"=some (some (.ref f8)))
  (l8:K.lookup f8=some ⟨oc8,od8,.func (PySem.W.fnOf "crossed_masks" "crossed_masks" (qAq qT8) (qAn qT8) (qAa qT8) .none kV8 dc8 pm8 an8 cd8 ct8),sl8⟩)
  (c8:PySem.W.codeIn K cd8 "crossed_masks"=true)
  (k8:PySem.W.keepIn K (.ref f8)=true)
  (a9:PySem.W.nsIn K mainGlobals "table_from"=some (some (.ref f9)))
  (l9:K.lookup f9=some ⟨oc9,od9,.func (PySem.W.fnOf "table_from" "table_from" (qAq qK8) (qAn qK8) (qAa qK8) .none kV9 dc9 pm9 an9 cd9 ct9),sl9⟩)
  (c9:PySem.W.codeIn K cd9 "table_from"=true)
  (k9:PySem.W.keepIn K (.ref f9)=true)
  (a10:PySem.W.nsIn K mainGlobals "has_table_form"=some (some (.ref f10)))
  (l10:K.lookup f10=some ⟨oc10,od10,.func (PySem.W.fnOf "has_table_form" "has_table_form" (qAq qVs) (qAn qVs) (qAa qVs) .none kV10 dc10 pm10 an10 cd10 ct10),sl10⟩)
  (c10:PySem.W.codeIn K cd10 "has_table_form"=true)
  (k10:PySem.W.keepIn K (.ref f10)=true)
  (a11:PySem.W.nsIn K mainGlobals "keeps_bounds"=some (some (.ref f11)))
  (l11:K.lookup f11=some ⟨oc11,od11,.func (PySem.W.fnOf "keeps_bounds" "keeps_bounds" (qAq qOe) (qAn qOe) (qAa qOe) .none kV11 dc11 pm11 an11 cd11 ct11),sl11⟩)
  (c11:PySem.W.codeIn K cd11 "keeps_bounds"=true)
  (k11:PySem.W.keepIn K (.ref f11)=true)
  (a12:PySem.W.nsIn K mainGlobals "step_masks"=some (some (.ref f12)))
  (l12:K.lookup f12=some ⟨oc12,od12,.func (PySem.W.fnOf "step_masks" "step_masks" (qAq qGi) (qAn qGi) (qAa qGi) .none kV12 dc12 pm12 an12 cd12 ct12),sl12⟩)
  (c12:PySem.W.codeIn K cd12 "step_masks"=true)
  (k12:PySem.W.keepIn K (.ref f12)=true)
  (a13:PySem.W.nsIn K mainGlobals "crossed"=some (some (.ref f13)))
  (l13:K.lookup f13=some ⟨oc13,od13,.func (PySem.W.fnOf "crossed" "crossed" (qAq qHp) (qAn qHp) (qAa qHp) .none kV13 dc13 pm13 an13 cd13 ct13),sl13⟩)
  (c13:PySem.W.codeIn K cd13 "crossed"=true)
  (k13:PySem.W.keepIn K (.ref f13)=true)
  (a14:PySem.W.nsIn K mainGlobals "is_tie"=some (some (.ref f14)))
  (l14:K.lookup f14=some ⟨oc14,od14,.func (PySem.W.fnOf "is_tie" "is_tie" (qAq qGn) (qAn qGn) (qAa qGn) .none kV14 dc14 pm14 an14 cd14 ct14),sl14⟩)
  (c14:PySem.W.codeIn K cd14 "is_tie"=true)
  (k14:PySem.W.keepIn K (.ref f14)=true)
  (a15:PySem.W.nsIn K mainGlobals "has_net_form"=some (some (.ref f15)))
  (l15:K.lookup f15=some ⟨oc15,od15,.func (PySem.W.fnOf "has_net_form" "has_net_form" (qAq qLh) (qAn qLh) (qAa qLh) .none kV15 dc15 pm15 an15 cd15 ct15),sl15⟩)
  (c15:PySem.W.codeIn K cd15 "has_net_form"=true)
  (k15:PySem.W.keepIn K (.ref f15)=true)
  (a16:PySem.W.nsIn K mainGlobals "keeps_net_bounds"=some (some (.ref f16)))
  (l16:K.lookup f16=some ⟨oc16,od16,.func (PySem.W.fnOf "keeps_net_bounds" "keeps_net_bounds" (qAq qXz) (qAn qXz) (qAa qXz) .none kV16 dc16 pm16 an16 cd16 ct16),sl16⟩)
  (c16:PySem.W.codeIn K cd16 "keeps_net_bounds"=true)
  (k16:PySem.W.keepIn K (.ref f16)=true)
  (a17:PySem.W.nsIn K mainGlobals "ties_of"=some (some (.ref f17)))
  (l17:K.lookup f17=some ⟨oc17,od17,.func (PySem.W.fnOf "ties_of" "ties_of" (qAq qK7) (qAn qK7) (qAa qK7) .none kV17 dc17 pm17 an17 cd17 ct17),sl17⟩)
  (c17:PySem.W.codeIn K cd17 "ties_of"=true)
  (k17:PySem.W.keepIn K (.ref f17)=true)
  (a18:PySem.W.nsIn K mainGlobals "points"=some (some (.ref f18)))
  (l18:K.lookup f18=some ⟨oc18,od18,.func (PySem.W.fnOf "points" "points" (qAq qEs) (qAn qEs) (qAa qEs) .none kV18 dc18 pm18 an18 cd18 ct18),sl18⟩)
  (c18:PySem.W.codeIn K cd18 "points"=true)
  (k18:PySem.W.keepIn K (.ref f18)=true)
  (a19:PySem.W.nsIn K mainGlobals "met_once"=some (some (.ref f19)))
  (l19:K.lookup f19=some ⟨oc19,od19,.func (PySem.W.fnOf "met_once" "met_once" (qAq qVq) (qAn qVq) (qAa qVq) .none kV19 dc19 pm19 an19 cd19 ct19),sl19⟩)
  (c19:PySem.W.codeIn K cd19 "met_once"=true)
  (k19:PySem.W.keepIn K (.ref f19)=true)
  (a20:PySem.W.nsIn K mainGlobals "table_of"=some (some (.ref f20)))
  (l20:K.lookup f20=some ⟨oc20,od20,.func (PySem.W.fnOf "table_of" "table_of" (qAq qGh) (qAn qGh) (qAa qGh) .none kV20 dc20 pm20 an20 cd20 ct20),sl20⟩)
  (c20:PySem.W.codeIn K cd20 "table_of"=true)
  (k20:PySem.W.keepIn K (.ref f20)=true)
  (a21:PySem.W.nsIn K mainGlobals "words_of"=some (some (.ref f21)))
  (l21:K.lookup f21=some ⟨oc21,od21,.func (PySem.W.fnOf "words_of" "words_of" (qAq qHo) (qAn qHo) (qAa qHo) .none kV21 dc21 pm21 an21 cd21 ct21),sl21⟩)
  (c21:PySem.W.codeIn K cd21 "words_of"=true)
  (k21:PySem.W.keepIn K (.ref f21)=true)
  (a22:PySem.W.nsIn K mainGlobals "read_table"=some (some (.ref f22)))
  (l22:K.lookup f22=some ⟨oc22,od22,.func (PySem.W.fnOf "read_table" "read_table" (qAq qGk) (qAn qGk) (qAa qGk) .none kV22 dc22 pm22 an22 cd22 ct22),sl22⟩)
  (c22:PySem.W.codeIn K cd22 "read_table"=true)
  (k22:PySem.W.keepIn K (.ref f22)=true)
  (a23:PySem.W.nsIn K mainGlobals "read_net"=some (some (.ref f23)))
  (l23:K.lookup f23=some ⟨oc23,od23,.func (PySem.W.fnOf "read_net" "read_net" (qAq qFy) (qAn qFy) (qAa qFy) .none kV23 dc23 pm23 an23 cd23 ct23),sl23⟩)
  (c23:PySem.W.codeIn K cd23 "read_net"=true)
  (k23:PySem.W.keepIn K (.ref f23)=true)
  (a24:PySem.W.nsIn K mainGlobals "_law_cell_at"=some (some (.ref f24)))
  (l24:K.lookup f24=some ⟨oc24,od24,.func (PySem.W.fnOf "_law_cell_at" "_law_cell_at" (qAq qOf) (qAn qOf) (qAa qOf) .none kV24 dc24 pm24 an24 cd24 ct24),sl24⟩)
  (c24:PySem.W.codeIn K cd24 "_law_cell_at"=true)
  (k24:PySem.W.keepIn K (.ref f24)=true)
  (a25:PySem.W.nsIn K mainGlobals "_law_big"=some (some (.ref f25)))
  (l25:K.lookup f25=some ⟨oc25,od25,.func (PySem.W.fnOf "_law_big" "_law_big" (qAq qX0) (qAn qX0) (qAa qX0) .none kV25 dc25 pm25 an25 cd25 ct25),sl25⟩)
  (c25:PySem.W.codeIn K cd25 "_law_big"=true)
  (k25:PySem.W.keepIn K (.ref f25)=true)
  (a26:PySem.W.nsIn K mainGlobals "_law_names"=some (some (.ref f26)))
  (l26:K.lookup f26=some ⟨oc26,od26,.func (PySem.W.fnOf "_law_names" "_law_names" (qAq qGl) (qAn qGl) (qAa qGl) .none kV26 dc26 pm26 an26 cd26 ct26),sl26⟩)
  (c26:PySem.W.codeIn K cd26 "_law_names"=true)
  (k26:PySem.W.keepIn K (.ref f26)=true)
  (a27:PySem.W.nsIn K mainGlobals "_law_ends"=some (some (.ref f27)))
  (l27:K.lookup f27=some ⟨oc27,od27,.func (PySem.W.fnOf "_law_ends" "_law_ends" (qAq qLi) (qAn qLi) (qAa qLi) .none kV27 dc27 pm27 an27 cd27 ct27),sl27⟩)
  (c27:PySem.W.codeIn K cd27 "_law_ends"=true)
  (k27:PySem.W.keepIn K (.ref f27)=true)
  (a28:PySem.W.nsIn K mainGlobals "_law_net"=some (some (.ref f28)))
  (l28:K.lookup f28=some ⟨oc28,od28,.func (PySem.W.fnOf "_law_net" "_law_net" (qAq qXy) (qAn qXy) (qAa qXy) .none kV28 dc28 pm28 an28 cd28 ct28),sl28⟩)
  (c28:PySem.W.codeIn K cd28 "_law_net"=true)
  (k28:PySem.W.keepIn K (.ref f28)=true)
  (a29:PySem.W.nsIn K mainGlobals "_law_reduced"=some (some (.ref f29)))
  (l29:K.lookup f29=some ⟨oc29,od29,.func (PySem.W.fnOf "_law_reduced" "_law_reduced" (qAq qLe) (qAn qLe) (qAa qLe) .none kV29 dc29 pm29 an29 cd29 ct29),sl29⟩)
  (c29:PySem.W.codeIn K cd29 "_law_reduced"=true)
  (k29:PySem.W.keepIn K (.ref f29)=true)
  (a30:PySem.W.nsIn K mainGlobals "_law_even"=some (some (.ref f30)))
  (l30:K.lookup f30=some ⟨oc30,od30,.func (PySem.W.fnOf "_law_even" "_law_even" (qAq qFz) (qAn qFz) (qAa qFz) .none kV30 dc30 pm30 an30 cd30 ct30),sl30⟩)
  (c30:PySem.W.codeIn K cd30 "_law_even"=true)
  (k30:PySem.W.keepIn K (.ref f30)=true)
  (a31:PySem.W.nsIn K mainGlobals "_law_crossing"=some (some (.ref f31)))
  (l31:K.lookup f31=some ⟨oc31,od31,.func (PySem.W.fnOf "_law_crossing" "_law_crossing" (qAq qJv) (qAn qJv) (qAa qJv) .none kV31 dc31 pm31 an31 cd31 ct31),sl31⟩)
  (c31:PySem.W.codeIn K cd31 "_law_crossing"=true)
  (k31:PySem.W.keepIn K (.ref f31)=true)
  (a32:PySem.W.nsIn K mainGlobals "_law_small"=some (some (.ref f32)))
  (l32:K.lookup f32=some ⟨oc32,od32,.func (PySem.W.fnOf "_law_small" "_law_small" (qAq qHd) (qAn qHd) (qAa qHd) .none kV32 dc32 pm32 an32 cd32 ct32),sl32⟩)
  (c32:PySem.W.codeIn K cd32 "_law_small"=true)
  (k32:PySem.W.keepIn K (.ref f32)=true)
  (a33:PySem.W.nsIn K mainGlobals "_law_with_more"=some (some (.ref f33)))
  (l33:K.lookup f33=some ⟨oc33,od33,.func (PySem.W.fnOf "_law_with_more" "_law_with_more" (qAq qLf) (qAn qLf) (qAa qLf) .none kV33 dc33 pm33 an33 cd33 ct33),sl33⟩)
  (c33:PySem.W.codeIn K cd33 "_law_with_more"=true)
  (k33:PySem.W.keepIn K (.ref f33)=true)
  (a34:PySem.W.nsIn K mainGlobals "_law_row"=some (some (.ref f34)))
  (l34:K.lookup f34=some ⟨oc34,od34,.func (PySem.W.fnOf "_law_row" "_law_row" (qAq qLd) (qAn qLd) (qAa qLd) .none kV34 dc34 pm34 an34 cd34 ct34),sl34⟩)
  (c34:PySem.W.codeIn K cd34 "_law_row"=true)
  (k34:PySem.W.keepIn K (.ref f34)=true)
  (a35:PySem.W.nsIn K mainGlobals "_law_mask"=some (some (.ref f35)))
  (l35:K.lookup f35=some ⟨oc35,od35,.func (PySem.W.fnOf "_law_mask" "_law_mask" (qAq qLg) (qAn qLg) (qAa qLg) .none kV35 dc35 pm35 an35 cd35 ct35),sl35⟩)
  (c35:PySem.W.codeIn K cd35 "_law_mask"=true)
  (k35:PySem.W.keepIn K (.ref f35)=true)
  (a36:PySem.W.nsIn K mainGlobals "_law_free"=some (some (.ref f36)))
  (l36:K.lookup f36=some ⟨oc36,od36,.func (PySem.W.fnOf "_law_free" "_law_free" (qAq qOd) (qAn qOd) (qAa qOd) .none kV36 dc36 pm36 an36 cd36 ct36),sl36⟩)
  (c36:PySem.W.codeIn K cd36 "_law_free"=true)
  (k36:PySem.W.keepIn K (.ref f36)=true)
  (a37:PySem.W.nsIn K mainGlobals "_law_steps_of"=some (some (.ref f37)))
  (l37:K.lookup f37=some ⟨oc37,od37,.func (PySem.W.fnOf "_law_steps_of" "_law_steps_of" (qAq qLc) (qAn qLc) (qAa qLc) .none kV37 dc37 pm37 an37 cd37 ct37),sl37⟩)
  (c37:PySem.W.codeIn K cd37 "_law_steps_of"=true)
  (k37:PySem.W.keepIn K (.ref f37)=true)
  (a38:PySem.W.nsIn K mainGlobals "_law_table"=some (some (.ref f38)))
  (l38:K.lookup f38=some ⟨oc38,od38,.func (PySem.W.fnOf "_law_table" "_law_table" (qAq qLb) (qAn qLb) (qAa qLb) .none kV38 dc38 pm38 an38 cd38 ct38),sl38⟩)
  (c38:PySem.W.codeIn K cd38 "_law_table"=true)
  (k38:PySem.W.keepIn K (.ref f38)=true)
  (a39:PySem.W.nsIn K mainGlobals "_law_written"=some (some (.ref f39)))
  (l39:K.lookup f39=some ⟨oc39,od39,.func (PySem.W.fnOf "_law_written" "_law_written" (qAq qOc) (qAn qOc) (qAa qOc) .none kV39 dc39 pm39 an39 cd39 ct39),sl39⟩)
  (c39:PySem.W.codeIn K cd39 "_law_written"=true)
  (k39:PySem.W.keepIn K (.ref f39)=true)
  (a40:PySem.W.nsIn K mainGlobals "_law_bent"=some (some (.ref f40)))
  (l40:K.lookup f40=some ⟨oc40,od40,.func (PySem.W.fnOf "_law_bent" "_law_bent" (qAq qOg) (qAn qOg) (qAa qOg) .none kV40 dc40 pm40 an40 cd40 ct40),sl40⟩)
  (c40:PySem.W.codeIn K cd40 "_law_bent"=true)
  (k40:PySem.W.keepIn K (.ref f40)=true)
  (a41:PySem.W.nsIn K mainGlobals "_law_is_name"=some (some (.ref f41)))
  (l41:K.lookup f41=some ⟨oc41,od41,.func (PySem.W.fnOf "_law_is_name" "_law_is_name" (qAq qVr) (qAn qVr) (qAa qVr) .none kV41 dc41 pm41 an41 cd41 ct41),sl41⟩)
  (c41:PySem.W.codeIn K cd41 "_law_is_name"=true)
  (k41:PySem.W.keepIn K (.ref f41)=true)
  (a42:PySem.W.nsIn K mainGlobals "_law_row_read"=some (some (.ref f42)))
  (l42:K.lookup f42=some ⟨oc42,od42,.func (PySem.W.fnOf "_law_row_read" "_law_row_read" (qAq qGm) (qAn qGm) (qAa qGm) .none kV42 dc42 pm42 an42 cd42 ct42),sl42⟩)
  (c42:PySem.W.codeIn K cd42 "_law_row_read"=true)
  (k42:PySem.W.keepIn K (.ref f42)=true)
  (a43:PySem.W.nsIn K mainGlobals "_law_table_due"=some (some (.ref f43)))
  (l43:K.lookup f43=some ⟨oc43,od43,.func (PySem.W.fnOf "_law_table_due" "_law_table_due" (qAq qIb) (qAn qIb) (qAa qIb) .none kV43 dc43 pm43 an43 cd43 ct43),sl43⟩)
  (c43:PySem.W.codeIn K cd43 "_law_table_due"=true)
  (k43:PySem.W.keepIn K (.ref f43)=true)
  (a44:PySem.W.nsIn K mainGlobals "_law_net_due"=some (some (.ref f44)))
  (l44:K.lookup f44=some ⟨oc44,od44,.func (PySem.W.fnOf "_law_net_due" "_law_net_due" (qAq qIc) (qAn qIc) (qAa qIc) .none kV44 dc44 pm44 an44 cd44 ct44),sl44⟩)
  (c44:PySem.W.codeIn K cd44 "_law_net_due"=true)
  (k44:PySem.W.keepIn K (.ref f44)=true)
  (a45:PySem.W.nsIn K mainGlobals "_law_told"=some (some (.ref f45)))
  (l45:K.lookup f45=some ⟨oc45,od45,.func (PySem.W.fnOf "_law_told" "_law_told" (qAq qN8) (qAn qN8) (qAa qN8) .none kV45 dc45 pm45 an45 cd45 ct45),sl45⟩)
  (c45:PySem.W.codeIn K cd45 "_law_told"=true)
  (k45:PySem.W.keepIn K (.ref f45)=true)
  (a46:PySem.W.nsIn K mainGlobals "law"=some (some (.ref f46)))
  (l46:K.lookup f46=some ⟨oc46,od46,.func (PySem.W.fnOf "law" "law" (qAq qMt) (qAn qMt) (qAa qMt) .none kV46 dc46 pm46 an46 cd46 ct46),sl46⟩)
  (c46:PySem.W.codeIn K cd46 "law"=true)
  (k46:PySem.W.keepIn K (.ref f46)=true)
  (q1:PySem.W.nsIn K mainGlobals "EMPTY"=some (some (.str "-" tk_EMPTY)))
  (q2:PySem.W.nsIn K mainGlobals "SIGNS"=some (some (.str sg tk_SIGNS)))
  (q3:PySem.W.nsIn K mainGlobals "MOST_SIGNS"=some (some (.int 6 tk_MOST_SIGNS)))
  (q4:PySem.W.nsIn K mainGlobals "MOST_NAMES"=some (some (.int 12 tk_MOST_NAMES)))
  (q5:PySem.W.nsIn K mainGlobals "MOST_ROWS"=some (some (.int 16 tk_MOST_ROWS)))
  (q6:PySem.W.nsIn K mainGlobals "MOST_STEPS"=some (some (.int 8 tk_MOST_STEPS)))
  (z1:PySem.W.nsIn K mainGlobals "ValueError"=some none)
  (z2:PySem.W.nsIn K mainGlobals "abs"=some none)
  (z3:PySem.W.nsIn K mainGlobals "all"=some none)
  (z4:PySem.W.nsIn K mainGlobals "enumerate"=some none)
  (z5:PySem.W.nsIn K mainGlobals "int"=some none)
  (z6:PySem.W.nsIn K mainGlobals "isinstance"=some none)
  (z7:PySem.W.nsIn K mainGlobals "len"=some none)
  (z8:PySem.W.nsIn K mainGlobals "list"=some none)
  (z9:PySem.W.nsIn K mainGlobals "min"=some none)
  (z10:PySem.W.nsIn K mainGlobals "range"=some none)
  (z11:PySem.W.nsIn K mainGlobals "set"=some none)
  (z12:PySem.W.nsIn K mainGlobals "sorted"=some none)
  (z13:PySem.W.nsIn K mainGlobals "str"=some none)
  (z14:PySem.W.nsIn K mainGlobals "sum"=some none)
  (z15:PySem.W.nsIn K mainGlobals "tuple"=some none)
  (z16:PySem.W.nsIn K mainGlobals "zip"=some none)
  (yNoText:PySem.W.nsIn K mainGlobals "NoText"=some (some (.ref CN)))
  (yTooMany:PySem.W.nsIn K mainGlobals "TooMany"=some (some (.ref CT)))
  (yRoundError:PySem.W.nsIn K mainGlobals "RoundError"=some (some (.ref R)))
  (eNoText:PySem.W.excIn K CN vB "ValueError.__new__"=true)
  (eTooMany:PySem.W.excIn K CT vB "ValueError.__new__"=true)
  (xaNoText:PySem.W.clsIn K CN=some cdCN)
  (xbNoText:PySem.W.findIn K (.ref CN) "__getattribute__"=some (some (.builtin "BaseException.__getattribute__")))
  (xcNoText:PySem.W.findIn K (.ref CN) "__getattr__"=some none)
  (xdNoText:PySem.W.findIn K (.ref CN) "__class__"=some (some (.builtin "object.__class__")))
  (xeNoText:PySem.W.mroIn K CN (.type "object")=some true)
  (xfNoText:PySem.W.mroIn K CN (.type "BaseException")=some true)
  (xaTooMany:PySem.W.clsIn K CT=some cdCT)
  (xbTooMany:PySem.W.findIn K (.ref CT) "__getattribute__"=some (some (.builtin "BaseException.__getattribute__")))
  (xcTooMany:PySem.W.findIn K (.ref CT) "__getattr__"=some none)
  (xdTooMany:PySem.W.findIn K (.ref CT) "__class__"=some (some (.builtin "object.__class__")))
  (xeTooMany:PySem.W.mroIn K CT (.type "object")=some true)
  (xfTooMany:PySem.W.mroIn K CT (.type "BaseException")=some true)
  (xg:PySem.W.specialIn K (.builtin "object.__class__") "__get__"=some (some (.builtin "getset_descriptor.__get__")))
  (xh:PySem.W.takesIn K (.builtin "object.__class__")=some true)
  (xTN:PySem.W.exmOne K (.ref CT) (.ref CN)=some false)
  (xsNoText:PySem.W.exmOne K (.ref CN) (.ref CN)=some true)
  (xsTooMany:PySem.W.exmOne K (.ref CT) (.ref CT)=some true)
  (rrNoText:PySem.W.kitOne K (.ref CN) (.ref R)=some true)
  (rrTooMany:PySem.W.kitOne K (.ref CT) (.ref R)=some true)
  (vvNoText:PySem.W.kitOne K (.ref CN) (.type "ValueError")=some true)
  (vvTooMany:PySem.W.kitOne K (.ref CT) (.type "ValueError")=some true)
  (nt:PySem.W.kitOne K (.ref CN) (.ref CT)=some false)
  : ∃fd:FuncData,(∀(s:Shared) (v:Value),BindsTo s fd ⟨[v],[]⟩ [("_law_script",v)])/\∀base:Heap,K.In base->base.Ns mainGlobals mg->FnOk l.prog w K mg base CX0 9 fa fd ["_law_script"] (qR3 K):=by
 have e:=hfa.symm.trans (hAg X G a46);cases e;have F1:=qA0 (st:=qLa) l1 c1 k1;have F2:=qA0 (st:=qF0) l2 c2 k2;have F3:=qA0 (st:=qN9) l3 c3 k3;have F4:=qA0 (st:=qGj) l4 c4 k4;have F5:=qA0 (st:=qOa) l5 c5 k5;have F6:=qA0 (st:=qK9) l6 c6 k6;have F7:=qA0 (st:=qOb) l7 c7 k7;have F8:=qA0 (st:=qT8) l8 c8 k8;have F9:=qA0 (st:=qK8) l9 c9 k9;have F10:=qA0 (st:=qVs) l10 c10 k10;have F11:=qA0 (st:=qOe) l11 c11 k11;have F12:=qA0 (st:=qGi) l12 c12 k12;have F13:=qA0 (st:=qHp) l13 c13 k13;have F14:=qA0 (st:=qGn) l14 c14 k14;have F15:=qA0 (st:=qLh) l15 c15 k15;have F16:=qA0 (st:=qXz) l16 c16 k16;have F17:=qA0 (st:=qK7) l17 c17 k17;have F18:=qA0 (st:=qEs) l18 c18 k18;have F19:=qA0 (st:=qVq) l19 c19 k19;have F20:=qA0 (st:=qGh) l20 c20 k20;have F21:=qA0 (st:=qHo) l21 c21 k21;have F22:=qA0 (st:=qGk) l22 c22 k22;have F23:=qA0 (st:=qFy) l23 c23 k23;have F24:=qA0 (st:=qOf) l24 c24 k24;have F25:=qA0 (st:=qX0) l25 c25 k25;have F26:=qA0 (st:=qGl) l26 c26 k26;have F27:=qA0 (st:=qLi) l27 c27 k27;have F28:=qA0 (st:=qXy) l28 c28 k28;have F29:=qA0 (st:=qLe) l29 c29 k29;have F30:=qA0 (st:=qFz) l30 c30 k30;have F31:=qA0 (st:=qJv) l31 c31 k31;have F32:=qA0 (st:=qHd) l32 c32 k32;have F33:=qA0 (st:=qLf) l33 c33 k33;have F34:=qA0 (st:=qLd) l34 c34 k34;have F35:=qA0 (st:=qLg) l35 c35 k35;have F36:=qA0 (st:=qOd) l36 c36 k36;have F37:=qA0 (st:=qLc) l37 c37 k37;have F38:=qA0 (st:=qLb) l38 c38 k38;have F39:=qA0 (st:=qOc) l39 c39 k39;have F40:=qA0 (st:=qOg) l40 c40 k40;have F41:=qA0 (st:=qVr) l41 c41 k41;have F42:=qA0 (st:=qGm) l42 c42 k42;have F43:=qA0 (st:=qIb) l43 c43 k43;have F44:=qA0 (st:=qIc) l44 c44 k44;have F45:=qA0 (st:=qN8) l45 c45 k45;have F46:=qA0 (st:=qMt) l46 c46 k46;have b1:=F1.binds (ps:=["thing"]) λ_ _ _ _ _ _ us hl=>by obtain⟨_,rfl⟩:=zl1 hl;rfl
 have m1:=hAg X G a1;have b2:=F2.binds (ps:=["thing"]) λ_ _ _ _ _ _ us hl=>by obtain⟨_,rfl⟩:=zl1 hl;rfl
 have m2:=hAg X G a2;have b3:=F3.binds (ps:=["names","row"]) λ_ _ _ _ _ _ us hl=>by obtain⟨_,_,rfl⟩:=zl2 hl;rfl
 have m3:=hAg X G a3;have b4:=F4.binds (ps:=["names","mask"]) λ_ _ _ _ _ _ us hl=>by obtain⟨_,_,rfl⟩:=zl2 hl;rfl
 have m4:=hAg X G a4;have b5:=F5.binds (ps:=["mask","kept"]) λ_ _ _ _ _ _ us hl=>by obtain⟨_,_,rfl⟩:=zl2 hl;rfl
 have m5:=hAg X G a5;have b6:=F6.binds (ps:=["masks"]) λ_ _ _ _ _ _ us hl=>by obtain⟨_,rfl⟩:=zl1 hl;rfl
 have m6:=hAg X G a6;have b7:=F7.binds (ps:=["mask"]) λ_ _ _ _ _ _ us hl=>by obtain⟨_,rfl⟩:=zl1 hl;rfl
 have m7:=hAg X G a7;have b8:=F8.binds (ps:=["steps","width"]) λ_ _ _ _ _ _ us hl=>by obtain⟨_,_,rfl⟩:=zl2 hl;rfl
 have m8:=hAg X G a8;have b9:=F9.binds (ps:=["names","masks"]) λ_ _ _ _ _ _ us hl=>by obtain⟨_,_,rfl⟩:=zl2 hl;rfl
 have m9:=hAg X G a9;have b10:=F10.binds (ps:=["thing"]) λ_ _ _ _ _ _ us hl=>by obtain⟨_,rfl⟩:=zl1 hl;rfl
 have m10:=hAg X G a10;have b11:=F11.binds (ps:=["table"]) λ_ _ _ _ _ _ us hl=>by obtain⟨_,rfl⟩:=zl1 hl;rfl
 have m11:=hAg X G a11;have b12:=F12.binds (ps:=["table"]) λ_ _ _ _ _ _ us hl=>by obtain⟨_,rfl⟩:=zl1 hl;rfl
 have m12:=hAg X G a12;have b13:=F13.binds (ps:=["table"]) λ_ _ _ _ _ _ us hl=>by obtain⟨_,rfl⟩:=zl1 hl;rfl
 have m13:=hAg X G a13;have b14:=F14.binds (ps:=["thing"]) λ_ _ _ _ _ _ us hl=>by obtain⟨_,rfl⟩:=zl1 hl;rfl
 have m14:=hAg X G a14;have b15:=F15.binds (ps:=["thing"]) λ_ _ _ _ _ _ us hl=>by obtain⟨_,rfl⟩:=zl1 hl;rfl
 have m15:=hAg X G a15;have b16:=F16.binds (ps:=["net"]) λ_ _ _ _ _ _ us hl=>by obtain⟨_,rfl⟩:=zl1 hl;rfl
 have m16:=hAg X G a16;have b17:=F17.binds (ps:=["net"]) λ_ _ _ _ _ _ us hl=>by obtain⟨_,rfl⟩:=zl1 hl;rfl
 have m17:=hAg X G a17;have b18:=F18.binds (ps:=["net"]) λ_ _ _ _ _ _ us hl=>by obtain⟨_,rfl⟩:=zl1 hl;rfl
 have m18:=hAg X G a18;have b19:=F19.binds (ps:=["net","point"]) λ_ _ _ _ _ _ us hl=>by obtain⟨_,_,rfl⟩:=zl2 hl;rfl
 have m19:=hAg X G a19;have b20:=F20.binds (ps:=["net"]) λ_ _ _ _ _ _ us hl=>by obtain⟨_,rfl⟩:=zl1 hl;rfl
 have m20:=hAg X G a20;have b21:=F21.binds (ps:=["text"]) λ_ _ _ _ _ _ us hl=>by obtain⟨_,rfl⟩:=zl1 hl;rfl
 have m21:=hAg X G a21;have b22:=F22.binds (ps:=["text"]) λ_ _ _ _ _ _ us hl=>by obtain⟨_,rfl⟩:=zl1 hl;rfl
 have m22:=hAg X G a22;have b23:=F23.binds (ps:=["text"]) λ_ _ _ _ _ _ us hl=>by obtain⟨_,rfl⟩:=zl1 hl;rfl
 have m23:=hAg X G a23;have b24:=F24.binds (ps:=["_law_script","_law_k"]) λ_ _ _ _ _ _ us hl=>by obtain⟨_,_,rfl⟩:=zl2 hl;rfl
 have m24:=hAg X G a24;have b25:=F25.binds (ps:=["_law_script","_law_k"]) λ_ _ _ _ _ _ us hl=>by obtain⟨_,_,rfl⟩:=zl2 hl;rfl
 have m25:=hAg X G a25;have b26:=F26.binds (ps:=["_law_big_here","_law_many"]) λ_ _ _ _ _ _ us hl=>by obtain⟨_,_,rfl⟩:=zl2 hl;rfl
 have m26:=hAg X G a26;have b27:=F27.binds (ps:=["_law_big_here","_law_many","_law_spread"]) λ_ _ _ _ _ _ us hl=>by obtain⟨_,_,_,rfl⟩:=zl3 hl;rfl
 have m27:=hAg X G a27;have b28:=F28.binds (ps:=["_law_script","_law_at"]) λ_ _ _ _ _ _ us hl=>by obtain⟨_,_,rfl⟩:=zl2 hl;rfl
 have m28:=hAg X G a28;have b29:=F29.binds (ps:=["_law_numbers"]) λ_ _ _ _ _ _ us hl=>by obtain⟨_,rfl⟩:=zl1 hl;rfl
 have m29:=hAg X G a29;have b30:=F30.binds (ps:=["_law_net_here"]) λ_ _ _ _ _ _ us hl=>by obtain⟨_,rfl⟩:=zl1 hl;rfl
 have m30:=hAg X G a30;have b31:=F31.binds (ps:=["_law_numbers","_law_many"]) λ_ _ _ _ _ _ us hl=>by obtain⟨_,_,rfl⟩:=zl2 hl;rfl
 have m31:=hAg X G a31;have b32:=F32.binds (ps:=["_law_kind"]) λ_ _ _ _ _ _ us hl=>by obtain⟨_,rfl⟩:=zl1 hl;rfl
 have m32:=hAg X G a32;have b33:=F33.binds (ps:=["_law_base","_law_many","_law_big_here","_law_most"]) λ_ _ _ _ _ _ us hl=>by obtain⟨_,_,_,_,rfl⟩:=zl4 hl;rfl
 have m33:=hAg X G a33;have b34:=F34.binds (ps:=["_law_names_here","_law_number"]) λ_ _ _ _ _ _ us hl=>by obtain⟨_,_,rfl⟩:=zl2 hl;rfl
 have m34:=hAg X G a34;have b35:=F35.binds (ps:=["_law_names_here","_law_row_here"]) λ_ _ _ _ _ _ us hl=>by obtain⟨_,_,rfl⟩:=zl2 hl;rfl
 have m35:=hAg X G a35;have b36:=F36.binds (ps:=["_law_big_here","_law_many"]) λ_ _ _ _ _ _ us hl=>by obtain⟨_,_,rfl⟩:=zl2 hl;rfl
 have m36:=hAg X G a36;have b37:=F37.binds (ps:=["_law_script","_law_at"]) λ_ _ _ _ _ _ us hl=>by obtain⟨_,_,rfl⟩:=zl2 hl;rfl
 have m37:=hAg X G a37;have b38:=F38.binds (ps:=["_law_script","_law_at"]) λ_ _ _ _ _ _ us hl=>by obtain⟨_,_,rfl⟩:=zl2 hl;rfl
 have m38:=hAg X G a38;have b39:=F39.binds (ps:=["_law_row_here"]) λ_ _ _ _ _ _ us hl=>by obtain⟨_,rfl⟩:=zl1 hl;rfl
 have m39:=hAg X G a39;have b40:=F40.binds (ps:=["_law_text","_law_big_here"]) λ_ _ _ _ _ _ us hl=>by obtain⟨_,_,rfl⟩:=zl2 hl;rfl
 have m40:=hAg X G a40;have b41:=F41.binds (ps:=["_law_word"]) λ_ _ _ _ _ _ us hl=>by obtain⟨_,rfl⟩:=zl1 hl;rfl
 have m41:=hAg X G a41;have b42:=F42.binds (ps:=["_law_text"]) λ_ _ _ _ _ _ us hl=>by obtain⟨_,rfl⟩:=zl1 hl;rfl
 have m42:=hAg X G a42;have b43:=F43.binds (ps:=["_law_text"]) λ_ _ _ _ _ _ us hl=>by obtain⟨_,rfl⟩:=zl1 hl;rfl
 have m43:=hAg X G a43;have b44:=F44.binds (ps:=["_law_text"]) λ_ _ _ _ _ _ us hl=>by obtain⟨_,rfl⟩:=zl1 hl;rfl
 have m44:=hAg X G a44;have b45:=F45.binds (ps:=["_law_way","_law_text"]) λ_ _ _ _ _ _ us hl=>by obtain⟨_,_,rfl⟩:=zl2 hl;rfl
 have m45:=hAg X G a45;have n_EMPTY:=hAg X G q1;have n_SIGNS:=hAg X G q2;have n_MOST_SIGNS:=hAg X G q3;have n_MOST_NAMES:=hAg X G q4;have n_MOST_ROWS:=hAg X G q5;have n_MOST_STEPS:=hAg X G q6;have n_ValueError:=hB5 X G z1;have n_abs:=hB5 X G z2;have n_all:=hB5 X G z3;have n_enumerate:=hB5 X G z4;have n_int:=hB5 X G z5;have n_isinstance:=hB5 X G z6;have n_len:=hB5 X G z7;have n_list:=hB5 X G z8;have n_min:=hB5 X G z9;have n_range:=hB5 X G z10;have n_set:=hB5 X G z11;have n_sorted:=hB5 X G z12;have n_str:=hB5 X G z13;have n_sum:=hB5 X G z14;have n_tuple:=hB5 X G z15;have n_zip:=hB5 X G z16;have Z:Refs K mg CN CT R:=⟨zBv xaNoText xbNoText xcNoText xdNoText xg xh xeNoText xfNoText,zBv xaTooMany xbTooMany xcTooMany xdTooMany xg xh xeTooMany xfTooMany,hAg X G yRoundError,hAg X G yNoText,hAg X G yTooMany,n_ValueError,n_isinstance,xsNoText,xTN,xsTooMany,rrNoText,rrTooMany,vvNoText,vvTooMany,nt⟩;refine⟨PySem.W.fnOf "law" "law" (qAq qMt) (qAn qMt) (qAa qMt) .none kV46 dc46 pm46 an46 cd46 ct46,λs v=>.of_eq rfl,λbase kb nb=>?_⟩;have ON:=qUi kb nb yNoText eNoText;have OT:=qUi kb nb yTooMany eTooMany;have g1:=qWk (P:=l.prog) (w:=w) (base:=base) F1  n_len n_isinstance n_str n_all n_SIGNS n_MOST_SIGNS;have g2:=qSu (P:=l.prog) (w:=w) (base:=base) F2 ⟨g1,b1,k1,m1⟩ n_isinstance n_list n_all n_zip;have g3:=qWl (P:=l.prog) (w:=w) (mg:=mg) (base:=base) F3;have g4:=qSn (P:=l.prog) (w:=w) (base:=base) F4  n_len n_enumerate;have g5:=qWv (P:=l.prog) (w:=w) (base:=base) F5  n_min;have g6:=qWi (P:=l.prog) (w:=w) (base:=base) F6 ⟨g5,b5,k5,m5⟩ n_min n_sorted;have g7:=qWw (P:=l.prog) (w:=w) (mg:=mg) (base:=base) F7;have g8:=qZk (P:=l.prog) (w:=w) (base:=base) F8 ⟨g7,b7,k7,m7⟩ n_sum n_range;have g9:=qWh (P:=l.prog) (w:=w) (base:=base) F9 ⟨g4,b4,k4,m4⟩ ⟨g6,b6,k6,m6⟩ n_list;have g10:=qZj (P:=l.prog) (w:=w) (base:=base) F10 ⟨g2,b2,k2,m2⟩ n_isinstance n_tuple n_list n_all n_len;have g12:=qSm (P:=l.prog) (w:=w) (base:=base) F12 ⟨g3,b3,k3,m3⟩ ⟨g6,b6,k6,m6⟩;have g11:=qWy (P:=l.prog) (w:=w) (base:=base) F11 ⟨g12,b12,k12,m12⟩ n_len n_MOST_NAMES n_MOST_ROWS n_MOST_STEPS;have g13:=qSv (P:=l.prog) (w:=w) (base:=base) F13 ⟨g9,b9,k9,m9⟩ ⟨g8,b8,k8,m8⟩ ⟨g12,b12,k12,m12⟩ n_len;have g14:=qSt (P:=l.prog) (w:=w) (base:=base) F14 ⟨g1,b1,k1,m1⟩ n_isinstance n_tuple n_all n_len;have g17:=qWf (P:=l.prog) (w:=w) (mg:=mg) (base:=base) F17;have g15:=qWz (P:=l.prog) (w:=w) (base:=base) F15 ⟨g14,b14,k14,m14⟩ ⟨g2,b2,k2,m2⟩ ⟨g17,b17,k17,m17⟩ n_isinstance n_list n_all;have g18:=qQn (P:=l.prog) (w:=w) (base:=base) F18  n_sorted;have g19:=qZf (P:=l.prog) (w:=w) (mg:=mg) (base:=base) F19;have g20:=qSl (P:=l.prog) (w:=w) (base:=base) F20 ⟨g13,b13,k13,m13⟩ ⟨g17,b17,k17,m17⟩ ⟨g19,b19,k19,m19⟩ ⟨g18,b18,k18,m18⟩;have g16:=qZi (P:=l.prog) (w:=w) (base:=base) F16 ⟨g11,b11,k11,m11⟩ ⟨g20,b20,k20,m20⟩ n_len n_MOST_NAMES;have g21:=qSk (P:=l.prog) (w:=w) (base:=base) F21  n_EMPTY;have g22:=qSo (P:=l.prog) (w:=w) (base:=base) F22 hCu hCu ON OT ⟨g21,b21,k21,m21⟩ ⟨g10,b10,k10,m10⟩ ⟨g11,b11,k11,m11⟩ n_isinstance n_str;have g23:=qSp (P:=l.prog) (w:=w) (base:=base) F23 hCu hCu ON OT ⟨g15,b15,k15,m15⟩ ⟨g16,b16,k16,m16⟩ n_isinstance n_str n_tuple n_EMPTY;have g24:=qW1 (P:=l.prog) (w:=w) (base:=base) F24  n_len;have g25:=qZl (P:=l.prog) (w:=w) (base:=base) F25 ⟨g24,b24,k24,m24⟩ n_range n_abs;have g26:=qSq (P:=l.prog) (w:=w) (base:=base) F26  n_range n_len;have g27:=qW0 (P:=l.prog) (w:=w) (base:=base) F27  n_range n_len n_list;have g28:=qZe (P:=l.prog) (w:=w) (base:=base) F28 ⟨g25,b25,k25,m25⟩ ⟨g27,b27,k27,m27⟩ ⟨g26,b26,k26,m26⟩ n_len n_zip n_tuple n_sorted;have g29:=qWr (P:=l.prog) (w:=w) (mg:=mg) (base:=base) F29;have g30:=qSs (P:=l.prog) (w:=w) (base:=base) F30  n_sorted n_set n_enumerate;have g31:=qWx (P:=l.prog) (w:=w) (base:=base) F31 ⟨g29,b29,k29,m29⟩ n_sum n_range;have g32:=qWp (P:=l.prog) (w:=w) (base:=base) F32 ⟨g31,b31,k31,m31⟩ ⟨g29,b29,k29,m29⟩ n_sum n_range n_enumerate n_len;have g33:=qWs (P:=l.prog) (w:=w) (base:=base) F33  n_len;have g34:=qWq (P:=l.prog) (w:=w) (base:=base) F34  n_enumerate;have g35:=qWt (P:=l.prog) (w:=w) (base:=base) F35  n_sum;have g36:=qWu (P:=l.prog) (w:=w) (base:=base) F36  n_range;have g37:=qWo (P:=l.prog) (w:=w) (base:=base) F37 ⟨g25,b25,k25,m25⟩ ⟨g28,b28,k28,m28⟩ ⟨g30,b30,k30,m30⟩ ⟨g36,b36,k36,m36⟩ ⟨g32,b32,k32,m32⟩ ⟨g33,b33,k33,m33⟩ ⟨g29,b29,k29,m29⟩ n_len n_min;have g38:=qWn (P:=l.prog) (w:=w) (base:=base) F38 ⟨g37,b37,k37,m37⟩ ⟨g26,b26,k26,m26⟩ ⟨g25,b25,k25,m25⟩ ⟨g34,b34,k34,m34⟩ n_len n_list n_sorted n_range;have g39:=qWm (P:=l.prog) (w:=w) (mg:=mg) (base:=base) F39;have g40:=qW2 (P:=l.prog) (w:=w) (base:=base) F40  n_range n_len n_int;have g41:=qZg (P:=l.prog) (w:=w) (base:=base) F41  n_len n_all;have g42:=qSr (P:=l.prog) (w:=w) (base:=base) F42 ⟨g41,b41,k41,m41⟩ n_all n_sorted n_set;have g43:=qWg (P:=l.prog) (w:=w) (base:=base) F43 ⟨g42,b42,k42,m42⟩ ⟨g35,b35,k35,m35⟩ ⟨g29,b29,k29,m29⟩ n_all n_len;have g44:=qWj (P:=l.prog) (w:=w) (base:=base) F44 ⟨g41,b41,k41,m41⟩ ⟨g30,b30,k30,m30⟩ n_all n_len n_tuple n_sorted n_set;have g45:=qWe (P:=l.prog) (w:=w) (base:=base) F45 Z n_int ⟨g22,b22,k22,m22⟩ ⟨g23,b23,k23,m23⟩;exact qZh F46 ⟨g38,b38,k38,m38⟩ ⟨g28,b28,k28,m28⟩ ⟨g39,b39,k39,m39⟩ ⟨g25,b25,k25,m25⟩ ⟨g40,b40,k40,m40⟩ ⟨g45,b45,k45,m45⟩ ⟨g43,b43,k43,m43⟩ ⟨g44,b44,k44,m44⟩ n_range
theorem walk{l:PySem.W.OpenLaw}{q:Program}{loose:List Str}{XP:(Str->Option Value)->Heap->Prop}{YP:World->Heap->Prop}{d:DefRec}{K:Params->PySem.W.Frag}(hn:l.most=some 63)(hdf:d.params.defaults=[])
  (hY:∀(w:World) (h:Heap),YP w h->(K w.params).In h)
  (F:∀(w:World) (mg:Str->Option Value) (fa:Addr) (h:Heap),(K w.params).In h->h.Ns mainGlobals mg->mg d.name=some (.ref fa) ->
   ∃fd:FuncData,(∀(s:Shared) (u:Value),BindsTo s fd ⟨[u],[]⟩ [("_law_script",u)])/\∀base:Heap,(K w.params).In base->base.Ns mainGlobals mg->FnOk l.prog w (K w.params) mg base CX0 9 fa fd ["_law_script"] (qR3 (K w.params))) :
  PySem.W.WalkO q loose XP YP l.row.toRowW d [] (λf vs=>PySem.call f vs) :=
 L2.walk_of (n:=63) (k:=9) (x:="_law_script") (CX:=λ_=>CX0) (sp:=λw=>qR3 (K w.params)) hn (by decide) hdf ⟨rfl,by decide,by decide,rfl⟩ hY F (λ_ _ a ns hl _ hS=>⟨a,ns,rfl,hS,hl,λ_=>rfl⟩) λ_ _ _ _ _ z=>z
end My
namespace PySem.W.Fast
def tw10014361909687155129:=0
def tw10032497139322294536:=0
def tw10133248922058068022:=0
def tw10159441541353713955:=0
def tw10164097151163682106:=0
def tw10175506666215591223:=0
def tw10278874467424341690:=0
def tw10326342151715587107:=0
def tw10426668529527271629:=0
def tw10496752244692122604:=0
def tw10580269206898564743:=0
def tw10628591879585430627:=0
def tw10813812333936791117:=0
def tw10822822655761071915:=0
def tw10887363723873150210:=0
def tw11008078181852708263:=0
def tw11008300855551946622:=0
def tw11059378451546524636:=0
def tw11074125202221804914:=0
def tw11116979451936397610:=0
def tw11117953484373419880:=0
def tw11164452516079687080:=0
def tw11185155815157555477:=0
def tw1120236759905700603:=0
def tw11205966149509616648:=0
def tw11222353830286253386:=0
def tw11226486152260795324:=0
def tw11255464875245012546:=0
def tw11313454599367370698:=0
def tw11465179007798925019:=0
def tw11480790151777012952:=0
def tw1148225161175544866:=0
def tw11648941946911282311:=0
def tw11691547982574935233:=0
def tw11745592840356236736:=0
def tw11851281497358031064:=0
def tw11900353773392473403:=0
def tw11907222840493136381:=0
def tw11981382896567583187:=0
def tw12055905507750108323:=0
def tw12173486447006947192:=0
def tw12214269226406080124:=0
def tw12373111146546775867:=0
def tw12397235335276816598:=0
def tw12428206292199070621:=0
def tw12450228876291720299:=0
def tw12485772550569666783:=0
def tw12558208506991748235:=0
def tw12568285849797000645:=0
def tw12581821896402503855:=0
def tw12605248956187645228:=0
def tw12641493664749027617:=0
def tw1264746689885583429:=0
def tw12721101808082011951:=0
def tw12731426374163005019:=0
def tw12890238656750847551:=0
def tw13030336542416306647:=0
def tw13047534434665304450:=0
def tw13079821184015441701:=0
def tw131313737850189816:=0
def tw132513314709380990:=0
def tw13316627128185101401:=0
def tw13325384444354978736:=0
def tw13355205114757091906:=0
def tw13371630694481595772:=0
def tw13374582675537636985:=0
def tw13470597474229308220:=0
def tw13611298598125907774:=0
def tw13697067708394376630:=0
def tw13867634287298327248:=0
def tw13952490427972507842:=0
def tw13975308842324971810:=0
def tw14004248442934688346:=0
def tw14008080625859011:=0
def tw14023078492180845090:=0
def tw14030597849234366951:=0
def tw14065262062543890970:=0
def tw14074747723205399394:=0
def tw14104824368073908737:=0
def tw14136195803687175157:=0
def tw14145465284413169351:=0
def tw14230530489505049492:=0
def tw14268313314474340671:=0
def tw14284665356297430881:=0
def tw14355870389348413629:=0
def tw1448388089544493564:=0
def tw14536171564558980896:=0
def tw14548869956109161942:=0
def tw14597240699862668110:=0
def tw14628714845165416443:=0
def tw14639268120440448932:=0
def tw14678582246682454507:=0
def tw14922073272018914078:=0
def tw14960280969493195236:=0
def tw15100912345729112956:=0
def tw1521489290337761827:=0
def tw15256336336614598914:=0
def tw15310185799768863099:=0
def tw15432495280840001577:=0
def tw1557340473713108022:=0
def tw15584911352806425206:=0
def tw15595025323055623287:=0
def tw15623153961365526723:=0
def tw15897765238228395780:=0
def tw15906973780690540449:=0
def tw15938399975480997952:=0
def tw15952237279970306514:=0
def tw15969099062508550602:=0
def tw16031439606459563563:=0
def tw16044062543081060458:=0
def tw16051515863342351384:=0
def tw1611873709900389696:=0
def tw16128982296258454905:=0
def tw16133743359514008121:=0
def tw16206495904070820812:=0
def tw1629038553068594379:=0
def tw16291049072897026466:=0
def tw16397573798394398071:=0
def tw16460240567032799836:=0
def tw16481509181570082805:=0
def tw16570825414560936115:=0
def tw16578619822092841510:=0
def tw16587576221101649377:=0
def tw16671115587724049909:=0
def tw16678421425627161245:=0
def tw16705938705573620156:=0
def tw16728327819697128583:=0
def tw1673262870108270672:=0
def tw16789985277629119239:=0
def tw16890704307232306485:=0
def tw16956124726438683445:=0
def tw17033558160757209481:=0
def tw17045525500236074555:=0
def tw17056607678443285212:=0
def tw17130492590635546343:=0
def tw17198698843054972476:=0
def tw17219203106808126595:=0
def tw17247940073178072459:=0
def tw17411771255356573777:=0
def tw17649180045984227299:=0
def tw17710501521030510901:=0
def tw17838835594313501324:=0
def tw18087449964919819031:=0
def tw18119909494416330382:=0
def tw18129473890700764026:=0
def tw18140100027573274852:=0
def tw1816996687801695490:=0
def tw18172436642299241406:=0
def tw18185044335011759030:=0
def tw18281820524767364138:=0
def tw18306859838798517625:=0
def tw1833131785395851557:=0
def tw18350926487607803574:=0
def tw1835305502675791732:=0
def tw18397216906152114331:=0
def tw18405977949833139162:=0
def tw1921528159926560359:=0
def tw1942031562185748618:=0
def tw2125901325773658935:=0
def tw2170162491125642945:=0
def tw218390637547419985:=0
def tw2199131360974070709:=0
def tw2204429747641834445:=0
def tw2328101384194254603:=0
def tw2359828880213883240:=0
def tw2400773612260907656:=0
def tw2408283523962856365:=0
def tw2502833417867235808:=0
def tw2528197175504034363:=0
def tw2544379352374190569:=0
def tw2700940003191583941:=0
def tw2705254014683774845:=0
def tw2758331909216169474:=0
def tw279377616006642907:=0
def tw280301082300513463:=0
def tw2894235394361798508:=0
def tw2924924667988613630:=0
def tw2968382180567933450:=0
def tw2989108827322588913:=0
def tw3000157454782367550:=0
def tw3044378589953169608:=0
def tw3059180218312958458:=0
def tw3089842356554285655:=0
def tw3134503512095046756:=0
def tw3134706465177032098:=0
def tw3258086483494549760:=0
def tw3260767624988359986:=0
def tw3264838610905805872:=0
def tw3277065217436657707:=0
def tw3293089068325136596:=0
def tw3374674140240718563:=0
def tw3530188615580755826:=0
def tw3535144690637006614:=0
def tw3540155408073931231:=0
def tw3566740582133775025:=0
def tw3650700227284061370:=0
def tw373802124400721975:=0
def tw3796687388128689186:=0
def tw3856495646636162255:=0
def tw417781459351499627:=0
def tw4217065556756902969:=0
def tw424918125665708877:=0
def tw4414849208582423842:=0
def tw4417260643509100899:=0
def tw4438481567870690024:=0
def tw4480799807809324253:=0
def tw4500681544730067004:=0
def tw4510924910250215412:=0
def tw4659635466310479932:=0
def tw4723695748646529199:=0
def tw475278888866775091:=0
def tw4788160895845045298:=0
def tw4808624235864658645:=0
def tw5085182563477252944:=0
def tw5098006358818805831:=0
def tw5128821348599803601:=0
def tw5209948198868889689:=0
def tw5249509592215151698:=0
def tw52910546855647276:=0
def tw5303474828299124928:=0
def tw53916797440781516:=0
def tw542591541838456538:=0
def tw545214014674717398:=0
def tw5455255590967513008:=0
def tw5592561577603958883:=0
def tw5694177924240058432:=0
def tw583078037362490689:=0
def tw5837671624079807264:=0
def tw6005000977212857089:=0
def tw6026061889095363179:=0
def tw6043868617289816614:=0
def tw6049092080248159316:=0
def tw6062373029385688936:=0
def tw611368270467059439:=0
def tw6264998801626034804:=0
def tw6266587818660455862:=0
def tw6329468373753919905:=0
def tw6395893656791750177:=0
def tw6454703871784843499:=0
def tw6462451876552043464:=0
def tw6497710576369341946:=0
def tw651334316104352608:=0
def tw6567481176026427063:=0
def tw6573325674776115737:=0
def tw6576481205692979335:=0
def tw6623141629861818870:=0
def tw6630830106495731071:=0
def tw6691962759937765715:=0
def tw6738863767899932668:=0
def tw6783576886742426285:=0
def tw6906129902736610384:=0
def tw6949641203298270593:=0
def tw6999966704430666233:=0
def tw7052103715143148185:=0
def tw7149337969932843110:=0
def tw7186553055752086353:=0
def tw7218267615298689825:=0
def tw7363219269239434880:=0
def tw7376806235930961973:=0
def tw7438115455990736211:=0
def tw7446555977493725747:=0
def tw7494960614979539843:=0
def tw7510921922678947820:=0
def tw7518348616704932519:=0
def tw7540434332460095950:=0
def tw754972656347083190:=0
def tw7593040133023939731:=0
def tw7611775649790082300:=0
def tw7639329000202246927:=0
def tw7683321213160216777:=0
def tw7714367806991412784:=0
def tw7775554388161929184:=0
def tw7788990419297189104:=0
def tw7799105027946540723:=0
def tw7858828179598736131:=0
def tw8036998164141226732:=0
def tw8044739604512854377:=0
def tw8075449196595874900:=0
def tw8104147507909053718:=0
def tw8198212185253507210:=0
def tw8206146669557823267:=0
def tw8212468107416992706:=0
def tw8381928352985391874:=0
def tw8572989437357908961:=0
def tw8623659172714062468:=0
def tw8650405094412344258:=0
def tw8686922559680017393:=0
def tw8707389498254871423:=0
def tw8722757096751002891:=0
def tw8925429303464182982:=0
def tw8931325796015685295:=0
def tw8934697489789072581:=0
def tw9004255041545495904:=0
def tw9039381335346252349:=0
def tw9069588492664054864:=0
def tw9082956389184363220:=0
def tw9231077653323786450:=0
def tw9260859769700086615:=0
def tw9392185370437684659:=0
def tw9445320691326212162:=0
def tw9449591634435338022:=0
def tw947756490222073066:=0
def tw9495310163284824143:=0
def tw9547830138181484892:=0
def tw9558982093363659169:=0
def tw9623722447896652817:=0
def tw9718786652533245524:=0
def tw973825872931861267:=0
def tw9741466848392988348:=0
def tw976827803505477683:=0
def tw9779667101255119439:=0
def tw9794938674093473082:=0
def tw9808144772183247965:=0
def tw9835489134994827817:=0
def tw9861590391668618487:=0
def tw9900309078021957171:=0
def tw6920206132283263858:=0
def tw1577701049588242728:=0
def tw16971215240165299498:=0
end PySem.W.Fast
open PySem PySem.W PyProof.Rows
set_option maxRecDepth 100000 in
set_option maxHeartbeats 0 in
set_option maxHeartbeats 16000000 in
theorem PySem.Challenge.cw_roundsalone_k73_texts_judged_holds : PySem.Challenge.rw_roundsalone_k73_texts_judged.Holds := by
 w_on;o_law;k_head;(case hw=>w_witness2)
 k_fill
 refine My.walk (l:=PySem.Challenge.rw_roundsalone_k73_texts_judged) rfl rfl (λw h Y=>PySem.W.kIn_of Y) ?F
 case F =>
  intro w mg fa h KX G hmg
  refine' My.all_mk KX G hmg ?a1 ?l1 ?c1 ?k1 ?a2 ?l2 ?c2 ?k2 ?a3 ?l3 ?c3 ?k3 ?a4 ?l4 ?c4 ?k4 ?a5 ?l5 ?c5 ?k5 ?a6 ?l6 ?c6 ?k6 ?a7 ?l7 ?c7 ?k7 ?a8 ?l8 ?c8 ?k8 ?a9 ?l9 ?c9 ?k9 ?a10 ?l10 ?c10 ?k10 ?a11 ?l11 ?c11 ?k11 ?a12 ?l12 ?c12 ?k12 ?a13 ?l13 ?c13 ?k13 ?a14 ?l14 ?c14 ?k14 ?a15 ?l15 ?c15 ?k15 ?a16 ?l16 ?c16 ?k16 ?a17 ?l17 ?c17 ?k17 ?a18 ?l18 ?c18 ?k18 ?a19 ?l19 ?c19 ?k19 ?a20 ?l20 ?c20 ?k20 ?a21 ?l21 ?c21 ?k21 ?a22 ?l22 ?c22 ?k22 ?a23 ?l23 ?c23 ?k23 ?a24 ?l24 ?c24 ?k24 ?a25 ?l25 ?c25 ?k25 ?a26 ?l26 ?c26 ?k26 ?a27 ?l27 ?c27 ?k27 ?a28 ?l28 ?c28 ?k28 ?a29 ?l29 ?c29 ?k29 ?a30 ?l30 ?c30 ?k30 ?a31 ?l31 ?c31 ?k31 ?a32 ?l32 ?c32 ?k32 ?a33 ?l33 ?c33 ?k33 ?a34 ?l34 ?c34 ?k34 ?a35 ?l35 ?c35 ?k35 ?a36 ?l36 ?c36 ?k36 ?a37 ?l37 ?c37 ?k37 ?a38 ?l38 ?c38 ?k38 ?a39 ?l39 ?c39 ?k39 ?a40 ?l40 ?c40 ?k40 ?a41 ?l41 ?c41 ?k41 ?a42 ?l42 ?c42 ?k42 ?a43 ?l43 ?c43 ?k43 ?a44 ?l44 ?c44 ?k44 ?a45 ?l45 ?c45 ?k45 ?a46 ?l46 ?c46 ?k46 ?q1 ?q2 ?q3 ?q4 ?q5 ?q6 ?z1 ?z2 ?z3 ?z4 ?z5 ?z6 ?z7 ?z8 ?z9 ?z10 ?z11 ?z12 ?z13 ?z14 ?z15 ?z16 ?yNoText ?yTooMany ?yRoundError ?eNoText ?eTooMany ?xaNoText ?xbNoText ?xcNoText ?xdNoText ?xeNoText ?xfNoText ?xaTooMany ?xbTooMany ?xcTooMany ?xdTooMany ?xeTooMany ?xfTooMany ?xg ?xh ?xTN ?xsNoText ?xsTooMany ?rrNoText ?rrTooMany ?vvNoText ?vvTooMany ?nt
  (case a1=>k_is)
  (case l1=>k_is)
  (case c1=>k_is)
  (case k1=>k_is)
  (case a2=>k_is)
  (case l2=>k_is)
  (case c2=>k_is)
  (case k2=>k_is)
  (case a3=>k_is)
  (case l3=>k_is)
  (case c3=>k_is)
  (case k3=>k_is)
  (case a4=>k_is)
  (case l4=>k_is)
  (case c4=>k_is)
  (case k4=>k_is)
  (case a5=>k_is)
  (case l5=>k_is)
  (case c5=>k_is)
  (case k5=>k_is)
  (case a6=>k_is)
  (case l6=>k_is)
  (case c6=>k_is)
  (case k6=>k_is)
  (case a7=>k_is)
  (case l7=>k_is)
  (case c7=>k_is)
  (case k7=>k_is)
  (case a8=>k_is)
  (case l8=>k_is)
  (case c8=>k_is)
  (case k8=>k_is)
  (case a9=>k_is)
  (case l9=>k_is)
  (case c9=>k_is)
  (case k9=>k_is)
  (case a10=>k_is)
  (case l10=>k_is)
  (case c10=>k_is)
  (case k10=>k_is)
  (case a11=>k_is)
  (case l11=>k_is)
  (case c11=>k_is)
  (case k11=>k_is)
  (case a12=>k_is)
  (case l12=>k_is)
  (case c12=>k_is)
  (case k12=>k_is)
  (case a13=>k_is)
  (case l13=>k_is)
  (case c13=>k_is)
  (case k13=>k_is)
  (case a14=>k_is)
  (case l14=>k_is)
  (case c14=>k_is)
  (case k14=>k_is)
  (case a15=>k_is)
  (case l15=>k_is)
  (case c15=>k_is)
  (case k15=>k_is)
  (case a16=>k_is)
  (case l16=>k_is)
  (case c16=>k_is)
  (case k16=>k_is)
  (case a17=>k_is)
  (case l17=>k_is)
  (case c17=>k_is)
  (case k17=>k_is)
  (case a18=>k_is)
  (case l18=>k_is)
  (case c18=>k_is)
  (case k18=>k_is)
  (case a19=>k_is)
  (case l19=>k_is)
  (case c19=>k_is)
  (case k19=>k_is)
  (case a20=>k_is)
  (case l20=>k_is)
  (case c20=>k_is)
  (case k20=>k_is)
  (case a21=>k_is)
  (case l21=>k_is)
  (case c21=>k_is)
  (case k21=>k_is)
  (case a22=>k_is)
  (case l22=>k_is)
  (case c22=>k_is)
  (case k22=>k_is)
  (case a23=>k_is)
  (case l23=>k_is)
  (case c23=>k_is)
  (case k23=>k_is)
  (case a24=>k_is)
  (case l24=>k_is)
  (case c24=>k_is)
  (case k24=>k_is)
  (case a25=>k_is)
  (case l25=>k_is)
  (case c25=>k_is)
  (case k25=>k_is)
  (case a26=>k_is)
  (case l26=>k_is)
  (case c26=>k_is)
  (case k26=>k_is)
  (case a27=>k_is)
  (case l27=>k_is)
  (case c27=>k_is)
  (case k27=>k_is)
  (case a28=>k_is)
  (case l28=>k_is)
  (case c28=>k_is)
  (case k28=>k_is)
  (case a29=>k_is)
  (case l29=>k_is)
  (case c29=>k_is)
  (case k29=>k_is)
  (case a30=>k_is)
  (case l30=>k_is)
  (case c30=>k_is)
  (case k30=>k_is)
  (case a31=>k_is)
  (case l31=>k_is)
  (case c31=>k_is)
  (case k31=>k_is)
  (case a32=>k_is)
  (case l32=>k_is)
  (case c32=>k_is)
  (case k32=>k_is)
  (case a33=>k_is)
  (case l33=>k_is)
  (case c33=>k_is)
  (case k33=>k_is)
  (case a34=>k_is)
  (case l34=>k_is)
  (case c34=>k_is)
  (case k34=>k_is)
  (case a35=>k_is)
  (case l35=>k_is)
  (case c35=>k_is)
  (case k35=>k_is)
  (case a36=>k_is)
  (case l36=>k_is)
  (case c36=>k_is)
  (case k36=>k_is)
  (case a37=>k_is)
  (case l37=>k_is)
  (case c37=>k_is)
  (case k37=>k_is)
  (case a38=>k_is)
  (case l38=>k_is)
  (case c38=>k_is)
  (case k38=>k_is)
  (case a39=>k_is)
  (case l39=>k_is)
  (case c39=>k_is)
  (case k39=>k_is)
  (case a40=>k_is)
  (case l40=>k_is)
  (case c40=>k_is)
  (case k40=>k_is)
  (case a41=>k_is)
  (case l41=>k_is)
  (case c41=>k_is)
  (case k41=>k_is)
  (case a42=>k_is)
  (case l42=>k_is)
  (case c42=>k_is)
  (case k42=>k_is)
  (case a43=>k_is)
  (case l43=>k_is)
  (case c43=>k_is)
  (case k43=>k_is)
  (case a44=>k_is)
  (case l44=>k_is)
  (case c44=>k_is)
  (case k44=>k_is)
  (case a45=>k_is)
  (case l45=>k_is)
  (case c45=>k_is)
  (case k45=>k_is)
  (case a46=>k_is)
  (case l46=>k_is)
  (case c46=>k_is)
  (case k46=>k_is)
  (case q1=>k_is)
  (case q2=>k_is)
  (case q3=>k_is)
  (case q4=>k_is)
  (case q5=>k_is)
  (case q6=>k_is)
  (case z1=>k_is)
  (case z2=>k_is)
  (case z3=>k_is)
  (case z4=>k_is)
  (case z5=>k_is)
  (case z6=>k_is)
  (case z7=>k_is)
  (case z8=>k_is)
  (case z9=>k_is)
  (case z10=>k_is)
  (case z11=>k_is)
  (case z12=>k_is)
  (case z13=>k_is)
  (case z14=>k_is)
  (case z15=>k_is)
  (case z16=>k_is)
  (case yNoText=>k_is)
  (case yTooMany=>k_is)
  (case yRoundError=>k_is)
  (case eNoText=>k_exc)
  (case eTooMany=>k_exc)
  (case xaNoText=>k_is)
  (case xbNoText=>k_is)
  (case xcNoText=>k_is)
  (case xdNoText=>k_is)
  (case xeNoText=>k_is)
  (case xfNoText=>k_is)
  (case xaTooMany=>k_is)
  (case xbTooMany=>k_is)
  (case xcTooMany=>k_is)
  (case xdTooMany=>k_is)
  (case xeTooMany=>k_is)
  (case xfTooMany=>k_is)
  (case xg=>k_is)
  (case xh=>k_is)
  (case xTN=>kts_exm)
  (case xsNoText=>kts_exm)
  (case xsTooMany=>kts_exm)
  (case rrNoText=>kit_is)
  (case rrTooMany=>kit_is)
  (case vvNoText=>kit_is)
  (case vvTooMany=>kit_is)
  (case nt=>kit_is)
#print axioms PySem.Challenge.cw_roundsalone_k73_texts_judged_holds
