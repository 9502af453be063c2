import PyProof.Rows.All
import Wide.All
import OpenK.AllK
import Wide.FinOn
import Lean
import PyProof.EqAt
import PyProof.EqKinds
import PyProof.TupleCall
import KE.KSortKey
import KE.KLam
import KE.KRevIter
import PyProof.FactsAll.range_2
import PyProof.ReprBulk
import PyProof.FString5
import PyProof.Rows.MinMaxN
import KE.KDictOf
import PyProof.AttrMissHeap
import PyProof.ZipIter
import PyProof.P3In
import KE.KSortTup
import PySem.Challenge.RW_roundsalone_k34_parts_hang_on_the_span
set_option Elab.async false
set_option linter.all false
set_option maxHeartbeats 16000000
set_option maxRecDepth 100000
abbrev hA1:=@List.length_map
abbrev hA2:=@List.getElem?_eq_getElem
abbrev hA3:=@List.map_append
abbrev hA4:=@List.mem_cons_of_mem
abbrev hA5:=@List.take_of_length_le
abbrev hA6:=@List.mem_cons_self
abbrev hA7:=@Nat.le_refl
abbrev hA8:=@List.getD_eq_getElem?_getD
abbrev hA9:=@List.mem_append_right
abbrev hAa:=@List.length_append
abbrev hAb:=@List.size_toArray
abbrev hAc:=@List.mem_of_getElem?
abbrev hAd:=@List.mem_singleton
abbrev hAe:=@List.getElem?_map
abbrev hAf:=@List.mem_cons
abbrev hAg:=@List.mem_map
abbrev hAh:=@List.length_take
abbrev hAi:=@Nat.lt_of_lt_of_le
abbrev hAj:=@List.mem_append
abbrev hAk:=@List.getElem?_eq_some_iff
abbrev hAl:=@List.mem_append_left
abbrev hAm:=@Option.some.inj
abbrev hAn:=@List.mem_filter
abbrev hAo:=@Nat.zero_le
abbrev hAp:=@Nat.ne_of_lt
abbrev hAq:=@Nat.le_trans
abbrev hAr:=@PySem.F.plainAttrs_list
abbrev hAs:=@Nat.testBit_xor
abbrev hAt:=@Nat.eq_of_testBit_eq
abbrev hAu:=@Bool.false_ne_true
abbrev hAv:=@PySem.boot_len
abbrev hAw:=@Nat.testBit_two_pow
abbrev hAx:=@List.length_filter_le
abbrev hAy:=@Nat.testBit_zero
abbrev hAz:=@Int.toNat_natCast
abbrev hB0:=@List.length_range
abbrev hB1:=@Nat.le_of_lt
abbrev hB3:=@List.pairwise_cons
abbrev hB4:=@Int.emod_lt_of_pos
abbrev hB5:=@List.map_map
abbrev hB6:=@List.mem_range
abbrev hB7:=@PySem.W.mg_none_of
abbrev hB8:=@Int.emod_nonneg
abbrev hB9:=@List.map_cons
abbrev hBb:=@List.mem_map_of_mem
abbrev hBc:=@Array.getElem?_toList
abbrev hBd:=@PySem.F.slot_list_append
abbrev hBe:=@PySem.F.type_list_append
abbrev hBf:=@List.filterMap_cons
abbrev hBg:=@List.nodup_cons
abbrev hBh:=@Nat.le_succ
abbrev hBi:=@List.map_congr_left
abbrev hBj:=@Nat.pow_le_pow_right
abbrev hBk:=@List.foldl_append
abbrev hBl:=@List.pairwise_append
abbrev hBm:=@List.getElem?_eq_none
abbrev hBn:=@Bool.false_eq_true
abbrev hBo:=@Array.length_toList
abbrev hBp:=@List.length_filterMap_le
abbrev hBq:=@Nat.mod_two_eq_zero_or_one
abbrev hBr:=@Nat.lt_succ_of_lt
abbrev hBs:=@List.getElem_mem
abbrev hBt:=@Nat.testBit_and
abbrev hBu:=@List.length_cons
abbrev hBv:=@Nat.zero_testBit
abbrev hBw:=@PyProof.Rows.callWith_type1
abbrev hBx:=@Nat.ne_of_gt
abbrev hBy:=@Array.perm_iff_toList_perm
abbrev hBz:=@PySem.mem_of_lookup
abbrev hC0:=@Nat.xor_assoc
abbrev hC1:=@Nat.lt_succ_self
abbrev hC3:=@Nat.not_lt_zero
abbrev hC4:=@List.pairwise_map
abbrev hC5:=@Nat.lt_pow_two_of_testBit
abbrev hC6:=@Array.getD_eq_getD_getElem?
abbrev hC7:=@Nat.succ_le_succ
abbrev hC8:=@Nat.xor_lt_two_pow
abbrev hC9:=@PySem.W.kia_one
abbrev hCa:=@Bool.and_eq_true
abbrev hCb:=@Nat.le_add_right
abbrev hCc:=@Nat.testBit_log2
abbrev hCd:=@Nat.testBit_succ
abbrev hCe:=@PySem.F.called_set
abbrev hCf:=@List.pairwise_singleton
abbrev hCg:=@List.filter_append
abbrev hCh:=@List.not_mem_nil
abbrev hCi:=@List.perm_ext_iff_of_nodup
abbrev hCj:=@List.mergeSort_perm
abbrev hCk:=@Nat.lt_irrefl
abbrev hCl:=@Array.getElem?_eq_getElem
abbrev hCm:=@List.drop_eq_getElem_cons
abbrev hCn:=@Bool.true_and
abbrev hCo:=@List.append_nil
abbrev hCp:=@List.filterMap_append
abbrev hCq:=@List.range_succ
abbrev hCr:=@List.mem_filterMap
abbrev hCs:=@Int.natCast_nonneg
abbrev hCt:=@List.map_singleton
abbrev hCu:=@List.Pairwise.imp_of_mem
abbrev hCv:=@List.lookup_cons
abbrev hCw:=@List.all_eq_true
abbrev hCx:=@Bool.not_eq_true
abbrev hCy:=@Nat.xor_self
abbrev hCz:=@Nat.testBit_or
abbrev hD0:=@Int.toNat_of_nonneg
abbrev hD1:=@List.filter_sublist
abbrev hD2:=@Nat.testBit_lt_two_pow
abbrev hD3:=@List.length_drop
abbrev hD4:=@List.length_replicate
abbrev hD5:=@Nat.lt_of_le_of_lt
abbrev hD6:=@List.sum_cons
abbrev hD7:=@PyProof.Rows.kws_cons
abbrev hD8:=@List.map_id'
abbrev hD9:=@Nat.one_le_two_pow
abbrev hDa:=@Nat.shiftRight_eq_div_pow
abbrev hDb:=@PyProof.Rows.kws_nil
abbrev hDc:=@List.mem_of_mem_take
abbrev hDd:=@List.getElem?_range
abbrev hDe:=@PySem.F.slot_list_index
abbrev hDf:=@PySem.F.type_list_index
abbrev hDg:=@List.Perm.refl
abbrev hDh:=@PySem.W.cellsFrom_some
abbrev hDi:=@List.range_succ_eq_map
abbrev hDj:=@Bool.eq_iff_iff
abbrev hDk:=@List.find?_cons
abbrev hDl:=@Bool.or_eq_true
abbrev hDm:=@Array.Perm.refl
abbrev hDn:=@List.cons_lt_cons_iff
abbrev hDo:=@Nat.zero_xor
abbrev hDp:=@Nat.xor_comm
abbrev hDq:=@List.ext_getElem?
abbrev hDr:=@List.Pairwise.imp
abbrev hDs:=@Nat.lt_log2_self
abbrev hDt:=@List.sum_append_nat
abbrev hDu:=@Nat.pow_succ
namespace L2
open PySem PySem.Spec PyProof.Rows
abbrev Key:=Sum Int Str
def qO6:Key->Value->Bool
 |.inl k,v=>Value.isInt k v
 |.inr x,v=>Value.isStrOf x v
def zDu(w:World):Key->Int
 |.inl k=>hashInt k
 |.inr x=>hashStr w x
theorem keyIs_shape:∀ {k:Key} {v:Value},qO6 k v=true->(∃i t,k=Sum.inl i/\v=Value.int i t)\/(∃x t,k=Sum.inr x/\v=Value.str x t)
 |.inl i,v,h=>by
  obtain⟨t,e⟩:=Value.isInt_shape (k:=i) (v:=v) h;exact .inl ⟨i,t,rfl,e⟩
 |.inr x,v,h=>by
  obtain⟨t,e⟩:=Value.isStrOf_shape (x:=x) (v:=v) h;exact .inr ⟨x,t,rfl,e⟩
theorem qR2(i:Int)(t:Tok):qO6 (.inl i) (.int i t)=true:=by simp[qO6,Value.isInt]
theorem qR1(x:Str)(t:Tok):qO6 (.inr x) (.str x t)=true:=by simp[qO6,Value.isStrOf]
theorem zA9(a b:Int):decide ((Sum.inl a:Key)=Sum.inl b)=(a == b):=by
 by_cases e:a=b
 ·subst e;simp
 ·have h:¬(Sum.inl a:Key)=Sum.inl b:=fun q=>e (Sum.inl.inj q)
  rw[decide_eq_false h];exact(beq_eq_false_iff_ne.mpr e).symm
theorem zA6(a b:Str):decide ((Sum.inr a:Key)=Sum.inr b)=decide (a=b):=by
 by_cases e:a=b
 ·subst e;simp
 ·have h:¬(Sum.inr a:Key)=Sum.inr b:=fun q=>e (Sum.inr.inj q)
  rw[decide_eq_false h,decide_eq_false e]
theorem zA8(a:Int)(b:Str):decide ((Sum.inl a:Key)=Sum.inr b)=false:=decide_eq_false (fun q=>nomatch q)
theorem zA7(a:Str)(b:Int):decide ((Sum.inr a:Key)=Sum.inl b)=false:=decide_eq_false (fun q=>nomatch q)
def qBq(prog:Program)(w:World):PySem.KeyKind prog w Key where
 is:=qO6
 hash:=zDu w
 inj:=fun v a b ha hb=>by
  rcases keyIs_shape ha with ⟨i,t,rfl,rfl⟩|⟨x,t,rfl,rfl⟩
  ·rcases keyIs_shape hb with ⟨j,u,rfl,e⟩|⟨y,u,rfl,e⟩
   ·injection e with e1 _;rw[e1]
   ·exact nomatch e
  ·rcases keyIs_shape hb with ⟨j,u,rfl,e⟩|⟨y,u,rfl,e⟩
   ·exact nomatch e
   ·injection e with e1 _;rw[e1]
 byValue:=fun k v h=>by
  rcases keyIs_shape h with ⟨i,t,rfl,rfl⟩|⟨x,t,rfl,rfl⟩ <;> rfl
 pyHash:=fun hv h=>by
  rcases keyIs_shape hv with ⟨i,t,rfl,rfl⟩|⟨x,t,rfl,rfl⟩
  ·exact wpAny_pyHash_int h
  ·exact wpAny_pyHash_str h
 eqBool:=fun hu hv h=>by
  rcases keyIs_shape hu with ⟨i,t,rfl,rfl⟩|⟨x,t,rfl,rfl⟩
  ·rcases keyIs_shape hv with ⟨j,u,rfl,rfl⟩|⟨y,u,rfl,rfl⟩
   ·rw[zA9]at h;exact wpAny_eqBool_int h
   ·rw[zA8]at h;exact SeqAt.EqAt.int_str i t y u _ _ _ _ h
  ·rcases keyIs_shape hv with ⟨j,u,rfl,rfl⟩|⟨y,u,rfl,rfl⟩
   ·rw[zA7]at h;exact SeqAt.EqAt.str_int x t j u _ _ _ _ h
   ·rw[zA6]at h;exact wpAny_eqBool_str h
 «strs»:=fun k x t v h=>by
  rcases keyIs_shape h with ⟨i,u,rfl,e⟩|⟨y,u,rfl,e⟩
  ·exact nomatch e
  ·injection e with e1 _
   subst e1;cases v <;> rfl
theorem qLs(prog:Program)(w:World)(i:Int)(t:Tok):(qBq prog w).is (.inl i) (.int i t)=true:=qR2 i t
theorem qLr(prog:Program)(w:World)(x:Str)(t:Tok):(qBq prog w).is (.inr x) (.str x t)=true:=qR1 x t
inductive V where
 |non|bl (b:Bool)|int (i:Int)|str (x:Str)|byt (b:Array UInt8)|flt (b:UInt64)|ref (a:Addr)|ty (n:String)
 deriving DecidableEq
def qCi:V->Value->Prop
 |.non,u=>u=Value.none
 |.bl b,u=>u=Value.bool b
 |.int i,u=>∃t,u=Value.int i t
 |.str x,u=>∃t,u=Value.str x t
 |.byt b,u=>∃t,u=Value.bytes b t
 |.flt b,u=>∃t,u=Value.float b t
 |.ref a,u=>u=Value.ref a
 |.ty n,u=>u=Value.type n
abbrev qBa:List V->List Value->Prop:=Paired qCi
theorem qBa.length{xs:List V}{us:List Value}(r:qBa xs us):xs.length=us.length:=Paired.length r
theorem qBa.get:∀ {xs:List V} {us:List Value} {i:Nat} {x:V},qBa xs us->xs[i]?=some x->∃u,us[i]?=some u/\qCi x u
 |_,_,_,_,.nil,e=>by simp at e
 |_,_,0,_,.cons r _,e=>by simp at e;subst e;exact⟨_,rfl,r⟩
 |_,_,i+1,x,.cons _ t,e=>by
  obtain⟨u,h1,h2⟩:=qBa.get (i:=i) (x:=x) t (by simpa using e);exact⟨u,by simpa using h1,h2⟩
theorem qBa.append:∀ {xs ys:List V} {us ws:List Value},qBa xs us->qBa ys ws->qBa (xs++ys) (us++ws)
 |_,_,_,_,.nil,s=>s
 |_,_,_,_,.cons r t,s=>.cons r (qBa.append t s)
theorem qBa.take:∀ {xs:List V} {us:List Value} (n:Nat),qBa xs us->qBa (xs.take n) (us.take n)
 |_,_,0,_=>.nil
 |_,_,_+1,.nil=>.nil
 |_,_,n+1,.cons r t=>.cons r (qBa.take n t)
theorem qBa.drop:∀ {xs:List V} {us:List Value} (n:Nat),qBa xs us->qBa (xs.drop n) (us.drop n)
 |_,_,0,r=>r
 |_,_,_+1,.nil=>.nil
 |_,_,n+1,.cons _ t=>qBa.drop n t
def qVi:Option V->Option Value->Prop
 |some v,some u=>qCi v u
 |none,none=>True
 |_,_=>False
def KV{κ:Type}:List (κ×V)->List (κ×Value)->Prop:=Paired fun (p:κ×V) (q:κ×Value)=>p.1=q.1/\qCi p.2 q.2
def kV:Key->V
 |.inl i=>.int i
 |.inr x=>.str x
inductive HO where
  |lst (xs:List V)
  |tup (xs:List V)
  |dK (kvs:List (Key×V))|dT (kvs:List (List Key×V))
  |set (S:Int->Bool) (n:Nat)
  |ins (C dx:Addr) (fs:List (Str×V))
  |own (x:Addr)
  |xd (fs:List (Str×V))
  |met (f x:Addr)
  |rng (lo hi:Int)
  |frz (o:Obj) (u:HO)
  |tbl (ps:Array Value)
  |ext (φ:Heap->Prop)
abbrev Hp:=Addr->Option HO
def upd(H:Hp)(a:Addr)(o:HO):Hp:=fun b=>if b=a then some o else H b
theorem upd_same{H:Hp}{a:Addr}{o:HO}:upd H a o a=some o:=by unfold upd;rw[if_pos rfl]
theorem qAl{H:Hp}{a b:Addr}{o:HO}(h:b≠a):upd H a o b=H b:=by unfold upd;rw[if_neg h]
theorem qAo{H:Hp}{a b:Addr}{o:HO}(h:H a=some o)(h':H b=none):a≠b:=by
 intro e;subst e;rw[h]at h';cases h'
section
variable(P:Program)(w:World)
def qB8(H:Hp)(h:Heap)(a:Addr):HO->Prop
 |.lst xs=>xs.length<=sizeLine/\∃(its:List Value) (n:Nat),qBa xs its/\h.get? a=some { cls:=.type "list",data:=.seq its.toArray n }
 |.tup xs=>xs.length<=sizeLine/\∃its:List Value,qBa xs its/\IsTup h a its.toArray
 |.dK kvs=>kvs.length<=sizeLine/\(a == sysModules)=false/\∃vs,KV kvs vs/\h.DictOf (qBq P w) a vs
 |.dT kvs=>kvs.length<=sizeLine/\(a == sysModules)=false/\∃xs:List (List Key×Addr×Value),
   Paired (fun (p:List Key×V) (q:List Key×Addr×Value)=>p.1=q.1/\H q.2.1=some (.tup (p.1.map kV))/\qCi p.2 q.2.2) kvs xs /\
   ∃o es ep,h.get? a=some o/\o.ExactDict/\o.data = .dict es ep/\es.toList=xs.map (entryOfKey (tupleKind (qBq P w)))/\(xs.map (·.1)).Nodup
 |.set S n=>h.SetOf (intKind P w) a S n
 |.ins C dx fs=>H dx=some (.own a)/\fs.length<=1000/\dx≠a/\h.get? a=some (PySem.W.instObj C dx) /\
   ∃mA,h.Ns1 dx mA/\(∀f,qVi (fs.lookup f) (mA f))/\PySem.Within mA (fs.map (·.1))
 |.own _=>∃o,h.get? a=some o
 |.xd fs=>∃mA,h.Ns1 a mA/\∀f,qVi (fs.lookup f) (mA f)
 |.rng lo hi=>∃t u v,h.get? a=some { cls:=.type "range",data:=.fields #[.int lo t,.int hi u,.int 1 v] }
 |.frz o u=>h.get? a=some o/\qB8 H h a u
 |.tbl ps=>h.get? a=some { cls:=.none,data:=.fields ps }
 |.met f x=>h.get? a=some (PySem.W.methodObj (.ref f) (.ref x))
 |.ext φ=>φ h/\(∃o,h.get? a=some o)/\∀h1 h2:Heap,φ h1->(∀o,h1.get? a=some o->h2.get? a=some o)->φ h2
def HOk(H:Hp)(h:Heap):Prop:=∀a o,H a=some o->qB8 P w H h a o
end
section
variable{P:Program}{w:World}{H H':Hp}{h h':Heap}{a:Addr}{o:HO}
theorem qB8.lt(x:qB8 P w H h a o):a<h.objs.size:=by
 cases o with
 |lst xs=>obtain⟨_,_,_,_,e⟩:=x;exact Heap.lt_size e
 |tup xs=>obtain⟨_,_,_,p⟩:=x;exact p.lt
 |dK kvs=>obtain⟨_,_,_,_,o,_,_,e,_⟩:=x;exact Heap.lt_size e
 |dT kvs=>obtain⟨_,_,_,_,o,_,_,e,_⟩:=x;exact Heap.lt_size e
 |set S n=>obtain⟨o,_,_,_,e,_⟩:=x;exact Heap.lt_size e
 |ins C dx fs=>obtain⟨_,_,_,e,_⟩:=x;exact Heap.lt_size e
 |own y=>obtain⟨_,e⟩:=x;exact Heap.lt_size e
 |xd fs=>obtain⟨_,⟨_,_,_,e,_⟩,_⟩:=x;exact Heap.lt_size e
 |rng lo hi=>obtain⟨_,_,_,e⟩:=x;exact Heap.lt_size e
 |frz ob u=>obtain⟨e,_⟩:=x;exact Heap.lt_size e
 |tbl ps=>exact Heap.lt_size (show h.get? a=some _ from x)
 |met f y=>exact Heap.lt_size (show h.get? a=some _ from x)
 |ext φ=>obtain⟨_,⟨_,e⟩,_⟩:=x;exact Heap.lt_size e
theorem Paired.mapP{α β:Type}{F G:α->β->Prop}:∀ {l₁:List α} {l₂:List β},Paired F l₁ l₂->(∀a b,F a b->G a b)->Paired G l₁ l₂
 |_,_,.nil,_=>.nil
 |_,_,.cons r t,f=>.cons (f _ _ r) (Paired.mapP t f)
theorem qB8.stay(x:qB8 P w H h a o)(k:∀b u,(b=a\/H b=some (.own a))->h.get? b=some u->h'.get? b=some u)
  (ho:∀b,H b=some (.own a)->H' b=some (.own a)) (ht:∀b xs,H b=some (.tup xs)->H' b=some (.tup xs)):qB8 P w H' h' a o:=by
 induction o with
 |lst xs=>obtain⟨z,its,n,r,e⟩:=x;exact⟨z,its,n,r,k _ _ (.inl rfl) e⟩
 |tup xs=>obtain⟨z,its,r,ob,e,c⟩:=x;exact⟨z,its,r,ob,k _ _ (.inl rfl) e,c⟩
 |dK kvs=>obtain⟨z,y,vs,r,ob,es,ep,e,c⟩:=x;exact⟨z,y,vs,r,ob,es,ep,k _ _ (.inl rfl) e,c⟩
 |dT kvs =>
  obtain⟨z,y,xs,r,ob,es,ep,e,c⟩:=x;exact⟨z,y,xs,Paired.mapP r fun p q z=>⟨z.1,ht _ _ z.2.1,z.2.2⟩,ob,es,ep,k _ _ (.inl rfl) e,c⟩
 |set S n=>obtain⟨ob,es,ep,t,e,c⟩:=x;exact⟨ob,es,ep,t,k _ _ (.inl rfl) e,c⟩
 |ins C dx fs =>
  obtain⟨d,z,ne,e,mA,⟨od,es,ep,e2,c⟩,r⟩:=x;exact⟨ho _ d,z,ne,k _ _ (.inl rfl) e,mA,⟨od,es,ep,k _ _ (.inr d) e2,c⟩,r⟩
 |own y=>obtain⟨ob,e⟩:=x;exact⟨ob,k _ _ (.inl rfl) e⟩
 |xd fs=>obtain⟨mA,⟨od,es,ep,e,c⟩,r⟩:=x;exact⟨mA,⟨od,es,ep,k _ _ (.inl rfl) e,c⟩,r⟩
 |rng lo hi=>obtain⟨t,u,v,e⟩:=x;exact⟨t,u,v,k _ _ (.inl rfl) e⟩
 |frz ob u ih=>obtain⟨e,q⟩:=x;exact⟨k _ _ (.inl rfl) e,ih q⟩
 |tbl ps =>
  have e:h.get? a=some { cls:=.none,data:=.fields ps }:=x;show h'.get? a=some { cls:=.none,data:=.fields ps };exact k a _ (.inl rfl) e
 |met f y =>
  have e:h.get? a=some (PySem.W.methodObj (.ref f) (.ref y)):=x;show h'.get? a=some (PySem.W.methodObj (.ref f) (.ref y));exact k a _ (.inl rfl) e
 |ext φ=>obtain⟨p,⟨o,e⟩,st⟩:=x;exact⟨st _ _ p fun o q=>k _ _ (.inl rfl) q,⟨o,k _ _ (.inl rfl) e⟩,st⟩
theorem HOk.lt(x:HOk P w H h)(e:H a=some o):a<h.objs.size:=(x a o e).lt
theorem HOk.fresh(x:HOk P w H h)(e:h.objs.size<=a):H a=none:=by
 cases q:H a with
 |none=>rfl
 |some u=>exact absurd (hAi (x.lt q) e) (hCk _)
theorem HOk.kept(x:HOk P w H h)(k:∀b u,h.get? b=some u->h'.get? b=some u):HOk P w H h':=fun a o e =>
 (x a o e).stay (fun b u _ q=>k b u q) (fun _ q=>q) fun _ _ q=>q
theorem HOk.laid(x:HOk P w H h)(k:∀b u,h.get? b=some u->h'.get? b=some u)(hp:h.objs.size<=a)(new:qB8 P w (upd H a o) h' a o):HOk P w (upd H a o) h':=fun b u e=>by
 have hn:=x.fresh hp;by_cases hb:b=a
 ·subst hb;rw[upd_same]at e;cases e;exact new
 ·rw[qAl hb]at e;exact(x b u e).stay (fun c v _ q=>k c v q) (fun c q=>by rw[qAl (qAo q hn)];exact q) fun c xs q=>by rw[qAl (qAo q hn)];exact q
end
def Rd(H:Hp)(a:Addr)(u:HO):Prop:=H a=some u\/∃o,H a=some (.frz o u)
theorem Rd.ok{P:Program}{w:World}{H:Hp}{h:Heap}{a:Addr}{u:HO}(r:Rd H a u)(x:HOk P w H h):qB8 P w H h a u:=by
 rcases r with r|⟨o,r⟩
 ·exact x a u r
 ·obtain⟨_,q⟩:=x a _ r;exact q
def Mut:Option HO->Prop
 |some (.lst _)=>True
 |some (.dK _)=>True
 |some (.dT _)=>True
 |some (.set _ _)=>True
 |some (.ins _ _ _)=>True
 |some (.ext _)=>True
 |_=>False
section
variable{P:Program}{w:World}{H:Hp}{h h':Heap}{x e:Addr}{o':HO}
theorem HOk.write(ok:HOk P w H h)(mu:Mut (H x))(he:e=x\/H e=some (.own x))(k:∀b u,b≠e->h.get? b=some u->h'.get? b=some u)(heo:∃u,h'.get? e=some u)
  (new:qB8 P w (upd H x o') h' x o'):HOk P w (upd H x o') h':=fun b u q=>by
 have nown:∀c y,H c=some (.own y)->c≠x:=fun c y r z=>by subst z;rw[r]at mu;exact mu
 have ntup:∀c xs,H c=some (.tup xs)->c≠x:=fun c xs r z=>by subst z;rw[r]at mu;exact mu
 by_cases hb:b=x
 ·subst hb;rw[upd_same]at q;cases q;exact new
 ·rw[qAl hb]at q;by_cases hbe:b=e
  ·have q':H b=some (.own x):=by
    rcases he with z|z
    ·exact absurd (hbe.trans z) hb
    ·rw[hbe];exact z
   rw[q]at q';cases q';obtain⟨v,hv⟩:=heo;exact⟨v,by rw[hbe];exact hv⟩
  ·refine(ok b u q).stay (fun c v hc r=>k c v ?_ r) (fun c r=>by rw[qAl (nown c b r)];exact r) fun c xs r=>by rw[qAl (ntup c xs r)];exact r
   rcases hc with rfl|hc
   ·exact hbe
   ·rintro rfl;rcases he with z|z
    ·exact nown c b hc z
    ·rw[hc]at z;cases z;exact hb rfl
end
structure Un(fs ex:List Addr)(H H':Hp)(h h':Heap):Prop where
 keep:∀b o,h.get? b=some o->H b=none->b∉fs->b∉ex->h'.get? b=some o
 slot:∀b o,h.get? b=some o->H b=none->b∈fs->b∉ex->∃sl,h'.get? b=some { o with slots:=sl }
 free:∀b o,h.get? b=some o->H b=none->b∉ex->H' b=none
 there:∀b o,h.get? b=some o->b∉ex->∃o',h'.get? b=some o'
 tups:∀b xs,H b=some (.tup xs)->H' b=some (.tup xs)
 frzs:∀b o u,H b=some (.frz o u)->H' b=some (.frz o u)
 tbls:∀b ps,H b=some (.tbl ps)->∃more,H' b=some (.tbl (ps++more))
section
variable{fs fs' ex ex':List Addr}{H H1 H2:Hp}{h h1 h2 h':Heap}{a x e:Addr}{o:HO}
theorem Un.any(u:Un fs ex H H1 h h1){b:Addr}{ob:Obj}(q:h.get? b=some ob)(n:H b=none)(hx:b∉ex):∃sl,h1.get? b=some { ob with slots:=sl }:=by
 by_cases hb:b∈fs
 ·exact u.slot b ob q n hb hx
 ·exact⟨ob.slots,u.keep b ob q n hb hx⟩
theorem Un.kept(k:∀b u,h.get? b=some u->h'.get? b=some u):Un fs ex H H h h' :=
 ⟨fun b ob q _ _ _=>k b ob q,fun b ob q _ _ _=>⟨ob.slots,k b ob q⟩,fun _ _ _ n _=>n,fun b ob q _=>⟨ob,k b ob q⟩,fun _ _ q=>q,fun _ _ _ q=>q,fun _ ps q=>⟨#[],by rw[q];simp⟩⟩
theorem Un.refl:Un fs ex H H h h:=Un.kept fun _ _ q=>q
theorem Un.laid(k:∀b u,h.get? b=some u->h'.get? b=some u)(hp:h.objs.size<=a)(hn:H a=none):Un fs ex H (upd H a o) h h' where
 keep:=fun b u q _ _ _=>k b u q
 slot:=fun b u q _ _ _=>⟨u.slots,k b u q⟩
 free:=fun b u q n _=>by rw[qAl (hAp (hAi (Heap.lt_size q) hp))];exact n
 there:=fun b u q _=>⟨u,k b u q⟩
 tups:=fun b xs q=>by rw[qAl (qAo q hn)];exact q
 frzs:=fun b u xs q=>by rw[qAl (qAo q hn)];exact q
 tbls:=fun b ps q=>⟨#[],by rw[qAl (qAo q hn),q];simp⟩
theorem Un.write(mu:Mut (H x))(he:e=x\/H e=some (.own x))(k:∀b u,b≠e->h.get? b=some u->h'.get? b=some u)(heo:∃u,h'.get? e=some u):Un fs ex H (upd H x o) h h':=by
 have hx:∀b,H b=none->b≠x:=fun b n z=>by subst z;rw[n]at mu;exact mu
 have hb:∀b,H b=none->b≠e:=fun b n z=>by
  subst z;rcases he with r|r
  ·exact hx b n r
  ·rw[n]at r;cases r
 have hm:∀b u,H b=some u->¬Mut (some u)->b≠x:=fun b u q nm z=>by subst z;rw[q]at mu;exact nm mu
 refine⟨fun b u q n _ _=>k b u (hb b n) q,fun b u q n _ _=>⟨u.slots,k b u (hb b n) q⟩,fun b u q n _=>by rw[qAl (hx b n)];exact n,fun b u q _=>?_,
  fun b xs q=>by rw[qAl (hm b _ q fun z=>z)];exact q,fun b u xs q=>by rw[qAl (hm b _ q fun z=>z)];exact q,fun b ps q=>⟨#[],by rw[qAl (hm b _ q fun z=>z),q];simp⟩⟩
 by_cases hbe:b=e
 ·subst hbe;exact heo
 ·exact⟨u,k b u hbe q⟩
end
def trk(h:Heap)(H:Hp):List Addr:=(List.range h.objs.size).filter fun a=>(H a).isSome
def qSb(h:Heap)(H:Hp):Heap:=PySem.W.hideAll h (trk h H)
theorem qSa(h:Heap)(H:Hp):(qSb h H).objs.size=h.objs.size:=PySem.W.hideAll_size _ _
theorem qU3{h:Heap}{H:Hp}{b:Addr}{o:Obj}(e:h.get? b=some o)(n:H b=none):(qSb h H).get? b=some o :=
 PySem.W.hideAll_get _ e fun hm=>by
  have q:(H b).isSome=true:=(hAn.mp hm).2;rw[n]at q;simp at q
theorem qYw{h:Heap}{H:Hp}{b:Addr}{o:Obj}(e:(qSb h H).get? b=some o):h.get? b=some o/\H b=none:=by
 have e':h.get? b=some o:=PySem.W.of_hideAll (trk h H) e;refine⟨e',?_⟩;cases q:H b with
 |none=>rfl
 |some x =>
  have hm:b∈trk h H:=hAn.mpr ⟨hB6.mpr (Heap.lt_size e'),by simp[q]⟩;have z:(qSb h H).get? b=none:=PySem.W.hideAll_none (trk h H) hm;rw[z]at e;cases e
def qZm(g h:Heap)(L:Addr):List (Addr×Obj):=(List.range h.objs.size).filterMap fun a=>if a=L\/(g.get? a).isSome=true then none else (h.get? a).map fun o=>(a,o)
def rest(g h:Heap)(L d:Addr):List (Addr×Obj):=(qZm g h L).filter fun p=>decide (p.1≠d)
structure Mod(K:PySem.W.Frag)(mg:Str->Option Value)(base:Heap):Prop where
 kin:K.In base
 glob:base.Ns mainGlobals mg
 blt:∃mb,base.Ns builtinsNs mb/\∀x:Str,x≠"__name__"->mb x=bootBuiltins x
 nolimit:base.NoLimit
structure Cx where
 prog:Program
 w:World
 K:PySem.W.Frag
 mg:Str->Option Value
 base:Heap
 A:Around
 N:List Str
 s₀:Shared
 H₀:Hp
 env:Env
 outer:List Env
 stack:List Env
 ex:List Addr
 fn:Str->Bool
 calm:Bool
 pn:List (Addr×Obj)
 xe:Value->Shared->Prop
def frs(l:List Env):List Addr:=l.filterMap (·.frame)
abbrev Cx.fs(X:Cx):List Addr:=frs X.outer
def Vis(sc:Scope)(x:Str):Prop:=sc.names.lookup x=some .local\/sc.names.lookup x=some .cell\/sc.names.lookup x=some .free
def Loc(sc:Scope)(x:Str):Prop:=sc.names.lookup x=some .local\/sc.names.lookup x=some .cell
def zDz(env:Env)(h:Heap)(m:Str->Option Value)(x:Str)(u:Value):Prop :=
 (env.kindOf x=some .local/\m x=some u)\/((env.kindOf x=some .cell\/env.kindOf x=some .free)/\∃c,env.cells.lookup x=some c/\h.IsCell c (some u))
structure Cx.Ok(X:Cx):Prop where
 mod:Mod X.K X.mg X.base
 kind:X.env.scope.kind = .function
 glob:X.env.globals=mainGlobals
 blt:X.env.builtins=builtinsNs
 above:X.s₀.heap.objs.size<=X.env.locals
 inj:∀x y c,X.env.cells.lookup x=some c->X.env.cells.lookup y=some c->x=y
 has:∀x,(X.env.kindOf x=some .cell\/X.env.kindOf x=some .free)->∃c,X.env.cells.lookup x=some c
 cab:∀x c,X.fn x=true->X.env.cells.lookup x=some c->X.s₀.heap.objs.size<=c
 hd:X.calm=true->X.A.handled=none
 frames:X.A.frames=some X.stack
 stk:X.stack=X.outer\/(X.stack=X.env :: X.outer/\X.env.frame=some X.env.locals)
 exf:∀b∈X.ex,b≠X.env.locals/\∀x c,X.env.cells.lookup x=some c->c≠b
 bs:∀b o,X.base.get? b=some o->X.s₀.heap.get? b=some o/\X.H₀ b=none
 bsz:X.base.objs.size<=X.s₀.heap.objs.size
 noex:∀b o,X.base.get? b=some o->b∉X.ex
 exfs:∀b∈X.ex,b∉X.fs
 funs:X.s₀.heap.FunFrames X.base X.outer
 frf:∀b∈X.fs,X.H₀ b=none
structure Inv(X:Cx)(pins:List (Addr×Obj))(σ:List (Option V))(H:Hp)(s:Shared):Prop where
 ok:X.Ok
 os:s.os=X.s₀.os
 bare:AllBare s.gens
 base:Un X.fs X.ex X.H₀ H X.s₀.heap s.heap
 loc:∃m,s.heap.Ns X.env.locals m/\∀(i:Nat) (x:Str) (v:V),X.N[i]?=some x->σ[i]?=some (some v)->Vis X.env.scope x->∃u,qCi v u/\zDz X.env s.heap m x u
 cell:∀x c,X.env.cells.lookup x=some c->∃v,s.heap.IsCell c v
 free:H X.env.locals=none
 freeC:∀x c,X.env.cells.lookup x=some c->H c=none
 pin:∀p∈X.pn++pins,s.heap.get? p.1=some p.2/\H p.1=none/\p.1≠X.env.locals/\p.1∉X.fs/\∀v,p.2.data≠.cell v
 hok:HOk X.prog X.w H s.heap
 len:σ.length=X.N.length
section
variable{X:Cx}{pins:List (Addr×Obj)}{σ:List (Option V)}{H H':Hp}{s:Shared}{h':Heap}
theorem Cx.Ok.nofr(ok:X.Ok){b:Addr}{o:Obj}(e:X.base.get? b=some o):b∉X.fs:=fun hb=>by
 have:=(ok.funs.mem hb).1;rw[e]at this;cases this
theorem Inv.bs(I:Inv X pins σ H s):∀b o,X.base.get? b=some o->s.heap.get? b=some o/\H b=none:=fun b o e =>
 ⟨I.base.keep b o (I.ok.bs b o e).1 (I.ok.bs b o e).2 (I.ok.nofr e) (I.ok.noex b o e),I.base.free b o (I.ok.bs b o e).1 (I.ok.bs b o e).2 (I.ok.noex b o e)⟩
theorem Inv.bk(I:Inv X pins σ H s):∀b o,X.base.get? b=some o->s.heap.get? b=some o:=fun b o e=>(I.bs b o e).1
theorem Inv.mod(I:Inv X pins σ H s):Mod X.K X.mg X.base:=I.ok.mod
theorem Inv.kIn(I:Inv X pins σ H s):X.K.In s.heap:=I.ok.mod.kin.keeps I.bk
theorem Inv.lt(I:Inv X pins σ H s):X.env.locals<s.heap.objs.size:=let ⟨_,hn,_⟩:=I.loc;hn.lt
theorem Inv.sz(I:Inv X pins σ H s):X.s₀.heap.objs.size<=s.heap.objs.size:=hAq I.ok.above (hB1 I.lt)
theorem Inv.nofs(I:Inv X pins σ H s){a:Addr}(h:s.heap.objs.size<=a):a∉X.fs:=fun hb=>by
 obtain⟨_,o,ho,_⟩:=I.ok.funs.mem hb;exact absurd (hAi (Heap.lt_size ho) (hAq I.sz h)) (hCk _)
theorem Inv.cne(I:Inv X pins σ H s):∀x c,X.env.cells.lookup x=some c->c≠X.env.locals:=fun x c e z=>by
 obtain⟨v,o,ho,hd⟩:=I.cell x c e;obtain⟨m,⟨o',es,ep,ho',hd',_⟩,_⟩:=I.loc;rw[z,ho']at ho;cases ho;rw[hd']at hd;cases hd
theorem Inv.funs(I:Inv X pins σ H s):s.heap.FunFrames X.base X.outer:=by
 have all:∀(l:List Env),(∀b∈frs l,b∈X.fs)->X.s₀.heap.FunFrames X.base l->s.heap.FunFrames X.base l:=by
  intro l
  induction l with
  |nil=>intro _ _;trivial
  |cons env r ih =>
   intro hs hl;obtain⟨hk,⟨L,o,hf,hn,ho,hd⟩,hr⟩:=hl;have hL:L∈X.fs:=hs L (by unfold frs;rw[hBf,hf];exact hA6);obtain⟨sl,e⟩:=I.base.slot L o ho (I.ok.frf L hL) hL fun z=>I.ok.exfs L z hL
   exact⟨hk,⟨L,_,hf,hn,e,hd⟩,ih (fun b hb=>hs b (by unfold frs;rw[hBf,hf];exact hA4 _ hb)) hr⟩
 exact all X.outer (fun _ hb=>hb) I.ok.funs
theorem Inv.stack(I:Inv X pins σ H s):s.heap.FunFrames X.base X.stack:=by
 rcases I.ok.stk with e|⟨e,hf⟩
 ·rw[e];exact I.funs
 ·rw[e];obtain⟨m,hn,_⟩:=I.loc;refine .cons (by rw[I.ok.kind];decide) hf hn ?_ I.funs;exact Heap.get?_none_of_le (hAq I.ok.bsz I.ok.above)
theorem Inv.stkSub(I:Inv X pins σ H s):∀b∈frs X.stack,b∈X.env.locals :: X.fs:=fun b hb=>by
 rcases I.ok.stk with e|⟨e,hf⟩
 ·rw[e]at hb;exact hA4 _ hb
 ·rw[e]at hb;unfold frs at hb;rw[hBf,hf]at hb;exact hb
theorem Inv.stkFree(I:Inv X pins σ H s):∀b∈frs X.stack,H b=none:=fun b hb=>by
 rcases hAf.mp (I.stkSub b hb) with e|hb
 ·rw[e];exact I.free
 ·obtain⟨_,o,ho,_⟩:=I.ok.funs.mem hb;exact I.base.free b o ho (I.ok.frf b hb) fun z=>I.ok.exfs b z hb
theorem Inv.step{g':Array GenState}{t':Nat}{d':Drawn}{ch:List Addr}(I:Inv X pins σ H s)
  (hch:∀b∈ch,(b∈X.ex\/X.s₀.heap.objs.size<=b)/\b≠X.env.locals/\(∀x c,X.env.cells.lookup x=some c->c≠b)/\∀p∈X.pn++pins,p.1≠b)
  (keep:∀b o,b≠X.env.locals->b∉X.fs->b∉ch->s.heap.get? b=some o->H b=none->h'.get? b=some o)
  (slot:∀b o,b≠X.env.locals->b∈X.fs->b∉ch->s.heap.get? b=some o->H b=none->∃sl,h'.get? b=some { o with slots:=sl }) (free:∀b o,b∉ch->s.heap.get? b=some o->H b=none->H' b=none)
  (there:∀b o,b∉ch->s.heap.get? b=some o->∃o',h'.get? b=some o')
  (tups:∀b xs,H b=some (.tup xs)->H' b=some (.tup xs)) (frzs:∀b o u,H b=some (.frz o u)->H' b=some (.frz o u)) (tbls:∀b ps,H b=some (.tbl ps)->∃more,H' b=some (.tbl (ps++more)))
  (ns:∀m,s.heap.Ns X.env.locals m->h'.Ns X.env.locals m) (hok:HOk X.prog X.w H' h') (hg:AllBare g') :
  Inv X pins σ H' { s with heap:=h',gens:=g',drawn:=d',toks:=t' }:=by
 have neL:∀b o,X.s₀.heap.get? b=some o->b≠X.env.locals:=fun b o e=>hAp (hAi (Heap.lt_size e) I.ok.above)
 have neC:∀b o,X.s₀.heap.get? b=some o->b∉X.ex->b∉ch:=fun b o e hx hb=>by
  rcases(hch b hb).1 with z|z
  ·exact hx z
  ·exact absurd (hAi (Heap.lt_size e) z) (hCk _)
 have cellK:∀x c,X.env.cells.lookup x=some c->∀v,s.heap.IsCell c v->h'.IsCell c v:=fun x c e v ⟨o,ho,hd⟩=>by
  have nch:c∉ch:=fun z=>(hch c z).2.2.1 x c e rfl
  by_cases hc:c∈X.fs
  ·obtain⟨sl,q⟩:=slot c o (I.cne x c e) hc nch ho (I.freeC x c e);exact⟨_,q,hd⟩
  ·exact⟨o,keep c o (I.cne x c e) hc nch ho (I.freeC x c e),hd⟩
 refine⟨I.ok,I.os,hg,⟨fun b o e n hb hx=>?_,fun b o e n hb hx=>?_,fun b o e n hx=>?_,fun b o e hx=>?_,fun b xs e=>tups b xs (I.base.tups b xs e),fun b o xs e=>frzs b o xs (I.base.frzs b o xs e),fun b ps e=>?_⟩,?_,fun x c e=>?_,?_,fun x c e=>?_,fun p hp=>?_,hok,I.len⟩
 ·exact keep b o (neL b o e) hb (neC b o e hx) (I.base.keep b o e n hb hx) (I.base.free b o e n hx)
 ·obtain⟨sl,e1⟩:=I.base.slot b o e n hb hx;obtain⟨sl',e2⟩:=slot b _ (neL b o e) hb (neC b o e hx) e1 (I.base.free b o e n hx);exact⟨sl',e2⟩
 ·obtain⟨o',e1⟩:=I.base.there b o e hx;exact free b o' (neC b o e hx) e1 (I.base.free b o e n hx)
 ·obtain⟨o',e1⟩:=I.base.there b o e hx;exact there b o' (neC b o e hx) e1
 ·obtain⟨m1,e1⟩:=I.base.tbls b ps e;obtain⟨m2,e2⟩:=tbls b _ e1;exact⟨m1++m2,by rw[e2,Array.append_assoc]⟩
 ·obtain⟨m,hn,hl⟩:=I.loc;refine⟨m,ns m hn,fun i x v e1 e2 e3=>?_⟩;obtain⟨u,r,l⟩:=hl i x v e1 e2 e3;refine⟨u,r,?_⟩;rcases l with l|⟨k,c,e,z⟩
  ·exact .inl l
  ·exact .inr ⟨k,c,e,cellK x c e _ z⟩
 ·obtain⟨v,z⟩:=I.cell x c e;exact⟨v,cellK x c e v z⟩
 ·obtain⟨m,⟨o,_,_,ho,_⟩,_⟩:=I.loc;exact free _ o (fun z=>(hch _ z).2.1 rfl) ho I.free
 ·obtain⟨v,o,ho,hd⟩:=I.cell x c e;exact free c o (fun z=>(hch c z).2.2.1 x c e rfl) ho (I.freeC x c e)
 ·obtain⟨e,n,ne,nf,d⟩:=I.pin p hp;have nch:p.1∉ch:=fun z=>(hch p.1 z).2.2.2 p hp rfl
  exact⟨keep p.1 p.2 ne nf nch e n,free p.1 p.2 nch e n,ne,nf,d⟩
theorem Inv.un{t':Nat}(I:Inv X pins σ H s)(u:Un X.fs [] H H' s.heap h')(hok:HOk X.prog X.w H' h'):Inv X pins σ H' { s with heap:=h',toks:=t' }:=by
 obtain⟨m,⟨o,es,ep,ho,r⟩,_⟩:=id I.loc;obtain⟨sl,hL⟩:=u.any ho I.free (by simp);exact I.step (g':=s.gens) (d':=s.drawn) (ch:=[]) (fun _ z=>nomatch z) (fun b o _ hb _ e n=>u.keep b o e n hb (by simp)) (fun b o _ hb _ e n=>u.slot b o e n hb (by simp)) (fun b o _ e n=>u.free b o e n (by simp)) (fun b o _ e=>u.there b o e (by simp)) u.tups u.frzs u.tbls (fun m' hm=>by
  obtain⟨o',es',ep',ho',r'⟩:=hm;rw[ho]at ho';cases ho';exact⟨_,es',ep',hL,r'⟩) hok I.bare
theorem Inv.call{g':Array GenState}{t':Nat}{d':Drawn}{ch:List Addr}(I:Inv X pins σ H s)(u:Un (frs X.stack) ch H H' s.heap h')(hok:HOk X.prog X.w H' h')(hg:AllBare g')
  (hch:∀b∈ch,(b∈X.ex\/X.s₀.heap.objs.size<=b)/\b≠X.env.locals/\(∀x c,X.env.cells.lookup x=some c->c≠b)/\∀p∈X.pn++pins,p.1≠b) :
  Inv X pins σ H' { s with heap:=h',gens:=g',drawn:=d',toks:=t' }:=by
 obtain⟨m,⟨o,es,ep,ho,r⟩,_⟩:=id I.loc;obtain⟨sl,hL⟩:=u.any ho I.free fun z=>(hch _ z).2.1 rfl
 exact I.step (ch:=ch) hch (fun b o hL hb hc e n=>u.keep b o e n (fun z=>(hAf.mp (I.stkSub b z)).elim hL hb) hc) (fun b o _ _ hc e n=>u.any e n hc) (fun b o hc e n=>u.free b o e n hc) (fun b o hc e=>u.there b o e hc) u.tups u.frzs u.tbls (fun m' hm=>by
  obtain⟨o',es',ep',ho',r'⟩:=hm;rw[ho]at ho';cases ho';exact⟨_,es',ep',hL,r'⟩) hok hg
theorem Inv.turned{t':Nat}{it:Addr}(I:Inv X pins σ H s)(k:∀b o,b≠it->s.heap.get? b=some o->h'.get? b=some o)(hn:H it=none)(hL:it≠X.env.locals)
  (h1:it∈X.ex\/X.s₀.heap.objs.size<=it) (h2:∀x c,X.env.cells.lookup x=some c->c≠it) (h3:∀p∈X.pn++pins,p.1≠it):Inv X pins σ H { s with heap:=h',toks:=t' }:=by
 have nit:∀b u,H b=some u->b≠it:=fun b u e z=>by rw[z,hn]at e;cases e
 refine I.step (g':=s.gens) (d':=s.drawn) (ch:=[it]) (fun b hb=>?_) (fun b o _ _ hc e _=>k b o (fun z=>hc (by simp[z])) e) (fun b o _ _ hc e _=>⟨o.slots,k b o (fun z=>hc (by simp[z])) e⟩) (fun _ _ _ _ n=>n)
  (fun b o hc e=>⟨o,k b o (fun z=>hc (by simp[z])) e⟩) (fun _ _ e=>e) (fun _ _ _ e=>e) (fun b ps e=>⟨#[],by rw[e];simp⟩) (fun m hm=>?_) (fun b u e=>?_) I.bare
 ·have e:b=it:=by simpa using hb
  subst e;exact⟨h1,hL,h2,h3⟩
 ·obtain⟨o,es,ep,ho,r⟩:=hm;exact⟨o,es,ep,k _ o (Ne.symm hL) ho,r⟩
 ·refine(I.hok b u e).stay (fun c v hc q=>k c v ?_ q) (fun _ q=>q) fun _ _ q=>q
  rcases hc with z|z
  ·rw[z];exact nit b u e
  ·exact nit c _ z
theorem Inv.tok(I:Inv X pins σ H s)(t:Nat):Inv X pins σ H { s with toks:=t }:=I.un (h':=s.heap) (t':=t) Un.refl I.hok
theorem Inv.kept{t':Nat}(I:Inv X pins σ H s)(k:∀b u,s.heap.get? b=some u->h'.get? b=some u):Inv X pins σ H { s with heap:=h',toks:=t' }:=I.un (Un.kept k) (I.hok.kept k)
theorem Inv.laid{a:Addr}{o:HO}{t':Nat}(I:Inv X pins σ H s)(k:∀b u,s.heap.get? b=some u->h'.get? b=some u)(hp:s.heap.objs.size<=a)(new:qB8 X.prog X.w (upd H a o) h' a o) :
  Inv X pins σ (upd H a o) { s with heap:=h',toks:=t' }:=I.un (Un.laid k hp (I.hok.fresh hp)) (I.hok.laid k hp new)
theorem Inv.write{x e:Addr}{o:HO}{t':Nat}(I:Inv X pins σ H s)(mu:Mut (H x))(he:e=x\/H e=some (.own x))(k:∀b u,b≠e->s.heap.get? b=some u->h'.get? b=some u)(heo:∃u,h'.get? e=some u)
  (new:qB8 X.prog X.w (upd H x o) h' x o):Inv X pins σ (upd H x o) { s with heap:=h',toks:=t' }:=I.un (Un.write mu he k heo) (I.hok.write mu he k heo new)
theorem Inv.weak{σ':List (Option V)}(I:Inv X pins σ H s)(hl:σ'.length=σ.length)(w:∀(i:Nat) v,σ'[i]?=some (some v)->σ[i]?=some (some v)):Inv X pins σ' H s :=
 ⟨I.ok,I.os,I.bare,I.base,let ⟨m,hn,hl'⟩:=I.loc;⟨m,hn,fun i x v e1 e2 e3=>hl' i x v e1 (w i v e2) e3⟩,I.cell,I.free,I.freeC,I.pin,I.hok,hl.trans I.len⟩
theorem Inv.pins_of{pins':List (Addr×Obj)}(I:Inv X pins σ H s)(h:∀p∈pins',s.heap.get? p.1=some p.2/\H p.1=none/\p.1≠X.env.locals/\p.1∉X.fs/\∀v,p.2.data≠.cell v):Inv X pins' σ H s :=
 ⟨I.ok,I.os,I.bare,I.base,I.loc,I.cell,I.free,I.freeC,fun p hp=>(hAj.mp hp).elim (fun z=>I.pin p (hAl _ z)) (h p),I.hok,I.len⟩
theorem qNi{N:List Str}(hN:N.Nodup){i j:Nat}{x:Str}(a:N[i]?=some x)(b:N[j]?=some x):i=j:=by
 obtain⟨h1,e1⟩:=hAk.mp a;obtain⟨h2,e2⟩:=hAk.mp b;exact(List.getElem_inj hN).mp (e1.trans e2.symm)
theorem qJc{M:Model}{A:Around}{E:Value->Shared->Prop}{i:Nat}{x:Str}{v:V}{u:Value}{Q:Unit->Shared->Prop}(I:Inv X pins σ H s)(hN:X.N.Nodup)(hi:X.N[i]?=some x)(hx:Loc X.env.scope x)(r:qCi v u)
  (h:∀s',Inv X pins (σ.set i (some v)) H s'->(∃a,Heap.SameBut a s.heap s'.heap/\(a=X.env.locals\/X.env.cells.lookup x=some a))->Q () s') (hf:X.fn x=true\/X.env.scope.names.lookup x=some .local:=by first|exact .inl rfl|exact .inr rfl|assumption):wpAny M A (storeName X.env x u) Q E s:=by
 obtain⟨m,hn,hl⟩:=id I.loc;have hcls:(X.env.scope.kind == .class || (X.env.scope.kind == .module && X.env.locals != X.env.globals))=false:=by rw[I.ok.kind];rfl
 have hiσ:i < σ.length:=by rw[I.len];exact(hAk.mp hi).1
 have cne:=I.cne;have tracked:∀ {a:Addr} {h':Heap},(∃o,s.heap.get? a=some o/\H a=none)->Heap.SameBut a s.heap h'->HOk X.prog X.w H h':=fun {a h'} ha hs b ob e=>by
  obtain⟨_,_,hfree⟩:=ha;refine(I.hok b ob e).stay (fun c w' hc q=>(hs.2 c ?_).trans q) (fun _ q=>q) fun _ _ q=>q
  rintro rfl;rcases hc with rfl|hc
  ·rw[hfree]at e;cases e
  ·rw[hfree]at hc;cases hc
 rcases hx with hk|hk
 ·refine wpAny_storeName_local hk hn (fun h' hn' hs=>?_) hcls;obtain⟨oL,_,_,hoL,_⟩:=id hn;refine h _ ⟨I.ok,I.os,I.bare,⟨fun b o e n hb hx=>?_,fun b o e n hb hx=>?_,I.base.free,fun b o e hx=>?_,I.base.tups,I.base.frzs,I.base.tbls⟩,⟨_,hn',fun j y v' e1 e2 e3=>?_⟩,fun y c e=>?_,I.free,I.freeC,fun p hp=>?_,tracked ⟨oL,hoL,I.free⟩ hs,by simpa using I.len⟩ ⟨_,hs,.inl rfl⟩
  ·exact(hs.2 b (hAp (hAi (Heap.lt_size e) I.ok.above))).trans (I.base.keep b o e n hb hx)
  ·obtain⟨sl,e1⟩:=I.base.slot b o e n hb hx;exact⟨sl,(hs.2 b (hAp (hAi (Heap.lt_size e) I.ok.above))).trans e1⟩
  ·obtain⟨o',e1⟩:=I.base.there b o e hx;exact⟨o',(hs.2 b (hAp (hAi (Heap.lt_size e) I.ok.above))).trans e1⟩
  ·by_cases hj:j=i
   ·subst hj;rw[hi]at e1;cases e1;rw[List.getElem?_set_self hiσ]at e2;cases e2;exact⟨u,r,.inl ⟨hk,by simp⟩⟩
   ·rw[List.getElem?_set_ne (Ne.symm hj)]at e2;obtain⟨u',r',q⟩:=hl j y v' e1 e2 e3;refine⟨u',r',?_⟩;rcases q with ⟨k,e⟩|⟨k,c,e,z⟩
    ·refine .inl ⟨k,?_⟩;have:y≠x:=fun e=>hj (qNi hN e1 (e▸hi))
     simp[this,e]
    ·exact .inr ⟨k,c,e,z.sameBut hs (cne y c e)⟩
  ·obtain⟨w',z⟩:=I.cell y c e;exact⟨w',z.sameBut hs (cne y c e)⟩
  ·obtain⟨e,n,ne,nf,d⟩:=I.pin p hp;exact⟨(hs.2 p.1 ne).trans e,n,ne,nf,d⟩
 ·have hfn:X.fn x=true:=by
   rcases hf with z|z
   ·exact z
   ·rw[z]at hk;cases hk
  obtain⟨c,hc⟩:=I.ok.has x (.inl hk);obtain⟨w',z⟩:=I.cell x c hc;refine wpAny_storeName_cell I.ok.kind hk hc z (fun h' hc' hs=>?_);obtain⟨oc,hoc,hocd⟩:=id z;refine h { s with heap:=h' } ⟨I.ok,I.os,I.bare,⟨fun b o e n hb hx=>?_,fun b o e n hb hx=>?_,I.base.free,fun b o e hx=>?_,I.base.tups,I.base.frzs,I.base.tbls⟩,⟨m,hn.sameBut hs (Ne.symm (cne x c hc)),fun j y v' e1 e2 e3=>?_⟩,fun y c' e=>?_,I.free,I.freeC,fun p hp=>?_,tracked ⟨oc,hoc,I.freeC x c hc⟩ hs,by simpa using I.len⟩ ⟨c,hs,.inr hc⟩
  ·exact(hs.2 b (hAp (hAi (Heap.lt_size e) (I.ok.cab x c hfn hc)))).trans (I.base.keep b o e n hb hx)
  ·obtain⟨sl,e1⟩:=I.base.slot b o e n hb hx;exact⟨sl,(hs.2 b (hAp (hAi (Heap.lt_size e) (I.ok.cab x c hfn hc)))).trans e1⟩
  ·obtain⟨o',e1⟩:=I.base.there b o e hx;exact⟨o',(hs.2 b (hAp (hAi (Heap.lt_size e) (I.ok.cab x c hfn hc)))).trans e1⟩
  ·by_cases hj:j=i
   ·subst hj;rw[hi]at e1;cases e1;rw[List.getElem?_set_self hiσ]at e2;cases e2;exact⟨u,r,.inr ⟨.inl hk,c,hc,hc'⟩⟩
   ·rw[List.getElem?_set_ne (Ne.symm hj)]at e2;obtain⟨u',r',q⟩:=hl j y v' e1 e2 e3;refine⟨u',r',?_⟩;rcases q with q|⟨k,c',e,z'⟩
    ·exact .inl q
    ·refine .inr ⟨k,c',e,z'.sameBut hs ?_⟩;rintro rfl;exact hj (qNi hN e1 (I.ok.inj _ _ _ e hc▸hi))
  ·by_cases hcc:c'=c
   ·subst hcc;exact⟨_,hc'⟩
   ·obtain⟨w2,z2⟩:=I.cell y c' e;exact⟨w2,z2.sameBut hs hcc⟩
  ·obtain⟨e,n,ne,nf,d⟩:=I.pin p hp;refine⟨(hs.2 p.1 ?_).trans e,n,ne,nf,d⟩;intro q;rw[q,hoc]at e;have q':oc=p.2:=hAm e;exact d w' (by rw[<-q'];exact hocd)
theorem qH6{M:Model}{A:Around}{E:Value->Shared->Prop}{i:Nat}{x:Str}{v:V}{u:Value}{Q:Unit->Shared->Prop}(I:Inv X pins σ H s)(hN:X.N.Nodup)(hi:X.N[i]?=some x)(hx:Loc X.env.scope x)(r:qCi v u)
  (h:∀s',Inv X pins (σ.set i (some v)) H s'->Q () s') (hf:X.fn x=true\/X.env.scope.names.lookup x=some .local:=by first|exact .inl rfl|exact .inr rfl|assumption):wpAny M A (storeName X.env x u) Q E s :=
 qJc I hN hi hx r (fun s' I' _=>h s' I') hf
theorem Inv.call'{s':Shared}{ch:List Addr}(I:Inv X pins σ H s)(ho:s'.os=s.os)(u:Un (frs X.stack) ch H H' s.heap s'.heap)(hok:HOk X.prog X.w H' s'.heap)(hg:AllBare s'.gens)
  (hch:∀b∈ch,(b∈X.ex\/X.s₀.heap.objs.size<=b)/\b≠X.env.locals/\(∀x c,X.env.cells.lookup x=some c->c≠b)/\∀p∈X.pn++pins,p.1≠b):Inv X pins σ H' s':=by
 obtain⟨h',g',d',t',o'⟩:=s';have e:o'=s.os:=ho;subst e;exact I.call (g':=g') (t':=t') (d':=d') u hok hg hch
end
abbrev XK:=Value->Option Addr->Hp->Prop
abbrev St:=List (Option V)
abbrev VK:=V->Hp->Prop
abbrev TE:=St->Hp->VK->Prop
abbrev TT:=St->Hp->(Bool->Hp->Prop)->Prop
abbrev TA:=St->Hp->(List V->Hp->Prop)->Prop
structure Ends where
 nx:St->Hp->Prop
 rt:VK
 bk:St->Hp->Prop:=fun _ _=>False
 ct:St->Hp->Prop:=fun _ _=>False
abbrev TS:=Ends->St->Hp->Prop
def EP(X:Cx)(pins:List (Addr×Obj))(σ:St)(Q:VK)(u:Value)(s':Shared):Prop:=∃v H',Inv X pins σ H' s'/\qCi v u/\Q v H'
def TP(X:Cx)(pins:List (Addr×Obj))(σ:St)(Q:Bool->Hp->Prop)(b:Bool)(s':Shared):Prop:=∃H',Inv X pins σ H' s'/\Q b H'
def AP(X:Cx)(pins:List (Addr×Obj))(σ:St)(Q:List V->Hp->Prop)(us:List Value)(s':Shared):Prop:=∃vs H',Inv X pins σ H' s'/\qBa vs us/\Q vs H'
def SP(X:Cx)(pins:List (Addr×Obj))(D:Ends)(f:Flow)(s':Shared):Prop :=
 match f with
 |.next=>∃σ' H',Inv X pins σ' H' s'/\D.nx σ' H'
 |.brk=>∃σ' H',Inv X pins σ' H' s'/\D.bk σ' H'
 |.cont=>∃σ' H',Inv X pins σ' H' s'/\D.ct σ' H'
 |.ret u=>∃v σ' H',Inv X pins σ' H' s'/\qCi v u/\D.rt v H'
def PE(X:Cx)(e:Expr)(t:TE):Prop :=
 ∀(pins:List (Addr×Obj)) (s:Shared) (σ:St) (H:Hp) (Q:VK),Inv X pins σ H s->t σ H Q->wpAny (model X.prog X.w) X.A (eval e X.env) (EP X pins σ Q) X.xe s
def PT(X:Cx)(e:Expr)(t:TT):Prop :=
 ∀(pins:List (Addr×Obj)) (s:Shared) (σ:St) (H:Hp) (Q:Bool->Hp->Prop),Inv X pins σ H s->t σ H Q->wpAny (model X.prog X.w) X.A (isTrue e X.env (eval e X.env)) (TP X pins σ Q) X.xe s
def PW(X:Cx)(e:Expr)(t:TT):Prop :=
 ∀(whole:Sem Value) (pins:List (Addr×Obj)) (s:Shared) (σ:St) (H:Hp) (Q:Bool->Hp->Prop),Inv X pins σ H s->t σ H Q->wpAny (model X.prog X.w) X.A (isTrue e X.env whole) (TP X pins σ Q) X.xe s
theorem PW.pt{X:Cx}{e:Expr}{t:TT}(h:PW X e t):PT X e t:=h _
def PA(X:Cx)(es:List Expr)(t:TA):Prop :=
 ∀(pos:Pos) (pins:List (Addr×Obj)) (s:Shared) (σ:St) (H:Hp) (Q:List V->Hp->Prop),Inv X pins σ H s->t σ H Q->wpAny (model X.prog X.w) X.A (spliced (backTo pos (starEach es X.env))) (AP X pins σ Q) X.xe s
def PS(X:Cx)(st:Stmt)(t:TS):Prop :=
 ∀(pins:List (Addr×Obj)) (s:Shared) (σ:St) (H:Hp) (D:Ends),Inv X pins σ H s->t D σ H->wpAny (model X.prog X.w) X.A (exec st X.env) (SP X pins D) X.xe s
def PSs(X:Cx)(st:List Stmt)(t:TS):Prop :=
 ∀(pins:List (Addr×Obj)) (s:Shared) (σ:St) (H:Hp) (D:Ends),Inv X pins σ H s->t D σ H->wpAny (model X.prog X.w) X.A (execs st X.env) (SP X pins D) X.xe s
theorem thn{α:Type}{t:Sem α}{Q Q':α->Shared->Prop}{M:Model}{A:Around}{E:Value->Shared->Prop}{s:Shared}(h:wpAny M A t Q E s)(hQ:∀a s,Q a s->Q' a s):wpAny M A t Q' E s:=wpAny_mono h hQ fun _ _ x=>x
section
variable{X:Cx}
def qPe(i:Nat):TE:=fun σ H Q=>∃v,σ[i]?=some (some v)/\Q v H
def tC(v:V):TE:=fun _ H Q=>Q v H
theorem zAp{i:Nat}{x:Str}{pos:Pos}(hN:X.N[i]?=some x)(hv:Vis X.env.scope x)(hd:(x == ("__debug__" : Str))=false:=by decide)(hcd:(x == ("__classdict__" : Str))=false:=by decide):PE X (.Name x pos) (qPe i):=by
 intro pins s σ H Q I h;obtain⟨v,e,h⟩:=h;obtain⟨m,hn,hl⟩:=I.loc;obtain⟨u,r,l⟩:=hl i x v hN e hv;have fin:EP X pins σ Q u s:=⟨v,H,I,r,h⟩;rcases l with ⟨hk,hm⟩|⟨hk,c,hc,hcell⟩
 ·exact wpAny_Name (wpAny_loadName_local I.ok.kind hk hn hm fin) hd
 ·rcases hk with hk|hk
  ·exact wpAny_Name (wpAny_loadName_cell I.ok.kind hk hc hcell fin) hd
  ·exact wpAny_Name (wpAny_loadName_free I.ok.kind hk hc hcell fin hcd) hd
theorem qAd{i j pos}:PE X (.Constant (.int i) j pos) (tC (.int i)):=fun _ _ _ H _ I h=>wpAny_Constant_int ⟨.int i,H,I.tok _,⟨_,rfl⟩,h⟩
theorem qGp{b j pos}:PE X (.Constant (.bool b) j pos) (tC (.bl b)):=fun _ _ _ H _ I h=>Constant_bool ⟨.bl b,H,I,rfl,h⟩
theorem qDz{x j pos}:PE X (.Constant (.str x) j pos) (tC (.str x)):=fun _ _ _ H _ I h=>Calls.Constant_str ⟨.str x,H,I.tok _,⟨_,rfl⟩,h⟩
def Gl(X:Cx)(x:Str):Prop:=X.env.kindOf x=some .globalImplicit
theorem qY5{E:Value->Shared->Prop}{pins:List (Addr×Obj)}{s:Shared}{σ:St}{H:Hp}{x:Str}{u:Value}{pos:Pos}{Q:Value->Shared->Prop}(I:Inv X pins σ H s)(hg:Gl X x)(hm:X.mg x=some u)(h:Q u s)
  (hd:(x == ("__debug__" : Str))=false:=by decide):wpAny (model X.prog X.w) X.A (eval (.Name x pos) X.env) Q E s :=
 Calls.Name_function_global I.ok.kind hg (Calls.loadGlobal_global (by rw[I.ok.glob];exact I.mod.glob.keeps I.bk) hm h) hd
theorem qC9{E:Value->Shared->Prop}{pins:List (Addr×Obj)}{s:Shared}{σ:St}{H:Hp}{x:Str}{u:Value}{pos:Pos}{Q:Value->Shared->Prop}(I:Inv X pins σ H s)(hg:Gl X x)(hm:X.mg x=none)(hv:bootBuiltins x=some u)(h:Q u s)
  (hn:x≠"__name__":=by decide) (hd:(x == ("__debug__" : Str))=false:=by decide):wpAny (model X.prog X.w) X.A (eval (.Name x pos) X.env) Q E s:=by
 obtain⟨mb,h1,h2⟩:=I.mod.blt;exact Calls.Name_function_global I.ok.kind hg (Calls.loadGlobal_builtin (by rw[I.ok.glob];exact I.mod.glob.keeps I.bk) hm (by rw[I.ok.blt];exact h1.keeps I.bk) ((h2 x hn).trans hv) h) hd
theorem qGo{x:Str}{v:V}{u:Value}{pos:Pos}(hg:Gl X x)(hm:X.mg x=none)(hv:bootBuiltins x=some u)(r:qCi v u)(hn:x≠"__name__":=by decide)(hd:(x == ("__debug__" : Str))=false:=by decide):PE X (.Name x pos) (tC v) :=
 fun _ _ _ H _ I h=>qC9 I hg hm hv ⟨v,H,I,r,h⟩ hn hd
variable{a b:Expr}{ta tb:TE}{pos:Pos}
def tB(t:TE):TT:=fun σ H Q=>t σ H fun x H1=>∃c,x = .bl c/\Q c H1
theorem qDe{e:Expr}{t:TE}(h:PE X e t)(he:∀whole,isTrue e X.env whole=(do let v ← whole;standAt e.pos;holding [v] (truthy v)):=by intro _;rfl):PT X e (tB t):=by
 intro pins s σ H Q I hw;refine isTrue_plain (thn (h pins s σ H _ I hw) fun v s1 ⟨x,H1,I1,r1,q1⟩=>?_) (he _);obtain⟨d,rfl,q⟩:=q1;cases r1;exact wpAny_truthy_bool ⟨H1,I1,q⟩
variable{tA tB':TT}{rest:List Expr}
def zDo(t u:TT):TT:=fun σ H Q=>t σ H fun c H1=>if c=true then u σ H1 Q else Q false H1
def tOr(t u:TT):TT:=fun σ H Q=>t σ H fun c H1=>if c=true then Q true H1 else u σ H1 Q
def zDg(t:TT):TT:=fun σ H Q=>t σ H fun c H1=>Q (!c) H1
theorem qGk(ha:PT X a tA):PW X (.BoolOp .And [a] pos) tA:=by
 intro wh pins s σ H Q I h;refine isTrue_and (thn (ha pins s σ H Q I h) fun c s1 e=>?_);cases c with
 |true=>exact isTrue_and_nil e
 |false=>exact e
theorem qNe(ha:PT X a tA):PW X (.BoolOp .Or [a] pos) tA:=by
 intro wh pins s σ H Q I h;refine isTrue_or (thn (ha pins s σ H Q I h) fun c s1 e=>?_);cases c with
 |false=>exact isTrue_or_nil e
 |true=>exact e
theorem qJo(ha:PT X a tA)(hb:PW X (.BoolOp .And (b :: rest) pos) tB'):PW X (.BoolOp .And (a :: b :: rest) pos) (zDo tA tB'):=by
 intro wh pins s σ H Q I h;refine isTrue_and (thn (ha pins s σ H _ I h) fun c s1 ⟨H1,I1,q1⟩=>?_);cases c with
 |true=>exact hb wh pins s1 σ H1 Q I1 q1
 |false=>exact⟨H1,I1,q1⟩
theorem qQ3(ha:PT X a tA)(hb:PW X (.BoolOp .Or (b :: rest) pos) tB'):PW X (.BoolOp .Or (a :: b :: rest) pos) (tOr tA tB'):=by
 intro wh pins s σ H Q I h;refine isTrue_or (thn (ha pins s σ H _ I h) fun c s1 ⟨H1,I1,q1⟩=>?_);cases c with
 |true=>exact⟨H1,I1,q1⟩
 |false=>exact hb wh pins s1 σ H1 Q I1 q1
theorem qGl(ha:PT X a tA):PT X (.UnaryOp .Not a pos) (zDg tA):=by
 intro pins s σ H Q I h;exact isTrue_not (ha pins s σ H (fun c H1=>Q (!c) H1) I h)
def zCa(ta tb:TE):TE:=fun σ H Q=>ta σ H fun x H1=>∃c,x = .bl c/\if c=true then tb σ H1 Q else Q (.bl false) H1
def zB4(ta:TE):TE:=fun σ H Q=>ta σ H fun x H1=>∃c,x = .bl c/\Q (.bl (!c)) H1
theorem qQ9{op}{t:TE}(h:PE X a t):PE X (.BoolOp op [a] pos) t:=fun pins s σ H Q I hw=>BoolOp_one (h pins s σ H Q I hw)
theorem qNg(ha:PE X a ta)(hb:PE X (.BoolOp .And (b :: rest) pos) tb):PE X (.BoolOp .And (a :: b :: rest) pos) (zCa ta tb):=by
 intro pins s σ H Q I h;refine BoolOp_and (thn (ha pins s σ H _ I h) fun v s1 ⟨x,H1,I1,r1,q1⟩=>?_);obtain⟨c,rfl,q1⟩:=q1;cases r1;refine wpAny_truthy_bool ?_;cases c with
 |true=>exact hb pins s1 σ H1 Q I1 q1
 |false=>exact⟨.bl false,H1,I1,rfl,q1⟩
theorem qWf(ha:PE X a ta):PE X (.UnaryOp .Not a pos) (zB4 ta):=by
 intro pins s σ H Q I h;refine UnaryOp_ (thn (ha pins s σ H _ I h) fun v s1 ⟨x,H1,I1,r1,q1⟩=>?_);obtain⟨c,rfl,q1⟩:=q1;cases r1;exact not_of (wpAny_truthy_bool ⟨.bl (!c),H1,I1,rfl,q1⟩)
def tIf(t:TT)(ta tb:TE):TE:=fun σ H Q=>t σ H fun c H1=>if c=true then ta σ H1 Q else tb σ H1 Q
theorem qDq{c:Expr}(hc:PT X c tA)(ha:PE X a ta)(hb:PE X b tb):PE X (.IfExp c a b pos) (tIf tA ta tb):=by
 intro pins s σ H Q I h;refine wpAny_IfExp (thn (hc pins s σ H _ I h) fun d s1 ⟨H1,I1,q1⟩=>?_);cases d with
 |true=>exact ha pins s1 σ H1 Q I1 q1
 |false=>exact hb pins s1 σ H1 Q I1 q1
end
def SqL(K:PySem.W.Frag)(H:Hp)(a:Addr)(xs:List V):Prop :=
 Rd H a (.lst xs) \/
  ∃(o:Obj) (its:Array Value) (n:Nat),K.lookup a=some o/\o.cls = .type "list"/\o.dict=none/\o.data = .seq its n/\its.size<=sizeLine/\qBa xs its.toList
def SqT(K:PySem.W.Frag)(H:Hp)(a:Addr)(xs:List V):Prop :=
 Rd H a (.tup xs) \/
  ∃(o:Obj) (its:Array Value) (n:Nat),K.lookup a=some o/\o.cls = .type "tuple"/\o.data = .seq its n/\its.size<=sizeLine/\qBa xs its.toList
def zDy:Value->Option V
 |.none=>some .non
 |.bool b=>some (.bl b)
 |.int i _=>some (.int i)
 |.str x _=>some (.str x)
 |.bytes b _=>some (.byt b)
 |.float b _=>some (.flt b)
 |.ref a=>some (.ref a)
 |.type n=>some (.ty n)
 |_=>none
theorem qCi.abs{x:V}{u:Value}(r:qCi x u):zDy u=some x:=by
 cases x with
 |non=>cases r;rfl
 |bl _=>cases r;rfl
 |int _=>obtain⟨t,rfl⟩:=r;rfl
 |str _=>obtain⟨t,rfl⟩:=r;rfl
 |byt _=>obtain⟨t,rfl⟩:=r;rfl
 |flt _=>obtain⟨t,rfl⟩:=r;rfl
 |ref _=>cases r;rfl
 |ty _=>cases r;rfl
theorem qCi.inj{x y:V}{u:Value}(r:qCi x u)(q:qCi y u):x=y:=hAm (r.abs.symm.trans q.abs)
theorem qBa.inj:∀ {xs ys:List V} {us:List Value},qBa xs us->qBa ys us->xs=ys
 |_,_,_,.nil,.nil=>rfl
 |_,_,_,.cons r t,.cons r' t'=>by rw[r.inj r',qBa.inj t t']
section
variable{X:Cx}{pins:List (Addr×Obj)}{σ:St}{H:Hp}{s:Shared}{a:Addr}{xs ys:List V}
theorem SqL.of{K:PySem.W.Frag}(h:H a=some (.lst xs)):SqL K H a xs:=.inl (.inl h)
theorem SqT.of{K:PySem.W.Frag}(h:H a=some (.tup xs)):SqT K H a xs:=.inl (.inl h)
theorem Inv.list(I:Inv X pins σ H s)(h:SqL X.K H a xs):∃its:List Value,qBa xs its/\PlainL s.heap a its.toArray/\xs.length<=sizeLine:=by
 rcases h with h|⟨o,its,n,hk,hc,hd,hs,hz,r⟩
 ·obtain⟨z,its,n,r,e⟩:=h.ok I.hok;exact⟨its,r,⟨_,n,e,rfl,rfl,rfl⟩,z⟩
 ·refine⟨its.toList,r,⟨o,n,I.kIn a o hk,hc,hd,by simpa using hs⟩,?_⟩;have e:=r.length;simp only[hBo]at e;omega
theorem Inv.tuple(I:Inv X pins σ H s)(h:SqT X.K H a xs):∃its:List Value,qBa xs its/\IsTup s.heap a its.toArray/\xs.length<=sizeLine:=by
 rcases h with h|⟨o,its,n,hk,hc,hs,hz,r⟩
 ·obtain⟨z,its,r,p⟩:=h.ok I.hok;exact⟨its,r,p,z⟩
 ·refine⟨its.toList,r,⟨o,I.kIn a o hk,hc,n,by simpa using hs⟩,?_⟩;have e:=r.length;simp only[hBo]at e;omega
theorem Inv.list_inj(I:Inv X pins σ H s)(h:SqL X.K H a xs)(h':SqL X.K H a ys):xs=ys:=by
 obtain⟨its,r,⟨o,n,e,_,_,d⟩,_⟩:=I.list h;obtain⟨its',r',⟨o',n',e',_,_,d'⟩,_⟩:=I.list h';rw[e]at e';cases e';rw[d]at d';injection d' with d1 _
 have:its=its':=by simpa using congrArg Array.toList d1
 subst this;exact r.inj r'
theorem Inv.tuple_inj(I:Inv X pins σ H s)(h:SqT X.K H a xs)(h':SqT X.K H a ys):xs=ys:=by
 obtain⟨its,r,⟨o,e,_,n,d⟩,_⟩:=I.tuple h;obtain⟨its',r',⟨o',e',_,n',d'⟩,_⟩:=I.tuple h';rw[e]at e';cases e';rw[d]at d';injection d' with d1 _
 have:its=its':=by simpa using congrArg Array.toList d1
 subst this;exact r.inj r'
end
abbrev Cx.wish(X:Cx)(E:Value->Shared->Prop):Cx:={ X with xe:=E }
abbrev Cx.nox(X:Cx):Cx:=X.wish fun _ _=>False
theorem Cx.Ok.wish{X:Cx}(ok:X.Ok)(E:Value->Shared->Prop):(X.wish E).Ok :=
 ⟨ok.mod,ok.kind,ok.glob,ok.blt,ok.above,ok.inj,ok.has,ok.cab,ok.hd,ok.frames,ok.stk,ok.exf,ok.bs,ok.bsz,ok.noex,ok.exfs,ok.funs,ok.frf⟩
theorem Cx.Ok.unwish{X:Cx}{E:Value->Shared->Prop}(ok:(X.wish E).Ok):X.Ok :=
 ⟨ok.mod,ok.kind,ok.glob,ok.blt,ok.above,ok.inj,ok.has,ok.cab,ok.hd,ok.frames,ok.stk,ok.exf,ok.bs,ok.bsz,ok.noex,ok.exfs,ok.funs,ok.frf⟩
section
variable{X:Cx}{pins:List (Addr×Obj)}{σ:St}{H:Hp}{s:Shared}{E:Value->Shared->Prop}
theorem Inv.wish(I:Inv X pins σ H s)(E:Value->Shared->Prop):Inv (X.wish E) pins σ H s:=⟨I.ok.wish E,I.os,I.bare,I.base,I.loc,I.cell,I.free,I.freeC,I.pin,I.hok,I.len⟩
theorem Inv.unwish(I:Inv (X.wish E) pins σ H s):Inv X pins σ H s:=⟨I.ok.unwish,I.os,I.bare,I.base,I.loc,I.cell,I.free,I.freeC,I.pin,I.hok,I.len⟩
theorem SP.unwish{D:Ends}{f:Flow}{s':Shared}(h:SP (X.wish E) pins D f s'):SP X pins D f s':=by
 cases f with
 |next=>obtain⟨σ',H',I,q⟩:=h;exact⟨σ',H',I.unwish,q⟩
 |brk=>obtain⟨σ',H',I,q⟩:=h;exact⟨σ',H',I.unwish,q⟩
 |cont=>obtain⟨σ',H',I,q⟩:=h;exact⟨σ',H',I.unwish,q⟩
 |ret u=>obtain⟨v,σ',H',I,r,q⟩:=h;exact⟨v,σ',H',I.unwish,r,q⟩
theorem PSs.nox{st:List Stmt}{t:TS}(h:PSs X.nox st t):PSs X st t:=fun pins s σ H D I hw =>
 wpAny_mono (h pins s σ H D (I.wish _) hw) (fun _ _ q=>q.unwish) fun _ _ z=>False.elim z
end
section
variable{X:Cx}{st:Stmt}{rest:List Stmt}{t u:TS}{e:Expr}{te:TE}{pos:Pos}
def zB5:TS:=fun D σ H=>D.nx σ H
def zDe(t u:TS):TS:=fun D σ H=>t { D with nx:=u D } σ H
theorem qA1:PSs X [] zB5:=fun _ _ σ H _ I h=>wpAny_execs_nil ⟨σ,H,I,h⟩
theorem qAc(h1:PS X st t)(h2:PSs X rest u):PSs X (st :: rest) (zDe t u):=by
 intro pins s σ H D I h;refine wpAny_execs_cons (thn (h1 pins s σ H { D with nx:=u D } I h) fun f s1 q=>?_);cases f with
 |next =>
  obtain⟨σ',H',I',q⟩:=q;exact h2 pins s1 σ' H' D I' q
 |ret v=>exact q
 |brk=>exact q
 |cont=>exact q
theorem qAf(h1:PS X st t):PSs X [st] t:=by
 intro pins s σ H D I h;refine wpAny_execs_cons (thn (h1 pins s σ H D I h) fun f s1 q=>?_);cases f with
 |next=>exact wpAny_execs_nil q
 |ret v=>exact q
 |brk=>exact q
 |cont=>exact q
theorem Inv.quiet{pins:List (Addr×Obj)}{σ:St}{H:Hp}{s:Shared}(I:Inv X pins σ H s):interactive X.env=false:=by simp[interactive,I.ok.kind]
def zB7(te:TE):TS:=fun D σ H=>te σ H fun _ H1=>D.nx σ H1
theorem qB4(he:PE X e te)(hs:swapsWith e none pos.line X.env=pure false:=by rfl):PS X (.Expr e pos) (zB7 te):=by
 intro pins s σ H D I h;exact wpAny_Expr_any (thn (he pins s σ H _ I h) fun v s1 ⟨x,H1,I1,r1,q1⟩=>⟨σ,H1,I1,q1⟩) I.quiet hs
def zDf(te:TE):TS:=fun D σ H=>te σ H D.rt
theorem qAt(he:PE X e te):PS X (.Return (some e) pos) (zDf te):=by
 intro pins s σ H D I h;exact wpAny_Return_some (thn (he pins s σ H _ I h) fun v s1 ⟨x,H1,I1,r1,q1⟩=>⟨x,σ,H1,I1,r1,q1⟩)
def zDj(c:TT)(t u:TS):TS:=fun D σ H=>c σ H fun b H1=>if b=true then t D σ H1 else u D σ H1
theorem qBi{c:Expr}{a b:List Stmt}{tc:TT}(hc:PT X c tc)(ha:PSs X a t)(hb:PSs X b u):PS X (.If c a b pos) (zDj tc t u):=by
 intro pins s σ H D I h;refine wpAny_If (thn (hc pins s σ H _ I h) fun d s1 ⟨H1,I1,q1⟩=>?_);cases d with
 |true=>exact ha pins s1 σ H1 D I1 q1
 |false=>exact hb pins s1 σ H1 D I1 q1
end
abbrev TG:=V->St->Hp->(St->Hp->Prop)->Prop
abbrev TGs:=List V->St->Hp->(St->Hp->Prop)->Prop
def PG(X:Cx)(target:Expr)(t:TG):Prop :=
 ∀(pins:List (Addr×Obj)) (s:Shared) (σ:St) (H:Hp) (v:V) (u:Value) (Q:St->Hp->Prop),Inv X pins σ H s->qCi v u->t v σ H Q ->
  wpAny (model X.prog X.w) X.A (assign target X.env u) (fun _ s'=>∃σ' H',Inv X pins σ' H' s'/\Q σ' H') X.xe s
def PGs(X:Cx)(ts:List Expr)(t:TGs):Prop :=
 ∀(pins:List (Addr×Obj)) (s:Shared) (σ:St) (H:Hp) (vs:List V) (us:List Value) (Q:St->Hp->Prop),Inv X pins σ H s->qBa vs us->t vs σ H Q ->
  wpAny (model X.prog X.w) X.A (assignInOrder ((assignEach ts X.env).map (·.2)) us) (fun _ s'=>∃σ' H',Inv X pins σ' H' s'/\Q σ' H') X.xe s
abbrev TIp:=V->V->Hp->VK->Prop
def PIp(X:Cx)(op:Operator)(t:TIp):Prop :=
 ∀(pins:List (Addr×Obj)) (s:Shared) (σ:St) (H:Hp) (x y:V) (v u:Value) (Q:VK),Inv X pins σ H s->qCi x v->qCi y u->t x y H Q ->
  wpAny (model X.prog X.w) X.A (inplaceOp op v u) (EP X pins σ Q) X.xe s
section
variable{X:Cx}{pos:Pos}
def qU7(i:Nat):TG:=fun v σ H Q=>Q (σ.set i (some v)) H
theorem qAg{i:Nat}{x:Str}(hN:X.N.Nodup)(hi:X.N[i]?=some x)(hx:Loc X.env.scope x)(hf:X.fn x=true\/X.env.scope.names.lookup x=some .local:=by first|exact .inl rfl|exact .inr rfl|assumption):PG X (.Name x pos) (qU7 i):=by
 intro pins s σ H v u Q I r h;exact wpAny_assign_Name (qH6 I hN hi hx r (fun s' I'=>⟨_,H,I',h⟩) hf)
def zDx:TGs:=fun vs σ H Q=>vs=[]/\Q σ H
def zCt(t:TG)(u:TGs):TGs:=fun vs σ H Q=>∃v r,vs=v :: r/\t v σ H fun σ' H'=>u r σ' H' Q
theorem qBe:PGs X [] zDx:=by
 intro pins s σ H vs us Q I r h;obtain⟨e,h⟩:=h;subst e;cases r;exact assignInOrder_nil ⟨σ,H,I,h⟩
theorem qAs{e:Expr}{es:List Expr}{t:TG}{u:TGs}(h1:PG X e t)(h2:PGs X es u)
  (hs:(assignEach (e :: es) X.env).map (·.2)=assign e X.env :: (assignEach es X.env).map (·.2):=by rfl):PGs X (e :: es) (zCt t u):=by
 intro pins s σ H vs us Q I r h;obtain⟨v,vr,e1,h⟩:=h;subst e1;cases r with
 |cons r rr =>
  rw[hs];refine assignInOrder_cons (thn (h1 pins s σ H _ _ _ I r h) fun _ s1 ⟨σ1,H1,I1,q1⟩=>?_);exact h2 pins s1 σ1 H1 _ _ Q I1 rr q1
def qZb(K:PySem.W.Frag)(n:Nat)(t:TGs):TG:=fun v σ H Q=>∃a xs,v = .ref a/\SqT K H a xs/\xs.length=n/\t xs σ H Q
theorem qB0{es:List Expr}{k:Nat}{t:TGs}{n:Nat}(hc:X.calm=true)(h:PGs X es t)
  (hn:(assignEach es X.env).length=n:=by rfl) (hst:(assignEach es X.env).findIdx? (·.1)=none:=by rfl):PG X (.Tuple es k pos) (qZb X.K n t):=by
 intro pins s σ H v u Q I r hw;obtain⟨a,xs,e1,hq,hl,hw⟩:=hw;subst e1;cases r;obtain⟨its,rv,ht,hz⟩:=I.tuple hq;refine assign_Tuple_tuple (I.ok.hd hc) ht (by simp[hn,<-hl,rv.length]) hst fun h' hx=>?_
 have I1:Inv X pins σ H { s with heap:=h' }:=I.kept (t':=s.toks) fun b o e=>hx b o (hAp (Heap.lt_size e)) e
 exact h pins _ σ H xs _ Q I1 (by simpa using rv) hw
def zBu(te:TE)(g:TG):TS:=fun D σ H=>te σ H fun x H1=>g x σ H1 D.nx
theorem qFn{tg e:Expr}{te:TE}{g:TG}(he:PE X e te)(hg:PG X tg g)(hs:swapsWithSole [tg] e pos.line X.env=pure false:=by rfl)(hw:swappedStores [tg] e X.env=pure none:=by rfl)
  (h1:(assignEach [tg] X.env).map (·.2)=[assign tg X.env]:=by rfl):PS X (.Assign [tg] e pos) (zBu te g):=by
 intro pins s σ H D I h;refine wpAny_Assign_stores (thn (he pins s σ H _ I h) fun v s1 ⟨x,H1,I1,r1,q1⟩=>?_) hs hw;rw[h1];exact thn (hg pins s1 σ H1 x v _ I1 r1 q1) fun _ s2 q=>q
theorem qAj{i:Nat}{x:Str}{e:Expr}{te:TE}{pos':Pos}(hN:X.N.Nodup)(hi:X.N[i]?=some x)(hx:Loc X.env.scope x)(he:PE X e te)(hs:swapsWith e (some (.Name x pos')) pos.line X.env=pure false:=by rfl)(hf:X.fn x=true\/X.env.scope.names.lookup x=some .local:=by first|exact .inl rfl|exact .inr rfl|assumption) :
  PS X (.Assign [.Name x pos'] e pos) (zBu te (qU7 i)):=by
 intro pins s σ H D I h;refine wpAny_Assign_Name (thn (he pins s σ H _ I h) fun v s1 ⟨y,H1,I1,r1,q1⟩=>?_) hs;exact qH6 I1 hN hi hx r1 (fun s2 I2=>⟨_,H1,I2,q1⟩) hf
def zDn(i:Nat)(te:TE)(ti:TIp):TS:=fun D σ H=>∃x,σ[i]?=some (some x)/\te σ H fun y H1=>ti x y H1 fun z H2=>D.nx (σ.set i (some z)) H2
theorem qJp{i:Nat}{x:Str}{e:Expr}{te:TE}{op:Operator}{ti:TIp}{pos':Pos}(hN:X.N.Nodup)(hi:X.N[i]?=some x)(hx:Loc X.env.scope x)(he:PE X e te)(ho:PIp X op ti)(hf:X.fn x=true\/X.env.scope.names.lookup x=some .local:=by first|exact .inl rfl|exact .inr rfl|assumption) :
  PS X (.AugAssign (.Name x pos') op e pos) (zDn i te ti):=by
 intro pins s σ H D I h;obtain⟨v,e1,h⟩:=h;obtain⟨m,hn,hl⟩:=I.loc;have vis:Vis X.env.scope x:=by rcases hx with k|k;exact .inl k;exact .inr (.inl k)
 obtain⟨u,r,l⟩:=hl i x v hi e1 vis;refine wpAny_AugAssign_Name ?_;have go:wpAny (model X.prog X.w) X.A (eval e X.env) (fun w s₂=>wpAny (model X.prog X.w) X.A (inplaceOp op u w) (fun r s₃=>wpAny (model X.prog X.w) X.A (storeName X.env x r) (fun _=>SP X pins D .next) X.xe s₃) X.xe s₂) X.xe s:=by
  refine thn (he pins s σ H _ I h) fun w s1 ⟨y,H1,I1,r1,q1⟩=>?_
  refine thn (ho pins s1 σ H1 v y u w _ I1 r r1 q1) fun z s2 ⟨zv,H2,I2,r2,q2⟩=>?_
  exact qH6 I2 hN hi hx r2 (fun s3 I3=>⟨_,H2,I3,q2⟩) hf
 rcases l with ⟨hk,hm⟩|⟨hk,c,hc,hcell⟩
 ·exact wpAny_loadName_local I.ok.kind hk hn hm go
 ·rcases hk with hk|hk
  ·exact wpAny_loadName_cell I.ok.kind hk hc hcell go
  ·rcases hx with k|k
   ·have:X.env.scope.names.lookup x=some .free:=hk;rw[k]at this;cases this
   ·have:X.env.scope.names.lookup x=some .free:=hk;rw[k]at this;cases this
def ipI(f:Int->Int->Int):TIp:=fun x y H Q=>∃i j,x = .int i/\y = .int j/\Q (.int (f i j)) H
theorem qNy:PIp X .Add (ipI fun i j=>i+j):=by
 intro pins s σ H x y v u Q I r1 r2 h;obtain⟨i,j,e1,e2,q⟩:=h;subst e1;subst e2;obtain⟨t,rfl⟩:=r1;obtain⟨t',rfl⟩:=r2;exact iadd_int ⟨.int _,H,I.tok _,⟨_,rfl⟩,q⟩
theorem zBd:PIp X .Sub (ipI fun i j=>i - j):=by
 intro pins s σ H x y v u Q I r1 r2 h;obtain⟨i,j,e1,e2,q⟩:=h;subst e1;subst e2;obtain⟨t,rfl⟩:=r1;obtain⟨t',rfl⟩:=r2;exact isub_int ⟨.int _,H,I.tok _,⟨_,rfl⟩,q⟩
end
section
variable{X:Cx}{pos:Pos}
def qZx(c:TT)(tb:TS):TS:=fun D σ H=>∃W:Nat->St->Hp->Prop,(∃m,W m σ H)/\∀m σ H,W m σ H ->
 c σ H fun b H1=>if b=true then ∃N:St->Hp->Prop,(∀σ' H',N σ' H'->∃m',m'<m/\W m' σ' H')/\tb { D with nx:=N,ct:=N,bk:=D.nx } σ H1 else D.nx σ H1
theorem qIl{c:Expr}{body:List Stmt}{tc:TT}{tb:TS}(hp:PassesOwn (model X.prog X.w) X.A X.env X.xe)(hc:PT X c tc)(hb:PSs X body tb):PS X (.While c body [] pos) (qZx tc tb):=by
 intro pins s σ H D I h;obtain⟨W,⟨m0,w0⟩,turn⟩:=h;refine wpAny_While (codeAny_whileLoop (fun n s'=>∃σ' H',Inv X pins σ' H' s'/\W n σ' H') ?_ m0 ⟨σ,H,I,w0⟩);rintro n s1 ⟨σ1,H1,I1,w1⟩;refine wpAny_passesOwn hp (thn (hc pins s1 σ1 H1 _ I1 (turn n σ1 H1 w1)) fun b s2 ⟨H2,I2,q2⟩=>?_);cases b with
 |true =>
  obtain⟨N,hN,q2⟩:=q2;rw[if_pos rfl];refine wpAny_passesOwn hp (thn (hb pins s2 σ1 H2 _ I2 q2) fun f s3 q3=>?_);cases f with
  |next =>
   obtain⟨σ3,H3,I3,n3⟩:=q3;obtain⟨m',hm,w3⟩:=hN σ3 H3 n3;exact⟨m',hm,σ3,H3,I3,w3⟩
  |cont =>
   obtain⟨σ3,H3,I3,n3⟩:=q3;obtain⟨m',hm,w3⟩:=hN σ3 H3 n3;exact⟨m',hm,σ3,H3,I3,w3⟩
  |brk=>exact q3
  |ret v=>exact q3
 |false =>
  rw[if_neg hAu];exact wpAny_execs_nil ⟨σ1,H2,I2,q2⟩
end
structure It where
 go:Nat->Hp->Prop
 yld:Nat->Hp->V->Hp->Prop
 stop:Nat->Hp->Prop
def qPh(X:Cx)(pins:List (Addr×Obj))(H:Hp)(b:Addr):Prop :=
 H b=none/\b≠X.env.locals/\b∉X.fs/\(b∈X.ex\/X.s₀.heap.objs.size<=b)/\(∀x c,X.env.cells.lookup x=some c->c≠b)/\∀p∈X.pn++pins,p.1≠b
theorem Inv.fpOk{X:Cx}{pins:List (Addr×Obj)}{σ:St}{H H':Hp}{s:Shared}{b:Addr}(I:Inv X pins σ H s)(hb:s.heap.objs.size<=b)(hn:H' b=none):qPh X pins H' b:=by
 refine⟨hn,hBx (hAi I.lt hb),I.nofs hb,.inr (hAq I.sz hb),fun x c e z=>?_,fun p hp z=>?_⟩
 ·obtain⟨v,q⟩:=I.cell x c e;exact absurd (hAi q.lt (by rw[z];exact hb)) (hCk _)
 ·exact absurd (hAi (Heap.lt_size (I.pin p hp).1) (by rw[z];exact hb)) (hCk _)
structure Turn(P:Program)(w:World)(K:PySem.W.Frag)(tg:Expr)(J:It)(fp:List Addr)(it:Addr)(tn:Nat->Heap->Prop):Prop where
 mem:it∈fp
 obj:∀i h,tn i h->∀b∈fp,∃o,h.get? b=some o/\∀v,o.data≠.cell v
 keep:∀i h h',tn i h->(∀b∈fp,∀o,h.get? b=some o->h'.get? b=some o)->tn i h'
 item:∀(X:Cx),X.prog=P->X.w=w->X.K=K->X.calm=true->∀(i:Nat) (pins:List (Addr×Obj)) (s:Shared) (σ:St) (H:Hp) (E:Value->Shared->Prop),Inv X pins σ H s->(∀b∈fp,qPh X pins H b)->tn i s.heap->J.go i H ->
  wpAny (model P w) X.A (pyNext (.ref it)) (fun r s1=>∃u,r=some u /\
   wpAny (model P w) X.A (letOwnedTupleGo tg (.ref it) u) (fun _ s2=>∃x H',Inv X pins σ H' s2/\qCi x u/\J.yld i H x H'/\tn (i+1) s2.heap/\∀b∈fp,H' b=none) E s1) E s
 done:∀(X:Cx),X.prog=P->X.w=w->X.K=K->X.calm=true->∀(i:Nat) (pins:List (Addr×Obj)) (s:Shared) (σ:St) (H:Hp) (E:Value->Shared->Prop),Inv X pins σ H s->(∀b∈fp,qPh X pins H b)->tn i s.heap->J.stop i H ->
  wpAny (model P w) X.A (pyNext (.ref it)) (fun r s1=>r=none/\Inv X pins σ H s1) E s
 self:∀(A:Around) (i:Nat) (s:Shared) (Q:Value->Shared->Prop) (E:Value->Shared->Prop),tn i s.heap->Q (.ref it) s->wpAny (model P w) A (pyIter (.ref it)) Q E s
abbrev TI:=St->Hp->(It->Hp->Prop)->Prop
def PIE(X:Cx)(pins:List (Addr×Obj))(σ:St)(tg:Expr)(R:It->Hp->Prop)(itv:Value)(s2:Shared):Prop :=
 ∃(it:Addr) (fp:List Addr) (tn:Nat->Heap->Prop) (J:It) (H':Hp),itv = .ref it/\Inv X pins σ H' s2/\Turn X.prog X.w X.K tg J fp it tn/\tn 0 s2.heap/\(∀b∈fp,qPh X pins H' b)/\R J H'
def PI(X:Cx)(tg iter:Expr)(wi:TI):Prop :=
 ∀(pins:List (Addr×Obj)) (s:Shared) (σ:St) (H:Hp) (R:It->Hp->Prop),Inv X pins σ H s->wi σ H R ->
  wpAny (model X.prog X.w) X.A (eval iter X.env) (fun v s1=>wpAny (model X.prog X.w) X.A (pyIter v) (PIE X pins σ tg R) X.xe s1) X.xe s
theorem qU4{M:Model}{A:Around}{E:Value->Shared->Prop}{s:Shared}{tg:Expr}{it:Addr}{u:Value}{o:Obj}{n:String}{vs:Array Value}{Q:Unit->Shared->Prop}(ho:s.heap.get? it=some o)(hc:o.cls = .type n)(hd:o.data = .fields vs)
  (hn:["enumerate","zip","dict_itemiterator","dict_reverseitemiterator","odict_iterator","itertools.zip_longest","itertools.pairwise"].contains n=false) (hQ:Q () s):wpAny M A (letOwnedTupleGo tg (.ref it) u) Q E s:=by
 unfold letOwnedTupleGo;cases tg <;> first
  |exact wpAny_pure hQ
  |(cases u <;> first
    |exact wpAny_pure hQ
    |(refine wpAny_bind (wpAny_load ho ?_);rw[hc,hd];show wpAny M A (if (["enumerate","zip","dict_itemiterator","dict_reverseitemiterator","odict_iterator","itertools.zip_longest","itertools.pairwise"].contains n && vs[0]? == some (rawInt _))=true then _ else _) Q E s;rw[if_neg (by intro h;rw[hn,Bool.false_and]at h;cases h)];exact wpAny_pure hQ))
def Itl(K:PySem.W.Frag)(a:Addr):It :=
 ⟨fun i H=>∃xs x,SqL K H a xs/\xs[i]?=some x,fun i H x H'=>H'=H/\∀xs,SqL K H a xs->xs[i]?=some x,fun i H=>∃xs,SqL K H a xs/\xs.length<=i⟩
def Itt(K:PySem.W.Frag)(a:Addr):It :=
 ⟨fun i H=>∃xs x,SqT K H a xs/\xs[i]?=some x,fun i H x H'=>H'=H/\∀xs,SqT K H a xs->xs[i]?=some x,fun i H=>∃xs,SqT K H a xs/\xs.length<=i⟩
def Itr(lo:Int)(n:Nat):It:=⟨fun i _=>i<n,fun i H x H'=>H'=H/\x = .int (lo+i),fun i _=>n<=i⟩
theorem qPn{P:Program}{w:World}{K:PySem.W.Frag}{tg:Expr}(a it:Addr):Turn P w K tg (Itl K a) [it] it (fun i h=>h.IsListIter it a i) where
 mem:=by simp
 obj:=fun i h st b hb=>by
  have e:b=it:=by simpa using hb
  subst e;obtain⟨o,e,c,d⟩:=st;exact⟨o,e,fun v z=>by rw[d]at z;cases z⟩
 keep:=fun i h h' st k=>st.at fun o e=>k it (by simp) o e
 item:=by
  intro X hP hw hK hc i pins s σ H E I hf st hg;subst hP hw hK;obtain⟨xs,x,hq,hx⟩:=hg;obtain⟨its,rv,p,hz⟩:=I.list hq;obtain⟨u,hu,ru⟩:=rv.get hx;obtain⟨f0,f1,f2,f3,f4,f5⟩:=hf it (by simp);refine wpAny_pyNext_list_item st p.isList (x:=u) (by simpa using hu) fun h' st' sb=>?_
  have I1:Inv X pins σ H { s with heap:=h' }:=I.turned (t':=s.toks) (fun b o hb e=>(sb.2 b hb).trans e) f0 f1 f3 f4 f5;obtain⟨o,e,c,d⟩:=id st';exact⟨u,rfl,qU4 (s:={ s with heap:=h' }) e c d (by decide) ⟨x,H,I1,ru,⟨rfl,fun ys hy=>by rw[I.list_inj hy hq];exact hx⟩,st',fun b hb=>(hf b hb).1⟩⟩
 done:=by
  intro X hP hw hK hc i pins s σ H E I hf st hg;subst hP hw hK;obtain⟨xs,hq,hx⟩:=hg;obtain⟨its,rv,p,hz⟩:=I.list hq;obtain⟨f0,f1,f2,f3,f4,f5⟩:=hf it (by simp);have hl:=rv.length;exact wpAny_pyNext_list_end (I.ok.hd hc) st p.isList (by simp;omega) fun h' eb=>⟨rfl,I.turned (t':=s.toks) (fun b o hb e=>eb b o hb e) f0 f1 f3 f4 f5⟩
 self:=fun _ _ _ _ _ st h=>wpAny_pyIter_listiter st h
theorem qOq{P:Program}{w:World}{K:PySem.W.Frag}{tg:Expr}(a it:Addr):Turn P w K tg (Itt K a) [it] it (fun i h=>h.IsTupleIter it a i) where
 mem:=by simp
 obj:=fun i h st b hb=>by
  have e:b=it:=by simpa using hb
  subst e;obtain⟨o,e,c,d⟩:=st;exact⟨o,e,fun v z=>by rw[d]at z;cases z⟩
 keep:=fun i h h' st k=>st.at fun o e=>k it (by simp) o e
 item:=by
  intro X hP hw hK hc i pins s σ H E I hf st hg;subst hP hw hK;obtain⟨xs,x,hq,hx⟩:=hg;obtain⟨its,rv,p,hz⟩:=I.tuple hq;obtain⟨u,hu,ru⟩:=rv.get hx;obtain⟨f0,f1,f2,f3,f4,f5⟩:=hf it (by simp);refine wpAny_pyNext_tuple_item st (show s.heap.IsTuple a its.toArray from p) (x:=u) (by simpa using hu) fun h' st' sb=>?_
  have I1:Inv X pins σ H { s with heap:=h' }:=I.turned (t':=s.toks) (fun b o hb e=>(sb.2 b hb).trans e) f0 f1 f3 f4 f5;obtain⟨o,e,c,d⟩:=id st';exact⟨u,rfl,qU4 (s:={ s with heap:=h' }) e c d (by decide) ⟨x,H,I1,ru,⟨rfl,fun ys hy=>by rw[I.tuple_inj hy hq];exact hx⟩,st',fun b hb=>(hf b hb).1⟩⟩
 done:=by
  intro X hP hw hK hc i pins s σ H E I hf st hg;subst hP hw hK;obtain⟨xs,hq,hx⟩:=hg;obtain⟨its,rv,p,hz⟩:=I.tuple hq;obtain⟨f0,f1,f2,f3,f4,f5⟩:=hf it (by simp);have hl:=rv.length;exact wpAny_pyNext_tuple_end (I.ok.hd hc) st (show s.heap.IsTuple a its.toArray from p) (by simp;omega) fun h' eb=>⟨rfl,I.turned (t':=s.toks) (fun b o hb e=>eb b o hb e) f0 f1 f3 f4 f5⟩
 self:=fun _ _ _ _ _ st h=>wpAny_pyIter_tupleiter st h
theorem qOr{P:Program}{w:World}{K:PySem.W.Frag}{tg:Expr}(it:Addr)(lo:Int)(n:Nat):Turn P w K tg (Itr lo n) [it] it (fun i h=>IsRangeIter h it (lo+(i:Nat)*1) ((n:Int) - (i:Nat)) 1) where
 mem:=by simp
 obj:=fun i h st b hb=>by
  have e:b=it:=by simpa using hb
  subst e;exact⟨_,st,fun v z=>by
   have z':Data.fields _=Data.cell v:=z;cases z'⟩
 keep:=fun i h h' st k=>k it (by simp) _ st
 item:=by
  intro X hP hw hK hc i pins s σ H E I hf st hg;subst hP hw hK;obtain⟨f0,f1,f2,f3,f4,f5⟩:=hf it (by simp);have W:=Walks.range (prog:=X.prog) (w:=X.w) (I.ok.hd hc) it lo 1 n;refine W.item i s _ _ hg st fun v h' tk hv st' kk=>?_
  obtain⟨t,rfl⟩:=hv;have I1:Inv X pins σ H { s with heap:=h',toks:=tk }:=I.turned (fun b o hb e=>kk b o (by simpa using hb) e) f0 f1 f3 f4 f5;refine⟨_,rfl,qU4 (s:={ s with heap:=h',toks:=tk }) (n:="range_iterator") st' rfl rfl (by decide) ⟨.int (lo+i),H,I1,⟨t,?_⟩,⟨rfl,rfl⟩,st',fun b hb=>(hf b hb).1⟩⟩;rw[Int.mul_one]
 done:=by
  intro X hP hw hK hc i pins s σ H E I hf st hg;subst hP hw hK;obtain⟨f0,f1,f2,f3,f4,f5⟩:=hf it (by simp);exact wpAny_pyNext_range_end (I.ok.hd hc) st (by have:n<=i:=hg;omega) fun h' eb=>⟨rfl,I.turned (t':=s.toks) (fun b o hb e=>eb b o hb e) f0 f1 f3 f4 f5⟩
 self:=fun _ _ _ _ _ st h=>wpAny_pyIter_rangeiter st h
section
variable{X:Cx}{tg:Expr}
def qU1(K:PySem.W.Frag)(tl:TE):TI:=fun σ H R=>tl σ H fun x H1=>∃a,x = .ref a/\(∃xs,SqL K H1 a xs)/\R (Itl K a) H1
def zDw(K:PySem.W.Frag)(tl:TE):TI:=fun σ H R=>tl σ H fun x H1=>∃a,x = .ref a/\(∃xs,SqT K H1 a xs)/\R (Itt K a) H1
theorem qAq{l:Expr}{tl:TE}(hl:PE X l tl):PI X tg l (qU1 X.K tl):=by
 intro pins s σ H R I h;refine thn (hl pins s σ H _ I h) fun v s1 ⟨x,H1,I1,r1,q1⟩=>?_
 obtain⟨a,e,⟨xs,hq⟩,q⟩:=q1;subst e;cases r1;obtain⟨its,rv,p,hz⟩:=I1.list hq;refine wpAny_pyIter_list p.isList ?_;refine⟨s1.heap.objs.size,[s1.heap.objs.size],_,_,H1,rfl,I1.kept (t':=s1.toks) fun b o e=>Heap.get?_push_of_some _ e,qPn a _,⟨_,Heap.get?_push_size _ rfl,rfl,rfl⟩,fun b hb=>?_,q⟩;have e:b=s1.heap.objs.size:=by simpa using hb
 subst e;exact I1.fpOk (hA7 _) (I1.hok.fresh (hA7 _))
theorem zAn{l:Expr}{tl:TE}(hl:PE X l tl):PI X tg l (zDw X.K tl):=by
 intro pins s σ H R I h;refine thn (hl pins s σ H _ I h) fun v s1 ⟨x,H1,I1,r1,q1⟩=>?_
 obtain⟨a,e,⟨xs,hq⟩,q⟩:=q1;subst e;cases r1;obtain⟨its,rv,p,hz⟩:=I1.tuple hq;refine wpAny_pyIter_tuple (show s1.heap.IsTuple a its.toArray from p) ?_;refine⟨s1.heap.objs.size,[s1.heap.objs.size],_,_,H1,rfl,I1.kept (t':=s1.toks) fun b o e=>Heap.get?_push_of_some _ e,qOq a _,⟨_,Heap.get?_push_size _ rfl,rfl,rfl⟩,fun b hb=>?_,q⟩;have e:b=s1.heap.objs.size:=by simpa using hb
 subst e;exact I1.fpOk (hA7 _) (I1.hok.fresh (hA7 _))
theorem qUe{pins:List (Addr×Obj)}{σ:St}{H:Hp}{s:Shared}{R:It->Hp->Prop}{E:Value->Shared->Prop}{lo hi:Int}{t u v:Tok}{tk:Nat}(I:Inv X pins σ H s)(h1:-(2^62)<=lo)(h2:lo<2^62)(h3:-(2^62)<=hi)(h4:hi<2^62)
  (q:R (Itr lo (hi - lo).toNat) H):wpAny (model X.prog X.w) X.A (pyIter (.ref s.heap.objs.size)) (PIE X pins σ tg R) E { s with heap:=s.heap.push { cls:=.type "range",data:=.fields #[.int lo t,.int hi u,.int 1 v] },toks:=tk }:=by
 refine wpAny_pyIter_range (IsRange.new ..) (small_one h1 h2 h3 h4) ?_;have I1:Inv X pins σ H { s with heap:=s.heap.push { cls:=.type "range",data:=.fields #[.int lo t,.int hi u,.int 1 v] },toks:=tk }:=I.kept fun b o e=>Heap.get?_push_of_some _ e
 refine⟨(s.heap.push { cls:=.type "range",data:=.fields #[.int lo t,.int hi u,.int 1 v] }).objs.size,[(s.heap.push { cls:=.type "range",data:=.fields #[.int lo t,.int hi u,.int 1 v] }).objs.size],_,_,H,rfl,
  I1.kept (t':=tk) fun b o e=>Heap.get?_push_of_some _ e,qOr _ lo (hi - lo).toNat,?_,fun b hb=>?_,q⟩
 ·have e1:lo+((0:Nat):Int)*1=lo:=by simp
  have e2:(((hi - lo).toNat:Nat):Int) - ((0:Nat):Int)=Builtin.Range.rangeSize lo hi 1:=by rw[rangeSize_one];split <;> omega
  show IsRangeIter _ _ (lo+((0:Nat):Int)*1) ((((hi - lo).toNat:Nat):Int) - ((0:Nat):Int)) 1;rw[e1,e2];exact Heap.get?_push_size _ rfl
 ·have e:b=(s.heap.push { cls:=.type "range",data:=.fields #[.int lo t,.int hi u,.int 1 v] }).objs.size:=by simpa using hb
  subst e;exact I1.fpOk (hA7 _) (I1.hok.fresh (hA7 _))
def zCq(ta:TA):TI:=fun σ H R=>ta σ H fun vs H1=>∃j:Int,vs=[.int j]/\-(2^62)<=j/\j<2^62/\R (Itr 0 j.toNat) H1
theorem qA8{a:Expr}{ta:TA}{p pos:Pos}(hg:Gl X "range")(hm:X.mg "range" = none)(ha:PA X [a] ta)(hs:starEach [a] X.env=[(false,eval a X.env)]:=by rfl):PI X tg (.Call (.Name "range" p) [a] [] pos) (zCq ta):=by
 intro pins s σ H R I h;refine Call_ (qC9 I hg hm boot_range (hBw (thn (ha pos pins s σ H _ I h) fun us s1 ⟨vs,H1,I1,r1,q1⟩=>?_) hs rfl));obtain⟨j,e,q1,q2,q⟩:=q1;subst e;cases r1 with
 |cons r rr =>
  cases rr;obtain⟨t,rfl⟩:=r;exact call_range_1 (qUe I1 (by omega) (by omega) q1 q2 (by simpa using q))
def zDk(wi:TI)(g:TG)(tb:TS):TS:=fun D σ H=>wi σ H fun J H1=>∃W:Nat->Nat->St->Hp->Prop,(∃m,W 0 m σ H1)/\∀i m σ H,W i m σ H ->
 (J.stop i H/\D.nx σ H)\/(J.go i H/\∃N:St->Hp->Prop,(∀σ' H',N σ' H'->∃m',m'<m/\W (i+1) m' σ' H')/\∀x H',J.yld i H x H'->g x σ H' fun σ2 H2=>tb { D with nx:=N,ct:=N,bk:=D.nx } σ2 H2)
def qHs(fp:List Addr)(h:Heap):List (Addr×Obj):=fp.filterMap fun b=>(h.get? b).map fun o=>(b,o)
theorem qCk{fp:List Addr}{h:Heap}{b:Addr}{o:Obj}(hb:b∈fp)(e:h.get? b=some o):(b,o)∈qHs fp h:=hCr.mpr ⟨b,hb,by rw[e];rfl⟩
theorem qRi{fp:List Addr}{h:Heap}{p:Addr×Obj}(hp:p∈qHs fp h):p.1∈fp/\h.get? p.1=some p.2:=by
 obtain⟨b,hb,e⟩:=hCr.mp hp;cases q:h.get? b with
 |none=>rw[q]at e;cases e
 |some o =>
  rw[q]at e;have e':(b,o)=p:=hAm e;subst e';exact⟨hb,q⟩
theorem Inv.pinned{pins:List (Addr×Obj)}{σ:St}{H:Hp}{s:Shared}{fp:List Addr}(I:Inv X pins σ H s)(hf:∀b∈fp,qPh X pins H b)(ho:∀b∈fp,∃o,s.heap.get? b=some o/\∀v,o.data≠.cell v):Inv X (pins++qHs fp s.heap) σ H s :=
 I.pins_of fun p hp=>(hAj.mp hp).elim (fun z=>I.pin p (hA9 _ z)) fun z=>by
  obtain⟨hb,e⟩:=qRi z;obtain⟨f0,f1,f2,_⟩:=hf p.1 hb;obtain⟨o,e',d⟩:=ho p.1 hb;rw[e]at e';cases e';exact⟨e,f0,f1,f2,d⟩
theorem Inv.unpinned{pins pl:List (Addr×Obj)}{σ:St}{H:Hp}{s:Shared}(I:Inv X (pins++pl) σ H s):Inv X pins σ H s:=I.pins_of fun p hp=>I.pin p (hA9 _ (hAl _ hp))
theorem qBb{iter:Expr}{body:List Stmt}{wi:TI}{g:TG}{tb:TS}{pos:Pos}(hp:PassesOwn (model X.prog X.w) X.A X.env X.xe)(hc:X.calm=true)(hi:PI X tg iter wi)(hg:PG X tg g)(hb:PSs X body tb)
  (hs:∀x,foldedSetIterable iter X.env x=pure x:=by intro _;rfl):PS X (.For tg iter body [] pos) (zDk wi g tb):=by
 intro pins s σ H D I h;refine wpAny_For (thn (hi pins s σ H _ I h) fun v s1 h1=>thn h1 fun itv s2 h2=>?_) hs;obtain⟨it,fp,tn,J,H2,e,I2,T,st2,f2,W,⟨m0,w0⟩,turn⟩:=h2;subst e;have stat:∀ {H':Hp},(∀b∈fp,H' b=none)->∀b∈fp,qPh X pins H' b:=fun hn b hb=>⟨hn b hb,(f2 b hb).2⟩
 refine codeAny_forLoop_any (fun n s'=>∃i σ' H',Inv X pins σ' H' s'/\tn i s'.heap/\(∀b∈fp,H' b=none)/\W i n σ' H') ?_ m0 ⟨0,σ,H2,I2,st2,fun b hb=>(f2 b hb).1,w0⟩;rintro n s3 ⟨i,σ3,H3,I3,st3,fr3,w3⟩;rcases turn i n σ3 H3 w3 with ⟨stop,qn⟩|⟨go,N,hN,step⟩
 ·refine wpAny_passesOwn hp (thn (T.done X rfl rfl rfl hc i pins s3 σ3 H3 X.xe I3 (stat fr3) st3 stop) fun r s4 ⟨hr,I4⟩=>?_);subst hr;exact wpAny_execs_nil ⟨σ3,H3,I4,qn⟩
 ·refine wpAny_passesOwn hp (thn (T.item X rfl rfl rfl hc i pins s3 σ3 H3 X.xe I3 (stat fr3) st3 go) fun r s4 ⟨u,hr,h4⟩=>?_);subst hr;refine wpAny_passesOwn hp (thn h4 fun _ s5 ⟨x,H5,I5,r5,y5,st5,fr5⟩=>?_);have I5':=I5.pinned (stat fr5) (T.obj _ _ st5);refine wpAny_passesOwn hp (thn (hg _ s5 σ3 H5 x u _ I5' r5 (step x H5 y5)) fun _ s6 ⟨σ6,H6,I6,q6⟩=>?_);refine wpAny_passesOwn hp (thn (hb _ s6 σ6 H6 _ I6 q6) fun f s7 q7=>?_);have again:∀ {σ7:St} {H7:Hp},Inv X (pins++qHs fp s5.heap) σ7 H7 s7->N σ7 H7->∃m,m<n/\∃i σ' H',Inv X pins σ' H' s7/\tn i s7.heap/\(∀b∈fp,H' b=none)/\W i m σ' H':=fun {σ7 H7} I7 n7=>by
   obtain⟨m',hm,w7⟩:=hN σ7 H7 n7;refine⟨m',hm,i+1,σ7,H7,I7.unpinned,T.keep _ _ _ st5 fun b hb o e=>(I7.pin (b,o) (hA9 _ (hA9 _ (qCk hb e)))).1,fun b hb=>?_,w7⟩;obtain⟨o,e,d⟩:=T.obj _ _ st5 b hb;exact(I7.pin (b,o) (hA9 _ (hA9 _ (qCk hb e)))).2.1
  cases f with
  |next=>obtain⟨σ7,H7,I7,n7⟩:=q7;exact again I7 n7
  |cont=>obtain⟨σ7,H7,I7,n7⟩:=q7;exact again I7 n7
  |brk=>obtain⟨σ7,H7,I7,q7⟩:=q7;exact⟨σ7,H7,I7.unpinned,q7⟩
  |ret v=>obtain⟨x7,σ7,H7,I7,r7,q7⟩:=q7;exact⟨x7,σ7,H7,I7.unpinned,r7,q7⟩
end
theorem qBm{K:PySem.W.Frag}{a:Addr}{xs:List V}{g:TG}{tb:TS}{D:Ends}{σ:St}{H:Hp}(Pv:Nat->St->Hp->Prop)(h0:Pv 0 σ H)(hl:∀i σ H,i<=xs.length->Pv i σ H->SqL K H a xs)
  (hs:∀i x σ H,xs[i]?=some x->Pv i σ H->g x σ H fun σ2 H2=>tb { D with nx:=Pv (i+1),ct:=Pv (i+1),bk:=D.nx } σ2 H2) (hd:∀σ H,Pv xs.length σ H->D.nx σ H) :
  ∃W:Nat->Nat->St->Hp->Prop,(∃m,W 0 m σ H)/\∀i m σ H,W i m σ H ->
   ((Itl K a).stop i H/\D.nx σ H)\/((Itl K a).go i H/\∃N:St->Hp->Prop,(∀σ' H',N σ' H'->∃m',m'<m/\W (i+1) m' σ' H')/\∀x H',(Itl K a).yld i H x H'->g x σ H' fun σ2 H2=>tb { D with nx:=N,ct:=N,bk:=D.nx } σ2 H2):=by
 refine⟨fun i m σ H=>m=xs.length - i/\i<=xs.length/\Pv i σ H,⟨xs.length,by simp,hAo _,h0⟩,?_⟩;rintro i m σ H ⟨rfl,hi,p⟩;have q:=hl i σ H hi p;by_cases hlt:i<xs.length
 ·refine .inr ⟨⟨xs,xs[i],q,by simp[hlt]⟩,Pv (i+1),fun σ' H' p'=>⟨xs.length - (i+1),by omega,rfl,hlt,p'⟩,fun x H' y=>?_⟩;obtain⟨e,y⟩:=y;subst e;exact hs i x σ _ (y xs q) p
 ·have e:i=xs.length:=by omega
  subst e;exact .inl ⟨⟨xs,q,hA7 _⟩,hd σ H p⟩
theorem qBp{lo:Int}{n:Nat}{g:TG}{tb:TS}{D:Ends}{σ:St}{H:Hp}(Pv:Nat->St->Hp->Prop)(h0:Pv 0 σ H)
  (hs:∀i σ H,i<n->Pv i σ H->g (.int (lo+i)) σ H fun σ2 H2=>tb { D with nx:=Pv (i+1),ct:=Pv (i+1),bk:=D.nx } σ2 H2) (hd:∀σ H,Pv n σ H->D.nx σ H) :
  ∃W:Nat->Nat->St->Hp->Prop,(∃m,W 0 m σ H)/\∀i m σ H,W i m σ H ->
   ((Itr lo n).stop i H/\D.nx σ H)\/((Itr lo n).go i H/\∃N:St->Hp->Prop,(∀σ' H',N σ' H'->∃m',m'<m/\W (i+1) m' σ' H')/\∀x H',(Itr lo n).yld i H x H'->g x σ H' fun σ2 H2=>tb { D with nx:=N,ct:=N,bk:=D.nx } σ2 H2):=by
 refine⟨fun i m σ H=>m=n - i/\i<=n/\Pv i σ H,⟨n,by simp,hAo _,h0⟩,?_⟩;rintro i m σ H ⟨rfl,hi,p⟩;by_cases hlt:i<n
 ·refine .inr ⟨hlt,Pv (i+1),fun σ' H' p'=>⟨n - (i+1),by omega,rfl,hlt,p'⟩,fun x H' y=>?_⟩;obtain⟨e,y⟩:=y;subst e y;exact hs i σ _ hlt p
 ·have e:i=n:=by omega
  subst e;exact .inl ⟨hA7 _,hd σ H p⟩
abbrev R2:=V->V->Hp->VK->Prop
def OpR(X:Cx)(f:Value->Value->Sem Value)(r:R2):Prop :=
 ∀(pins:List (Addr×Obj)) (s:Shared) (σ:St) (H:Hp) (x y:V) (v u:Value) (Q:VK),Inv X pins σ H s->qCi x v->qCi y u->r x y H Q ->
  wpAny (model X.prog X.w) X.A (f v u) (EP X pins σ Q) X.xe s
def UnR(X:Cx)(f:Value->Sem Value)(r:V->Hp->VK->Prop):Prop :=
 ∀(pins:List (Addr×Obj)) (s:Shared) (σ:St) (H:Hp) (x:V) (v:Value) (Q:VK),Inv X pins σ H s->qCi x v->r x H Q ->
  wpAny (model X.prog X.w) X.A (f v) (EP X pins σ Q) X.xe s
def qB9(X:Cx)(f:Value)(r:List V->Hp->VK->Prop):Prop :=
 ∀(pins:List (Addr×Obj)) (s:Shared) (σ:St) (H:Hp) (xs:List V) (us:List Value) (Q:VK),Inv X pins σ H s->qBa xs us->r xs H Q ->
  wpAny (model X.prog X.w) X.A (call f us) (EP X pins σ Q) X.xe s
def tOp(r:R2)(ta tb:TE):TE:=fun σ H Q=>ta σ H fun x H1=>tb σ H1 fun y H2=>r x y H2 Q
def tUn(r:V->Hp->VK->Prop)(ta:TE):TE:=fun σ H Q=>ta σ H fun x H1=>r x H1 Q
def rI(C:Int->Int->Prop)(g:Int->Int->V):R2:=fun x y H Q=>∃i j,x = .int i/\y = .int j/\C i j/\Q (g i j) H
def rI0(g:Int->Int->V):R2:=fun x y H Q=>∃i j,x = .int i/\y = .int j/\Q (g i j) H
def rU(g:Int->V):V->Hp->VK->Prop:=fun x H Q=>∃i,x = .int i/\Q (g i) H
section
variable{X:Cx}{a b c:Expr}{ta tb tc:TE}{pos:Pos}
theorem zCv(ha:PE X a ta)(hb:PE X b tb){pins:List (Addr×Obj)}{s:Shared}{σ:St}{H:Hp}{R:V->V->Hp->Prop}(I:Inv X pins σ H s)
  (h:ta σ H fun x H1=>tb σ H1 fun y H2=>R x y H2) {Q:Value->Shared->Prop} {f:Value->Value->Sem Value}
  (hf:∀v u s2 x y H2,Inv X pins σ H2 s2->qCi x v->qCi y u->R x y H2->wpAny (model X.prog X.w) X.A (f v u) Q X.xe s2) :
  wpAny (model X.prog X.w) X.A (eval a X.env) (fun v s₁=>wpAny (model X.prog X.w) X.A (eval b X.env) (fun u s₂=>wpAny (model X.prog X.w) X.A (f v u) Q X.xe s₂) X.xe s₁) X.xe s:=by
 refine thn (ha pins s σ H _ I h) fun v s1 ⟨x,H1,I1,r1,q1⟩=>?_
 refine thn (hb pins s1 σ H1 _ I1 q1) fun u s2 ⟨y,H2,I2,r2,q2⟩=>?_
 exact hf v u s2 x y H2 I2 r1 r2 q2
theorem qAh{op:Operator}{r:R2}(ho:OpR X (binaryOp op) r)(ha:PE X a ta)(hb:PE X b tb):PE X (.BinOp a op b pos) (tOp r ta tb):=by
 intro pins s σ H Q I h;exact wpAny_BinOp (zCv ha hb I h fun v u s2 x y H2 I2 rx ry q=>ho pins s2 σ H2 x y v u Q I2 rx ry q)
theorem qLk{op:UnaryOp}{r:V->Hp->VK->Prop}(ho:UnR X (unaryOp op) r)(ha:PE X a ta):PE X (.UnaryOp op a pos) (tUn r ta):=by
 intro pins s σ H Q I h;exact UnaryOp_ (thn (ha pins s σ H _ I h) fun v s1 ⟨x,H1,I1,r1,q1⟩=>ho pins s1 σ H1 x v Q I1 r1 q1)
theorem opI{f:Value->Value->Sem Value}{C:Int->Int->Prop}{g:Int->Int->Int}
  (rule:∀(i j:Int) (t u:Tok) (s:Shared) (Q:Value->Shared->Prop) (E:Value->Shared->Prop),C i j->Q (.int (g i j) s.toks) { s with toks:=s.toks+1 }->wpAny (model X.prog X.w) X.A (f (.int i t) (.int j u)) Q E s) :
  OpR X f (rI C fun i j=>.int (g i j)):=by
 intro pins s σ H x y v u Q I rx ry h;obtain⟨i,j,rfl,rfl,hc,q⟩:=h;obtain⟨t,rfl⟩:=rx;obtain⟨t',rfl⟩:=ry;exact rule i j t t' s _ _ hc ⟨.int (g i j),H,I.tok _,⟨_,rfl⟩,q⟩
theorem zAu{f:Value->Value->Sem Value}{g:Int->Int->Int}
  (rule:∀(i j:Int) (t u:Tok) (s:Shared) (Q:Value->Shared->Prop) (E:Value->Shared->Prop),Q (.int (g i j) s.toks) { s with toks:=s.toks+1 }->wpAny (model X.prog X.w) X.A (f (.int i t) (.int j u)) Q E s) :
  OpR X f (rI0 fun i j=>.int (g i j)):=by
 intro pins s σ H x y v u Q I rx ry h;obtain⟨i,j,rfl,rfl,q⟩:=h;obtain⟨t,rfl⟩:=rx;obtain⟨t',rfl⟩:=ry;exact rule i j t t' s _ _ ⟨.int (g i j),H,I.tok _,⟨_,rfl⟩,q⟩
theorem zBx{f:Value->Value->Sem Value}{g:Int->Int->Bool}
  (rule:∀(i j:Int) (t u:Tok) (s:Shared) (Q:Value->Shared->Prop) (E:Value->Shared->Prop),Q (.bool (g i j)) s->wpAny (model X.prog X.w) X.A (f (.int i t) (.int j u)) Q E s) :
  OpR X f (rI0 fun i j=>.bl (g i j)):=by
 intro pins s σ H x y v u Q I rx ry h;obtain⟨i,j,rfl,rfl,q⟩:=h;obtain⟨t,rfl⟩:=rx;obtain⟨t',rfl⟩:=ry;exact rule i j t t' s _ _ ⟨.bl (g i j),H,I,rfl,q⟩
def zC0(i j:Int):Prop:=0<j/\j<1073741824
def zDc(i j:Int):Prop:=0<=j/\j<=1000000/\i.natAbs<2^64
def zCz(i j:Int):Prop:=(-(2^64)<i/\i<2^64)\/(-(2^64)<j/\j<2^64)
theorem zCz.ok{i j:Int}(h:zCz i j):IntMulOk i j:=by
 rcases h with ⟨h1,h2⟩|⟨h1,h2⟩
 ·exact .of_left (intBits_le_64 h1 h2)
 ·exact .of_right (intBits_le_64 h1 h2)
theorem qOo(k:Nat):(0:Int)<=2^k:=by
 rw[two_pow_cast];exact hCs _
theorem qA6:OpR X (binaryOp .Add) (rI0 fun i j=>.int (i+j)):=zAu fun _ _ _ _ _ _ _ q=>add_int q
theorem qCu:OpR X (binaryOp .Sub) (rI0 fun i j=>.int (i - j)):=zAu fun _ _ _ _ _ _ _ q=>sub_int q
theorem qDf:OpR X (binaryOp .Mult) (rI zCz fun i j=>.int (i*j)):=opI fun _ _ _ _ _ _ _ hc q=>mul_int q hc.ok
theorem qA3:OpR X (binaryOp .FloorDiv) (rI zC0 fun i j=>.int (i / j)):=opI fun i j _ _ _ _ _ hc q=>by
 have h1:(0:Int)<j:=hc.1;have h2:j<1073741824:=hc.2;exact floordiv_int (by omega) (by rw[Int.fdiv_eq_ediv_of_nonneg i (by omega)];exact q) (.inl (PyProof.noPylong_small (by omega)))
theorem qA7:OpR X (binaryOp .Mod) (rI (fun _ j=>0<j) fun i j=>.int (i % j)):=opI fun i j _ _ _ _ _ hc q=>by
 have h1:(0:Int)<j:=hc;exact mod_int' (by omega) (by rw[Int.fmod_eq_emod_of_nonneg i (by omega)];exact q)
theorem qWi:OpR X (binaryOp .Pow) (rI zDc fun i j=>.int (i^j.toNat)):=opI fun _ _ _ _ _ _ _ hc q=>pow_int_small hc.1 hc.2.1 hc.2.2 q
theorem qCa:OpR X (binaryOp .LShift) (rI zDc fun i j=>.int (i*2^j.toNat)):=opI fun _ _ _ _ _ _ _ hc q=>lshift_int_small hc.1 hc.2.1 hc.2.2 q
theorem qFq:OpR X (binaryOp .RShift) (rI (fun _ j=>0<=j) fun i j=>.int (i / 2^j.toNat)):=opI fun i j _ _ _ _ _ hc q =>
 rshift_int hc (by rw[Int.fdiv_eq_ediv_of_nonneg i (qOo _)];exact q)
theorem qBr:OpR X (binaryOp .BitAnd) (rI0 fun i j=>.int (Builtin.bitAnd i j)):=zAu fun _ _ _ _ _ _ _ q=>and_int q
theorem zAt:OpR X (binaryOp .BitOr) (rI0 fun i j=>.int (Builtin.bitOr i j)):=zAu fun _ _ _ _ _ _ _ q=>or_int q
theorem qCt:OpR X (binaryOp .BitXor) (rI0 fun i j=>.int (Builtin.bitXor i j)):=zAu fun _ _ _ _ _ _ _ q=>xor_int q
theorem unI{f:Value->Sem Value}{g:Int->Int}
  (rule:∀(i:Int) (t:Tok) (s:Shared) (Q:Value->Shared->Prop) (E:Value->Shared->Prop),Q (.int (g i) s.toks) { s with toks:=s.toks+1 }->wpAny (model X.prog X.w) X.A (f (.int i t)) Q E s) :
  UnR X f (rU fun i=>.int (g i)):=by
 intro pins s σ H x v Q I rx h;obtain⟨i,rfl,q⟩:=h;obtain⟨t,rfl⟩:=rx;exact rule i t s _ _ ⟨.int (g i),H,I.tok _,⟨_,rfl⟩,q⟩
theorem qHh:UnR X (unaryOp .USub) (rU fun i=>.int (-i)):=unI fun _ _ _ _ _ q=>neg_int q
theorem qZt:UnR X (unaryOp .Invert) (rU fun i=>.int (Builtin.bitNot i)):=unI fun _ _ _ _ _ q=>invert_int q
end
def zC2:V->V->Bool
 |.non,.non=>true | .non,.int _=>true | .int _,.non=>true | .non,.bl _=>true | .bl _,.non=>true | .non,.str _=>true | .str _,.non=>true
 |.int _,.int _=>true | .bl _,.bl _=>true | .str _,.str _=>true | .byt _,.byt _=>true
 |.int _,.str _=>true | .str _,.int _=>true | .bl _,.str _=>true | .str _,.bl _=>true
 |_,_=>false
def rEq:R2:=fun x y H Q=>zC2 x y=true/\Q (.bl (decide (x=y))) H
def rNe:R2:=fun x y H Q=>zC2 x y=true/\Q (.bl (!decide (x=y))) H
theorem qSq{i j:Int}:decide (V.int i=V.int j)=(i == j):=by
 rw[hDj];simp
theorem dec_bl{i j:Bool}:decide (V.bl i=V.bl j)=(i == j):=by
 rw[hDj];simp
theorem qSp{i j:Str}:decide (V.str i=V.str j)=(i == j):=by
 rw[hDj];simp
theorem qSr{i j:Array UInt8}:decide (V.byt i=V.byt j)=(i.toList == j.toList):=by
 rw[hDj];cases i;cases j;simp
section
variable{X:Cx}{a b c:Expr}{ta tb tc:TE}{pos:Pos}
theorem fin_bl{pins:List (Addr×Obj)}{σ:St}{H:Hp}{s:Shared}{Q:VK}{k k':Bool}(I:Inv X pins σ H s)(q:Q (.bl k) H)(e:k=k'):EP X pins σ Q (.bool k') s:=by
 subst e;exact⟨.bl k,H,I,rfl,q⟩
theorem qB1:OpR X (compareOp .Eq) rEq:=by
 intro pins s σ H x y v u Q I rx ry h;obtain⟨hs,q⟩:=h;cases x with
 |non =>
  cases rx;cases y with
  |non=>cases ry;exact PySem.EqNone.eq_none_none (fin_bl I q (by simp))
  |bl j=>cases ry;exact PySem.EqNone.eq_none_bool (fin_bl I q (by simp))
  |int j=>obtain⟨t',rfl⟩:=ry;exact PySem.EqNone.eq_none_int (fin_bl I q (by simp))
  |str j=>obtain⟨t',rfl⟩:=ry;exact PySem.EqNone.eq_none_str (fin_bl I q (by simp))
  |_=>exact absurd (show false=true from hs) hAu
 |bl i =>
  cases rx;cases y with
  |non=>cases ry;exact PySem.EqNone.eq_bool_none (fin_bl I q (by simp))
  |bl j=>cases ry;exact eq_bool (fin_bl I q dec_bl)
  |str j=>obtain⟨t',rfl⟩:=ry;exact PySem.EqMixed.eq_bool_str (fin_bl I q (by simp))
  |_=>exact absurd (show false=true from hs) hAu
 |int i =>
  obtain⟨t,rfl⟩:=rx;cases y with
  |non=>cases ry;exact PySem.EqNone.eq_int_none (fin_bl I q (by simp))
  |int j=>obtain⟨t',rfl⟩:=ry;exact eq_int (fin_bl I q qSq)
  |str j=>obtain⟨t',rfl⟩:=ry;exact PySem.EqMixed.eq_int_str (fin_bl I q (by simp))
  |_=>exact absurd (show false=true from hs) hAu
 |str i =>
  obtain⟨t,rfl⟩:=rx;cases y with
  |non=>cases ry;exact PySem.EqNone.eq_str_none (fin_bl I q (by simp))
  |bl j=>cases ry;exact PySem.EqMixed.eq_str_bool (fin_bl I q (by simp))
  |int j=>obtain⟨t',rfl⟩:=ry;exact PySem.EqMixed.eq_str_int (fin_bl I q (by simp))
  |str j=>obtain⟨t',rfl⟩:=ry;exact eq_str (fin_bl I q qSp)
  |_=>exact absurd (show false=true from hs) hAu
 |byt i =>
  obtain⟨t,rfl⟩:=rx;cases y with
  |byt j=>obtain⟨t',rfl⟩:=ry;exact PySem.W.eq_bytes (fin_bl I q qSr)
  |_=>exact absurd (show false=true from hs) hAu
 |_=>cases y <;> exact absurd (show false=true from hs) hAu
theorem qE9:OpR X (compareOp .NotEq) rNe:=by
 intro pins s σ H x y v u Q I rx ry h;obtain⟨hs,q⟩:=h;cases x with
 |non =>
  cases rx;cases y with
  |non=>cases ry;exact PySem.EqNone.ne_none_none (fin_bl I q (by simp))
  |bl j=>cases ry;exact PySem.EqNone.ne_none_bool (fin_bl I q (by simp))
  |int j=>obtain⟨t',rfl⟩:=ry;exact PySem.EqNone.ne_none_int (fin_bl I q (by simp))
  |str j=>obtain⟨t',rfl⟩:=ry;exact PySem.EqNone.ne_none_str (fin_bl I q (by simp))
  |_=>exact absurd (show false=true from hs) hAu
 |bl i =>
  cases rx;cases y with
  |non=>cases ry;exact PySem.EqNone.ne_bool_none (fin_bl I q (by simp))
  |bl j=>cases ry;exact ne_bool (fin_bl I q (congrArg not dec_bl))
  |str j=>obtain⟨t',rfl⟩:=ry;exact PySem.EqMixed.ne_bool_str (fin_bl I q (by simp))
  |_=>exact absurd (show false=true from hs) hAu
 |int i =>
  obtain⟨t,rfl⟩:=rx;cases y with
  |non=>cases ry;exact PySem.EqNone.ne_int_none (fin_bl I q (by simp))
  |int j=>obtain⟨t',rfl⟩:=ry;exact ne_int (fin_bl I q (congrArg not qSq))
  |str j=>obtain⟨t',rfl⟩:=ry;exact PySem.EqMixed.ne_int_str (fin_bl I q (by simp))
  |_=>exact absurd (show false=true from hs) hAu
 |str i =>
  obtain⟨t,rfl⟩:=rx;cases y with
  |non=>cases ry;exact PySem.EqNone.ne_str_none (fin_bl I q (by simp))
  |bl j=>cases ry;exact PySem.EqMixed.ne_str_bool (fin_bl I q (by simp))
  |int j=>obtain⟨t',rfl⟩:=ry;exact PySem.EqMixed.ne_str_int (fin_bl I q (by simp))
  |str j=>obtain⟨t',rfl⟩:=ry;exact ne_str (fin_bl I q (congrArg not qSp))
  |_=>exact absurd (show false=true from hs) hAu
 |byt i =>
  obtain⟨t,rfl⟩:=rx;cases y with
  |byt j=>obtain⟨t',rfl⟩:=ry;exact PySem.W.ne_bytes (fin_bl I q (congrArg not qSr))
  |_=>exact absurd (show false=true from hs) hAu
 |_=>cases y <;> exact absurd (show false=true from hs) hAu
theorem qEk:OpR X (compareOp .Lt) (rI0 fun i j=>.bl (decide (i<j))):=zBx fun _ _ _ _ _ _ _ q=>lt_int q
theorem zCo:OpR X (compareOp .LtE) (rI0 fun i j=>.bl (decide (i<=j))):=zBx fun _ _ _ _ _ _ _ q=>le_int q
theorem qX7:OpR X (compareOp .Gt) (rI0 fun i j=>.bl (decide (j<i))):=zBx fun _ _ _ _ _ _ _ q=>gt_int q
theorem zCp:OpR X (compareOp .GtE) (rI0 fun i j=>.bl (decide (j<=i))):=zBx fun _ _ _ _ _ _ _ q=>ge_int q
theorem qAu(b:Expr){op:CmpOp}(h:op≠.In:=by decide)(h2:op≠.NotIn:=by decide):behindInMarks op b=false:=by
 have e1:(op == CmpOp.In)=false:=by cases op <;> first|rfl|exact absurd rfl h
 have e2:(op == CmpOp.NotIn)=false:=by cases op <;> first|rfl|exact absurd rfl h2
 cases b <;> simp[behindInMarks,e1,e2]
theorem qC6{op:CmpOp}{r:R2}(ho:OpR X (compareOp op) r)(ha:PE X a ta)(hb:PE X b tb)(hm:behindInMarks op b=false):PE X (.Compare a [op] [b] pos) (tOp r ta tb):=by
 intro pins s σ H Q I h;exact wpAny_Compare1 (zCv ha hb I h fun v u s2 x y H2 I2 rx ry q=>ho pins s2 σ H2 x y v u Q I2 rx ry q) hm
def qZy(t:TE):TT:=fun σ H Q=>t σ H fun x H'=>∃k,x = .bl k/\Q k H'
theorem qAp{op:CmpOp}{r:R2}(ho:OpR X (compareOp op) r)(ha:PE X a ta)(hb:PE X b tb)(hm:behindInMarks op b=false):PT X (.Compare a [op] [b] pos) (qZy (tOp r ta tb)):=by
 intro pins s σ H Q I h;refine wpAny_isTrue_Compare1 (thn (ha pins s σ H _ I h) fun v s1 ⟨x,H1,I1,r1,q1⟩=>thn (hb pins s1 σ H1 _ I1 q1) fun u s2 ⟨y,H2,I2,r2,q2⟩ =>
  thn (ho pins s2 σ H2 x y v u _ I2 r1 r2 q2) fun c s3 ⟨z,H3,I3,r3,k,e,q3⟩=>?_) hm
 subst e;cases r3;exact wpAny_truthy_bool ⟨H3,I3,q3⟩
def qZz(r r':R2)(ta tb tc:TE):TE:=fun σ H Q=>ta σ H fun x H1=>tb σ H1 fun y H2=>r x y H2 fun z H3=>∃k,z = .bl k /\
 (if k=true then tc σ H3 fun w' H4=>r' y w' H4 Q else Q (.bl false) H3)
theorem qNf{op op':CmpOp}{r r':R2}(ho:OpR X (compareOp op) r)(ho':OpR X (compareOp op') r')(ha:PE X a ta)(hb:PE X b tb)(hc:PE X c tc)
  (hm:lastMarks [op,op'] [b,c]=false:=by with_unfolding_all rfl):PT X (.Compare a [op,op'] [b,c] pos) (qZy (qZz r r' ta tb tc)):=by
 intro pins s σ H Q I h;refine isTrue_chain (thn (ha pins s σ H _ I h) fun v s1 ⟨x,H1,I1,r1,q1⟩=>test_link (thn (hb pins s1 σ H1 _ I1 q1) fun u s2 ⟨y,H2,I2,r2,q2⟩ =>
  thn (ho pins s2 σ H2 x y v u _ I2 r1 r2 q2) fun d s3 ⟨z,H3,I3,r3,k,e,q3⟩=>?_)) hm
 subst e;cases r3;refine wpAny_truthy_bool ?_;cases k with
 |false =>
  obtain⟨k',e',q'⟩:=q3;cases e';exact ite_ff ⟨H3,I3,q'⟩
 |true =>
  refine ite_tt (test_last (thn (hc pins s3 σ H3 _ I3 q3) fun w' s4 ⟨z',H4,I4,r4,q4⟩=>thn (ho' pins s4 σ H4 y z' u w' _ I4 r2 r4 q4) fun d' s5 ⟨z2,H5,I5,r5,k2,e2,q5⟩=>?_));subst e2;cases r5;exact wpAny_truthy_bool ⟨H5,I5,q5⟩
theorem qJz:(sizeLine:Nat)<2^63:=by rw[sizeLine_eq];decide
theorem qDr:OpR X (binaryOp .Add) (fun x y H Q=>∃i j,x = .str i/\y = .str j/\i.length+j.length<=sizeLine/\Q (.str (i++j)) H):=by
 intro pins s σ H x y v u Q I rx ry h;obtain⟨i,j,rfl,rfl,hz,q⟩:=h;obtain⟨t,rfl⟩:=rx;obtain⟨t',rfl⟩:=ry;exact add_str (fun t' tk=>⟨.str (i++j),H,I.tok _,⟨_,rfl⟩,q⟩) hz
theorem qCl{x:V}{us:List Value}(r:qBa [x] us):∃u,us=[u]/\qCi x u:=by
 cases r with
 |cons r1 r2=>cases r2;exact⟨_,rfl,r1⟩
theorem qPl{x y:V}{us:List Value}(r:qBa [x,y] us):∃u w',us=[u,w']/\qCi x u/\qCi y w':=by
 cases r with
 |cons r1 r2 =>
  cases r2 with
  |cons r3 r4=>cases r4;exact⟨_,_,rfl,r1,r3⟩
theorem qOh:qB9 X (.builtin "abs") (fun xs H Q=>∃i,xs=[.int i]/\Q (.int (if i<0 then -i else i)) H):=by
 intro pins s σ H xs us Q I r h;obtain⟨i,rfl,q⟩:=h;obtain⟨u,rfl,t,rfl⟩:=qCl r;exact call_abs_int fun u tk=>⟨.int (if i<0 then -i else i),H,I.tok _,⟨_,rfl⟩,q⟩
theorem qEv(hc:X.calm=true):qB9 X (.builtin "min") (fun xs H Q=>∃i j,xs=[.int i,.int j]/\Q (.int (if j<i then j else i)) H):=by
 intro pins s σ H xs us Q I r h;obtain⟨i,j,rfl,q⟩:=h;obtain⟨u,w',rfl,⟨t,rfl⟩,⟨t',rfl⟩⟩:=qPl r;refine min_two_ints (I.ok.hd hc) fun h' tk k=>⟨_,H,I.kept k,?_,q⟩
 by_cases hj:j<i
 ·rw[if_pos hj,if_pos hj];exact⟨_,rfl⟩
 ·rw[if_neg hj,if_neg hj];exact⟨_,rfl⟩
theorem qKf:qB9 X (.type "str") (fun xs H Q=>∃i,xs=[.int i]/\i.natAbs.log2<1920/\Q (.str (toString i)) H):=by
 intro pins s σ H xs us Q I r h;obtain⟨i,rfl,hz,q⟩:=h;obtain⟨u,rfl,t,rfl⟩:=qCl r;exact PySem.P.str_of_int hz ⟨.str _,H,I.tok _,⟨_,rfl⟩,q⟩
end
structure ObjM(h:Heap)(x dx C:Addr)(mA:Str->Option Value):Prop where
 obj:h.get? x=some (PySem.W.instObj C dx)
 ns:h.Ns1 dx mA
 ne:dx≠x
theorem qRv{h:Heap}{dx:Addr}{mA:Str->Option Value}(n:h.Ns1 dx mA):∃od,h.get? dx=some od/\∀name,PySem.W.lookIn name od=some (mA name):=by
 obtain⟨o,es,ep,ho,hd,hk,_,hm⟩:=n;refine⟨o,ho,fun name=>?_⟩;have e:=hm name;unfold nsFind findBy at e;rw[<-Array.find?_toList]at e;unfold PySem.W.lookIn;rw[hd];dsimp only;split
 ·rename_i y q;rw[q]at e;exact congrArg some e
 ·rename_i q;rw[q]at e;have a:es.toList.any (·.refKey)=false:=by
   rw[List.any_eq_false];intro y hy;obtain⟨z,t,hkey⟩:=hk y (Array.mem_toList_iff.mp hy);simp[DictEntry.refKey,hkey]
  have a':¬es.toList.any (·.refKey)=true:=by rw[a];exact hAu
  rw[if_neg a'];exact congrArg some e
theorem ObjM.look{h:Heap}{x dx C:Addr}{mA:Str->Option Value}(I:ObjM h x dx C mA):∃od,PySem.W.InstAt h x (PySem.W.instObj C dx) C (some od)/\∀name,PySem.W.lookIn name od=some (mA name) :=
 let ⟨od,ho,hl⟩:=qRv I.ns
 ⟨od,⟨I.obj,rfl,rfl,ho⟩,hl⟩
theorem qVi.some_of{v:V}{o:Option Value}(r:qVi (some v) o):∃u,o=some u/\qCi v u:=by
 cases o with
 |none=>exact(show False from r).elim
 |some u=>exact⟨u,rfl,r⟩
section
variable{P:Program}{w:World}{H H':Hp}{h h':Heap}{a C dx:Addr}{fs fs':List (Str×V)}
theorem qY9(hok:HOk P w H h)(e:H a=some (.ins C dx fs)):∃mA,ObjM h a dx C mA/\(∀f,qVi (fs.lookup f) (mA f))/\PySem.Within mA (fs.map (·.1))/\fs.length<=1000/\H dx=some (.own a):=by
 obtain⟨d,z,ne,ob,mA,n,r,q⟩:=(show qB8 P w H h a (.ins C dx fs) from hok a _ e);exact⟨mA,⟨ob,n,ne⟩,r,q,z,d⟩
end
structure Cls(K:PySem.W.Frag)(C:Addr):Prop where
 pg:PySem.W.plainGet K C Str.empty=true
 hd:PySem.W.hasDictIn K C=true
 po:PySem.W.plainOver K C=true
 sa:PySem.W.findIn K (.ref C) "__setattr__" = some (some (.builtin "object.__setattr__"))
theorem Cls.get{K:PySem.W.Frag}{C:Addr}(c:Cls K C)(f:Str):PySem.W.plainGet K C f=true:=c.pg
structure Con(K:PySem.W.Frag)(C:Addr)(f:Str)(v:V)(u:Value):Prop where
 at_:PySem.W.findIn K (.ref C) f=some (some u)
 rel:qCi v u
 get:PySem.W.specialIn K u "__get__" = some none
 cp:PySem.W.copiedNames.contains f=false
structure Meth(K:PySem.W.Frag)(C:Addr)(m:Str)(f:Addr):Prop where
 at_:PySem.W.findIn K (.ref C) m=some (some (.ref f))
 fn:PySem.W.isFn K (.ref f)=true
 kp:PySem.W.keepIn K (.ref f)=true
section
variable{X:Cx}{pins:List (Addr×Obj)}{σ:St}{H:Hp}{s:Shared}{A:Around}{E:Value->Shared->Prop}{Q:Value->Shared->Prop}{c:Value}{b:Bool}
inductive TyOf (K:PySem.W.Frag) (H:Hp):V->Value->Prop where
 |non:TyOf K H .non (.type "NoneType")
 |bl (x:Bool):TyOf K H (.bl x) (.type "bool")
 |int (i:Int):TyOf K H (.int i) (.type "int")
 |str (x:Str):TyOf K H (.str x) (.type "str")
 |flt (x:UInt64):TyOf K H (.flt x) (.type "float")
 |lst {a:Addr} {xs:List V} (e:H a=some (.lst xs)):TyOf K H (.ref a) (.type "list")
 |frz {a:Addr} {o:Obj} {xs:List V} (e:H a=some (.frz o (.lst xs))):TyOf K H (.ref a) (.type "list")
 |tup {a:Addr} {xs:List V} (e:H a=some (.tup xs)):TyOf K H (.ref a) (.type "tuple")
 |dK {a:Addr} {kvs:List (Key×V)} (e:H a=some (.dK kvs)):TyOf K H (.ref a) (.type "dict")
 |dT {a:Addr} {kvs:List (List Key×V)} (e:H a=some (.dT kvs)):TyOf K H (.ref a) (.type "dict")
 |ins {a C dx:Addr} {fs:List (Str×V)} (e:H a=some (.ins C dx fs)) (cl:Cls K C) (ha:PySem.W.findIn K (.ref C) "__class__" = some (some (.builtin "object.__class__")))
   (hn:PySem.W.specialIn K (.builtin "object.__class__") "__get__" = some (some (.builtin "getset_descriptor.__get__"))) (htk:PySem.W.takesIn K (.builtin "object.__class__")=some true)
   (hm:PySem.W.mroIn K C (.type "object")=some true):TyOf K H (.ref a) (.ref C)
theorem qR5{x:V}{u t:Value}(I:Inv X pins σ H s)(rx:qCi x u)(ty:TyOf X.K H x t)(e:PySem.W.kitOne X.K t c=some b)(h:∀tk,Q (.bool b) { s with toks:=tk }) :
  wpAny (model X.prog X.w) A (call (.builtin "isinstance") [u,c]) Q E s:=by
 cases ty with
 |non=>cases(show u=Value.none from rx);exact hC9 PySem.W.kitx_none I.kIn True.intro e (fun z=>nomatch z) h
 |bl y=>cases(show u=Value.bool y from rx);exact hC9 PySem.W.kitx_bool I.kIn True.intro e (fun z=>nomatch z) h
 |int i=>obtain⟨t,q⟩:=(show ∃t,u=Value.int i t from rx);cases q;exact hC9 PySem.W.kitx_int I.kIn True.intro e (fun z=>nomatch z) h
 |str y=>obtain⟨t,q⟩:=(show ∃t,u=Value.str y t from rx);cases q;exact hC9 PySem.W.kitx_str I.kIn True.intro e (fun z=>nomatch z) h
 |flt y=>obtain⟨t,q⟩:=(show ∃t,u=Value.float y t from rx);cases q;exact hC9 PySem.W.kitx_float I.kIn True.intro e (fun z=>nomatch z) h
 |@lst a xs ea =>
  cases(show u=Value.ref a from rx);obtain⟨_,_,n,_,h1⟩:=(show qB8 X.prog X.w H s.heap a (.lst xs) from I.hok a _ ea);exact hC9 PySem.W.kitx_list I.kIn ⟨_,h1,rfl⟩ e (fun z=>nomatch z) h
 |@frz a ob xs ea =>
  cases(show u=Value.ref a from rx);obtain⟨_,_,_,n,_,h1⟩:=(show qB8 X.prog X.w H s.heap a (.frz ob (.lst xs)) from I.hok a _ ea);exact hC9 PySem.W.kitx_list I.kIn ⟨_,h1,rfl⟩ e (fun z=>nomatch z) h
 |@tup a xs ea =>
  cases(show u=Value.ref a from rx);obtain⟨_,_,_,p⟩:=(show qB8 X.prog X.w H s.heap a (.tup xs) from I.hok a _ ea);obtain⟨o,h1,h2,_⟩:=p;exact hC9 PySem.W.kitx_tuple I.kIn ⟨o,h1,h2⟩ e (fun z=>nomatch z) h
 |@dK a kvs ea =>
  cases(show u=Value.ref a from rx);obtain⟨_,_,vs,_,p⟩:=(show qB8 X.prog X.w H s.heap a (.dK kvs) from I.hok a _ ea);obtain⟨o,es,ep,h1,h2,_⟩:=p;exact hC9 PySem.W.kitx_dict I.kIn ⟨o,h1,h2.1⟩ e (fun z=>nomatch z) h
 |@dT a kvs ea =>
  cases(show u=Value.ref a from rx);obtain⟨_,_,xs,_,o,es,ep,h1,h2,_⟩:=(show qB8 X.prog X.w H s.heap a (.dT kvs) from I.hok a _ ea);exact hC9 PySem.W.kitx_dict I.kIn ⟨o,h1,h2.1⟩ e (fun z=>nomatch z) h
 |@ins a C dx fs ea cl ha hn htk hm =>
  cases(show u=Value.ref a from rx);obtain⟨mA,O,_⟩:=qY9 I.hok ea;obtain⟨od,J,_⟩:=O.look;exact hC9 (PySem.W.kitx_own (cl.get _) cl.hd ha hn htk hm) I.kIn J e (fun z=>nomatch z) h
end
structure Room(k:Nat)(A:Around):Prop where
 hd:A.handled=none
 dp:A.depth+3*k+5<recursionLimit
 un:A.units+16*k+200<cLine
 gd:A.guards=some []
theorem Room.mono{j k:Nat}{A:Around}(r:Room k A)(h:j<=k):Room j A:=⟨r.hd,by have:=r.dp;omega,by have:=r.un;omega,r.gd⟩
theorem Room.deeper{k:Nat}{A:Around}(r:Room (k+1) A)(env:Env):Room k (A.deeper env) :=
 ⟨r.hd,by have:=r.dp;show A.depth+1+3*k+5<_;omega,by have:=r.un;show A.units+3+16*k+200<_;omega,r.gd⟩
theorem Room.in1{k:Nat}{A:Around}(r:Room (k+1) A):Room k A.in1 :=
 ⟨r.hd,by have:=r.dp;show A.depth+3*k+5<_;omega,by have:=r.un;show A.units+1+16*k+200<_;omega,r.gd⟩
theorem Room.depth{k:Nat}{A:Around}(r:Room k A):A.depth<recursionLimit:=by have:=r.dp;omega
def zDh:TA:=fun _ H Q=>Q [] H
def qPu(ta:TE)(tr:TA):TA:=fun σ H Q=>ta σ H fun x H1=>tr σ H1 fun xs H2=>Q (x :: xs) H2
section
variable{X:Cx}{e:Expr}{es:List Expr}{te:TE}{t:TA}{pos:Pos}
theorem qAb:PA X [] zDh:=fun _ _ _ _ H Q I h=>Calls.spliced_nil ⟨[],H,I,.nil,h⟩
theorem qAa(ha:PE X e te)(hr:PA X es t)(hs:starEach (e :: es) X.env=(false,eval e X.env) :: starEach es X.env:=by rfl):PA X (e :: es) (qPu te t):=by
 intro pos pins s σ H Q I h;rw[hs];show wpAny _ _ (spliced ((false,eval e X.env) :: backTo pos (starEach es X.env))) _ _ s;refine Calls.spliced_cons (thn (ha pins s σ H _ I h) fun u s1 ⟨x,H1,I1,r1,q1⟩=>?_);exact thn (hr pos pins s1 σ H1 _ I1 q1) fun us s2 ⟨xs,H2,I2,r2,q2⟩=>⟨x :: xs,H2,I2,.cons r1 r2,q2⟩
def zDd(t:TA):TE:=fun σ H Q=>t σ H fun xs H1=>xs.length<=sizeLine/\∀p,H1 p=none->Q (.ref p) (upd H1 p (.tup xs))
def zDi(t:TA):TE:=fun σ H Q=>t σ H fun xs H1=>xs.length<=sizeLine/\∀p,H1 p=none->Q (.ref p) (upd H1 p (.lst xs))
theorem qA5{x1}(h:PA X es t):PE X (.Tuple es x1 pos) (zDd t):=by
 intro pins s σ H Q I hq;refine wpAny_Tuple_spliced (thn (h pos pins s σ H _ I hq) fun us s1 ⟨xs,H1,I1,r,z,q⟩=>⟨by rw[<-r.length];exact z,?_⟩);have hf:H1 s1.heap.objs.size=none:=I1.hok.fresh (hA7 _);refine⟨.ref s1.heap.objs.size,upd H1 s1.heap.objs.size (.tup xs),I1.laid (t':=s1.toks) (fun b u e=>Heap.get?_push_of_some _ e) (hA7 _) ?_,rfl,q _ hf⟩;exact⟨z,us,r,⟨_,Heap.get?_push_size _ rfl,rfl,_,rfl⟩⟩
theorem qA4(h:PA X es t):PE X (.List es pos) (zDi t):=by
 intro pins s σ H Q I hq;refine wpAny_List_spliced (thn (h pos pins s σ H _ I hq) fun us s1 ⟨xs,H1,I1,r,z,q⟩=>⟨by rw[<-r.length];exact z,?_⟩);have hf:H1 s1.heap.objs.size=none:=I1.hok.fresh (hA7 _);refine⟨.ref s1.heap.objs.size,upd H1 s1.heap.objs.size (.lst xs),I1.laid (t':=s1.toks) (fun b u e=>Heap.get?_push_of_some _ e) (hA7 _) ?_,rfl,q _ hf⟩;exact⟨z,us,0,r,Heap.get?_push_size _ rfl⟩
end
abbrev Sp:=List V->Hp->VK->XK->Prop
abbrev CXT:=List Env->Hp->Shared->XK->Value->Shared->Prop
structure Env0(P:Program)(w:World)(K:PySem.W.Frag)(mg:Str->Option Value)(base:Heap)(A:Around)(outer:List Env)(s:Shared)(H:Hp):Prop where
 frames:A.frames=some outer
 mod:Mod K mg base
 bs:∀b o,base.get? b=some o->s.heap.get? b=some o/\H b=none
 bsz:base.objs.size<=s.heap.objs.size
 funs:s.heap.FunFrames base outer
 frf:∀b∈frs outer,H b=none
 hok:HOk P w H s.heap
 bare:AllBare s.gens
def CE(outer:List Env)(P:Program)(w:World)(H:Hp)(s:Shared)(Q:VK)(u:Value)(s':Shared):Prop :=
 ∃v H',s'.os=s.os/\AllBare s'.gens/\Un (frs outer) [] H H' s.heap s'.heap/\HOk P w H' s'.heap/\qCi v u/\Q v H'
def CR(CX:CXT)(outer:List Env)(P:Program)(w:World)(H:Hp)(s:Shared)(Q:VK)(E:XK)(r:Result)(s':Shared):Prop :=
 match r with
 |.ok (.ret u)=>CE outer P w H s Q u s'
 |.ok _=>False
 |.error e=>CX outer H s E e s'
structure FnOk(P:Program)(w:World)(K:PySem.W.Frag)(mg:Str->Option Value)(base:Heap)(CX:CXT)(k:Nat)(f:Addr)(fd:FuncData)(ps:List Str)(sp:Sp):Prop where
 len:∀vs H Q E,sp vs H Q E->vs.length=ps.length
 run:∀(A:Around) (outer:List Env) (s:Shared) (H:Hp) (args:Args) (us:List Value) (vs:List V) (Q:VK) (E:XK),Room k A->Env0 P w K mg base A outer s H->BindsTo s fd args (ps.zip us)->qBa vs us->sp vs H Q E ->
  codeAny (model P w) A (.call (.ref f) args) (CR CX outer P w H s Q E) s
theorem Env0.in1{P:Program}{w:World}{K:PySem.W.Frag}{mg:Str->Option Value}{base:Heap}{A:Around}{outer:List Env}{s:Shared}{H:Hp}(e:Env0 P w K mg base A outer s H) :
  Env0 P w K mg base A.in1 outer s H:=⟨e.frames,e.mod,e.bs,e.bsz,e.funs,e.frf,e.hok,e.bare⟩
section
variable{X:Cx}{pins:List (Addr×Obj)}{σ:St}{H:Hp}{s s':Shared}
theorem Inv.env0(I:Inv X pins σ H s):Env0 X.prog X.w X.K X.mg X.base X.A X.stack s H :=
 ⟨I.ok.frames,I.ok.mod,I.bs,hAq I.ok.bsz I.sz,I.stack,I.stkFree,I.hok,I.bare⟩
theorem Inv.after{Q:VK}{u:Value}(I:Inv X pins σ H s)(h:CE X.stack X.prog X.w H s Q u s'):EP X pins σ Q u s':=by
 obtain⟨v,H',os,bare,un,hok,r,q⟩:=h;obtain⟨hh,g,d,t,os'⟩:=s';obtain rfl:os'=s.os:=os;exact⟨v,H',I.call (h':=hh) (g':=g) (d':=d) (t':=t) (ch:=[]) un hok bare (fun b z=>absurd z (by simp)),r,q⟩
end
def qZ0(sp:Sp)(dvs:List V)(E:XK)(t:TA):TE:=fun σ H Q=>t σ H fun vs H1=>sp (vs++dvs) H1 Q E
def qMb(K:PySem.W.Frag)(fd:FuncData)(ps:List Str)(ds:List Value):Prop :=
 ∀(s:Shared) (us:List Value),K.In s.heap->(us++ds).length=ps.length->BindsTo s fd ⟨us,[]⟩ (ps.zip (us++ds))
theorem qMb.all{K:PySem.W.Frag}{fd:FuncData}{ps:List Str}(h:∀us:List Value,us.length=ps.length->bindArgs fd ⟨us,[]⟩=pure (ps.zip us)):qMb K fd ps []:=fun s us _ hl=>by
 rw[hCo]at hl ⊢;exact .of_eq (h us hl)
def qOl(CX:CXT)(X:Cx)(E:XK):Prop:=∀(pins:List (Addr×Obj)) (σ:St) (H:Hp) (s:Shared) (e:Value) (s':Shared),Inv X pins σ H s->CX X.stack H s E e s'->X.xe e s'
section
variable{X:Cx}{CX:CXT}{k:Nat}{f C:Addr}{fd:FuncData}{ps:List Str}{sp:Sp}{dvs:List V}{ds:List Value}{E:XK}{x m:Str}{p pos apos:Pos}{e o:Expr}{es:List Expr}{ta:TE}{t:TA}
theorem zAe{pins:List (Addr×Obj)}{σ:St}{H:Hp}{s:Shared}{Q:VK}{us:List Value}{vs:List V}(F:FnOk X.prog X.w X.K X.mg X.base CX k f fd ps sp)(hr:Room k X.A)(hb:qMb X.K fd ps ds)(hd:qBa dvs ds)(hx:qOl CX X E)
  (I:Inv X pins σ H s) (r:qBa vs us) (h:sp (vs++dvs) H Q E):wpAny (model X.prog X.w) X.A (call (.ref f) us) (EP X pins σ Q) X.xe s:=by
 have r2:qBa (vs++dvs) (us++ds):=r.append hd;have hl:(us++ds).length=ps.length:=by rw[<-r2.length];exact F.len _ _ _ _ h
 refine wpAny_call (codeAny_mono (F.run X.A X.stack s H ⟨us,[]⟩ (us++ds) (vs++dvs) Q E hr I.env0 (hb s us I.kIn hl) r2 h) fun r s' hq=>?_);cases r with
 |error e=>exact hx pins σ H s e s' I hq
 |ok fl =>
  cases fl with
  |ret u=>exact I.after hq
  |next=>exact False.elim hq
  |brk=>exact False.elim hq
  |cont=>exact False.elim hq
theorem qLn(F:FnOk X.prog X.w X.K X.mg X.base CX k f fd ps sp)(hr:Room k X.A)(hg:Gl X x)(hm:X.mg x=some (.ref f))(hk:PySem.W.keepIn X.K (.ref f)=true)(hb:qMb X.K fd ps ds)(hd:qBa dvs ds)(hx:qOl CX X E)
  (ha:PA X (e :: es) t) (hdb:(x == ("__debug__" : Str))=false:=by decide) (he:starEach (e :: es) X.env=(false,eval e X.env) :: starEach es X.env:=by rfl) (hpl:(backTo pos (starEach es X.env)).any (·.1)=false:=by rfl) :
  PE X (.Call (.Name x p) (e :: es) [] pos) (qZ0 sp dvs E t):=by
 intro pins s σ H Q I h;refine wpAny_Call_Name_kw (qY5 I hg hm ?_ hdb);refine PySem.W.callWith_K (h₀:=X.base) I.ok.mod.kin hk (thn (ha pos pins s σ H _ I h) fun us s1 ⟨vs,H1,I1,r,q⟩=>⟨I1.kIn,?_⟩) he hpl;exact zAe F hr hb hd hx I1 r q
structure Mk(K:PySem.W.Frag)(C f:Addr):Prop where
 makes:PySem.W.makesIn K C=true
 init:PySem.W.findIn K (.ref C) "__init__" = some (some (.ref f))
 fn:PySem.W.isFn K (.ref f)=true
 kp:PySem.W.keepIn K (.ref C)=true
end
section
variable{X:Cx}{CX:CXT}{k:Nat}{f C:Addr}{fd:FuncData}{ps ks:List Str}{sp:Sp}{E:XK}{x m:Str}{p pos apos kpos:Pos}{e o:Expr}{es:List Expr}{kws:List Keyword}{te ta:TE}{t tk:TA}{nm:Option Str}
structure KBinds(K:PySem.W.Frag)(fd:FuncData)(ps ks:List Str)(g:List Value->List Value->List Value)(gV:List V->List V->List V):Prop where
 to:∀(s:Shared) (us ws:List Value),K.In s.heap->(g us ws).length=ps.length->BindsTo s fd ⟨us,ks.zip ws⟩ (ps.zip (g us ws))
 rel:∀ {vs:List V} {us:List Value} {zs:List V} {ws:List Value},qBa vs us->qBa zs ws->qBa (gV vs zs) (g us ws)
variable{g:List Value->List Value->List Value}{gV:List V->List V->List V}
end
structure FnScope(N P:List Str)(sc:Scope):Prop where
 kind:sc.kind = .function
 co:sc.isCoroutine=false
 gen:sc.isGenerator=false
 nd:N.Nodup
 pre:N.take P.length=P
 par:∀x∈P,sc.names.lookup x=some .local\/sc.names.lookup x=some .cell
 nofree:∀y∈sc.names,y.2≠.free
theorem qKk{kindOf:Str->Option NameKind}{x:Str}:∀ {binds:List (Str×Value)} {m:Str->Option Value},(∀v,(x,v)∉binds)->bindL kindOf binds m x=m x
 |[],_,_=>rfl
 |(n,v) :: r,m,h=>by
  unfold bindL;rw[qKk fun w hw=>h w (hA4 _ hw)];split
  ·have:x≠n:=by rintro rfl;exact h v hA6
   simp[this]
  ·rfl
theorem qKm{kindOf:Str->Option NameKind}{x:Str}:∀ {binds:List (Str×Value)} {m:Str->Option Value},(∀v,(x,v)∉binds)->bindC kindOf binds m x=m x
 |[],_,_=>rfl
 |(n,v) :: r,m,h=>by
  unfold bindC;rw[qKm fun w hw=>h w (hA4 _ hw)];split
  ·rfl
  ·have:x≠n:=by rintro rfl;exact h v hA6
   simp[this]
theorem qKl{kindOf:Str->Option NameKind}{x:Str}{v:Value}:∀ {P:List Str} {vs:List Value} {i:Nat} {m:Str->Option Value},P.Nodup->P[i]?=some x->vs[i]?=some v->kindOf x=some .local ->
  bindL kindOf (P.zip vs) m x=some v
 |[],_,_,_,_,h,_,_=>by simp at h
 |_ :: _,[],_,_,_,_,h,_=>by simp at h
 |p :: P,w :: vs,0,m,nd,h1,h2,hk=>by
  simp at h1 h2;subst h1;subst h2;show bindL kindOf ((p,w) :: P.zip vs) m p=_;unfold bindL;rw[qKk fun v hv=>(hBg.mp nd).1 (List.of_mem_zip hv).1,if_pos hk];simp
 |p :: P,w :: vs,i+1,m,nd,h1,h2,hk=>by
  show bindL kindOf ((p,w) :: P.zip vs) m x=_;unfold bindL;exact qKl (i:=i) (hBg.mp nd).2 (by simpa using h1) (by simpa using h2) hk
theorem qKn{kindOf:Str->Option NameKind}{x:Str}{v:Value}:∀ {P:List Str} {vs:List Value} {i:Nat} {m:Str->Option Value},P.Nodup->P[i]?=some x->vs[i]?=some v->kindOf x≠some .local ->
  bindC kindOf (P.zip vs) m x=some v
 |[],_,_,_,_,h,_,_=>by simp at h
 |_ :: _,[],_,_,_,_,h,_=>by simp at h
 |p :: P,w :: vs,0,m,nd,h1,h2,hk=>by
  simp at h1 h2;subst h1;subst h2;show bindC kindOf ((p,w) :: P.zip vs) m p=_;unfold bindC;rw[qKm fun v hv=>(hBg.mp nd).1 (List.of_mem_zip hv).1,if_neg hk];simp
 |p :: P,w :: vs,i+1,m,nd,h1,h2,hk=>by
  show bindC kindOf ((p,w) :: P.zip vs) m x=_;unfold bindC;exact qKn (i:=i) (hBg.mp nd).2 (by simpa using h1) (by simpa using h2) hk
def start(N:List Str)(vs:List V):St:=vs.map some++List.replicate (N.length - vs.length) none
def qO9(CX:CXT)(P:Program)(w:World)(K:PySem.W.Frag)(mg:Str->Option Value)(base:Heap)(N:List Str)(qual:Str)(scope:Scope)(f:Addr)(cd:Value)(A:Around)(outer:List Env)(s:Shared)(H:Hp)(E:XK):Cx where
 prog:=P
 w:=w
 K:=K
 mg:=mg
 base:=base
 A:=A.deeper (envOfC qual scope s.heap.objs.size f cd)
 N:=N
 s₀:=s
 H₀:=H
 env:=envOfC qual scope s.heap.objs.size f cd
 outer:=outer
 stack:=envOfC qual scope s.heap.objs.size f cd :: outer
 ex:=[]
 calm:=true
 fn:=fun _=>true
 pn:=[]
 xe:=fun e s'=>wpAny (model P w) (A.deeper (envOfC qual scope s.heap.objs.size f cd)) (leaving (envOfC qual scope s.heap.objs.size f cd) e) (fun _ s''=>CX outer H s E e s'') (fun e' s''=>CX outer H s E e' s'') s'
theorem qOg{sc:Scope}{n:Nat}{x:Str}(h:sc.names.lookup x=some .cell):∃c,(cellsFrom n sc.names []).lookup x=some c:=by
 have q:=hDh sc.names n [] (.inl h);exact Option.isSome_iff_exists.mp q
theorem qJ4{CX:CXT}{P:Program}{w:World}{K:PySem.W.Frag}{mg:Str->Option Value}{base:Heap}{N ps:List Str}{qual:Str}{scope:Scope}{f:Addr}{cd:Value}{A:Around}{outer:List Env}{s s1:Shared}{H:Hp}{E:XK}{us:List Value}{vs:List V}
  (S:FnScope N ps scope) (hd:A.handled=none) (e0:Env0 P w K mg base A outer s H) (hl:vs.length=ps.length) (r:qBa vs us)
  (x:InCallC s s.heap.objs.size (bindL (envOfC qual scope s.heap.objs.size f cd).kindOf (ps.zip us) fun _=>none) (cellsFrom (s.heap.objs.size+1) scope.names []) (bindC (envOfC qual scope s.heap.objs.size f cd).kindOf (ps.zip us) fun _=>none) s1) :
  Inv (qO9 CX P w K mg base N qual scope f cd A outer s H E) [] (start N vs) H s1:=by
 have hpl:ps.length<=N.length:=by have:=congrArg List.length S.pre;rw[hAh]at this;omega
 obtain⟨h1,tk,rfl,hk⟩:=x.done;have noA:∀b:Addr,b∉(qO9 CX P w K mg base N qual scope f cd A outer s H E).ex:=fun b z=>absurd (show b∈([]:List Addr) from z) (by simp)
 refine⟨⟨e0.mod,S.kind,rfl,rfl,hA7 _,fun y z c h1 h2=>?_,fun y hy=>?_,fun y c _ h=>?_,fun _=>hd,Around.frames_deeper e0.frames,.inr ⟨rfl,rfl⟩,fun b z=>absurd z (noA b),e0.bs,e0.bsz,fun b _ _=>noA b,fun b z=>absurd z (noA b),e0.funs,e0.frf⟩,
  rfl,e0.bare,Un.kept hk,⟨_,x.toInCall.ns,fun i y v h1 h2 h3=>?_⟩,fun y c h=>⟨_,x.cell y c h⟩,e0.hok.fresh (hA7 _),fun y c h=>?_,fun p hp=>absurd (show p∈([]:List (Addr×Obj)) from hp) (by simp),e0.hok.kept hk,?_⟩
 ·exact name_of_addr x.apart (hBz h1) (hBz h2)
 ·have hy:scope.names.lookup y=some .cell\/scope.names.lookup y=some .free:=hy;rcases hy with hy|hy
  ·exact qOg hy
  ·exact absurd rfl (S.nofree _ (hBz hy))
 ·exact hB1 (x.above y c (hBz h))
 ·have hi:i<vs.length:=by
   unfold start at h2;by_cases hi:i<vs.length
   ·exact hi
   ·rw[List.getElem?_append_right (by simpa using hi)]at h2;rw[List.getElem?_replicate]at h2;split at h2 <;> cases h2
  have ha:vs[i]?=some v:=by
   unfold start at h2;rw[List.getElem?_append_left (by simpa using hi),hAe]at h2;cases e:vs[i]? with
   |none=>rw[e]at h2;cases h2
   |some a=>rw[e]at h2;cases h2;rfl
  obtain⟨u,hu,rv⟩:=r.get ha;have hp:ps[i]?=some y:=by
   rw[<-S.pre,List.getElem?_take_of_lt (by omega)];exact h1
  have ndP:ps.Nodup:=by rw[<-S.pre];exact S.nd.sublist (List.take_sublist _ _)
  refine⟨u,rv,?_⟩;rcases S.par y (hAc hp) with k|k
  ·exact .inl ⟨k,qKl ndP hp hu k⟩
  ·obtain⟨c,e⟩:=qOg (n:=s.heap.objs.size+1) k;refine .inr ⟨.inl k,c,e,?_⟩;have q:=x.cell y c e;rw[qKn ndP hp hu (by show scope.names.lookup y≠_;rw[k];decide)]at q;exact q
 ·exact e0.hok.fresh (hB1 (x.above y c (hBz h)))
 ·unfold start;show _=N.length;rw[hAa,hA1,hD4];omega
theorem zBh{CX:CXT}{P:Program}{w:World}{K:PySem.W.Frag}{mg:Str->Option Value}{base:Heap}{k:Nat}{f:Addr}{name qual:Str}{params:Arguments}{body:List Stmt}{scope:Scope}{dV kV doc pm cdv ct oc:Value}{an od:Option Addr}
  {osl:Array (Option Value)} {N ps:List Str} {sp:Sp} (lk:K.lookup f=some ⟨oc,od,.func (PySem.W.fnOf name qual params body scope dV kV doc pm an cdv ct),osl⟩) (hcd:PySem.W.codeIn K cdv qual=true) (S:FnScope N ps scope)
  (len:∀vs H Q E,sp vs H Q E->vs.length=ps.length)
  (hbody:∀(A:Around) (outer:List Env) (s:Shared) (H:Hp) (vs:List V) (Q:VK) (E:XK),Room k (A.deeper (envOfC qual scope s.heap.objs.size f cdv))->sp vs H Q E ->
   ∃t,PSs (qO9 CX P w K mg base N qual scope f cdv A outer s H E) body t/\t { nx:=fun _ H'=>Q .non H',rt:=Q } (start N vs) H) :
  FnOk P w K mg base CX (k+1) f (PySem.W.fnOf name qual params body scope dV kV doc pm an cdv ct) ps sp:=by
 refine⟨len,fun A outer s H args us vs Q E hr e0 hb r hsp=>?_⟩;have hl:=len _ _ _ _ hsp;have KX:K.In s.heap:=e0.mod.kin.keeps fun b o e=>(e0.bs b o e).1
 have lim:s.heap.NoLimit:=e0.mod.nolimit.keeps fun b o e=>(e0.bs b o e).1
 have hkind:∀y∈ps.zip us,scope.names.lookup y.1=some .local\/(scope.names.lookup y.1=some .cell/\((cellsFrom (s.heap.objs.size+1) scope.names []).lookup y.1).isSome=true):=fun ⟨n,v⟩ hy=>by
  rcases S.par n (List.of_mem_zip hy).1 with q|q
  ·exact .inl q
  ·exact .inr ⟨q,hDh _ _ _ (.inl q)⟩
 refine codeAny_call_function hr.depth (KX _ _ lk) rfl S.co S.gen rfl (PySem.W.codeRec_of KX hcd) (hb _ _ _ _ ?_);refine wpAny_newFunctionEnv_cells S.kind hkind fun env he s1 x=>?_
 subst he;refine⟨lim.keeps x.toInCall.keep,codeAny_func ?_⟩;obtain⟨t,ht,hq⟩:=hbody A outer s H vs Q E (hr.deeper _) hsp;have I:Inv (qO9 CX P w K mg base N qual scope f cdv A outer s H E) [] (start N vs) H s1:=qJ4 S hr.hd e0 hl r x;refine wpAny_mono (ht [] s1 (start N vs) H _ I hq) (fun fl s' hs=>?_) fun e s' hs=>hs
 have fin:∀ {σ':St} {H':Hp} {v:V} {u:Value},Inv (qO9 CX P w K mg base N qual scope f cdv A outer s H E) [] σ' H' s'->qCi v u->Q v H'->CE outer P w H s Q u s' :=
  fun {σ' H' v u} J rv q=>⟨v,H',J.os,J.bare,J.base,J.hok,rv,q⟩
 cases fl with
 |ret u =>
  obtain⟨v,σ',H',J,rv,q⟩:=hs;exact fin J rv q
 |next =>
  obtain⟨σ',H',J,q⟩:=hs;exact fin (v:=V.non) (u:=Value.none) J rfl q
 |brk =>
  obtain⟨_,_,_,q⟩:=hs;exact False.elim q
 |cont =>
  obtain⟨_,_,_,q⟩:=hs;exact False.elim q
section
variable{X:Cx}{x:Str}{p pos:Pos}{e:Expr}{es:List Expr}{t:TA}{id T:String}{r:List V->Hp->VK->Prop}
def tCB(r:List V->Hp->VK->Prop)(t:TA):TE:=fun σ H Q=>t σ H fun vs H1=>r vs H1 Q
theorem qAk(hc:qB9 X (.builtin id) r)(hg:Gl X x)(hm:X.mg x=none)(hv:bootBuiltins x=some (.builtin id))(ha:PA X (e :: es) t)(hn:x≠"__name__":=by decide)(hdb:(x == ("__debug__" : Str))=false:=by decide)
  (he:starEach (e :: es) X.env=(false,eval e X.env) :: starEach es X.env:=by rfl) (hpl:(backTo pos (starEach es X.env)).any (·.1)=false:=by rfl):PE X (.Call (.Name x p) (e :: es) [] pos) (tCB r t):=by
 intro pins s σ H Q I h;refine wpAny_Call_Name_kw (qC9 I hg hm hv ?_ hn hdb);exact PyProof.Rows.callWith_builtin1 (thn (ha pos pins s σ H _ I h) fun us s1 ⟨vs,H1,I1,r1,q1⟩=>hc pins s1 σ H1 vs us Q I1 r1 q1) he hpl
theorem qBn(hc:qB9 X (.type T) r)(hg:Gl X x)(hm:X.mg x=none)(hv:bootBuiltins x=some (.type T))(ha:PA X (e :: es) t)(hn:x≠"__name__":=by decide)(hdb:(x == ("__debug__" : Str))=false:=by decide)
  (he:starEach (e :: es) X.env=(false,eval e X.env) :: starEach es X.env:=by rfl) (hpl:(backTo pos (starEach es X.env)).any (·.1)=false:=by rfl):PE X (.Call (.Name x p) (e :: es) [] pos) (tCB r t):=by
 intro pins s σ H Q I h;refine wpAny_Call_Name_kw (qC9 I hg hm hv ?_ hn hdb);exact hBw (thn (ha pos pins s σ H _ I h) fun us s1 ⟨vs,H1,I1,r1,q1⟩=>hc pins s1 σ H1 vs us Q I1 r1 q1) he hpl
end
end L2
namespace HT
open PySem PyProof.Rows
section
variable{prog:Program}{w:World}{A:Around}{E:Value->Shared->Prop}{s:Shared}
theorem cat_tup{t b:Addr}{vs ws:List Value}{Q:Value->Shared->Prop}(ht:IsTup s.heap t vs.toArray)(hb:IsTup s.heap b ws.toArray)(hv:vs≠[])
  (h1:ws=[]->Q (.ref t) s) (h2:ws≠[]->Q (.ref s.heap.objs.size) { s with heap:=s.heap.push { cls:=.type "tuple",data:=.seq (vs++ws).toArray } })
  (hsz:vs.length+ws.length<=sizeLine):wpAny (model prog w) A (binaryOp .Add (.ref t) (.ref b)) Q E s:=by
 obtain⟨⟨cls,dd,data,sl⟩,ho,hc,n,hd⟩:=id ht;obtain⟨⟨cls2,dd2,data2,sl2⟩,ho2,hc2,n2,hd2⟩:=id hb;simp only at hc hd hc2 hd2;subst hc hd hc2 hd2;have e:vs.toArray++ws.toArray=(vs++ws).toArray:=by simp
 by_cases hw:ws=[]
 ·exact concat_meets ⟨_,ho,rfl⟩ ⟨_,ho2,rfl⟩ noFill_tuple_add seq_tuple_add PySem.F.slot_tuple_add PySem.F.entry_tuple_add (PySem.F.args_tuple_add_2 _ _)
   (tuple_addW1 t b vs.toArray ws.toArray n n2 dd dd2 sl sl2 (by simpa using hv) (by simp[hw])) ⟨ho,ho2,h1 hw⟩
 ·refine concat_meets ⟨_,ho,rfl⟩ ⟨_,ho2,rfl⟩ noFill_tuple_add seq_tuple_add PySem.F.slot_tuple_add PySem.F.entry_tuple_add (PySem.F.args_tuple_add_2 _ _)
   (tuple_addW2 t b vs.toArray ws.toArray n n2 dd dd2 sl sl2 (by simpa using hv) (by simpa using hw) (by rw[hAb,hAb];exact hsz)) ⟨ho,ho2,?_⟩
  rw[e];exact h2 hw
def sIx(n d:Nat):Option Int->Nat
 |none=>d
 |some v=>if v<0 then (v+(n:Int)).toNat else min v.toNat n
theorem sIx_none(n d:Nat):sIx n d none=d:=rfl
theorem sIx_nat(n d k:Nat):sIx n d (some (k:Int))=min k n:=by
 show(if (k:Int)<0 then ((k:Int)+(n:Int)).toNat else min (k:Int).toNat n)=min k n;rw[if_neg (by omega),hAz]
end
end HT
namespace L2
open PySem PySem.Spec PyProof.Rows
abbrev TO:=St->Hp->(Option Int->Hp->Prop)->Prop
def PO(X:Cx)(e:Option Expr)(t:TO):Prop :=
 ∀(pins:List (Addr×Obj)) (s:Shared) (σ:St) (H:Hp) (Q:Option Int->Hp->Prop),Inv X pins σ H s->t σ H Q ->
  wpAny (model X.prog X.w) X.A (evalPart e X.env) (fun u s'=>∃o H',Inv X pins σ H' s'/\IsPart u o/\Q o H') X.xe s
def qW7:TO:=fun _ H Q=>Q none H
def zB3(t:TE):TO:=fun σ H Q=>t σ H fun x H1=>∃i,x = .int i/\Q (some i) H1
section
variable{X:Cx}{e:Expr}{te:TE}{lo hi:Option Expr}{tl th:TO}{pos p2:Pos}
theorem qGn:PO X none qW7:=by
 intro pins s σ H Q I h;rw[evalPart_none];exact wpAny_pure ⟨none,H,I,.none,h⟩
theorem qGm(h:PE X e te):PO X (some e) (zB3 te):=by
 intro pins s σ H Q I hw;rw[evalPart_some];refine thn (h pins s σ H _ I hw) fun u s1 ⟨x,H1,I1,r1,q1⟩=>?_
 obtain⟨i,rfl,q⟩:=q1;obtain⟨t,rfl⟩:=r1;exact⟨some i,H1,I1,.int i t,q⟩
def SlR(X:Cx)(r:V->Option Int->Option Int->Hp->VK->Prop):Prop :=
 ∀(pins:List (Addr×Obj)) (s:Shared) (σ:St) (H:Hp) (x:V) (v vl vu:Value) (lo hi:Option Int) (sl:Addr) (Q:VK),Inv X pins σ H s->qCi x v->s.heap.IsSliceOf sl vl vu .none->IsPart vl lo->IsPart vu hi->r x lo hi H Q ->
  ∃T id,typeLookup (.type T) "__getitem__" = pure (some (.builtin id))/\s.TypeIs v T/\wpAny (model X.prog X.w) X.A (getItem v (.ref sl)) (EP X pins σ Q) X.xe s
def tSl(r:V->Option Int->Option Int->Hp->VK->Prop)(te:TE)(tl th:TO):TE:=fun σ H Q=>te σ H fun x H1=>tl σ H1 fun l H2=>th σ H2 fun u H3=>r x l u H3 Q
theorem qEj{r:V->Option Int->Option Int->Hp->VK->Prop}(hr:SlR X r)(he:PE X e te)(hl:PO X lo tl)(hu:PO X hi th):PE X (.Subscript e (.Slice lo hi none p2) pos) (tSl r te tl th):=by
 intro pins s σ H Q I h;refine Subscript_ (thn (he pins s σ H _ I h) fun v s1 ⟨x,H1,I1,r1,q1⟩=>?_);refine wpAny_Slice (thn (hl pins s1 σ H1 _ I1 q1) fun vl s2 ⟨l,H2,I2,pl,q2⟩=>thn (hu pins s2 σ H2 _ I2 q2) fun vu s3 ⟨u,H3,I3,pu,q3⟩=>?_);rw[evalPart_none];refine wpAny_pure ?_;have I4:Inv X pins σ H3 { s3 with heap:=s3.heap.push { cls:=.type "slice",data:=.fields #[vl,vu,.none] } }:=I3.kept (t':=s3.toks) fun b ob q=>Heap.get?_push_of_some _ q
 obtain⟨T,id,hT,ht,hg⟩:=hr pins { s3 with heap:=s3.heap.push { cls:=.type "slice",data:=.fields #[vl,vu,.none] } } σ H3 x v vl vu l u s3.heap.objs.size Q I4 r1 (Heap.IsSliceOf.new ..) pl pu q3;show wpAny (model X.prog X.w) X.A (subscriptTail e (.Slice lo hi none p2) v (.ref s3.heap.objs.size)) (EP X pins σ Q) X.xe { s3 with heap:=s3.heap.push { cls:=.type "slice",data:=.fields #[vl,vu,.none] } };exact tail_any (ops:=[.ref s3.heap.objs.size,v]) ht hT hg (by with_unfolding_all rfl)
def qVc(xs:List V)(lo hi:Option Int):List V:=(xs.drop (HT.sIx xs.length 0 lo)).take (HT.sIx xs.length xs.length hi - HT.sIx xs.length 0 lo)
theorem qL4(xs:List V)(lo hi:Option Int):(qVc xs lo hi).length<=xs.length:=by
 unfold qVc;rw[hAh,hD3];omega
def zCl(K:PySem.W.Frag):R2:=fun x y H Q=>∃a b xs ys,x = .ref a/\y = .ref b/\SqT K H a xs/\SqT K H b ys/\xs≠[]/\xs.length+ys.length<=sizeLine /\
 (ys=[]->Q (.ref a) H)/\(ys≠[]->∀p,H p=none->Q (.ref p) (upd H p (.tup (xs++ys))))
theorem qBa.nil_iff{xs:List V}{us:List Value}(r:qBa xs us):us=[]↔xs=[]:=by
 cases r with
 |nil=>simp
 |cons _ _=>simp
theorem qRb:OpR X (binaryOp .Add) (zCl X.K):=by
 intro pins s σ H x y v u Q I rx ry h;obtain⟨a,b,xs,ys,rfl,rfl,ha,hb,hx,hz,q1,q2⟩:=h;cases rx;cases ry;obtain⟨its,r1,p1,_⟩:=I.tuple ha;obtain⟨its2,r2,p2,_⟩:=I.tuple hb;refine HT.cat_tup p1 p2 (fun z=>hx (r1.nil_iff.mp z)) (fun z=>⟨.ref a,H,I,rfl,q1 (r2.nil_iff.mp z)⟩) (fun z=>?_) (by rw[<-r1.length,<-r2.length];exact hz);refine⟨.ref s.heap.objs.size,_,I.laid (t':=s.toks) (o:=.tup (xs++ys)) (fun b ob q=>Heap.get?_push_of_some _ q) (hA7 _) ?_,rfl,q2 (fun w=>z (r2.nil_iff.mpr w)) _ (I.hok.fresh (hA7 _))⟩;exact⟨by rw[hAa];exact hz,_,r1.append r2,IsTup.new _ _⟩
end
def ixN(n:Nat)(i:Int):Option Nat:=if 0<=i then (if i<n then some i.toNat else none) else if -(n:Int)<=i then some (i+n).toNat else none
def atI{α:Type}(xs:List α)(i:Int):Option α:=(ixN xs.length i).bind fun j=>xs[j]?
theorem qY8{n:Nat}{i:Int}{j:Nat}(h:ixN n i=some j):seqIndex? i n=some j/\j<n/\-(n:Int)<=i/\i<n:=by
 unfold ixN at h;by_cases h0:0<=i
 ·rw[if_pos h0]at h;by_cases h1:i<n
  ·rw[if_pos h1]at h;have e:i.toNat=j:=hAm h;exact⟨by rw[seqIndex_of h0 h1,e],by omega,by omega,h1⟩
  ·rw[if_neg h1]at h;cases h
 ·rw[if_neg h0]at h;by_cases h1:-(n:Int)<=i
  ·rw[if_pos h1]at h;have e:(i+n).toNat=j:=hAm h;exact⟨by rw[seqIndex_neg (by omega) h1,e],by omega,h1,by omega⟩
  ·rw[if_neg h1]at h;cases h
theorem qL8{α:Type}{xs:List α}{i:Int}{v:α}(h:atI xs i=some v):∃j,seqIndex? i xs.length=some j/\xs[j]?=some v/\j<xs.length/\-(xs.length:Int)<=i/\i<xs.length:=by
 unfold atI at h;cases e:ixN xs.length i with
 |none=>rw[e]at h;cases h
 |some j =>
  rw[e]at h;obtain⟨h1,h2,h3,h4⟩:=qY8 e;exact⟨j,h1,h,h2,h3,h4⟩
theorem qA0{α:Type}{xs:List α}{j:Nat}{v:α}(h:xs[j]?=some v):atI xs (j:Int)=some v:=by
 have hj:j<xs.length:=(hAk.mp h).1;have e:ixN xs.length (j:Int)=some j:=by
  unfold ixN;rw[if_pos (by omega),if_pos (by omega)];simp
 unfold atI;rw[e];exact h
def qZo(b:Expr):Prop:=∀o i,subscripted b false o i=operate [o,i] (getItem o i)
def IxR(X:Cx)(r:R2):Prop :=
 ∀(value slice:Expr) (pins:List (Addr×Obj)) (s:Shared) (σ:St) (H:Hp) (x y:V) (v u:Value) (Q:VK),Inv X pins σ H s->qCi x v->qCi y u->r x y H Q ->
  subscripted slice false v u=operate [v,u] (getItem v u)->wpAny (model X.prog X.w) X.A (subscriptTail value slice v u) (EP X pins σ Q) X.xe s
def MtR(X:Cx)(id:String)(r:V->List V->Hp->VK->Prop):Prop :=
 ∀(pins:List (Addr×Obj)) (s:Shared) (σ:St) (H:Hp) (x:V) (xs:List V) (v:Value) (us:List Value) (Q:VK),Inv X pins σ H s->qCi x v->qBa xs us->r x xs H Q ->
  wpAny (model X.prog X.w) X.A (call (.builtin id) (v :: us)) (EP X pins σ Q) X.xe s
section
variable{X:Cx}{a b:Expr}{ta tb:TE}{pos:Pos}
theorem qBg{r:R2}(hr:IxR X r)(ha:PE X a ta)(hb:PE X b tb)(hs:qZo b):PE X (.Subscript a b pos) (tOp r ta tb):=by
 intro pins s σ H Q I h;exact Subscript_ (zCv ha hb I h fun v u s2 x y H2 I2 rx ry q=>hr a b pins s2 σ H2 x y v u Q I2 rx ry q (hs _ _))
def zC3(K:PySem.W.Frag):R2:=fun x y H Q=>∃p xs i v,x = .ref p/\y = .int i/\SqL K H p xs/\atI xs i=some v/\Q v H
def qO0(K:PySem.W.Frag):R2:=fun x y H Q=>∃p xs i v,x = .ref p/\y = .int i/\SqT K H p xs/\atI xs i=some v/\Q v H
def zDr:R2:=fun x y H Q=>∃z i c,x = .str z/\y = .int i/\z.length<=sizeLine/\atI z.cps.toList i=some c/\Q (.str ⟨#[c]⟩) H
theorem qBv:IxR X (zC3 X.K):=by
 intro value slice pins s σ H x y v u Q I rx ry h hs;obtain⟨p,xs,i,z,rfl,rfl,hq,he,q⟩:=h;cases rx;obtain⟨t,rfl⟩:=ry;obtain⟨its,r,pl,hz⟩:=I.list hq;obtain⟨j,h1,h2,h3,h4,h5⟩:=qL8 he;obtain⟨w,ew,rw'⟩:=r.get h2;have hl:=r.length;have hn:=qJz;have fin:EP X pins σ Q w s:=⟨z,H,I,rw',q⟩;by_cases h0:0<=i
 ·have hj:i.toNat=j:=by
   rw[seqIndex_of h0 h5]at h1;exact hAm h1
  exact item_listR pl.isList h0 (by omega) (by rw[hj];simpa using ew) fin hs
 ·have hj:(i+(its.toArray.size:Int)).toNat=j:=by
   rw[seqIndex_neg (by omega) h4]at h1;rw[hAb,<-hl];exact hAm h1
  exact subscriptTail_builtinR (x:=w) pl.isList.typeIs slot_list_getitem.lookup
   (wpAny_getItem_list_neg (Q:=fun r s'=>r=w/\EP X pins σ Q r s') pl.isList (by omega) (by rw[hAb] <;> omega) (by omega) (by rw[hj];simpa using ew) ⟨rfl,fin⟩) hs
theorem qBs:IxR X (qO0 X.K):=by
 intro value slice pins s σ H x y v u Q I rx ry h hs;obtain⟨p,xs,i,z,rfl,rfl,hq,he,q⟩:=h;cases rx;obtain⟨t,rfl⟩:=ry;obtain⟨its,r,pl,hz⟩:=I.tuple hq;obtain⟨j,h1,h2,h3,h4,h5⟩:=qL8 he;obtain⟨w,ew,rw'⟩:=r.get h2;have hl:=r.length;have hn:=qJz;have fin:EP X pins σ Q w s:=⟨z,H,I,rw',q⟩;exact subscriptTail_builtinR (x:=w) pl.typeIs slot_tuple_getitem.lookup
  (getItem_tuple (j:=j) (Q:=fun r s'=>r=w/\EP X pins σ Q r s') pl (by omega) (by omega) (by rw[hAb,<-hl];exact h1) (by simpa using ew) ⟨rfl,fin⟩) hs
theorem qWn:IxR X zDr:=by
 intro value slice pins s σ H x y v u Q I rx ry h hs;obtain⟨z,i,c,rfl,rfl,hz,he,q⟩:=h;obtain⟨t,rfl⟩:=rx;obtain⟨t',rfl⟩:=ry;obtain⟨j,h1,h2,h3,h4,h5⟩:=qL8 he;have hl:z.cps.toList.length=z.length:=by simp[Str.length]
 rw[hl]at h1 h4 h5;have hn:=qJz;exact tail_any (typeIs_str s z t) slot_str_getitem.lookup (getItem_str (c:=c) (by
  have e1:decide (i < -(2^63:Int))=false:=decide_eq_false (by omega);have e2:decide (i >= 2^63)=false:=decide_eq_false (by omega);rw[e1,e2,Bool.or_false]) (by rw[h1];simpa using h2) ⟨.str ⟨#[c]⟩,H,I.tok _,⟨_,rfl⟩,q⟩) hs
theorem qJf(lo hi:Option Int)(n:Nat):(sliceBounds lo hi none n).1=((HT.sIx n 0 lo:Nat):Int)/\(sliceBounds lo hi none n).2.1=((HT.sIx n n hi:Nat):Int)/\(sliceBounds lo hi none n).2.2=1:=by
 refine⟨?_,?_,rfl⟩
 ·cases lo with
  |none=>simp[sliceBounds,HT.sIx]
  |some i =>
   simp only[sliceBounds,HT.sIx,Option.getD_none,show(1:Int) > 0 by decide,if_true];by_cases h:i<0
   ·simp only[h,if_true] <;> omega
   ·simp only[h,if_false] <;> omega
 ·cases hi with
  |none=>simp[sliceBounds,HT.sIx]
  |some i =>
   simp only[sliceBounds,HT.sIx,Option.getD_none,show(1:Int) > 0 by decide,if_true];by_cases h:i<0
   ·simp only[h,if_true] <;> omega
   ·simp only[h,if_false] <;> omega
theorem qIb(its:List Value)(lo hi:Option Int):slicePick its.toArray lo hi none=((its.drop (HT.sIx its.length 0 lo)).take (HT.sIx its.length its.length hi - HT.sIx its.length 0 lo)).toArray:=by
 obtain⟨h1,h2,h3⟩:=qJf lo hi its.toArray.size;unfold slicePick;rw[h1,h2,h3];simp only[sliceRange_one,pick_run,hAb] <;> rfl
def zDp(K:PySem.W.Frag):V->Option Int->Option Int->Hp->VK->Prop:=fun x lo hi H Q=>∃a xs,x = .ref a/\SqL K H a xs/\∀p,H p=none->Q (.ref p) (upd H p (.lst (qVc xs lo hi)))
theorem qK3:SlR X (zDp X.K):=by
 intro pins s σ H x v vl vu lo hi sl Q I rx hs pl pu h;obtain⟨a,xs,rfl,hx,q⟩:=h;cases rx;obtain⟨its,r,ht,hz⟩:=I.list hx;have hlen:=r.length;refine⟨"list",_,slot_list_getitem.lookup,ht.isList.typeIs,?_⟩;refine wpAny_getItem_list_slice ht.isList hs pl pu .none (by simp) ?_ (by rw[hAb] <;> omega);rw[qIb,<-hlen];refine⟨.ref s.heap.objs.size,_,I.laid (t':=s.toks) (o:=.lst (qVc xs lo hi)) (fun b ob q=>Heap.get?_push_of_some _ q) (hA7 _) ?_,rfl,q _ (I.hok.fresh (hA7 _))⟩;exact⟨hAq (qL4 xs lo hi) hz,_,0,(r.drop (HT.sIx xs.length 0 lo)).take (HT.sIx xs.length xs.length hi - HT.sIx xs.length 0 lo),Heap.get?_push_size _ rfl⟩
def qHd:V->Bool
 |.non=>true
 |.bl _=>true
 |.int _=>true
 |.str _=>true
 |_=>false
def eqV:V->V->Bool
 |.non,.non=>true
 |.bl a,.bl b=>a == b
 |.bl a,.int b=>(if a then 1 else 0) == b
 |.int a,.bl b=>a == (if b then 1 else 0)
 |.int a,.int b=>a == b
 |.str a,.str b=>a == b
 |_,_=>false
theorem zBm{A:Around}{s:Shared}{y x:V}{u v:Value}(ry:qCi y u)(rx:qCi x v)(fy:qHd y=true)(fx:qHd x=true):SeqAt.EqAt A s u v (eqV y x):=by
 cases y with
 |non =>
  cases ry;cases x with
  |non=>cases rx;exact SeqAt.EqAt.same _
  |bl b=>cases rx;exact SeqAt.EqAt.none_bool b
  |int b=>obtain⟨t,rfl⟩:=rx;exact SeqAt.EqAt.none_int b t
  |str b=>obtain⟨t,rfl⟩:=rx;exact SeqAt.EqAt.none_str b t
  |_=>exact absurd (show false=true from fx) hAu
 |bl a =>
  cases ry;cases x with
  |non=>cases rx;exact SeqAt.EqAt.bool_none a
  |bl b=>cases rx;exact SeqAt.EqAt.bool_bool a b
  |int b=>obtain⟨t,rfl⟩:=rx;exact SeqAt.EqAt.bool_int a b t
  |str b=>obtain⟨t,rfl⟩:=rx;exact SeqAt.EqAt.bool_str a b t
  |_=>exact absurd (show false=true from fx) hAu
 |int a =>
  obtain⟨t',rfl⟩:=ry;cases x with
  |non=>cases rx;exact SeqAt.EqAt.int_none a t'
  |bl b=>cases rx;exact SeqAt.EqAt.int_bool a t' b
  |int b=>obtain⟨t,rfl⟩:=rx;exact SeqAt.EqAt.int_int a t' b t
  |str b=>obtain⟨t,rfl⟩:=rx;exact SeqAt.EqAt.int_str a t' b t
  |_=>exact absurd (show false=true from fx) hAu
 |str a =>
  obtain⟨t',rfl⟩:=ry;cases x with
  |non=>cases rx;exact SeqAt.EqAt.str_none a t'
  |bl b=>cases rx;exact SeqAt.EqAt.str_bool a t' b
  |int b=>obtain⟨t,rfl⟩:=rx;exact SeqAt.EqAt.str_int a t' b t
  |str b=>obtain⟨t,rfl⟩:=rx;exact SeqAt.EqAt.str_str a t' b t
  |_=>exact absurd (show false=true from fx) hAu
 |_=>exact absurd (show false=true from fy) hAu
def eqU(x:V)(u:Value):Bool:=match u with
 |.none=>eqV .non x
 |.bool b=>eqV (.bl b) x
 |.int i _=>eqV (.int i) x
 |.str z _=>eqV (.str z) x
 |_=>false
theorem qWs{x y:V}{u:Value}(r:qCi y u)(f:qHd y=true):eqU x u=eqV y x:=by
 cases y with
 |non=>cases r;rfl
 |bl b=>cases r;rfl
 |int i=>obtain⟨t,rfl⟩:=r;rfl
 |str z=>obtain⟨t,rfl⟩:=r;rfl
 |_=>exact absurd (show false=true from f) hAu
theorem qG9{x:V}:∀ {xs:List V} {us:List Value},qBa xs us->xs.all qHd=true->us.any (eqU x)=xs.any fun y=>eqV y x
 |_,_,.nil,_=>rfl
 |y :: xs,u :: us,.cons r t,f=>by
  rw[List.all_cons,hCa]at f;rw[List.any_cons,List.any_cons,qWs r f.1,qG9 t f.2]
theorem qEl{A:Around}{s:Shared}{x:V}{v:Value}(rx:qCi x v)(fx:qHd x=true):∀ {xs:List V} {us:List Value},qBa xs us->xs.all qHd=true->∀u∈us,SeqAt.EqAt A s u v (eqU x u)
 |_,_,.nil,_=>fun u hu=>by cases hu
 |y :: xs,u :: us,.cons r t,f=>fun u' hu=>by
  rw[List.all_cons,hCa]at f;rcases hAf.mp hu with rfl|hu
  ·rw[qWs r f.1];exact zBm r rx f.1 fx
  ·exact qEl rx fx t f.2 u' hu
def inV(x:V)(xs:List V):Bool:=xs.any fun y=>eqV y x
def rIn(K:PySem.W.Frag)(neg:Bool):R2:=fun x y H Q=>∃p xs,y = .ref p/\(SqL K H p xs\/SqT K H p xs)/\qHd x=true/\xs.all qHd=true/\Q (.bl (if neg then !inV x xs else inV x xs)) H
theorem qDg:OpR X (compareOp .In) (rIn X.K false):=by
 intro pins s σ H x y v u Q I rx ry h;obtain⟨p,xs,rfl,hq,fx,fs,q⟩:=h;cases ry;rcases hq with hq|hq
 ·obtain⟨its,r,pl,hz⟩:=I.list hq;refine SeqAt.in_listAt (eqU x) pl.isList (fun w hw=>qEl rx fx r fs w (by simpa using hw)) ⟨.bl _,H,I,rfl,?_⟩;rw[show its.toArray.any (eqU x)=its.any (eqU x) by simp,qG9 r fs];exact q
 ·obtain⟨its,r,pl,hz⟩:=I.tuple hq;refine SeqAt.in_tupleAt (eqU x) pl (fun w hw=>qEl rx fx r fs w (by simpa using hw)) ⟨.bl _,H,I,rfl,?_⟩;rw[show its.toArray.any (eqU x)=its.any (eqU x) by simp,qG9 r fs];exact q
theorem qCv:OpR X (compareOp .NotIn) (rIn X.K true):=by
 intro pins s σ H x y v u Q I rx ry h;obtain⟨p,xs,rfl,hq,fx,fs,q⟩:=h;cases ry;rcases hq with hq|hq
 ·obtain⟨its,r,pl,hz⟩:=I.list hq;refine SeqAt.notIn_listAt (eqU x) pl.isList (fun w hw=>qEl rx fx r fs w (by simpa using hw)) ⟨.bl _,H,I,rfl,?_⟩;rw[show its.toArray.any (eqU x)=its.any (eqU x) by simp,qG9 r fs];exact q
 ·obtain⟨its,r,pl,hz⟩:=I.tuple hq;refine SeqAt.notIn_tupleAt (eqU x) pl (fun w hw=>qEl rx fx r fs w (by simpa using hw)) ⟨.bl _,H,I,rfl,?_⟩;rw[show its.toArray.any (eqU x)=its.any (eqU x) by simp,qG9 r fs];exact q
theorem qAn:qB9 X (.builtin "len") (fun xs H Q=>∃p ys,xs=[.ref p]/\(SqL X.K H p ys\/SqT X.K H p ys)/\Q (.int ys.length) H):=by
 intro pins s σ H xs us Q I r h;obtain⟨p,ys,rfl,hq,q⟩:=h;obtain⟨u,rfl,rx⟩:=qCl r;cases rx;have hn:=qJz;rcases hq with hq|hq
 ·obtain⟨its,r',pl,hz⟩:=I.list hq;have hlen:=r'.length;exact Calls.call_len_list pl.isList (by simp only[hAb] <;> omega) ⟨.int ys.length,H,I.tok _,⟨s.toks+1,by rw[hAb,hlen]⟩,q⟩
 ·obtain⟨its,r',pl,hz⟩:=I.tuple hq;have hlen:=r'.length;exact len_tuple pl (by simp only[hAb] <;> omega) ⟨.int ys.length,H,I.tok _,⟨s.toks+1,by rw[hAb,hlen]⟩,q⟩
theorem qKg:qB9 X (.builtin "len") (fun xs H Q=>∃z,xs=[.str z]/\z.length<=sizeLine/\Q (.int z.length) H):=by
 intro pins s σ H xs us Q I r h;obtain⟨z,rfl,hz,q⟩:=h;obtain⟨u,rfl,t,rfl⟩:=qCl r;have hn:=qJz;exact len_str (by omega) ⟨.int z.length,H,I.tok _,⟨_,rfl⟩,q⟩
theorem qCd:qB9 X (.type "list") (fun xs H Q=>∃p ys,xs=[.ref p]/\(SqL X.K H p ys\/SqT X.K H p ys)/\∀l,H l=none->Q (.ref l) (upd H l (.lst ys))):=by
 intro pins s σ H xs us Q I r h;obtain⟨p,ys,rfl,hq,q⟩:=h;obtain⟨u,rfl,rx⟩:=qCl r;cases rx;have fin:∀(its:List Value),qBa ys its->ys.length<=sizeLine->∀(h':Heap) (c':Nat),(∀b o',s.heap.get? b=some o'->h'.get? b=some o') ->
   h'.get? s.heap.objs.size=some { cls:=.type "list",dict:=none,data:=.seq its.toArray c',slots:=#[] }->EP X pins σ Q (.ref s.heap.objs.size) { s with heap:=h' }:=fun its r' hz h' c' kp e =>
  ⟨.ref s.heap.objs.size,_,I.laid (t':=s.toks) kp (hA7 _) (show qB8 X.prog X.w _ h' _ (.lst ys) from ⟨hz,its,c',r',e⟩),rfl,q _ (I.hok.fresh (hA7 _))⟩
 rcases hq with hq|hq
 ·obtain⟨its,r',pl,hz⟩:=I.list hq;have hlen:=r'.length;obtain⟨o,ho,hc,n,hd⟩:=pl.isList;exact call_list_seq p (.inl rfl) ho hc hd (fun h' c' kp e=>fin its r' hz h' c' kp e) (by simp only[hAb] <;> omega)
 ·obtain⟨its,r',pl,hz⟩:=I.tuple hq;have hlen:=r'.length;obtain⟨o,ho,hc,n,hd⟩:=pl;exact call_list_seq p (.inr rfl) ho hc hd (fun h' c' kp e=>fin its r' hz h' c' kp e) (by simp only[hAb] <;> omega)
theorem qEs:qB9 X (.type "tuple") (fun xs H Q=>∃p ys,xs=[.ref p]/\((SqL X.K H p ys/\∀l,H l=none->Q (.ref l) (upd H l (.tup ys)))\/(SqT X.K H p ys/\Q (.ref p) H))):=by
 intro pins s σ H xs us Q I r h;obtain⟨p,ys,rfl,h⟩:=h;obtain⟨u,rfl,rx⟩:=qCl r;cases rx;rcases h with ⟨hq,q⟩|⟨hq,q⟩
 ·obtain⟨its,r',pl,hz⟩:=I.list hq;have hlen:=r'.length;refine call_tuple_list pl.isList (fun h' kp=>?_) (by simp only[hAb] <;> omega);have I1:Inv X pins σ H { s with heap:=h' }:=I.kept (t':=s.toks) kp;have I2:Inv X pins σ (upd H h'.objs.size (.tup ys)) { s with heap:=h'.push { cls:=.type "tuple",data:=.seq its.toArray } } :=
   I1.laid (t':=s.toks) (fun b o e=>Heap.get?_push_of_some _ e) (hA7 _) (show qB8 X.prog X.w _ _ _ (.tup ys) from ⟨hz,its,r',IsTup.new _ _⟩)
  exact⟨.ref h'.objs.size,_,I2,rfl,q _ (I1.hok.fresh (hA7 _))⟩
 ·obtain⟨its,r',pl,hz⟩:=I.tuple hq;exact call_tuple_same pl ⟨.ref p,H,I,rfl,q⟩
def tyV(K:PySem.W.Frag)(T:String)(x:V)(H:Hp):Prop:=match x with
 |.str _=>T = "str"
 |.int _=>T = "int"
 |.ref p=>(T = "list"/\∃xs,SqL K H p xs)\/(T = "tuple"/\∃o,K.lookup p=some o/\o.cls = .type "tuple"/\o.dict=none) \/
   (T = "dict"/\((∃kvs,H p=some (.dK kvs))\/∃kvs,H p=some (.dT kvs)))\/(T = "set"/\∃S n,H p=some (.set S n))
 |_=>False
theorem qVj{pins:List (Addr×Obj)}{σ:St}{H:Hp}{s:Shared}{T:String}{x:V}{v:Value}(I:Inv X pins σ H s)(r:qCi x v)(ty:tyV X.K T x H) :
  s.TypeIs v T/\∀a,v = .ref a->∃ob,s.heap.get? a=some ob/\ob.dict=none:=by
 cases x with
 |str z =>
  obtain⟨t,rfl⟩:=r;cases(show T = "str" from ty);exact⟨typeIs_str s z t,fun _ e=>nomatch e⟩
 |int i =>
  obtain⟨t,rfl⟩:=r;cases(show T = "int" from ty);exact⟨typeIs_int s i t,fun _ e=>nomatch e⟩
 |ref p =>
  cases r;rcases ty with ⟨rfl,xs,hq⟩|⟨rfl,o,hk,hc,hd⟩|⟨rfl,hk⟩|⟨rfl,S,n,hk⟩
  ·obtain⟨its,_,pl,_⟩:=I.list hq;refine⟨pl.isList.typeIs,fun a e=>?_⟩;cases e;obtain⟨o,n,e,c,hd,_⟩:=pl;exact⟨o,e,hd⟩
  ·refine⟨⟨o,I.kIn p o hk,hc⟩,fun a e=>?_⟩;cases e;exact⟨o,I.kIn _ o hk,hd⟩
  ·have z:∃o,s.heap.get? p=some o/\o.ExactDict:=by
    rcases hk with ⟨kvs,hk⟩|⟨kvs,hk⟩
    ·obtain⟨_,_,_,_,o,_,_,e,ex,_⟩:=I.hok p _ hk;exact⟨o,e,ex⟩
    ·obtain⟨_,_,_,_,o,_,_,e,ex,_⟩:=I.hok p _ hk;exact⟨o,e,ex⟩
   obtain⟨o,e,ex⟩:=z;refine⟨⟨o,e,ex.1⟩,fun a e2=>?_⟩;cases e2;exact⟨o,e,ex.2.1⟩
  ·obtain⟨o,_,_,_,e,ex,_⟩:=I.hok p _ hk;refine⟨⟨o,e,ex.1⟩,fun a e2=>?_⟩;cases e2;exact⟨o,e,ex.2.1⟩
 |_=>exact False.elim ty
def zDm(K:PySem.W.Frag)(T:String)(r:V->List V->Hp->VK->Prop)(to:TE):TE:=fun σ H Q=>to σ H fun x H1=>tyV K T x H1/\r x [] H1 Q
def tBM(K:PySem.W.Frag)(T:String)(r:V->List V->Hp->VK->Prop)(to:TE)(t:TA):TE:=fun σ H Q=>to σ H fun x H1=>tyV K T x H1/\t σ H1 fun xs H2=>r x xs H2 Q
variable{o e:Expr}{es:List Expr}{to:TE}{t:TA}{name:Str}{apos cpos:Pos}{T id:String}{r:V->List V->Hp->VK->Prop}
theorem zAr(pa:PlainAttrs T)(slot:Slot T name id)(hty:typeOf (.builtin id)=pure (.type "method_descriptor"))(hm:MtR X id r)(ho:PE X o to)
  (hbase:attributeBase o name X.env (eval o X.env)=eval o X.env:=by rfl) (hline:(apos.endLine == cpos.line)=true:=by rfl):PE X (.Call (.Attribute o name apos) [] [] cpos) (zDm X.K T r to):=by
 intro pins s σ H Q I h;refine wpAny_Call_method0_late hbase hline (thn (ho pins s σ H _ I h) fun v s1 ⟨x,H1,I1,r1,ty,q1⟩=>?_);obtain⟨h1,h2⟩:=qVj I1 r1 ty;exact⟨T,id,pa,slot,hty,h1,h2,Calls.callWith_builtin rfl (PySem.evalArgs_none (hm pins s1 σ H1 x [] v [] Q I1 r1 .nil q1))⟩
theorem qC7(pa:PlainAttrs T)(slot:Slot T name id)(hty:typeOf (.builtin id)=pure (.type "method_descriptor"))(hm:MtR X id r)(ho:PE X o to)(ha:PA X (e :: es) t)
  (hbase:attributeBase o name X.env (eval o X.env)=eval o X.env:=by rfl)
  (hfew:((backTo cpos (starEach (e :: es) X.env)).all (fun x=>!x.1) && (backToKw cpos (keywordEach [] X.env)).all (fun x=>x.1.isSome)
   && decide ((e :: es).length+([]:List Keyword).length+(if ([]:List Keyword).isEmpty then 0 else 1)<30))=true:=by rfl)
  (hline:(apos.endLine == cpos.line)=true:=by rfl) (hs:starEach (e :: es) X.env=(false,eval e X.env) :: starEach es X.env:=by rfl) (hplain:(backTo cpos (starEach es X.env)).any (·.1)=false:=by rfl) :
  PE X (.Call (.Attribute o name apos) (e :: es) [] cpos) (tBM X.K T r to t):=by
 intro pins s σ H Q I h;refine wpAny_Call_method_late hbase hfew hline rfl (thn (ho pins s σ H _ I h) fun v s1 ⟨x,H1,I1,r1,ty,q1⟩=>?_);obtain⟨h1,h2⟩:=qVj I1 r1 ty;refine⟨T,id,pa,slot,hty,h1,h2,?_⟩;have hA:=ha cpos pins s1 σ H1 _ I1 q1;rw[hs]at hA ⊢;refine Calls.callWith_builtin (by show(false || (backTo cpos (starEach es X.env)).any (·.1))=false;rw[hplain] <;> rfl) (Calls.evalArgs_plain ?_);exact thn hA fun us s2 ⟨vs,H2,I2,r2,q2⟩=>hm pins s2 σ H2 x vs v us Q I2 r1 r2 q2
end
def MtM(X:Cx)(id:String)(r:V->List V->Hp->VK->Prop):Prop :=
 ∀(pins:List (Addr×Obj)) (s:Shared) (σ:St) (H:Hp) (x:V) (xs:List V) (v:Value) (us:List Value) (Q:VK),Inv X pins σ H s->qCi x v->qBa xs us->r x xs H Q ->
  wpAny (model X.prog X.w) X.A (call (.builtin id) (v :: us)) (EP X pins σ Q) X.xe s
theorem qBa.one:∀ {x:V} {us:List Value},qBa [x] us->∃u,us=[u]/\qCi x u
 |_,_,.cons r .nil=>⟨_,rfl,r⟩
theorem qBa.zero:∀ {us:List Value},qBa [] us->us=[]
 |_,.nil=>rfl
theorem qBa.dropLast{xs:List V}{us:List Value}(h:qBa xs us):qBa xs.dropLast us.dropLast:=by
 induction h with
 |nil=>exact .nil
 |cons r t ih =>
  cases t with
  |nil=>exact .nil
  |cons q t'=>exact .cons r ih
theorem qBa.eraseIdx:∀ {xs:List V} {us:List Value} (i:Nat),qBa xs us->qBa (xs.eraseIdx i) (us.eraseIdx i)
 |_,_,_,.nil=>.nil
 |_,_,0,.cons _ t=>t
 |_,_,i+1,.cons r t=>.cons r (qBa.eraseIdx i t)
theorem qO8{α:Type}(l:List α):l.eraseIdx (l.length - 1)=l.dropLast:=by
 induction l with
 |nil=>rfl
 |cons a r ih =>
  cases r with
  |nil=>rfl
  |cons b r =>
   have e:(a :: b :: r).length - 1=((b :: r).length - 1)+1:=by
    have h1:(a :: b :: r).length=r.length+2:=rfl;have h2:(b :: r).length=r.length+1:=rfl;omega
   rw[e,List.eraseIdx_cons_succ,ih]
   all_goals rfl
theorem qJ0{α:Type}:∀(l:List α) (i:Nat),(l.eraseIdx i).length<=l.length
 |[],_=>hA7 _
 |_ :: _,0=>hBh _
 |_ :: r,i+1=>hC7 (qJ0 r i)
section
variable{X:Cx}{pins:List (Addr×Obj)}{σ:St}{H:Hp}{s:Shared}{l b:Addr}{xs ys zs:List V}
theorem Inv.lset{its its':List Value}{n:Nat}{f:Array Value->Array Value}{t':Nat}(I:Inv X pins σ H s)(hH:H l=some (.lst xs))
  (e:s.heap.get? l=some { cls:=.type "list",data:=.seq its.toArray n }) (hf:f its.toArray=its'.toArray) (hv:qBa ys its') (hz:ys.length<=sizeLine) :
  Inv X pins σ (upd H l (.lst ys)) { s with heap:=s.heap.update l (Obj.mapSeq f),toks:=t' }:=by
 have q:=PySem.IsL.update e f;rw[hf]at q;refine I.write (x:=l) (e:=l) (by rw[hH];exact trivial) (.inl rfl) (fun b' u hb hu=>(Heap.get?_update_other s.heap (Obj.mapSeq f) (Ne.symm hb)).trans hu) ⟨_,q⟩ ?_;exact⟨hz,its',_,hv,q⟩
theorem Inv.lnew{its:List Value}{t':Nat}(I:Inv X pins σ H s)(hv:qBa ys its)(hz:ys.length<=sizeLine) :
  Inv X pins σ (upd H s.heap.objs.size (.lst ys)) { s with heap:=s.heap.push { cls:=.type "list",data:=.seq its.toArray },toks:=t' } :=
 I.laid (fun _ _ q=>Heap.get?_push_of_some _ q) (hA7 _) ⟨hz,its,0,hv,Heap.get?_push_size _ rfl⟩
theorem Inv.fresh(I:Inv X pins σ H s):H s.heap.objs.size=none:=I.hok.fresh (hA7 _)
theorem Inv.lstM(I:Inv X pins σ H s)(hH:H l=some (.lst xs)):xs.length<=sizeLine/\∃(its:List Value) (n:Nat),qBa xs its/\xs.length=its.length/\s.heap.get? l=some { cls:=.type "list",data:=.seq its.toArray n }:=by
 obtain⟨z,its,n,r,e⟩:=I.hok l _ hH;exact⟨z,its,n,r,r.length,e⟩
end
section
variable{X:Cx}
def qXy:V->List V->Hp->VK->Prop:=fun x vs H Q=>∃l xs y,x = .ref l/\vs=[y]/\H l=some (.lst xs)/\xs.length<sizeLine/\Q .non (upd H l (.lst (xs++[y])))
theorem qBo:MtM X "list.append" qXy:=by
 intro pins s σ H x vs v us Q I rx rv h;obtain⟨l,xs,y,rfl,rfl,hH,hz,q⟩:=h;cases rx;obtain⟨u,rfl,ru⟩:=rv.one;obtain⟨z,its,n,r,hl,e⟩:=I.lstM hH;refine call_meets F.slot_list_append ⟨_,e,rfl⟩ F.entry_list_append (F.args_list_append_2 _ _) (PySem.list_append l its.toArray n u (by rw[hAb];omega)) ⟨e,?_⟩;refine⟨.non,_,I.lset (its':=its++[u]) hH e (by simp) (r.append (.cons ru .nil)) ?_,rfl,q⟩;rw[hAa,List.length_singleton];omega
def zDq:V->List V->Hp->VK->Prop:=fun x vs H Q=>∃l xs y,x = .ref l/\vs=[]/\H l=some (.lst xs)/\xs[xs.length - 1]?=some y/\Q y (upd H l (.lst xs.dropLast))
theorem zA0:MtM X "list.pop" zDq:=by
 intro pins s σ H x vs v us Q I rx rv h;obtain⟨l,xs,y,rfl,rfl,hH,hy,q⟩:=h;cases rx;have hus:=rv.zero;subst hus;obtain⟨z,its,n,r,hl,e⟩:=I.lstM hH;obtain⟨u,hu,ru⟩:=r.get hy;have hy':its.toArray[its.toArray.size - 1]?=some u:=by
  show its.toArray[its.length - 1]?=some u;rw[<-hBc,<-hl];exact hu
 refine call_meets F.slot_list_pop ⟨_,e,rfl⟩ F.entry_list_pop (F.args_list_pop_1 _) (MeetsSeq.list_pop_last l its.toArray n u hy' (by rw[hAb];omega)) ⟨e,?_⟩;refine⟨y,_,I.lset (its':=its.dropLast) hH e ?_ r.dropLast ?_,ru,q⟩
 ·show its.toArray.eraseIdxIfInBounds (its.toArray.size - 1)=its.dropLast.toArray;rw[hAb,List.eraseIdxIfInBounds_toArray,qO8]
 ·rw[List.length_dropLast];omega
def zAk:V->List V->Hp->VK->Prop:=fun x vs H Q=>∃l xs i k y,x = .ref l/\vs=[.int i]/\H l=some (.lst xs)/\-(2^63)<=i/\i<2^63/\seqIndex? i xs.length=some k/\xs[k]?=some y/\Q y (upd H l (.lst (xs.eraseIdx k)))
theorem qNm:MtM X "list.pop" zAk:=by
 intro pins s σ H x vs v us Q I rx rv h;obtain⟨l,xs,i,k,y,rfl,rfl,hH,h1,h2,hk,hy,q⟩:=h;cases rx;obtain⟨u,rfl,ru⟩:=rv.one;obtain⟨t,rfl⟩:=ru;obtain⟨z,its,n,r,hl,e⟩:=I.lstM hH;obtain⟨w,hw,rw'⟩:=r.get hy;refine call_meets F.slot_list_pop ⟨_,e,rfl⟩ F.entry_list_pop (F.args_list_pop_2 _ _)
  (MeetsSeq.list_pop_at l its.toArray n i t k w (fitsIndex_both h1 h2) (by rw[hAb,<-hl];exact hk) (by rw[<-hBc];exact hw) (by rw[hAb];omega)) ⟨e,?_⟩
 refine⟨y,_,I.lset (its':=its.eraseIdx k) hH e ?_ (r.eraseIdx k) ?_,rw',q⟩
 ·show its.toArray.eraseIdxIfInBounds k=(its.eraseIdx k).toArray;rw[List.eraseIdxIfInBounds_toArray]
 ·have:=qJ0 xs k;omega
def zDs:R2:=fun x y H Q=>∃l b xs zs,x = .ref l/\y = .ref b/\H l=some (.lst xs)/\H b=some (.lst zs)/\xs.length+zs.length<=sizeLine/\∀p,H p=none->Q (.ref p) (upd H p (.lst (xs++zs)))
theorem qB5:OpR X (binaryOp .Add) zDs:=by
 intro pins s σ H x y v u Q I rx ry h;obtain⟨l,b,xs,zs,rfl,rfl,hH,hB,hz,q⟩:=h;cases rx;cases ry;obtain⟨z,its,n,r,hl,e⟩:=I.lstM hH;obtain⟨z2,its2,n2,r2,hl2,e2⟩:=I.lstM hB;refine PySem.P.add_list e e2 ?_ (by rw[hAb,hAb];omega);have ea:its.toArray++its2.toArray=(its++its2).toArray:=by simp
 rw[ea];exact⟨.ref _,_,I.lnew (t':=s.toks) (r.append r2) (by rw[hAa];omega),rfl,q _ I.fresh⟩
end
end L2
namespace Att
open PySem PySem.W PySem.Calls PyProof.Rows
theorem qGz{P:Params}{h:Heap}:∀(ns:List Int) (vs:List Value),WellAll P h vs (ns.map WData.int)->IntsAre vs ns:=by
 intro ns
 induction ns with
 |nil =>
  intro vs w;rw[List.map_nil]at w;cases w;exact .nil
 |cons n ns ih =>
  intro vs w;rw[hB9]at w;cases w with
  |cons a b =>
   cases a;exact .cons _ _ (ih _ b)
theorem qQg{l:OpenLaw}{n:Nat}(hn:l.most=some n){P:Params}{h:Heap}{args:List WData}{vals:List Value}
  (hpre:l.row.toRowW.claim.pre args=true) (hwl:WellAll P h vals args) :
  ∃a vs ns,vals=[Value.ref a]/\args=[WData.list (ns.map WData.int)]/\h.get? a=some { cls:=.type "list",data:=.seq vs.toArray }/\IntsAre vs ns/\ns.length<=n:=by
 have hsh:WShape.hasAll [] args [.list .int]=true:=(pre_splitW hpre).1;have hc:l.pre.holds [] { args:=args }=true:=(pre_splitW hpre).2;obtain⟨d,r,rfl,h1,h2⟩:=hasAllW_cons hsh;obtain rfl:=hasAllW_nil h2;obtain⟨xs,rfl,h3⟩:=hasW_list h1;obtain⟨ns,rfl⟩:=items_int h3;have hlen:ns.length<=n:=by
  unfold OpenLaw.pre at hc;have h4:(WTm.not (.lt (.lit (.int (n:Int))) (.len (.arg 0)))).holds [] { args:=[.list (ns.map .int)] }=true:=by
   have h4:=(holds_andW hc).1;rw[hn]at h4;exact h4
  have h5:=condW_of h4 (w_not (w_lt w_lit (w_len_list (w_arg rfl))));rw[hA1]at h5;refine Nat.le_of_not_lt fun q=>?_
  have q':(n:Int)<((ns.length:Nat):Int):=by omega
  first
   |(rw[decide_eq_true q']at h5;exact absurd h5 (by decide))
   |(simp at h5;omega)
 cases hwl with
 |cons w1 w2 =>
  cases w2;cases w1 with
  |list ho hall=>exact⟨_,_,ns,rfl,rfl,ho,qGz ns _ hall,hlen⟩
theorem qQ6(l:OpenLaw)(args:List WData):l.row.toRowW.claim.post args (.bool true) args=true :=
 postW_of (r:=l.row.toRowW) (X:=(true == true))
  (show WShape.has [] (.bool true) .bool=true by first|rfl|decide|simp[WShape.has,WShape.arms,WShape.armsAll])
  (show(WTm.eq .res (.lit (.bool true))).value [] { args:=args,res:=some (.bool true),after:=args }=some (.bool (true == true)) from w_eq_bool (w_res rfl) w_lit) rfl
theorem attach_call{l:OpenLaw}{n:Nat}{q:Program}{loose:List Str}{XP:(Str->Option Value)->Heap->Prop}{YP:World->Heap->Prop}{d:DefRec}
  (hn:l.most=some n) (hdf:d.params.defaults=[])
  (call:∀(w:World) (s₀ s₁:Shared) (mg mb:Str->Option Value) (fa:Addr) (o:Obj) (pm cd doc:Value) (a:Addr) (vs:List Value) (ns:List Int),
   Ground q loose [] XP w s₀ mg mb s₁.heap->YP w s₁.heap ->
   s₁.heap.get? fa=some o->o.data = .func (docDef d.name d.params d.body d.scope pm cd doc)->s₁.heap.CodeRec cd d.name->mg d.name=some (.ref fa) ->
   s₁.heap.get? a=some { cls:=.type "list",data:=.seq vs.toArray }->IntsAre vs ns->ns.length<=n->s₁.gens=#[] ->
   codeAny (model l.prog w) callerA (.call (.ref fa) ⟨[.ref a],[]⟩) (fun r s'=>r = .ok (.ret (.bool true))/\OldK s₁.heap s'.heap/\s'.os=s₁.os/\AllBare s'.gens) s₁) :
  WalkO q loose XP YP l.row.toRowW d [] (fun f vs=>PySem.call f vs):=by
 intro w s₀ s₁ mg mb G Y fa o pm cd doc dV kV ho hd hcd hD hmg hg args vals as hpre hlay hrd hwl hlo;obtain rfl:dV = .none:=Dflts.none hD hdf;obtain rfl:kV = .none:=Dflts.noKw hD;obtain⟨a,vs,ns,rfl,rfl,hobj,hints,hlen⟩:=qQg hn hpre hwl;refine enter_call (codeAny_mono (call w s₀ s₁ mg mb fa o pm cd doc a vs ns G Y ho (fd_plain hd) hcd hmg hobj hints hlen hg) fun r s' hq=>?_);obtain⟨rfl,h2,h3,h4⟩:=hq;exact⟨.inl ⟨.bool true,.bool true,[],rfl,fun _=>rfl,.bool true,qQ6 l _,fun _=>⟨List.Pairwise.nil,fun _ hm=>(nomatch hm)⟩⟩,h2,h3,h4⟩
section
variable{prog:Program}{w:World}{A:Around}{E:Value->Shared->Prop}{s:Shared}{K:Frag}
def zC9(h:Heap)(L d:Addr):List (Addr×Obj):=(List.range h.objs.size).filterMap fun a=>if a=L\/a=d then none else (h.get? a).map fun o=>(a,o)
end
end Att
namespace L2
open PySem PySem.Spec PyProof.Rows
theorem qI8:∀ {vs:List Value} {ns:List Int},IntsAre vs ns->qBa (ns.map V.int) vs
 |_,_,.nil=>.nil
 |_,_,.cons n t h=>.cons ⟨t,rfl⟩ (qI8 h)
end L2
namespace L2
open PySem PySem.Spec PyProof.Rows
def qCz(s:Stmt):Arguments:=match s with
 |.FunctionDef _ a _ _ _ _ _ _ _ _=>a
 |_=>{ posonlyargs:=[],args:=[],vararg:=none,kwonlyargs:=[],kw_defaults:=[],kwarg:=none,defaults:=[] }
def qB7(s:Stmt):List Stmt:=match s with
 |.FunctionDef _ _ b _ _ _ _ _ _ _=>b
 |_=>[]
def qAe(s:Stmt):Scope:=match s with
 |.FunctionDef _ _ _ _ _ _ sc _ _ _=>sc
 |_=>{ kind:=.function,names:=[],isGenerator:=false,isCoroutine:=false }
abbrev CX0:CXT:=fun _ _ _ _ _ _=>False
abbrev E0:XK:=fun _ _ _=>False
theorem qAv{X:Cx}:qOl CX0 X E0:=fun _ _ _ _ _ _ _ h=>h.elim
structure Fun(K:PySem.W.Frag)(x qual:Str)(st:Stmt)(f:Addr)(fd:FuncData):Prop where
 ex:∃(oc:Value) (od:Option Addr) (kV doc pm:Value) (an:Option Addr) (cdv ct:Value) (osl:Array (Option Value)),
  fd=PySem.W.fnOf x qual (qCz st) (qB7 st) (qAe st) .none kV doc pm an cdv ct/\K.lookup f=some ⟨oc,od,.func fd,osl⟩/\PySem.W.codeIn K cdv qual=true
 kp:PySem.W.keepIn K (.ref f)=true
section
variable{P:Program}{w:World}{K:PySem.W.Frag}{mg:Str->Option Value}{base:Heap}
theorem Fun.ok{x qual:Str}{st:Stmt}{f:Addr}{fd:FuncData}{N ps:List Str}{k:Nat}{sp:Sp}(F:Fun K x qual st f fd)(S:FnScope N ps (qAe st))(len:∀vs H Q E,sp vs H Q E->vs.length=ps.length)
  (hbody:∀(cdv:Value) (A:Around) (outer:List Env) (s:Shared) (H:Hp) (vs:List V) (Q:VK) (E:XK),Room k (A.deeper (envOfC qual (qAe st) s.heap.objs.size f cdv))->sp vs H Q E ->
   ∃t,PSs (qO9 CX0 P w K mg base N qual (qAe st) f cdv A outer s H E).nox (qB7 st) t/\t { nx:=fun _ H'=>Q .non H',rt:=Q } (start N vs) H):FnOk P w K mg base CX0 (k+1) f fd ps sp:=by
 obtain⟨oc,od,kV,doc,pm,an,cdv,ct,osl,rfl,lk,hcd⟩:=F.ex;refine zBh lk hcd S len fun A outer s H vs Q E hr hsp=>?_
 obtain⟨t,h,q⟩:=hbody cdv A outer s H vs Q E hr hsp;exact⟨t,h.nox,q⟩
theorem Fun.binds{x qual:Str}{st:Stmt}{f:Addr}{fd:FuncData}{ps:List Str}(F:Fun K x qual st f fd)
  (h:∀(kV doc pm:Value) (an:Option Addr) (cdv ct:Value) (us:List Value),us.length=ps.length->bindArgs (PySem.W.fnOf x qual (qCz st) (qB7 st) (qAe st) .none kV doc pm an cdv ct) ⟨us,[]⟩=pure (ps.zip us)):qMb K fd ps []:=by
 obtain⟨oc,od,kV,doc,pm,an,cdv,ct,osl,rfl,lk,hcd⟩:=F.ex;exact .all (h kV doc pm an cdv ct)
theorem qN1{x qual:Str}{st:Stmt}{f:Addr}{oc:Value}{od an:Option Addr}{osl:Array (Option Value)}{kV doc pm cdv ct:Value}(l:K.lookup f=some ⟨oc,od,.func (PySem.W.fnOf x qual (qCz st) (qB7 st) (qAe st) .none kV doc pm an cdv ct),osl⟩)
  (c:PySem.W.codeIn K cdv qual=true) (k:PySem.W.keepIn K (.ref f)=true):Fun K x qual st f (PySem.W.fnOf x qual (qCz st) (qB7 st) (qAe st) .none kV doc pm an cdv ct):=⟨⟨oc,od,kV,doc,pm,an,cdv,ct,osl,rfl,l,c⟩,k⟩
end
theorem qAi{n:Nat}(h:n<=1000):n<sizeLine:=hD5 h (by decide)
section
variable{X:Cx}
theorem pv(i:Nat){x:Str}{pos:Pos}(hN:X.N[i]?=some x:=by rfl)(hv:Vis X.env.scope x:=by first|exact Or.inl rfl|exact Or.inr (Or.inl rfl)|exact Or.inr (Or.inr rfl))(hd:(x == ("__debug__" : Str))=false:=by decide)
  (hcd:(x == ("__classdict__" : Str))=false:=by decide):PE X (.Name x pos) (qPe i):=zAp hN hv hd hcd
end
theorem qHa{A B:Prop}(h:B):if false=true then A else B:=by
 rw[if_neg hAu];exact h
theorem iteT{A B:Prop}(h:A):if true=true then A else B:=by
 rw[if_pos rfl];exact h
theorem ite2{c A B:Prop}[Decidable c](h1:c->A)(h2:¬c->B):if c then A else B:=by
 by_cases h:c
 ·rw[if_pos h];exact h1 h
 ·rw[if_neg h];exact h2 h
end L2
set_option linter.all false
namespace L2
open PySem PySem.Spec PyProof.Rows
section
variable{κ:Type}[DecidableEq κ]
def qKt(kvs:List (κ×V))(k:κ):Option V:=(kvs.find? fun kv=>decide (kv.1=k)).map (·.2)
theorem qMe{p:κ×V}{r:List (κ×V)}{k:κ}(e:p.1=k):qKt (p :: r) k=some p.2:=by simp[qKt,hDk,e]
theorem qMf{p:κ×V}{r:List (κ×V)}{k:κ}(e:¬p.1=k):qKt (p :: r) k=qKt r k:=by simp[qKt,hDk,e]
theorem KV.val{kvs:List (κ×V)}{vs:List (κ×Value)}(r:KV kvs vs)(k:κ):qVi (qKt kvs k) (valueAt vs k):=by
 unfold KV at r
 induction r with
 |nil=>exact True.intro
 |@cons p q ps qs h t ih =>
  obtain⟨h1,h2⟩:=h;by_cases e:p.1=k
  ·have e':q.1=k:=h1.symm.trans e;have b:valueAt (q :: qs) k=some q.2:=by simp[valueAt,hDk,e']
   rw[qMe e,b];exact h2
  ·have e':¬q.1=k:=fun z=>e (h1.trans z)
   have b:valueAt (q :: qs) k=valueAt qs k:=by simp[valueAt,hDk,e']
   rw[qMf e,b];exact ih
end
theorem qY7{P:Program}{w:World}{k:Key}{u:Value}(r:qCi (kV k) u):(qBq P w).is k u=true:=by
 cases k with
 |inl i=>obtain⟨t,e⟩:=(show ∃t,u=Value.int i t from r);subst e;exact qLs P w i t
 |inr x=>obtain⟨t,e⟩:=(show ∃t,u=Value.str x t from r);subst e;exact qLr P w x t
theorem qJ3{P:Program}{w:World}:∀ {ks:List Key} {us:List Value},qBa (ks.map kV) us->ItemsAre (qBq P w) ks us
 |[],_,r=>by rw[List.map_nil]at r;cases r;exact .nil
 |k :: ks,_,r=>by
  rw[hB9]at r;cases r with
  |cons h t=>exact .cons (qY7 h) (qJ3 t)
abbrev KT(H:Hp):List (List Key×V)->List (List Key×Addr×Value)->Prop:=Paired fun p q=>p.1=q.1/\H q.2.1=some (.tup (p.1.map kV))/\qCi p.2 q.2.2
theorem KT.val{H:Hp}{kvs:List (List Key×V)}{xs:List (List Key×Addr×Value)}(r:KT H kvs xs)(k:List Key):qVi (qKt kvs k) ((atKey xs k).map (·.2)):=by
 induction r with
 |nil=>exact True.intro
 |@cons p q ps qs h t ih =>
  obtain⟨h1,_,h2⟩:=h;by_cases e:p.1=k
  ·have e':q.1=k:=h1.symm.trans e;have b:atKey (q :: qs) k=some q.2:=by simp[atKey,hDk,e']
   rw[qMe e,b];exact h2
  ·have e':¬q.1=k:=fun z=>e (h1.trans z)
   have b:atKey (q :: qs) k=atKey qs k:=by simp[atKey,hDk,e']
   rw[qMf e,b];exact ih
section
variable{P:Program}{w:World}{H:Hp}{h:Heap}{a:Addr}
theorem zAi{u:HO}(ok:HOk P w H h)(e:Rd H a u):qB8 P w H h a u:=e.ok ok
theorem zBp{kvs:List (Key×V)}(ok:HOk P w H h)(e:Rd H a (.dK kvs)):kvs.length<=sizeLine/\(a == sysModules)=false/\∃vs,KV kvs vs/\h.DictOf (qBq P w) a vs :=
 show qB8 P w H h a (.dK kvs) from zAi ok e
theorem qWm{ks:List Key}(ok:HOk P w H h)(e:H a=some (.tup (ks.map kV))):(tupleKind (qBq P w)).is h ks a:=by
 obtain⟨_,its,r,o,h1,h2,n,h3⟩:=(show qB8 P w H h a (.tup (ks.map kV)) from ok a _ e);exact⟨o,its.toArray,n,h1,h2,h3,by simpa using qJ3 r⟩
theorem zBn{kvs:List (List Key×V)}(ok:HOk P w H h)(e:Rd H a (.dT kvs)):kvs.length<=sizeLine/\(a == sysModules)=false /\
  ∃xs,KT H kvs xs/\h.DictOfH (tupleKind (qBq P w)) a xs:=by
 obtain⟨z,y,xs,r,o,es,ep,h1,h2,h3,h4,h5⟩:=(show qB8 P w H h a (.dT kvs) from zAi ok e);refine⟨z,y,xs,r,o,es,ep,h1,h2,h3,h4,fun x hx=>?_,h5⟩;have all:∀ {l:List (List Key×V)} {m:List (List Key×Addr×Value)},KT H l m->∀x∈m,(tupleKind (qBq P w)).is h x.1 x.2.1:=by
  intro l m q
  induction q with
  |nil=>intro x hx;exact nomatch hx
  |@cons p q ps qs hq t ih =>
   intro x hx;rcases hAf.mp hx with e|hx
   ·subst e;exact qWm ok (by rw[<-hq.1];exact hq.2.1)
   ·exact ih x hx
 exact all r x hx
end
def qZs(H:Hp)(a:Addr)(y:V)(r:Option V):Prop :=
 (∃kvs k,Rd H a (.dK kvs)/\y=kV k/\r=qKt kvs k)\/∃kvs k b,Rd H a (.dT kvs)/\y = .ref b/\H b=some (.tup (k.map kV))/\r=qKt kvs k
theorem qZs.k{H:Hp}{a:Addr}{kvs:List (Key×V)}{k:Key}(e:H a=some (.dK kvs)):qZs H a (kV k) (qKt kvs k):=.inl ⟨kvs,k,.inl e,rfl,rfl⟩
section
variable{X:Cx}{pins:List (Addr×Obj)}{σ:St}{H:Hp}{s:Shared}{a:Addr}{y v:V}{u r:Value}{o:Option V}{A:Around}{E:Value->Shared->Prop}
theorem Inv.big(I:Inv X pins σ H s):sysModules<s.heap.objs.size:=by
 have h:mainGlobals<s.heap.objs.size:=(I.mod.glob.keeps I.bk).lt;exact Nat.lt_trans (by decide) h
theorem qSs{Q:Value->Shared->Prop}(hu:A.units+1<cLine)(I:Inv X pins σ H s)(g:qZs H a y (some v))(ry:qCi y u)(h:∀w' s',Inv X pins σ H s'->qCi v w'->Q w' s') :
  wpAny (model X.prog X.w) A (getItem (.ref a) u) Q E s:=by
 rcases g with ⟨kvs,k,e,ey,l⟩|⟨kvs,k,b,e,ey,eb,l⟩
 ·subst ey;obtain⟨z,hd,vs,rel,dd⟩:=zBp I.hok e;obtain⟨w',hw,rw'⟩:=qVi.some_of (v:=v) (o:=valueAt vs k) (by rw[l];exact rel.val k);exact wpAny_getItem_of (qY7 ry) dd.mapOf hw (h w' _ (I.tok _) rw')
 ·subst ey;cases(show u=Value.ref b from ry);obtain⟨z,hd,xs,rel,dd⟩:=zBn I.hok e;obtain⟨w',hw,rw'⟩:=qVi.some_of (v:=v) (o:=(atKey xs k).map (·.2)) (by rw[l];exact rel.val k);obtain⟨p,hp,hp2⟩:=Option.map_eq_some_iff.mp hw;refine wpAny_getItem_heap (tupleKind_room_in1 hu) (qWm I.hok eb) dd hp ?_;rw[hp2];exact h w' _ (I.tok _) rw'
end
def zDb(i:Expr):Prop:=∀ov iv,subscripted i false ov iv=operate [ov,iv] (getItem ov iv)
theorem qW8{prog:Program}{w:World}{A:Around}{E:Value->Shared->Prop}{s:Shared}{env:Env}{value slice:Expr}{pos:Pos}{T id:String}{Q:Value->Shared->Prop}
  (hl:typeLookup (.type T) "__getitem__" = pure (some (.builtin id))) (hs:zDb slice)
  (h:wpAny (model prog w) A (eval value env) (fun o s₁=>wpAny (model prog w) A (eval slice env) (fun i s₂=>s₂.TypeIs o T/\wpAny (model prog w) A (getItem o i) Q E s₂) E s₁) E s) :
  wpAny (model prog w) A (eval (.Subscript value slice pos) env) Q E s:=by
 refine Subscript_ (wpAny_mono h (fun o s₁ h₁=>wpAny_mono h₁ (fun i s₂ h₂=>?_) fun _ _ x=>x) fun _ _ x=>x);obtain⟨hT,h₂⟩:=h₂;unfold subscriptTail;refine wpAny_bind ?_;rw[getitemInPython_of_ne hT.not_modules];refine wpAny_bind (wpAny_specialOf hT hl ?_);have fin:wpAny (model prog w) A (subscripted slice false o i) (fun r s₃=>wpAny (model prog w) A (letTemporaryGo value o r >>= fun _=>pure r) Q E s₃) E s₂:=by
  rw[hs o i];exact wpAny_operating (wpAny_mono h₂ (fun r s₃ h₃=>wpAny_bind (wpAny_letTemporaryGo (wpAny_pure h₃))) fun _ _ x=>x)
 first
  |exact wpAny_pure (wpAny_bind fin)
  |exact wpAny_bind (wpAny_pure (wpAny_bind fin))
  |exact wpAny_bind fin
theorem qL2{X:Cx}{pins:List (Addr×Obj)}{σ:St}{H:Hp}{s:Shared}{a:Addr}{y:V}{o:Option V}(I:Inv X pins σ H s)(g:qZs H a y o):s.TypeIs (.ref a) "dict":=by
 rcases g with ⟨kvs,k,e,_,_⟩|⟨kvs,k,b,e,_,_,_⟩
 ·obtain⟨_,_,vs,_,dd⟩:=zBp I.hok e;exact dd.typeIs
 ·obtain⟨_,_,xs,_,dd⟩:=zBn I.hok e;exact dd.typeIs
def zB8(td ty:TE):TE:=fun σ H Q=>td σ H fun x H1=>ty σ H1 fun y H2=>∃a v,x = .ref a/\qZs H2 a y (some v)/\Q v H2
section
variable{X:Cx}{o i e value:Expr}{pos pos' tpos:Pos}{td ty tv:TE}
theorem qX4(hu:X.A.units+1<cLine)(ho:PE X o td)(hi:PE X i ty)(hs:zDb i):PE X (.Subscript o i pos) (zB8 td ty):=by
 intro pins s σ H Q I h;refine qW8 PySem.F.slot_dict_getitem.lookup hs (thn (ho pins s σ H _ I h) fun u s1 ⟨x,H1,I1,rx,q1⟩=>thn (hi pins s1 σ H1 _ I1 q1) fun iv s2 ⟨y,H2,I2,ry,a,v,ex,g,q2⟩=>?_);subst ex;obtain rfl:u=Value.ref a:=rx;exact⟨qL2 I2 g,qSs hu I2 g ry fun w' s3 I3 rw'=>⟨v,H2,I3,rw',q2⟩⟩
end
structure M1(X:Cx)(o:Expr)(m:Str)(apos:Pos)(e:Expr)(cpos:Pos):Prop where
 base:attributeBase o m X.env (eval o X.env)=eval o X.env
 few:((backTo cpos (starEach [e] X.env)).all (fun x=>!x.1) && (backToKw cpos (keywordEach [] X.env)).all (fun x=>x.1.isSome)
  && decide (([e]:List Expr).length+([]:List Keyword).length+(if ([]:List Keyword).isEmpty then 0 else 1)<30))=true
 line:(apos.endLine == cpos.line)=true
 trees:backTo cpos (starEach [e] X.env)=[(false,eval e X.env)]
structure M2(X:Cx)(o:Expr)(m:Str)(apos:Pos)(e f:Expr)(cpos:Pos):Prop where
 base:attributeBase o m X.env (eval o X.env)=eval o X.env
 few:((backTo cpos (starEach [e,f] X.env)).all (fun x=>!x.1) && (backToKw cpos (keywordEach [] X.env)).all (fun x=>x.1.isSome)
  && decide (([e,f]:List Expr).length+([]:List Keyword).length+(if ([]:List Keyword).isEmpty then 0 else 1)<30))=true
 line:(apos.endLine == cpos.line)=true
 trees:backTo cpos (starEach [e,f] X.env)=[(false,eval e X.env),(false,eval f X.env)]
def qC0(cells:List (Str×Addr)):List (Str×NameKind)->List (Str×Addr)->List (Str×Addr)
 |[],acc=>acc
 |(n,k) :: r,acc=>if k == .free then qC0 cells r ((n,(cells.lookup n).getD 0) :: acc) else qC0 cells r acc
theorem qHz(env:Env)(f:Str×NameKind->List (Str×Addr)->Sem (ForInStep (List (Str×Addr))))
  (hf:∀n k cs,f (n,k) cs=if k == .free then (do let a ← cellOf env n;pure (.yield ((n,a) :: cs))) else pure (.yield cs)) :
  ∀(names:List (Str×NameKind)) (acc:List (Str×Addr)),(∀x∈names,x.2 = .free->∃c,env.cells.lookup x.1=some c)->forIn names acc f=pure (qC0 env.cells names acc)
 |[],acc,_=>by rw[List.forIn_nil];rfl
 |(n,k) :: r,acc,h=>by
  have ih:=qHz env f hf r;rw[List.forIn_cons,hf];unfold qC0;by_cases hk:(k == NameKind.free)=true
  ·rw[if_pos hk,if_pos hk];obtain⟨c,hc⟩:=h (n,k) hA6 (by simpa using hk);have e:cellOf env n=pure c:=by unfold cellOf;rw[hc]
   rw[e,hc];exact ih _ fun x hx=>h x (hA4 _ hx)
  ·rw[if_neg hk,if_neg hk];exact ih _ fun x hx=>h x (hA4 _ hx)
theorem qI0(h:∀x∈scope.names,x.2 = .free->∃c,env.cells.lookup x.1=some c):closureFor scope env=pure (qC0 env.cells scope.names []):=by
 simp only[closureFor];rw[qHz env _ (fun n k cs=>by cases hk:k == NameKind.free <;> simp[hk]) scope.names [] h];rfl
theorem closL_mem:∀ {names:List (Str×NameKind)} {acc:List (Str×Addr)} {x:Str} {c:Addr},(x,c)∈qC0 cells names acc->(x,c)∈acc\/((x,NameKind.free)∈names/\c=(cells.lookup x).getD 0)
 |[],acc,x,c,h=>.inl h
 |(n,k) :: r,acc,x,c,h=>by
  unfold qC0 at h;by_cases hk:(k == NameKind.free)=true
  ·rw[if_pos hk]at h;rcases closL_mem h with q|⟨q,e⟩
   ·rcases hAf.mp q with z|z
    ·cases z;exact .inr ⟨by rw[show NameKind.free=k from (by simpa using hk:k=NameKind.free).symm];exact hA6,rfl⟩
    ·exact .inl z
   ·exact .inr ⟨hA4 _ q,e⟩
  ·rw[if_neg hk]at h;rcases closL_mem h with q|⟨q,e⟩
   ·exact .inl q
   ·exact .inr ⟨hA4 _ q,e⟩
theorem qFw{α:Type}{x n:Str}{c:α}{l:List (Str×α)}(h:(l.lookup x).isSome=true):(((n,c) :: l).lookup x).isSome=true:=by
 rw[hCv];cases x == n <;> simp[h]
theorem qFh{cells:List (Str×Addr)}{x:Str}:∀ {names:List (Str×NameKind)} {acc:List (Str×Addr)},((x,NameKind.free)∈names\/(acc.lookup x).isSome=true)->((qC0 cells names acc).lookup x).isSome=true
 |[],acc,h=>by
  rcases h with h|h
  ·cases h
  ·exact h
 |(n,k) :: r,acc,h=>by
  unfold qC0;by_cases hk:(k == NameKind.free)=true
  ·rw[if_pos hk];refine qFh ?_;rcases h with h|h
   ·rcases hAf.mp h with z|z
    ·cases z;exact .inr (by rw[hCv];simp)
    ·exact .inl z
   ·exact .inr (qFw h)
  ·rw[if_neg hk];refine qFh ?_;rcases h with h|h
   ·rcases hAf.mp h with z|z
    ·cases z;exact absurd rfl hk
    ·exact .inl z
   ·exact .inr h
theorem cellsFrom_mem:∀ {names:List (Str×NameKind)} {n:Nat} {acc:List (Str×Addr)} {x:Str} {c:Addr},(x,c)∈cellsFrom n names acc->(x,c)∈acc\/(x,NameKind.cell)∈names
 |[],_,_,_,_,h=>.inl h
 |(y,k) :: r,n,acc,x,c,h=>by
  unfold cellsFrom at h;by_cases hk:(k == NameKind.cell)=true
  ·rw[if_pos hk]at h;rcases cellsFrom_mem h with q|q
   ·rcases hAf.mp q with z|z
    ·cases z;exact .inr (by rw[show NameKind.cell=k from (by simpa using hk:k=NameKind.cell).symm];exact hA6)
    ·exact .inl z
   ·exact .inr (hA4 _ q)
  ·rw[if_neg hk]at h;rcases cellsFrom_mem h with q|q
   ·exact .inl q
   ·exact .inr (hA4 _ q)
structure CellsTwo(h:Heap)(lo:Nat)(acc cs:List (Str×Addr)):Prop where
 part:∀x c,(x,c)∈cs->(x,c)∈acc\/(h.IsCell c none/\lo<=c)
 inj:∀x y c,lo<=c->(x,c)∈cs->(y,c)∈cs->x=y
theorem qC8:∀(names:List (Str×NameKind)) (h:Heap) (lo:Nat) (acc:List (Str×Addr)),CellsTwo h lo acc0 acc->(∀x c,(x,c)∈acc->c<h.objs.size)->lo<=h.objs.size ->
  CellsTwo (pushCells h names) lo acc0 (cellsFrom h.objs.size names acc)
 |[],_,_,_,x,_,_=>x
 |(name,kind) :: r,h,lo,acc,x,hl,hlo=>by
  unfold pushCells cellsFrom;split
  ·have:=qC8 (acc0:=acc0) r (h.push { cls:=.type "cell",data:=.cell none }) lo ((name,h.objs.size) :: acc)
    ⟨fun n c hm=>by
      rcases hAf.mp hm with e|hm
      ·cases e;exact .inr ⟨⟨_,Heap.get?_push_size _ rfl,rfl⟩,hlo⟩
      ·rcases x.part n c hm with q|q
       ·exact .inl q
       ·exact .inr ⟨q.1.keeps fun b o e=>Heap.get?_push_of_some _ e,q.2⟩,
     fun a b c hc h1 h2=>by
      rcases hAf.mp h1 with e1|h1 <;> rcases hAf.mp h2 with e2|h2
      ·cases e1;cases e2;rfl
      ·cases e1;exact absurd (hl _ _ h2) (hCk _)
      ·cases e2;exact absurd (hl _ _ h1) (hCk _)
      ·exact x.inj a b c hc h1 h2⟩
    (fun n c hm=>by
     rw[Heap.size_push];rcases hAf.mp hm with e|hm
     ·cases e;exact hC1 _
     ·exact hBr (hl n c hm)) (by rw[Heap.size_push];omega)
   rwa [Heap.size_push]at this
  ·exact qC8 r h lo acc x hl hlo
def qD1(env:Env)(scope:Scope)(C:Addr):Env :=
 { scope:=relabel scope env,locals:=C,globals:=env.globals,cells:=cellsFrom (C+1) scope.names (qC0 env.cells scope.names []),qual:=env.qual,func:=none,code:=env.code,frame:=env.frame,builtins:=env.builtins }
theorem qH2
  (hQ:Q { scope:=scope,locals:=s.heap.objs.size,globals:=env.globals,cells:=cellsFrom (s.heap.objs.size+1) scope.names cl,qual:=env.qual,func:=none,code:=env.code,frame:=env.frame,builtins:=env.builtins }
   { s with heap:=pushCells (s.heap.push { cls:=.type "dict",data:=.dict #[] }) scope.names }) :
  wpAny M A (newFunctionEnv scope env.globals cl [] env.qual none .none (some env)) Q E s:=by
 simp only[newFunctionEnv,Option.isSome_some,if_true];refine wpAny_bind (wpAny_alloc ?_);refine wpAny_bind (wpAny_layCells _ (fun name kind cells=>by cases hkc:kind == NameKind.cell <;> simp[hkc]) _ _ _ _ ?_);rw[show({ s with heap:=s.heap.push { cls:=.type "dict",data:=.dict #[] } }:Shared).heap.objs.size=s.heap.objs.size+1 from Heap.size_push ..];rw[List.forIn_nil];exact wpAny_bind (wpAny_pure (wpAny_pure hQ))
theorem qKd(I:Nat->Shared->Prop)
  (turn:∀n s,I n s->wpAny (model prog w) A (pyNext it) (fun r s₁=>match r with
   |none=>R (.ok .next) s₁
   |some v=>wpAny (model prog w) A (letOwnedTupleGo target it v) (fun _ s₁'=>wpAny (model prog w) A (assign target env v) (fun _ s₂ =>
     wpAny (model prog w) A (forIn ifs true fun c r=>if r=true then do let ok ← isTrue c env (eval c env);pure (ForInStep.yield ok) else pure (ForInStep.yield r)) (fun ok s₃ =>
      if ok=true then wpAny (model prog w) A (eval elt env) (fun x s₄ =>
       wpAny (model prog w) A (call (.builtin "list.append") [acc,x]) (fun _ s₅=>∃m,m<n/\I m s₅) (fun _ _=>False) s₄) (fun _ _=>False) s₃
      else ∃m,m<n/\I m s₃) (fun _ _=>False) s₂) (fun _ _=>False) s₁') (fun _ _=>False) s₁) (fun _ _=>False) s)
  (n:Nat) (h:I n s) :
  codeAny (model prog w) A (.compLoop (.ListComp elt [⟨target,iter,ifs,0⟩] scope pos) 0 it acc env) R s:=by
 refine codeAny_loop rfl I (fun n s hI=>?_) n h;show wpAny _ A ((compTurn (.ListComp elt [⟨target,iter,ifs,0⟩] scope pos) 0 it acc env).onRaise (fun x=>do noteFrame x env;theTreesLotGoes x)) _ _ s;refine wpAny_noted ?_;rw[compTurn_list];refine wpAny_bind (wpAny_standAt (wpAny_bind (wpAny_mono (turn n s hI) (fun r s₁ h₁=>?_) fun _ _ h'=>h'.elim)));cases r with
 |none=>exact wpAny_pure h₁
 |some v =>
  refine wpAny_bind (wpAny_mono h₁ (fun _ s₁' h₁=>?_) fun _ _ h'=>h'.elim);refine wpAny_bind (wpAny_mono h₁ (fun _ s₂ h₂=>wpAny_bind (wpAny_mono h₂ (fun ok s₃ h₃=>?_) fun _ _ h'=>h'.elim)) fun _ _ h'=>h'.elim);cases ok with
  |false=>exact wpAny_pure ⟨rfl,h₃⟩
  |true =>
   exact wpAny_bind (wpAny_bind (wpAny_mono h₃ (fun x s₄ h₄=>wpAny_bind (wpAny_mono h₄ (fun _ s₅ h₅=>wpAny_pure (wpAny_pure ⟨rfl,h₅⟩)) fun _ _ h'=>h'.elim)) fun _ _ h'=>h'.elim))
def qXt(scope sc:Scope):Scope :=
 { scope with names:=scope.names.map fun (n,k)=>if (k == .free && sc.kind == .function && sc.names.lookup n == some .cell) then (n,.cell) else (n,k) }
def qDi(X:Cx)(scope:Scope)(N':List Str)(C:Addr)(s:Shared)(H:Hp)(fp:List Addr):Cx :=
 { X with N:=N',s₀:=s,H₀:=H,env:=qD1 X.env scope C,outer:=X.stack,stack:=X.stack,ex:=fp,fn:=fun x=>!(scope.names.lookup x == some .free),pn:=[],xe:=fun _ _=>False }
def subσ(sub:List (Option Nat))(σ:St):St:=sub.map fun o=>o.bind fun i=>(σ[i]?).join
def qWx(N:List Str)(sc:Scope)(N':List Str)(scope:Scope)(sub:List (Option Nat)):Bool :=
 scope.kind == .function && decide ((scope.names.map (·.1)).Nodup) && decide N'.Nodup && sub.length == N'.length &&
 (scope.names.all fun x=>!(x.2 == .free) || sc.names.lookup x.1 == some .cell || sc.names.lookup x.1 == some .free) &&
 ((sub.zip N').all fun p=>match p.1 with
  |none=>true
  |some i=>N[i]? == some p.2 && scope.names.lookup p.2 == some .free)
structure CmpOk(N:List Str)(sc:Scope)(N':List Str)(scope:Scope)(sub:List (Option Nat)):Prop where
 kind:scope.kind = .function
 nd:(scope.names.map (·.1)).Nodup
 nd':N'.Nodup
 len:sub.length=N'.length
 free:∀x∈scope.names,x.2 = .free->sc.names.lookup x.1=some .cell\/sc.names.lookup x.1=some .free
 sub:∀(j i:Nat) (x:Str),sub[j]?=some (some i)->N'[j]?=some x->N[i]?=some x/\scope.names.lookup x=some .free
theorem CmpOk.of{N:List Str}{sc:Scope}{N':List Str}{scope:Scope}{sub:List (Option Nat)}(h:qWx N sc N' scope sub=true):CmpOk N sc N' scope sub:=by
 unfold qWx at h;simp only[hCa]at h;obtain⟨⟨⟨⟨⟨h1,h2⟩,h3⟩,h4⟩,h5⟩,h6⟩:=h;refine⟨by simpa using h1,of_decide_eq_true h2,of_decide_eq_true h3,by simpa using h4,fun x hx hf=>?_,fun j i x hj hx=>?_⟩
 ·have q:=hCw.mp h5 x hx;rw[hf]at q;simp only[beq_self_eq_true,Bool.not_true,Bool.false_or,hDl]at q;rcases q with q|q
  ·exact .inl (by simpa using q)
  ·exact .inr (by simpa using q)
 ·have q:=hCw.mp h6 (some i,x) (by
   refine hAc (i:=j) ?_;rw[List.getElem?_zip_eq_some];exact⟨hj,hx⟩)
  simp only[hCa]at q;exact⟨by simpa using q.1,by simpa using q.2⟩
theorem qCj:∀ {l:List (Str×α)} {x:Str} {c:α},(l.map (·.1)).Nodup->(x,c)∈l->l.lookup x=some c
 |(y,d) :: r,x,c,nd,h=>by
  rw[hCv];rcases hAf.mp h with e|h
  ·cases e;simp
  ·have ne:x≠y:=fun e=>by
    rw[hB9]at nd;exact(hBg.mp nd).1 (by rw[<-e];exact hAg.mpr ⟨(x,c),h,rfl⟩)
   rw[show(x == y)=false from by simpa using ne];exact qCj (hBg.mp nd).2 h
theorem qFr{sc:Scope}:∀ {names:List (Str×NameKind)} {x:Str},
  ((names.map fun (n,k)=>if (k == NameKind.free && sc.kind == .function && sc.names.lookup n == some .cell) then (n,NameKind.cell) else (n,k)).lookup x) =
   (names.lookup x).map fun k=>if (k == NameKind.free && sc.kind == .function && sc.names.lookup x == some .cell) then NameKind.cell else k
 |[],x=>rfl
 |(n,k) :: r,x=>by
  have ih:=@qFr sc r x;rw[hB9];show List.lookup x ((if (k == NameKind.free && sc.kind == .function && sc.names.lookup n == some .cell)=true then (n,NameKind.cell) else (n,k)) :: _)=_;by_cases hc:(k == NameKind.free && sc.kind == .function && sc.names.lookup n == some .cell)=true
  ·rw[if_pos hc,hCv,hCv];by_cases hx:x=n
   ·subst hx;rw[show(x == x)=true from beq_self_eq_true x];show some NameKind.cell=Option.map _ (some k);rw[Option.map_some,if_pos hc]
   ·rw[show(x == n)=false by simpa using hx];exact ih
  ·rw[if_neg hc,hCv,hCv];by_cases hx:x=n
   ·subst hx;rw[show(x == x)=true from beq_self_eq_true x];show some k=Option.map _ (some k);rw[Option.map_some,if_neg hc]
   ·rw[show(x == n)=false by simpa using hx];exact ih
section
variable{X:Cx}{pins:List (Addr×Obj)}{σ:St}{H H':Hp}{s:Shared}
theorem qO7(I:Inv X pins σ H s)(hb:b∈frs X.stack)(n1:b≠X.env.locals):b∈X.fs:=(hAf.mp (I.stkSub b hb)).elim (fun e=>absurd e n1) id
theorem qL5{N':List Str}{scope:Scope}{sub:List (Option Nat)}{h3:Heap}(I:Inv X pins σ H s)(O:CmpOk X.N X.env.scope N' scope sub)
  (hk:∀b o,s.heap.get? b=some o->h3.get? b=some o) :
  (∀x c,(cellsFrom (h3.objs.size+1) scope.names (qC0 X.env.cells scope.names [])).lookup x=some c ->
   (((pushCells (h3.push { cls:=.type "dict",data:=.dict #[] }) scope.names).IsCell c none/\h3.objs.size+1<=c/\(x,NameKind.cell)∈scope.names)\/((x,NameKind.free)∈scope.names/\X.env.cells.lookup x=some c))) /\
  (∀x y c,(cellsFrom (h3.objs.size+1) scope.names (qC0 X.env.cells scope.names [])).lookup x=some c->(cellsFrom (h3.objs.size+1) scope.names (qC0 X.env.cells scope.names [])).lookup y=some c->x=y):=by
 have hin:∀x c,(x,c)∈qC0 X.env.cells scope.names []->(x,NameKind.free)∈scope.names/\X.env.cells.lookup x=some c:=fun x c h=>by
  rcases closL_mem h with q|⟨q,e⟩
  ·cases q
  ·have hx:∃c,X.env.cells.lookup x=some c:=by
    refine I.ok.has x ?_;rcases O.free _ q rfl with z|z
    ·exact .inl z
    ·exact .inr z
   obtain⟨c',hc'⟩:=hx;rw[hc']at e;exact⟨q,by rw[hc',e];rfl⟩
 have hlt:∀x c,(x,c)∈qC0 X.env.cells scope.names []->c<h3.objs.size:=fun x c h=>by
  obtain⟨v,o,ho,_⟩:=I.cell x c (hin x c h).2;exact Heap.lt_size (hk _ _ ho)
 have two:=qC8 (acc0:=qC0 X.env.cells scope.names []) scope.names (h3.push { cls:=.type "dict",data:=.dict #[] }) (h3.objs.size+1) (qC0 X.env.cells scope.names [])
  ⟨fun x c h=>.inl h,fun x y c hc h1 _=>absurd (hlt x c h1) (Nat.not_lt.mpr (Nat.le_of_succ_le hc))⟩ (fun x c h=>by rw[Heap.size_push];exact hBr (hlt x c h)) (by rw[Heap.size_push];exact hA7 _)
 rw[Heap.size_push]at two;refine⟨fun x c h=>?_,fun x y c h1 h2=>?_⟩
 ·have m:=hBz h;rcases two.part x c m with q|q
  ·exact .inr (hin x c q)
  ·refine .inl ⟨q.1,q.2,?_⟩;rcases cellsFrom_mem m with z|z
   ·exact absurd (hlt x c z) (Nat.not_lt.mpr (Nat.le_of_succ_le q.2))
   ·exact z
 ·have m1:=hBz h1;have m2:=hBz h2;by_cases hc:h3.objs.size+1<=c
  ·exact two.inj x y c hc m1 m2
  ·rcases two.part x c m1 with q1|q1
   ·rcases two.part y c m2 with q2|q2
    ·exact I.ok.inj x y c (hin x c q1).2 (hin y c q2).2
    ·exact absurd q2.2 hc
   ·exact absurd q1.2 hc
theorem qU0{N':List Str}{scope:Scope}{sub:List (Option Nat)}{fp:List Addr}(I:Inv X pins σ H s)(O:CmpOk X.N X.env.scope N' scope sub)(hf:∀b∈fp,qPh X pins H b)
  (hfl:∀b∈fp,b<s.heap.objs.size) :
  Inv (qDi X scope N' (s.heap.objs.size+1) s H fp) [(s.heap.objs.size,{ cls:=.type "list",data:=.seq #[] })] (subσ sub σ) H
   { s with heap:=pushCells ((s.heap.push { cls:=.type "list",data:=.seq #[] }).push { cls:=.type "dict",data:=.dict #[] }) scope.names }:=by
 have hk3:∀b o,s.heap.get? b=some o->(s.heap.push { cls:=.type "list",data:=.seq #[] }).get? b=some o:=fun b o e=>Heap.get?_push_of_some _ e
 have sz3:(s.heap.push { cls:=.type "list",data:=.seq #[] }).objs.size=s.heap.objs.size+1:=Heap.size_push ..;have hk:∀b o,s.heap.get? b=some o->(pushCells ((s.heap.push { cls:=.type "list",data:=.seq #[] }).push { cls:=.type "dict",data:=.dict #[] }) scope.names).get? b=some o :=
  fun b o e=>pushCells_keeps _ _ b o (Heap.get?_push_of_some _ (hk3 b o e))
 have cf:=qL5 (h3:=s.heap.push { cls:=.type "list",data:=.seq #[] }) I O hk3;rw[sz3]at cf;have hC:H (s.heap.objs.size+1)=none:=I.hok.fresh (hBh _);have nsC:(pushCells ((s.heap.push { cls:=.type "list",data:=.seq #[] }).push { cls:=.type "dict",data:=.dict #[] }) scope.names).Ns (s.heap.objs.size+1) (fun _=>none):=by
  rw[<-sz3];exact(Heap.Ns.new _ _).keeps (pushCells_keeps _ _)
 have has:∀x,(scope.names.lookup x=some .cell\/scope.names.lookup x=some .free)->∃c,(cellsFrom (s.heap.objs.size+1+1) scope.names (qC0 X.env.cells scope.names [])).lookup x=some c:=fun x hx=>by
  refine Option.isSome_iff_exists.mp (hDh _ _ _ ?_);rcases hx with z|z
  ·exact .inl z
  ·exact .inr (qFh (.inl (hBz z)))
 have kindB:∀x,(qD1 X.env scope (s.heap.objs.size+1)).kindOf x=(scope.names.lookup x).map fun k=>if (k == NameKind.free && X.env.scope.kind == .function && X.env.scope.names.lookup x == some .cell) then NameKind.cell else k:=fun x=>qFr
 have cellOk:∀x c,(qD1 X.env scope (s.heap.objs.size+1)).cells.lookup x=some c->∃v,(pushCells ((s.heap.push { cls:=.type "list",data:=.seq #[] }).push { cls:=.type "dict",data:=.dict #[] }) scope.names).IsCell c v:=fun x c h=>by
  rcases cf.1 x c h with q|q
  ·exact⟨_,q.1⟩
  ·obtain⟨v,z⟩:=I.cell x c q.2;exact⟨v,z.keeps hk⟩
 refine⟨⟨I.ok.mod,O.kind,I.ok.glob,I.ok.blt,hBh _,fun x y c h1 h2=>cf.2 x y c h1 h2,fun x hx=>?_,fun x c hx h=>?_,I.ok.hd,I.ok.frames,.inl rfl,fun b hb=>?_,fun b o e=>I.bs b o e,hAq I.ok.bsz I.sz,fun b o e hb=>?_,fun b hb=>?_,I.stack,I.stkFree⟩,
  rfl,I.bare,Un.kept hk,⟨fun _=>none,nsC,fun i x v h1 h2 h3=>?_⟩,cellOk,hC,fun x c h=>?_,fun p hp=>?_,I.hok.kept hk,?_⟩
 ·-- has
  refine has x ?_;have hx:(qD1 X.env scope (s.heap.objs.size+1)).kindOf x=some .cell\/(qD1 X.env scope (s.heap.objs.size+1)).kindOf x=some .free:=hx;rw[kindB]at hx;cases e:scope.names.lookup x with
  |none=>rw[e]at hx;rcases hx with z|z <;> cases z
  |some k =>
   rw[e]at hx;cases k with
   |cell=>exact .inl rfl
   |free=>exact .inr rfl
   |_=>exfalso;rcases hx with z|z <;> simp at z
 ·-- cab
  rcases cf.1 x c h with q|q
  ·have:=q.2.1;show s.heap.objs.size<=c;omega
  ·exfalso;have e:=qCj O.nd q.1;have hx':(!(scope.names.lookup x == some NameKind.free))=true:=hx;rw[e]at hx';exact absurd hx' (by decide)
 ·-- exf
  obtain⟨f0,f1,f2,f3,f4,f5⟩:=hf b hb;have lt:=hfl b hb;refine⟨fun e=>?_,fun x c h e=>?_⟩
  ·have e':b=s.heap.objs.size+1:=e;rw[e']at lt;exact absurd lt (Nat.not_lt.mpr (hBh _))
  ·rcases cf.1 x c h with q|q
   ·have z:=q.2.1;rw[e]at z;exact absurd lt (Nat.not_lt.mpr (hAq (hAq (hBh _) (hBh _)) z))
   ·exact f4 x c q.2 e
 ·-- noex
  obtain⟨f0,f1,f2,f3,f4,f5⟩:=hf b hb;rcases f3 with z|z
  ·exact I.ok.noex b o e z
  ·exact absurd (hAi (Heap.lt_size (I.ok.bs b o e).1) z) (hCk _)
 ·-- exfs
  obtain⟨f0,f1,f2,f3,f4,f5⟩:=hf b hb;exact fun z=>f2 (qO7 I z f1)
 ·-- loc
  have h1':N'[i]?=some x:=h1;have hsub:∃k,sub[i]?=some (some k)/\(σ[k]?).join=some v:=by
   unfold subσ at h2;rw[hAe]at h2;cases e:sub[i]? with
   |none=>rw[e]at h2;cases h2
   |some o =>
    rw[e]at h2;cases o with
    |none=>cases h2
    |some k=>exact⟨k,rfl,by simpa using h2⟩
  obtain⟨k,hk1,hk2⟩:=hsub;obtain⟨nk,fx⟩:=O.sub i k x hk1 h1';have sk:σ[k]?=some (some v):=by
   cases e:σ[k]? with
   |none=>rw[e]at hk2;cases hk2
   |some o=>rw[e]at hk2;cases o with
    |none=>cases hk2
    |some y=>cases hk2;rfl
  have cx:=O.free _ (hBz fx) rfl;obtain⟨m,hn,hl⟩:=I.loc;obtain⟨u,ru,lk⟩:=hl k x v nk sk (by
   rcases cx with z|z
   ·exact .inr (.inl z)
   ·exact .inr (.inr z))
  refine⟨u,ru,.inr ⟨?_,?_⟩⟩
  ·show(qD1 X.env scope (s.heap.objs.size+1)).kindOf x=some .cell\/(qD1 X.env scope (s.heap.objs.size+1)).kindOf x=some .free;rw[kindB,fx];by_cases hc:(NameKind.free == NameKind.free && X.env.scope.kind == .function && X.env.scope.names.lookup x == some .cell)=true
   ·exact .inl (by rw[Option.map_some,if_pos hc])
   ·exact .inr (by rw[Option.map_some,if_neg hc])
  ·rcases lk with ⟨kl,_⟩|⟨_,c,hc,hcell⟩
   ·exfalso;have kl':X.env.scope.names.lookup x=some .local:=kl;rcases cx with z|z <;> rw[kl']at z <;> cases z
   ·obtain⟨c',hc'⟩:=has x (.inr fx);refine⟨c',hc',?_⟩;rcases cf.1 x c' hc' with q|q
    ·exfalso;have e:=qCj O.nd q.2.2;rw[fx]at e;cases e
    ·rw[hc]at q;have e:c=c':=hAm q.2;subst e;exact hcell.keeps hk
 ·-- freeC
  rcases cf.1 x c h with q|q
  ·exact I.hok.fresh (by have:=q.2.1;omega)
  ·exact I.freeC x c q.2
 ·-- pin
  have hp':p=(s.heap.objs.size,({ cls:=.type "list",data:=.seq #[] }:Obj)):=by
   have:p∈([]++[(s.heap.objs.size,({ cls:=.type "list",data:=.seq #[] }:Obj))]:List (Addr×Obj)):=hp
   simpa using this
  subst hp';refine⟨pushCells_keeps _ _ _ _ (Heap.get?_push_of_some _ (Heap.get?_push_size _ rfl)),I.hok.fresh (hA7 _),hAp (hC1 _),fun z=>?_,fun v z=>?_⟩
  ·rcases hAf.mp (I.stkSub _ z) with e|e
   ·exact absurd I.lt (by rw[<-e];exact hCk _)
   ·exact I.nofs (hA7 _) e
  ·cases z
 ·-- len
  show(subσ sub σ).length=N'.length;unfold subσ;rw[hA1,O.len]
end
def Sle(σ σ2:St):Prop:=σ2.length=σ.length/\∀(i:Nat) (v:V),σ[i]?=some (some v)->σ2[i]?=some (some v)
theorem Sle.refl(σ:St):Sle σ σ:=⟨rfl,fun _ _ h=>h⟩
theorem Sle.set(v:V)(h:Sle σ σ2)(hi:∀u,σ[i]?≠some (some u)):Sle σ (σ2.set i (some v)):=by
 refine⟨by rw[List.length_set];exact h.1,fun j u hj=>?_⟩;have ne:i≠j:=fun e=>hi u (by rw[e];exact hj)
 rw[List.getElem?_set_ne ne];exact h.2 j u hj
def PTs(X:Cx)(ifs:List Expr)(t:TT):Prop :=
 ∀(pins:List (Addr×Obj)) (s:Shared) (σ:St) (H:Hp) (Q:Bool->Hp->Prop),Inv X pins σ H s->t σ H Q ->
  wpAny (model X.prog X.w) X.A (forIn ifs true fun c r=>if r=true then do let ok ← isTrue c X.env (eval c X.env);pure (ForInStep.yield ok) else pure (ForInStep.yield r)) (TP X pins σ Q) X.xe s
def qW6:TT:=fun _ H Q=>Q true H
theorem qAz:PTs X [] qW6:=fun pins s σ H Q I h=>wpAny_tests_nil ⟨H,I,h⟩
theorem qBl(h:PT X c t):PTs X [c] t:=fun pins s σ H Q I hw=>wpAny_tests_one (h pins s σ H Q I hw)
def qDj(J:It)(σ0:St)(g:TG)(tt:TT)(te:TE)(Q:List V->Hp->Prop)(H1:Hp):Prop :=
 ∃W:Nat->Nat->List V->Hp->Prop,(∃m,W 0 m [] H1)/\∀i m ys H,W i m ys H ->
  (J.stop i H/\Q ys H) \/
  (J.go i H/\∀x H',J.yld i H x H'->g x σ0 H' fun σ2 H2=>Sle σ0 σ2/\tt σ2 H2 fun b H3 =>
   if b=true then te σ2 H3 (fun v H4=>ys.length<sizeLine/\∃m',m'<m/\W (i+1) m' (ys++[v]) H4) else ∃m',m'<m/\W (i+1) m' ys H3)
section
variable{X:Cx}{pins:List (Addr×Obj)}{σ:St}{H:Hp}{s:Shared}
theorem qKc{target iter elt:Expr}{ifs:List Expr}{scope:Scope}{pos:Pos}{N':List Str}{sub:List (Option Nat)}{J:It}{fp:List Addr}{it:Addr}{tn:Nat->Heap->Prop}{g:TG}{tt:TT}{te:TE}
  {Qe:List V->Hp->Prop} {E:Value->Shared->Prop} {RR:Value->Addr->Result->Shared->Prop}
  (hc:X.calm=true) (I:Inv X pins σ H s) (O:CmpOk X.N X.env.scope N' scope sub) (T:Turn X.prog X.w X.K target J fp it tn) (st:tn 0 s.heap) (hf:∀b∈fp,qPh X pins H b)
  (B:∀C s H fp,PG (qDi X scope N' C s H fp) target g/\PTs (qDi X scope N' C s H fp) ifs tt/\PE (qDi X scope N' C s H fp) elt te)
  (rd:qDj J (subσ sub σ) g tt te Qe H)
  (hRR:∀(acc C:Addr) (ys:List V) (H':Hp) (s':Shared),Inv X pins σ (upd H' acc (.lst ys)) s'->qPh X pins (upd H' acc (.lst ys)) C->(∃m,s'.heap.Ns C m)->H' acc=none->Qe ys H'->RR (.ref acc) C (.ok .next) s') :
  wpAny (model X.prog X.w) X.A (newList []) (fun acc s₃=>wpAny (model X.prog X.w) X.A (newFunctionEnv scope X.env.globals (qC0 X.env.cells scope.names []) [] X.env.qual none .none (some X.env)) (fun cenv s₄ =>
   codeAny (model X.prog X.w) X.A (.compStart (.ListComp elt [⟨target,iter,ifs,0⟩] scope pos) 0 (.ref it) acc { cenv with scope:=relabel scope X.env }) (RR acc cenv.locals) s₄) E s₃) E s:=by
 refine wpAny_newObj_type (qH2 ?_);have hfl:∀b∈fp,b<s.heap.objs.size:=fun b hb=>by
  obtain⟨o,e,_⟩:=T.obj _ _ st b hb;exact Heap.lt_size e
 have I0:=qU0 (sub:=sub) I O hf hfl;have sz3:(s.heap.push { cls:=.type "list",data:=.seq #[] }).objs.size=s.heap.objs.size+1:=Heap.size_push ..;dsimp only;show codeAny _ _ (.compStart _ 0 (.ref it) (.ref s.heap.objs.size) { scope:=relabel scope X.env,locals:=(s.heap.push { cls:=.type "list",data:=.seq #[] }).objs.size,globals:=X.env.globals,cells:=cellsFrom ((s.heap.push { cls:=.type "list",data:=.seq #[] }).objs.size+1) scope.names (qC0 X.env.cells scope.names []),qual:=X.env.qual,func:=none,code:=X.env.code,frame:=X.env.frame,builtins:=X.env.builtins })
  (RR (.ref s.heap.objs.size) (s.heap.push { cls:=.type "list",data:=.seq #[] }).objs.size) { s with heap:=pushCells ((s.heap.push { cls:=.type "list",data:=.seq #[] }).push { cls:=.type "dict",data:=.dict #[] }) scope.names }
 rw[sz3];show codeAny _ _ (.compStart _ 0 (.ref it) (.ref s.heap.objs.size) (qD1 X.env scope (s.heap.objs.size+1))) (RR (.ref s.heap.objs.size) (s.heap.objs.size+1)) _;generalize hs0:({ s with heap:=pushCells ((s.heap.push { cls:=.type "list",data:=.seq #[] }).push { cls:=.type "dict",data:=.dict #[] }) scope.names }:Shared)=s0 at I0 ⊢;have hk0:∀b o,s.heap.get? b=some o->s0.heap.get? b=some o:=fun b o e=>by
  rw[<-hs0];exact pushCells_keeps _ _ b o (Heap.get?_push_of_some _ (Heap.get?_push_of_some _ e))
 have st0:tn 0 s0.heap:=T.keep _ _ _ st fun b hb o e=>hk0 b o e
 clear hs0 sz3;generalize hX:qDi X scope N' (s.heap.objs.size+1) s H fp=X' at I0;have xp:X'.prog=X.prog:=by rw[<-hX];rfl
 have xw:X'.w=X.w:=by rw[<-hX];rfl
 have xK:X'.K=X.K:=by rw[<-hX];rfl
 have xA:X'.A=X.A:=by rw[<-hX];rfl
 have xc:X'.calm=true:=by rw[<-hX];exact hc
 have xe:X'.env=qD1 X.env scope (s.heap.objs.size+1):=by rw[<-hX];rfl
 have xx:X'.ex=fp:=by rw[<-hX];rfl
 have xo:X'.outer=X.stack:=by rw[<-hX];rfl
 have xf:X'.fs=frs X.stack:=by rw[<-hX];rfl
 have xpn:X'.pn=[]:=by rw[<-hX];rfl
 have x0:X'.s₀=s:=by rw[<-hX];rfl
 have xh:X'.H₀=H:=by rw[<-hX];rfl
 have xxe:X'.xe=fun _ _=>False:=by rw[<-hX];rfl
 obtain⟨hg,ht,he⟩:=B (s.heap.objs.size+1) s H fp;rw[hX]at hg ht he;clear hX;have stat:∀ {pl:List (Addr×Obj)} {H':Hp},(∀p∈pl,p.1=s.heap.objs.size)->(∀b∈fp,H' b=none)->∀b∈fp,qPh X' pl H' b:=fun {pl H'} hp hn b hb=>by
  obtain⟨f0,f1,f2,f3,f4,f5⟩:=hf b hb;refine⟨hn b hb,(I0.ok.exf b (by rw[xx];exact hb)).1,I0.ok.exfs b (by rw[xx];exact hb),.inl (by rw[xx];exact hb),(I0.ok.exf b (by rw[xx];exact hb)).2,fun p hp'=>?_⟩;rw[xpn,List.nil_append]at hp';rw[hp p hp'];exact hBx (hfl b hb)
 obtain⟨W,⟨m0,w0⟩,turn⟩:=rd;have loop:∀s3:Shared,s3=s0->codeAny (model X.prog X.w) X.A (.compLoop (.ListComp elt [⟨target,iter,ifs,0⟩] scope pos) 0 (.ref it) (.ref s.heap.objs.size) (qD1 X.env scope (s.heap.objs.size+1))) (RR (.ref s.heap.objs.size) (s.heap.objs.size+1)) s3:=by
  intro s3 e3;refine qKd (fun n s'=>∃(i:Nat) (ys:List V) (H':Hp) (its:List Value) (k:Nat),Inv X' [(s.heap.objs.size,{ cls:=.type "list",data:=.seq its.toArray k })] (subσ sub σ) H' s'/\qBa ys its/\ys.length<=sizeLine/\tn i s'.heap/\(∀b∈fp,H' b=none)/\W i n ys H') ?_ m0
   ⟨0,[],H,[],0,by rw[e3];exact I0,.nil,hAo _,by rw[e3];exact st0,fun b hb=>(hf b hb).1,w0⟩
  rintro n s4 ⟨i,ys,H4,its,k,I4,rv,hz,st4,fr4,w4⟩;have pe:∀p∈([(s.heap.objs.size,({ cls:=.type "list",data:=.seq its.toArray k }:Obj))]:List (Addr×Obj)),p.1=s.heap.objs.size:=fun p hp=>by
   rw[hAd]at hp;rw[hp]
  rcases turn i n ys H4 w4 with ⟨stop,q⟩|⟨go,step⟩
  ·-- the end
   have td:=T.done X' xp xw xK xc i _ s4 (subσ sub σ) H4 (fun _ _=>False) I4 (stat pe fr4) st4 stop;rw[xA]at td;refine thn td fun r s5 ⟨hr,I5⟩=>?_
   subst hr;have pa:=I5.pin (s.heap.objs.size,{ cls:=.type "list",data:=.seq its.toArray k }) (by rw[xpn];simp);have nacc:H4 s.heap.objs.size=none:=pa.2.1;have nC:H4 (s.heap.objs.size+1)=none:=by have z:=I5.free;rw[xe]at z;exact z
   have un:Un (frs X.stack) fp H H4 s.heap s5.heap:=by have z:=I5.base;rw[xf,xx,xh,x0]at z;exact z
   have un2:Un (frs X.stack) fp H (upd H4 s.heap.objs.size (.lst ys)) s.heap s5.heap:=by
    refine⟨un.keep,un.slot,fun b o e n hx=>?_,un.there,fun b xs e=>?_,fun b o u e=>?_,fun b ps e=>?_⟩
    ·rw[qAl (hAp (Heap.lt_size e))];exact un.free b o e n hx
    ·have z:=un.tups b xs e;rw[qAl (qAo z nacc)];exact z
    ·have z:=un.frzs b o u e;rw[qAl (qAo z nacc)];exact z
    ·obtain⟨more,z⟩:=un.tbls b ps e;exact⟨more,by rw[qAl (qAo z nacc)];exact z⟩
   have hok5:HOk X.prog X.w H4 s5.heap:=by have z:=I5.hok;rw[xp,xw]at z;exact z
   have hok2:HOk X.prog X.w (upd H4 s.heap.objs.size (.lst ys)) s5.heap:=fun b u e=>by
    by_cases hb:b=s.heap.objs.size
    ·subst hb;rw[upd_same]at e;cases e;exact⟨hz,its,k,rv,pa.1⟩
    ·rw[qAl hb]at e;exact(hok5 b u e).stay (fun _ _ _ q=>q) (fun c q=>by rw[qAl (qAo q nacc)];exact q) fun c xs q=>by rw[qAl (qAo q nacc)];exact q
   have os5:s5.os=s.os:=by have z:=I5.os;rw[x0]at z;exact z
   have J5:Inv X pins σ (upd H4 s.heap.objs.size (.lst ys)) s5:=I.call' os5 un2 hok2 I5.bare fun b hb=>by
    obtain⟨f0,f1,f2,f3,f4,f5⟩:=hf b hb;exact⟨f3,f1,f4,f5⟩
   refine hRR _ _ ys H4 s5 J5 (I.fpOk (hBh _) ?_) ?_ nacc q
   ·rw[qAl (Nat.succ_ne_self _)];exact nC
   ·obtain⟨m,hn,_⟩:=I5.loc;rw[xe]at hn;exact⟨m,hn⟩
  ·-- one turn
   have ti:=T.item X' xp xw xK xc i _ s4 (subσ sub σ) H4 (fun _ _=>False) I4 (stat pe fr4) st4 go;rw[xA]at ti;refine thn ti fun r s5 ⟨u,hr,h5⟩=>?_
   subst hr;refine thn h5 fun _ s6 ⟨x,H6,I6,r6,y6,st6,fr6⟩=>?_
   have I6':=I6.pinned (stat pe fr6) (T.obj _ _ st6);have tg:=hg _ s6 (subσ sub σ) H6 x u _ I6' r6 (step x H6 y6);rw[xp,xw,xA,xe,xxe]at tg;refine thn tg fun _ s7 ⟨σ7,H7,I7,le7,q7⟩=>?_
   have tts:=ht _ s7 σ7 H7 _ I7 q7;rw[xp,xw,xA,xe,xxe]at tts;refine thn tts fun b s8 ⟨H8,I8,q8⟩=>?_
   cases b with
   |false =>
    rw[if_neg hAu]at q8 ⊢;obtain⟨m',hm',w8⟩:=q8;have I9:Inv X' ([(s.heap.objs.size,{ cls:=.type "list",data:=.seq its.toArray k })]++qHs fp s6.heap) (subσ sub σ) H8 s8:=I8.weak le7.1.symm le7.2;refine⟨m',hm',i+1,ys,H8,its,k,I9.unpinned,rv,hz,T.keep _ _ _ st6 fun b hb o e=>(I9.pin (b,o) (hA9 _ (hA9 _ (qCk hb e)))).1,fun b hb=>?_,w8⟩;obtain⟨o,e,d⟩:=T.obj _ _ st6 b hb;exact(I9.pin (b,o) (hA9 _ (hA9 _ (qCk hb e)))).2.1
   |true =>
    rw[if_pos rfl]at q8 ⊢;have tee:=he _ s8 σ7 H8 _ I8 q8;rw[xp,xw,xA,xe,xxe]at tee;refine thn tee fun vv s9 ⟨v,H9,I9,r9,lz,m',hm',w9⟩=>?_
    have I10:Inv X' ([(s.heap.objs.size,{ cls:=.type "list",data:=.seq its.toArray k })]++qHs fp s6.heap) (subσ sub σ) H9 s9:=I9.weak le7.1.symm le7.2;have pa:=I10.pin (s.heap.objs.size,{ cls:=.type "list",data:=.seq its.toArray k }) (by rw[xpn];simp);have hlen:=rv.length;refine wpAny_list_append_plain (items:=its.toArray) ⟨k,pa.1⟩ (fun h' pl sb=>?_) (by rw[hAb];omega);obtain⟨k',pl⟩:=pl;have keepIt:∀b∈fp,∀o,s6.heap.get? b=some o->h'.get? b=some o:=fun b hb o e=>by
     have nb:b≠s.heap.objs.size:=hAp (hfl b hb);exact(sb.2 b nb).trans (I10.pin (b,o) (hA9 _ (hA9 _ (qCk hb e)))).1
    have I11:Inv X' [] (subσ sub σ) H9 s9:=I10.pins_of fun p hp=>absurd hp (by simp)
    have sacc:s.heap.objs.size≠X'.env.locals:=pa.2.2.1;have I12:Inv X' [] (subσ sub σ) H9 { s9 with heap:=h' }:=I11.turned (t':=s9.toks) (it:=s.heap.objs.size) (fun b o hb e=>(sb.2 b hb).trans e) pa.2.1 sacc (.inr (by rw[x0];exact hA7 _))
     (fun y c hy z=>by
      obtain⟨w',o',ho',hd'⟩:=I10.cell y c hy;rw[z,pa.1]at ho';have z2:=hAm ho';rw[<-z2]at hd';cases hd') (fun p hp=>absurd hp (by rw[xpn];simp))
    refine⟨m',hm',i+1,ys++[v],H9,its++[vv],k',I12.pins_of (fun p hp=>?_),rv.append (.cons r9 .nil),by rw[hAa,List.length_singleton];omega,T.keep _ _ _ st6 keepIt,fun b hb=>?_,w9⟩
    ·rw[hAd]at hp;subst hp;refine⟨?_,pa.2.1,sacc,pa.2.2.2.1,fun v z=>by cases z⟩;show h'.get? s.heap.objs.size=_;rw[pl];simp
    ·obtain⟨o,e,d⟩:=T.obj _ _ st6 b hb;exact(I10.pin (b,o) (hA9 _ (hA9 _ (qCk hb e)))).2.1
 exact codeAny_compStart_list (loop _ rfl) (T.self _ 0 _ _ _ st0 (loop _ rfl))
end
def qTl(sub:List (Option Nat))(wi:TI)(g:TG)(tt:TT)(te:TE):TE:=fun σ H Q=>wi σ H fun J H1 =>
 qDj J (subσ sub σ) g tt te (fun ys H'=>∀r,H' r=none->Q (.ref r) (upd H' r (.lst ys))) H1
section
variable{X:Cx}{target iter elt:Expr}{ifs:List Expr}{scope:Scope}{pos:Pos}{N':List Str}{sub:List (Option Nat)}{wi:TI}{g:TG}{tt:TT}{te:TE}
theorem qSy(I:Inv X pins σ H s)(O:CmpOk X.N X.env.scope N' scope sub):closureFor scope X.env=pure (qC0 X.env.cells scope.names []) :=
 qI0 fun x hx hf=>I.ok.has x.1 (by rcases O.free x hx hf with z|z;exact .inl z;exact .inr z)
theorem qNl(O:CmpOk X.N X.env.scope N' scope sub):∀y∈scope.names,y.2 = .local->scope.names.lookup y.1=some .local:=fun y hy e=>by
 obtain⟨n,k⟩:=y;cases e;exact qCj O.nd hy
theorem qX5(hc:X.calm=true)(O:CmpOk X.N X.env.scope N' scope sub)(hi:PI X target iter wi)
  (B:∀C s H fp,PG (qDi X scope N' C s H fp) target g/\PTs (qDi X scope N' C s H fp) ifs tt/\PE (qDi X scope N' C s H fp) elt te)
  (hs:∀x,foldedSetIterable iter X.env x=pure x:=by intro _;rfl):PE X (.ListComp elt [⟨target,iter,ifs,0⟩] scope pos) (qTl sub wi g tt te):=by
 intro pins s σ H Q I h;rw[eval_ListComp];refine wpAny_comprehension_free (use:=none) rfl hs (qSy I O) O.kind (qNl O) (thn (hi pins s σ H _ I h) fun v s1 h1=>thn h1 fun itv s2 h2=>?_);obtain⟨it,fp,tn,J,H2,e,I2,T,st2,f2,rd⟩:=h2;subst e;refine qKc (RR:=fun acc C=>compPost (model X.prog X.w) X.A X.xe none (EP X pins σ Q) acc C) hc I2 O T st2 f2 B rd fun acc C ys H' s' I' fC hn na q=>?_
 obtain⟨m,hn⟩:=hn;obtain⟨f0,f1,f3,f4,f5,f6⟩:=fC;refine⟨m,hn,fun h' sb=>?_⟩;exact⟨.ref acc,upd H' acc (.lst ys),I'.turned (t':=s'.toks) (it:=C) (fun b o hb e=>(sb.2 b hb).trans e) f0 f1 f4 f5 f6,rfl,q acc na⟩
theorem qXz(hc:X.calm=true)(O:CmpOk X.N X.env.scope N' scope sub)(hi:PI X target iter wi)
  (B:∀C s H fp,PG (qDi X scope N' C s H fp) target g/\PTs (qDi X scope N' C s H fp) ifs tt/\PE (qDi X scope N' C s H fp) elt te)
  (hN:X.N.Nodup) (hy:X.N[i]?=some y) (hx:Loc X.env.scope y)
  (hsw:swapsWith (.ListComp elt [⟨target,iter,ifs,0⟩] scope pos) (some (.Name y py)) spos.line X.env=pure true)
  (hs:∀x,foldedSetIterable iter X.env x=pure x:=by intro _;rfl) (hf:X.fn y=true\/X.env.scope.names.lookup y=some .local:=by first|exact .inl rfl|exact .inr rfl|assumption) :
  PS X (.Assign [.Name y py] (.ListComp elt [⟨target,iter,ifs,0⟩] scope pos) spos) (zBu (qTl sub wi g tt te) (qU7 i)):=by
 intro pins s σ H D I h;rw[exec_Assign_Name_used _ _ _ _ hsw];refine wpAny_bind (wpAny_standAt (wpAny_bind ?_));show wpAny _ _ (do let _ ← comprehension (.ListComp elt [⟨target,iter,ifs,0⟩] scope pos) scope X.env _ (newList []) false (eval iter X.env) (some (assign (.Name y py) X.env))) _ _ s;refine wpAny_bind (wpAny_mono (wpAny_comprehension_free (use:=some (assign (.Name y py) X.env)) (Q:=fun _ s'=>SP X pins D .next s') rfl hs (qSy I O) O.kind (qNl O)
  (thn (hi pins s σ H _ I h) fun v s1 h1=>thn h1 fun itv s2 h2=>?_)) (fun _ s' hq=>wpAny_pure (wpAny_pure hq)) fun _ _ e=>e)
 obtain⟨it,fp,tn,J,H2,e,I2,T,st2,f2,rd⟩:=h2;subst e;refine qKc (RR:=fun acc C=>compPost (model X.prog X.w) X.A X.xe (some (assign (.Name y py) X.env)) (fun _ s'=>SP X pins D .next s') acc C) hc I2 O T st2 f2 B rd fun acc C ys H' s' I' fC hn na q=>?_
 obtain⟨m,hn⟩:=hn;obtain⟨f0,f1,f3,f4,f5,f6⟩:=fC;show wpAny _ _ (assign (.Name y py) X.env (.ref acc)) _ _ s';refine wpAny_assign_Name (qJc (v:=.ref acc) I' hN hy hx rfl (fun s'' I'' ⟨a,sb,ha⟩=>?_) hf);have nCa:C≠a:=by
  rcases ha with z|z
  ·rw[z];exact f1
  ·exact fun e=>f5 _ _ z e.symm
 refine⟨m,hn.sameBut sb nCa,fun h' sb'=>?_⟩;exact⟨_,upd H' acc (.lst ys),I''.turned (t':=s''.toks) (it:=C) (fun b o hb e=>(sb'.2 b hb).trans e) f0 f1 f4 f5 f6,q acc na⟩
end
section
variable{σ0:St}{g:TG}{tt:TT}{te:TE}{Q:List V->Hp->Prop}{H1:Hp}
def Nxt(n i:Nat)(Pv:Nat->List V->Hp->Prop)(ys:List V)(H:Hp):Prop:=∃m',m'<n - i/\m'=n - (i+1)/\i+1<=n/\Pv (i+1) ys H
theorem nxt(hi:i<n)(h:Pv (i+1) ys H):Nxt n i Pv ys H:=⟨_,by omega,rfl,hi,h⟩
theorem qAr{K:PySem.W.Frag}{a:Addr}{xs:List V}(Pv:Nat->List V->Hp->Prop)(h0:Pv 0 [] H1)(hl:∀i ys H,i<=xs.length->Pv i ys H->SqL K H a xs)
  (hs:∀i x ys H,xs[i]?=some x->Pv i ys H->g x σ0 H fun σ2 H2=>Sle σ0 σ2/\tt σ2 H2 fun b H3=>if b=true then te σ2 H3 (fun v H4=>ys.length<sizeLine/\Nxt xs.length i Pv (ys++[v]) H4) else Nxt xs.length i Pv ys H3)
  (hd:∀ys H,Pv xs.length ys H->Q ys H):qDj (Itl K a) σ0 g tt te Q H1:=by
 refine⟨fun i m ys H=>m=xs.length - i/\i<=xs.length/\Pv i ys H,⟨xs.length,by simp,hAo _,h0⟩,?_⟩;rintro i m ys H ⟨rfl,hi,p⟩;have q:=hl i ys H hi p;by_cases hlt:i<xs.length
 ·refine .inr ⟨⟨xs,xs[i],q,by simp[hlt]⟩,fun x H' y=>?_⟩;obtain⟨e,y⟩:=y;subst e;exact hs i x ys _ (y xs q) p
 ·have e:i=xs.length:=by omega
  subst e;exact .inl ⟨⟨xs,q,hA7 _⟩,hd ys H p⟩
theorem qD2{lo:Int}{n:Nat}(Pv:Nat->List V->Hp->Prop)(h0:Pv 0 [] H1)
  (hs:∀i ys H,i<n->Pv i ys H->g (.int (lo+i)) σ0 H fun σ2 H2=>Sle σ0 σ2/\tt σ2 H2 fun b H3=>if b=true then te σ2 H3 (fun v H4=>ys.length<sizeLine/\Nxt n i Pv (ys++[v]) H4) else Nxt n i Pv ys H3)
  (hd:∀ys H,Pv n ys H->Q ys H):qDj (Itr lo n) σ0 g tt te Q H1:=by
 refine⟨fun i m ys H=>m=n - i/\i<=n/\Pv i ys H,⟨n,by simp,hAo _,h0⟩,?_⟩;rintro i m ys H ⟨rfl,hi,p⟩;by_cases hlt:i<n
 ·refine .inr ⟨hlt,fun x H' y=>?_⟩;obtain⟨e,y⟩:=y;subst e y;exact hs i ys _ hlt p
 ·have e:i=n:=by omega
  subst e;exact .inl ⟨hA7 _,hd ys H p⟩
end
end L2
namespace L2
open PySem PySem.Spec PyProof.Rows PySem.SeqAt
mutual
inductive DR (K:PySem.W.Frag) (H:Hp):V->PyData->Prop
 |non:DR K H .non .none
 |bl (b:Bool):DR K H (.bl b) (.bool b)
 |int (i:Int):DR K H (.int i) (.int i)
 |str (x:Str):DR K H (.str x) (.str x)
 |lst {a:Addr} {xs:List V} {ds:List PyData}:SqL K H a xs->DRs K H xs ds->DR K H (.ref a) (.list ds)
 |tup {a:Addr} {xs:List V} {ds:List PyData}:SqT K H a xs->DRs K H xs ds->DR K H (.ref a) (.tuple ds)
inductive DRs (K:PySem.W.Frag) (H:Hp):List V->List PyData->Prop
 |nil:DRs K H [] []
 |cons {v:V} {d:PyData} {vs:List V} {ds:List PyData}:DR K H v d->DRs K H vs ds->DRs K H (v :: vs) (d :: ds)
end
section
variable{X:Cx}{pins:List (Addr×Obj)}{σ:St}{H:Hp}{s:Shared}
mutual
theorem DR.reads(I:Inv X pins σ H s):∀ {v:V} {d:PyData} {u:Value},DR X.K H v d->qCi v u->∃as,Reads s.heap u d as
 |_,_,_,.non,r=>by cases r;exact⟨_,.none⟩
 |_,_,_,.bl b,r=>by cases r;exact⟨_,.bool b⟩
 |_,_,_,.int i,r=>by obtain⟨t,rfl⟩:=r;exact⟨_,.int i t⟩
 |_,_,_,.str x,r=>by obtain⟨t,rfl⟩:=r;exact⟨_,.str x t⟩
 |_,_,_,.lst hq hd,r=>by
  cases r;obtain⟨its,rv,⟨o,n,e,c,_,dt⟩,_⟩:=I.list hq;obtain⟨as,ra⟩:=DRs.reads I hd rv;exact⟨_,.list e c dt ra⟩
 |_,_,_,.tup hq hd,r=>by
  cases r;obtain⟨its,rv,⟨o,e,c,n,dt⟩,_⟩:=I.tuple hq;obtain⟨as,ra⟩:=DRs.reads I hd rv;exact⟨_,.tuple e c dt ra⟩
theorem DRs.reads(I:Inv X pins σ H s):∀ {vs:List V} {ds:List PyData} {us:List Value},DRs X.K H vs ds->qBa vs us->∃as,ReadsAll s.heap us ds as
 |_,_,_,.nil,r=>by cases r;exact⟨_,.nil⟩
 |_,_,_,.cons h t,r=>by
  cases r with
  |cons r rr =>
   obtain⟨a1,q1⟩:=DR.reads I h r;obtain⟨a2,q2⟩:=DRs.reads I t rr;exact⟨_,.cons q1 q2⟩
end
end
def zC4(K:PySem.W.Frag)(neg:Bool):R2:=fun x y H Q=>∃dx dy,DR K H x dx/\DR K H y dy/\shaped dx=true/\shaped dy=true/\Q (.bl (if neg then !PyData.eqv dx dy else PyData.eqv dx dy)) H
section
variable{X:Cx}
theorem qJu(hu:X.A.units+64<cLine):OpR X (compareOp .NotEq) (zC4 X.K true):=by
 intro pins s σ H x y v u Q I rx ry h;obtain⟨dx,dy,hx,hy,sx,sy,q⟩:=h;obtain⟨a1,r1⟩:=DR.reads I hx rx;obtain⟨a2,r2⟩:=DR.reads I hy ry;exact ne_dataH r1 r2 sx sy hu ⟨.bl (!PyData.eqv dx dy),H,I,rfl,q⟩
theorem qDm:∀ {us:List Value},qBa (ss.map V.str) us->StrsAre us ss:=by
 induction ss with
 |nil=>intro us r;cases r;exact .nil
 |cons a l ih =>
  intro us r;cases r with
  |cons r rr =>
   obtain⟨t,rfl⟩:=r;exact .cons a t (ih rr)
theorem qHu:∀ {us:List Value},StrsAre us ss->qBa (ss.map V.str) us:=by
 induction ss with
 |nil=>intro us r;cases r;exact .nil
 |cons a l ih =>
  intro us r;cases r with
  |cons _ _ r=>exact .cons ⟨_,rfl⟩ (ih r)
theorem qCc:qB9 X (.builtin "sorted") (fun xs H Q=>∃p ss,xs=[.ref p]/\SqL X.K H p (ss.map V.str)/\ss.length<64/\∀r ss',H r=none->ss'.Perm ss->sortedS ss'=true->Q (.ref r) (upd H r (.lst (ss'.map V.str)))):=by
 intro pins s σ H xs us Q I r h;obtain⟨p,ss,rfl,hq,h64,q⟩:=h;obtain⟨u,rfl,rx⟩:=qCl r;cases rx;obtain⟨its,rv,pl,hz⟩:=I.list hq;have hl:=rv.length;rw[hA1]at hl;refine sorted_strs pl.isList (qDm rv) (by omega) fun out ss' h1 h2 h3=>?_
 obtain⟨e,he⟩:=sortedAll_at s.heap its out;have nz:H (s.heap.objs.size+1)=none:=I.hok.fresh (hBh _);refine⟨.ref (s.heap.objs.size+1),_,I.laid (t':=s.toks) (a:=s.heap.objs.size+1) (o:=.lst (ss'.map V.str)) (fun b o eb=>sortedAll_old eb) (hBh _) ?_,rfl,q _ ss' nz h2 h3⟩;refine⟨?_,out.toList,e,qHu h1,by simpa using he⟩;rw[hA1,h2.length_eq];exact hB1 (qAi (by omega))
end
section
variable{X:Cx}
theorem qV7:SlR X (fun x lo hi H Q=>∃z:Str,x = .str z/\z.length<=sizeLine/\Q (.str (Txt.slice z lo hi)) H):=by
 intro pins s σ H x v vl vu lo hi sl Q I rx hs pl pu h;obtain⟨z,rfl,hz,q⟩:=h;obtain⟨t,rfl⟩:=rx;refine⟨"str",_,F.slot_str_getitem.lookup,typeIs_str _ _ _,?_⟩;obtain⟨o,ho,hc,hd⟩:=hs;have fin:∀t' k,EP X pins σ Q (.str (Txt.slice z lo hi) t') { s with toks:=k }:=fun t' k=>⟨.str (Txt.slice z lo hi),H,I.tok k,⟨t',rfl⟩,q⟩
 cases pl with
 |none =>
  cases pu with
  |none=>exact wpAny_getItem_str_slice (l:=none) (u:=none) (st:=none) ⟨o,ho,hc,hd⟩ rfl (post_val_or_str ⟨hAq (Txt.slice_le z _ _) hz,fin⟩)
  |int j uj=>exact wpAny_getItem_str_slice (l:=none) (u:=some (j,uj)) (st:=none) ⟨o,ho,hc,hd⟩ rfl (post_val_or_str ⟨hAq (Txt.slice_le z _ _) hz,fin⟩)
 |int i ui =>
  cases pu with
  |none=>exact wpAny_getItem_str_slice (l:=some (i,ui)) (u:=none) (st:=none) ⟨o,ho,hc,hd⟩ rfl (post_val_or_str ⟨hAq (Txt.slice_le z _ _) hz,fin⟩)
  |int j uj=>exact wpAny_getItem_str_slice (l:=some (i,ui)) (u:=some (j,uj)) (st:=none) ⟨o,ho,hc,hd⟩ rfl (post_val_or_str ⟨hAq (Txt.slice_le z _ _) hz,fin⟩)
theorem qCn:qB9 X (.builtin "isinstance") (fun xs H Q=>∃x t c b,xs=[x,.ty c]/\TyOf X.K H x t/\PySem.W.kitOne X.K t (.type c)=some b/\Q (.bl b) H):=by
 intro pins s σ H xs us Q I r h;obtain⟨x,t,c,b,rfl,ty,e,q⟩:=h;obtain⟨u,w',rfl,rx,rc⟩:=qPl r;cases(show w'=Value.type c from rc);exact qR5 I rx ty e fun tk=>⟨.bl b,H,I.tok tk,rfl,q⟩
end
section
variable{X:Cx}
theorem qU6(bs:List Bool)(d:Bool):(List.range bs.length).all (fun i=>bs.getD i d)=bs.all id:=by
 induction bs with
 |nil=>rfl
 |cons b r ih =>
  rw[hBu,hDi,List.all_cons,List.all_map,List.all_cons];have e:((fun i=>(b :: r).getD i d)∘Nat.succ)=fun i=>r.getD i d:=by
   funext i;simp
  rw[e,ih];simp
theorem qU5(bs:List Bool)(d:Bool):(List.range bs.length).any (fun i=>bs.getD i d)=bs.any id:=by
 induction bs with
 |nil=>rfl
 |cons b r ih =>
  rw[hBu,hDi,List.any_cons,List.any_map,List.any_cons];have e:((fun i=>(b :: r).getD i d)∘Nat.succ)=fun i=>r.getD i d:=by
   funext i;simp
  rw[e,ih];simp
theorem qVl{P:Program}{w:World}{A:Around}{bs:List Bool}{its:List Value}(rv:qBa (bs.map V.bl) its)(d:Bool):TruthOf P w A (fun i v=>its.toArray[i]?=some v) (fun i=>bs.getD i d):=by
 intro i v s Q E hv hQ;have hv':its[i]?=some v:=by simpa using hv
 have hi:i<its.length:=(hAk.mp hv').1;have hl:=rv.length;rw[hA1]at hl;have hb:(bs.map V.bl)[i]?=some (V.bl bs[i]):=by rw[hAe,hA2 (by omega)];rfl
 obtain⟨u,hu,ru⟩:=rv.get hb;rw[hv']at hu;have e:v=Value.bool bs[i]:=(hAm hu).trans ru;rw[e];have e2:bs.getD i d=bs[i]:=by rw[hA8,hA2 (by omega)];rfl
 have hQ:Q (bs.getD i d) s:=hQ;rw[e2]at hQ;exact wpAny_truthy_bool hQ
theorem qEw(hc:X.calm=true):qB9 X (.builtin "all") (fun xs H Q=>∃(p:Addr) (bs:List Bool),xs=[.ref p]/\SqL X.K H p (bs.map V.bl)/\Q (.bl (bs.all id)) H):=by
 intro pins s σ H xs us Q I r h;obtain⟨p,bs,rfl,hq,q⟩:=h;obtain⟨u,rfl,rx⟩:=qCl r;cases rx;obtain⟨its,rv,pl,hz⟩:=I.list hq;have hl:=rv.length;rw[hA1]at hl;have hne:p≠s.heap.objs.size:=by
  obtain⟨o,n,e,_⟩:=pl;exact hAp (Heap.lt_size e)
 have hh:=I.ok.hd hc;refine call_all_walk (wpAny_pyIter_list pl.isList ?_);refine⟨s.heap.objs.size,_,_,_,_,_,fun i=>bs.getD i true,rfl,Walks.list (by exact hh) _ p hne its.toArray,⟨⟨_,Heap.get?_push_size _ rfl,rfl,rfl⟩,pl.isList.at fun o e=>Heap.get?_push_of_some _ e⟩,qVl rv true,fun h' tk hk=>?_⟩;refine⟨.bl (bs.all id),H,I.kept (t':=tk) fun b o e=>hk b o ?_ (Heap.get?_push_of_some _ e),?_,q⟩
 ·intro z;rw[hAd]at z;exact absurd (Heap.lt_size e) (by rw[z];exact hCk _)
 ·show Value.bool _=Value.bool _;rw[hAb,<-hl,qU6]
theorem qS2(hc:X.calm=true):qB9 X (.builtin "any") (fun xs H Q=>∃(p:Addr) (bs:List Bool),xs=[.ref p]/\SqL X.K H p (bs.map V.bl)/\Q (.bl (bs.any id)) H):=by
 intro pins s σ H xs us Q I r h;obtain⟨p,bs,rfl,hq,q⟩:=h;obtain⟨u,rfl,rx⟩:=qCl r;cases rx;obtain⟨its,rv,pl,hz⟩:=I.list hq;have hl:=rv.length;rw[hA1]at hl;have hne:p≠s.heap.objs.size:=by
  obtain⟨o,n,e,_⟩:=pl;exact hAp (Heap.lt_size e)
 have hh:=I.ok.hd hc;refine call_any_walk (wpAny_pyIter_list pl.isList ?_);refine⟨s.heap.objs.size,_,_,_,_,_,fun i=>bs.getD i true,rfl,Walks.list (by exact hh) _ p hne its.toArray,⟨⟨_,Heap.get?_push_size _ rfl,rfl,rfl⟩,pl.isList.at fun o e=>Heap.get?_push_of_some _ e⟩,qVl rv true,fun h' tk hk=>?_⟩;refine⟨.bl (bs.any id),H,I.kept (t':=tk) fun b o e=>hk b o ?_ (Heap.get?_push_of_some _ e),?_,q⟩
 ·intro z;rw[hAd]at z;exact absurd (Heap.lt_size e) (by rw[z];exact hCk _)
 ·show Value.bool _=Value.bool _;rw[hAb,<-hl,qU5]
end
theorem qLp(t:SetTable)(n:Nat):(t.orStandIn n).led=t.led:=by
 unfold SetTable.orStandIn;split <;> rfl
theorem qO4(t:SetTable)(es:Array (Int×Value))(h:Int)(x:Value):(layNew t es h x).2.1.led=t.led:=by
 unfold layNew;split
 ·exact qLp _ _
 ·rfl
theorem qQz(t:SetTable)(es:Array (Int×Value))(k:Nat):(relayAll t es k).2.1.led=t.led:=by
 unfold relayAll;split
 ·rename_i u order e;have eu:u.led=t.led:=by
   unfold SetTable.relaid SetTable.laid at e;cases hc:SetTable.layClean (SetTable.sizeAbove k - 1) (es.map (·.1)) with
   |none=>rw[hc]at e;cases e
   |some o =>
    rw[hc]at e;injection e with e
    injection e with e1 e2
    rw[<-e1]
  dsimp only;split
  ·exact eu
  ·rfl
 ·rfl
theorem qLh(t:SetTable)(es:Array (Int×Value))(k:Nat)(hp:t.plain=false):(relayAll t es k).2.1.plain=false:=by
 unfold relayAll;split
 ·rename_i u order e;have eu:u.plain=t.plain:=by
   unfold SetTable.relaid SetTable.laid at e;cases hc:SetTable.layClean (SetTable.sizeAbove k - 1) (es.map (·.1)) with
   |none=>rw[hc]at e;cases e
   |some o =>
    rw[hc]at e;injection e with e
    injection e with e1 e2
    rw[<-e1]
  dsimp only;split
  ·exact eu.trans hp
  ·rfl
 ·rfl
def qB2(P:Program)(w:World)(h:Heap)(a:Addr)(ss:List Str):Prop :=
 ∃(es:Array (Int×Value)) (ep:Nat) (t:SetTable),h.get? a=some { cls:=.type "set",dict:=none,data:=.set es ep t,slots:=#[] }/\ElemsOf (PySem.strKind P w) es.toList /\
  StrsAre (es.toList.map (·.2)) ss/\es.size<scanBound/\t.fits es.size=true/\t.led=!w.params.followText "set-order"/\(es.size≠0->t.plain=false)
theorem qH4:∀ {vs:List Value} {ss:List Str},StrsAre vs ss->((∃v∈vs,Value.isStrOf x v=true)↔x∈ss)
 |_,_,.nil=>by simp
 |_,_,.cons y t r=>by
  have ih:=qH4 (x:=x) r;have hy:Value.isStrOf x (.str y t)=true↔x=y:=by
   constructor
   ·intro h;obtain⟨u,e⟩:=Value.isStrOf_shape h;cases e;rfl
   ·rintro rfl;simp[Value.isStrOf]
  constructor
  ·rintro⟨v,hv,hp⟩;rcases hAf.mp hv with rfl|hv
   ·rw[hy.mp hp];exact hA6
   ·exact hA4 _ (ih.mp ⟨v,hv,hp⟩)
  ·intro h;rcases hAf.mp h with h|h
   ·exact⟨_,hA6,hy.mpr h⟩
   ·obtain⟨v,hv,hp⟩:=ih.mpr h;exact⟨v,hA4 _ hv,hp⟩
theorem qPw{es es1:List (Int×Value)}{ss:List Str}{k:Int}{x:Str}{t:Tok}(hS:StrsAre (es.map (·.2)) ss)(p:es1.Perm (es++[(k,.str x t)])):∃ss1,StrsAre (es1.map (·.2)) ss1/\ss1.Perm (ss++[x]):=by
 have hall:∀v,v∈es1.map (·.2)->∃y u,v = .str y u:=by
  intro v hv;obtain⟨e,he,rfl⟩:=hAg.mp hv;rcases hAj.mp (p.mem_iff.mp he) with z|z
  ·exact hS.all _ (hBb z)
  ·rw[hAd]at z;subst z;exact⟨x,t,rfl⟩
 refine⟨_,strsAre_map _ hall,?_⟩;have q:=(p.map (·.2)).map strOf;rw[hA3,hA3,hS.strs]at q;exact q
theorem qE2{es es1:List (Int×Value)}{ss:List Str}(hS:StrsAre (es.map (·.2)) ss)(p:es1.Perm es):∃ss1,StrsAre (es1.map (·.2)) ss1/\ss1.Perm ss:=by
 have hall:∀v,v∈es1.map (·.2)->∃y u,v = .str y u:=by
  intro v hv;obtain⟨e,he,rfl⟩:=hAg.mp hv;exact hS.all _ (hBb (p.mem_iff.mp he))
 refine⟨_,strsAre_map _ hall,?_⟩;have q:=(p.map (·.2)).map strOf;rw[hS.strs]at q;exact q
section
variable{P:Program}{w:World}{A:Around}{E:Value->Shared->Prop}{s:Shared}{a:Addr}{ss:List Str}
theorem qHk(ho:s.heap.get? a=some { cls:=.type "set",dict:=none,data:=.set es ep t,slots:=#[] }) :
  (s.heap.update a (Obj.putSet es' t')).get? a=some { cls:=.type "set",dict:=none,data:=.set es' (ep+1) t',slots:=#[] }:=by
 have q:=Heap.get?_update_self (Obj.putSet es' t') ho (by rw[putSet_of es' t' rfl];rfl);rw[putSet_of es' t' rfl]at q;exact q
theorem qJa{g:Bool->Sem Unit}(hg:∀(b:Bool) (s1:Shared) (Q':Unit->Shared->Prop),Q' () s1->wpAny (model P w) A (g b) Q' E s1){es es1:Array (Int×Value)}{ep:Nat}{t t2:SetTable}{ss1:List Str}
  (ho:s.heap.get? a=some { cls:=.type "set",dict:=none,data:=.set es ep t,slots:=#[] }) (e1:ElemsOf (PySem.strKind P w) es1.toList) (e2:StrsAre (es1.toList.map (·.2)) ss1) (e3:es1.size<scanBound) (e4:t2.fits es1.size=true)
  (e5:t2.led=!w.params.followText "set-order") (e6:t2.plain=false) {wasD:Bool} {R:Option Bool->Shared->Prop} (h:∀h' ss',Heap.SameBut a s.heap h'->qB2 P w h' a ss'->ss'.Perm ss1->R (some true) { s with heap:=h' }) :
  wpAny (model P w) A (do
    storeSet a es1 t2
    if (!wasD && t2.tooFull)=true then do
      g (relayAll t2 es1 (SetTable.grown es1.size)).2.2
      storeSet a (relayAll t2 es1 (SetTable.grown es1.size)).1 (relayAll t2 es1 (SetTable.grown es1.size)).2.1
      pure (some true)
     else pure (some true)) R E s:=by
 refine wpAny_bind (wpAny_storeSet_of ho rfl ?_ (fits_of_scanBound e3));have o1:(s.heap.update a (Obj.putSet es1 t2)).get? a=_:=qHk (s:=s) ho;have b1:=Heap.SameBut.update s.heap a (Obj.putSet es1 t2);split
 ·have p:=relayAll_perm t2 es1 (SetTable.grown es1.size);have f:=relayAll_fits t2 es1 (SetTable.grown es1.size);have l:=qQz t2 es1 (SetTable.grown es1.size);have pl:=qLh t2 es1 (SetTable.grown es1.size) e6;generalize relayAll t2 es1 (SetTable.grown es1.size)=Rl at p f l pl ⊢;obtain⟨es2,t3,gv⟩:=Rl;dsimp only at p f l pl ⊢;have z2:es2.size=es1.size:=by rw[<-hBo,p.length_eq,hBo]
  obtain⟨ss2,q1,q2⟩:=qE2 e2 p;refine wpAny_bind (hg _ _ _ (wpAny_bind (wpAny_storeSet_of o1 rfl ?_ (fits_of_scanBound (by rw[z2];exact e3)))));have o2:((s.heap.update a (Obj.putSet es1 t2)).update a (Obj.putSet es2 t3)).get? a=_:=qHk (s:={ s with heap:=s.heap.update a (Obj.putSet es1 t2) }) o1;exact wpAny_pure (h _ ss2 (b1.trans (Heap.SameBut.update _ a _)) ⟨es2,_,t3,o2,e1.perm p,q1,by rw[z2];exact e3,f,l.trans e5,fun _=>pl⟩ q2)
 ·exact wpAny_pure (h _ ss1 b1 ⟨es1,_,t2,o1,e1,e2,e3,e4,e5,fun _=>e6⟩ (hDg _))
theorem qTi(hS:qB2 P w s.heap a ss)(room:ss.length+1<scanBound)
  (h:∀h' ss',Heap.SameBut a s.heap h'->qB2 P w h' a ss'->(if x∈ss then ss'=ss else ss'.Perm (ss++[x]))->Q (!decide (x∈ss)) { s with heap:=h' }) :
  wpAny (model P w) A (setAddHashed a (.str x tk) ((PySem.strKind P w).hash x)) Q E s:=by
 obtain⟨es,ep,t,ho,e1,e2,e3,e4,e5,e6⟩:=hS;have hk:(PySem.strKind P w).is x (.str x tk)=true:=strKind_is P w x tk;have hsc:Value.scannable (.str x tk)=true:=rfl;have hz:ss.length=es.size:=by rw[<-e2.strs,hA1,hA1,hBo]
 unfold setAddHashed setAddHashedIn;refine wpAny_holding (wpAny_bind (wpAny_setState_of ho rfl e4 ?_));dsimp only;rw[byScan_of hsc e3 e1,if_pos rfl];unfold setAddByScan;refine wpAny_bind (wpAny_bind (wpAny_rule (wpAny_bind (wpAny_setScan_of hk ho rfl e4 e1 ?_))));cases hr:List.findIdx? (fun e=>(PySem.strKind P w).is x e.2) es.toList with
 |some j =>
  dsimp only;obtain⟨hj,hp,_⟩:=List.findIdx?_eq_some_iff_getElem.mp hr;have hm:x∈ss:=(qH4 e2).mp ⟨_,hBb (hBs hj),hp⟩;have q:=h s.heap ss (Heap.SameBut.refl a _) ⟨es,ep,t,ho,e1,e2,e3,e4,e5,e6⟩ (by rw[if_pos hm]);rw[decide_eq_true hm]at q;exact wpAny_pure (wpAny_pure q)
 |none =>
  dsimp only;have hm:¬x∈ss:=fun z=>by
   obtain⟨v,hv,hp⟩:=(qH4 e2).mpr z;obtain⟨e,he,rfl⟩:=hAg.mp hv;have q:=List.findIdx?_eq_none_iff.mp hr e he;rw[show(PySem.strKind P w).is x e.2=true from hp]at q;cases q
  have gw:∀(b:Bool) (s1:Shared) (Q':Unit->Shared->Prop),Q' () s1->wpAny (model P w) A (match b with|true=>rule "set.scan.the-table-gave-way" |false=>pure ()) Q' E s1:=fun b s1 Q' hq=>by
   cases b
   ·exact wpAny_pure hq
   ·exact wpAny_rule hq
  have p:=layNew_perm t es ((PySem.strKind P w).hash x) (.str x tk);have f:=layNew_fits t es ((PySem.strKind P w).hash x) (.str x tk);have l:=qO4 t es ((PySem.strKind P w).hash x) (.str x tk);generalize layNew t es ((PySem.strKind P w).hash x) (.str x tk)=L at p f l ⊢;obtain⟨es1,t1,wasD,gv⟩:=L;dsimp only at p f l ⊢;rw[Array.toList_push]at p;have d1:ElemsOf (PySem.strKind P w) es1.toList:=(e1.push hk hsc).perm p;obtain⟨ss1,d2,d3⟩:=qPw e2 p;have z1:es1.size=es.size+1:=by rw[<-hBo,p.length_eq,hAa,hBo];rfl
  have d4:es1.size<scanBound:=by rw[z1,<-hz];exact room
  have fin:∀h' ss',Heap.SameBut a s.heap h'->qB2 P w h' a ss'->ss'.Perm ss1->Q true { s with heap:=h' }:=fun h' ss' b1 b2 b3=>by
   have q:=h h' ss' b1 b2 (by rw[if_neg hm];exact b3.trans d3);rw[decide_eq_false hm]at q;exact q
  refine wpAny_bind (gw _ _ _ ?_);split
  ·rename_i hpl;refine wpAny_bind ?_;rw[hashByValue_scannable 8 hsc];refine wpAny_pure ?_;refine qJa gw ho d1 d2 d4 (SetTable.fits_plain_off f) (l.trans e5) rfl fun h' ss' b1 b2 b3=>?_
   exact wpAny_pure (fin h' ss' b1 b2 b3)
  ·rename_i hpl;refine wpAny_bind (wpAny_pure ?_);rw[if_pos rfl];refine qJa gw ho d1 d2 d4 f (l.trans e5) (by simpa using hpl) fun h' ss' b1 b2 b3=>?_
   exact wpAny_pure (fin h' ss' b1 b2 b3)
end
theorem qB2.at(x:qB2 P w h a ss)(k:∀o,h.get? a=some o->h'.get? a=some o):qB2 P w h' a ss:=by
 obtain⟨es,ep,t,ho,r⟩:=x;exact⟨es,ep,t,k _ ho,r⟩
def qTg(val:Nat->Str)(i:Nat)(ss:List Str):Prop:=ss.Nodup/\ss.length<=i/\∀x,x∈ss↔∃j,j<i/\val j=x
theorem qTg.zero(val:Nat->Str):qTg val 0 []:=⟨List.nodup_nil,hA7 _,fun x=>by simp⟩
theorem qTg.next(h:qTg val i ss)(e:if val i∈ss then ss'=ss else ss'.Perm (ss++[val i])):qTg val (i+1) ss':=by
 obtain⟨h1,h2,h3⟩:=h;by_cases hm:val i∈ss
 ·rw[if_pos hm]at e;subst e;refine⟨h1,by omega,fun x=>(h3 x).trans ⟨fun ⟨j,a,b⟩=>⟨j,by omega,b⟩,fun ⟨j,a,b⟩=>?_⟩⟩;by_cases hj:j<i
  ·exact⟨j,hj,b⟩
  ·have:j=i:=by omega
   subst this;subst b;exact(h3 _).mp hm
 ·rw[if_neg hm]at e;refine⟨e.nodup_iff.mpr ?_,?_,fun x=>?_⟩
  ·rw[List.nodup_append];exact⟨h1,by simp,fun y hy z hz=>by rw[hAd]at hz;subst hz;rintro rfl;exact hm hy⟩
  ·rw[e.length_eq,hAa]
   simpa using h2
  ·rw[e.mem_iff,hAj,h3 x,hAd];constructor
   ·rintro(⟨j,a,b⟩|rfl)
    ·exact⟨j,by omega,b⟩
    ·exact⟨i,by omega,rfl⟩
   ·rintro⟨j,a,b⟩;by_cases hj:j<i
    ·exact .inl ⟨j,hj,b⟩
    ·have:j=i:=by omega
     subst this;exact .inr b.symm
section
variable{P:Program}{w:World}{A:Around}{R:Result->Shared->Prop}{I:Addr}{fp wr:List Addr}{G:Array GenState->Array GenState->Prop}{n:Nat}{Pv:Nat->Value->Prop}{St:Nat->Shared->Prop}
theorem qPq(W:WalksS P w A.in1 I fp wr G n Pv St)(S:Addr)(nS:S∉fp)(val:Nat->Str)(hv:∀i v,Pv i v->∃t,v = .str (val i) t)(nb:n+1<scanBound):∀(k i:Nat) (s:Shared) (ss:List Str),n - i=k->i<=n->St i s->qB2 P w s.heap S ss->qTg val i ss ->
  (∀s' ss',Moved (S :: wr) G s s'->qB2 P w s'.heap S ss'->qTg val n ss'->R (.ok (.ret .none)) s')->codeAny (model P w) A (.builtin "set.update.loop" ⟨[.ref S,.ref I],[]⟩) R s:=by
 have nw:S∉wr:=fun z=>nS (W.sub _ z)
 have sub:∀b∈wr,b∈S :: wr:=fun b z=>hA4 _ z
 intro k
 induction k with
 |zero =>
  intro i s ss hk hi st hS ho r;have e:i=n:=by omega
  subst e;refine codeAny_builtin PyProof.Rows.F.entry_set_update_loop ?_;rw[Around.under_plainId PyProof.Rows.F.plain_set_update_loop _];show wpAny _ A.in1 (pyNext (.ref I) >>= _) _ _ _;refine wpAny_bind (W.done s _ _ st fun s1 m1=>wpAny_pure (r s1 ss (m1.mono sub) (hS.at fun o z=>m1.heap S o nw z) ho))
 |succ k ih =>
  intro i s ss hk hi st hS ho r;have lt:i<n:=by omega
  refine codeAny_builtin PyProof.Rows.F.entry_set_update_loop ?_;rw[Around.under_plainId PyProof.Rows.F.plain_set_update_loop _];show wpAny _ A.in1 (pyNext (.ref I) >>= _) _ _ _;refine wpAny_bind (W.item i s _ _ lt st fun v s1 pv st1 m1=>?_);obtain⟨t,rfl⟩:=hv i v pv;have hS1:qB2 P w s1.heap S ss:=hS.at fun o z=>m1.heap S o nw z
  show wpAny _ A.in1 (holding [Value.str (val i) t] (setAdd S (.str (val i) t)) >>= _) _ _ s1;refine wpAny_bind (wpAny_holding ?_);unfold setAdd;refine wpAny_holding (wpAny_bind ((PySem.strKind P w).pyHash (strKind_is P w _ _) ?_));refine qTi (s:={ s1 with toks:=s1.toks+1 }) hS1 (by have:=ho.2.1;omega) fun h2 ss2 sb2 hS2 q2=>?_
  refine wpAny_pure ⟨plainId_quiet PyProof.Rows.F.plain_set_update_loop _,ih (i+1) _ ss2 (by omega) lt (W.frame _ s1 _ _ st1 (hBh _) fun b hb o e=>?_) hS2 (ho.next q2) fun s3 ss3 m3 hS3 o3=>?_⟩
  ·rw[sb2.2 b (fun z:b=S=>nS (by rw[<-z];exact hb))];exact e
  ·refine r s3 ss3 (Moved.trans W.gtrans ((m1.mono sub).then_heap (hBh _) fun b o hb e=>?_) m3) hS3 o3;rw[sb2.2 b (fun z:b=S=>hb (by rw[z];exact hA6))];exact e
end
section
variable{P:Program}{w:World}{A:Around}{E:Value->Shared->Prop}{s:Shared}
abbrev qQf(w:World):Obj:={ cls:=.type "set",dict:=none,data:=.set #[] 0 (.fresh 0 0 (!w.params.followText "set-order")),slots:=#[] }
theorem qXf(P:Program)(w:World)(e:h.get? a=some (qQf w)):qB2 P w h a []:=⟨#[],0,_,e,fun e he=>by simp at he,.nil,by show 0<scanBound;decide,by rfl,rfl,fun z=>absurd rfl z⟩
theorem qSv(v:Value)(h:Q1 (.ref s.heap.objs.size) { s with heap:=s.heap.push (qQf w) }):codeAny (model P w) A (.call (.builtin "set.__new__") ⟨[.type "set",v],[]⟩) (wants Q1 E) s:=by
 refine codeAny_of_tree ?_;show wpAny _ A.in1 (do checkBuiltinCall "set.__new__" ⟨[.type "set",v],[]⟩;again (.builtin "set.__new__" ⟨[.type "set",v],[]⟩)) _ _ s;refine wpAny_bind (wpAny_of_eq (PySem.F.newCall_set_1 v) (wpAny_pure ⟨plainId_quiet PySem.F.plain_set_new _,codeAny_builtin PySem.F.entry_set_new ?_⟩));rw[Around.under_plainId PySem.F.plain_set_new _];unfold Builtin.«set.__new__» Builtin.Frozenset.newClass;have hsub:=sub_set_self;obtain⟨hp,g,d,tk,os⟩:=s;dsimp only
 wp_walk
 refine wpAny_askSetting (wpAny_pure ?_);dsimp only;simp only[newObj];exact wpAny_bind (wpAny_alloc (wpAny_pure (wpAny_pure h)))
theorem qSz(hh:A.handled=none)(hl:s.heap.IsList l items)(hi:StrsAre items.toList ss0)(hb:items.size+1<scanBound)
  (h:∀(h':Heap) (tk:Nat) (ss:List Str),qB2 P w h' s.heap.objs.size ss->qTg (fun i=>ss0.getD i default) items.size ss->(∀b o,b<s.heap.objs.size->s.heap.get? b=some o->h'.get? b=some o)->Q (.ref s.heap.objs.size) { s with heap:=h',toks:=tk }) :
  wpAny (model P w) A (call (.type "set") [.ref l]) Q E s:=by
 obtain⟨c,tl,hmro⟩:=hCe.mro;have hmade:=hCe.made;have hsub:=hCe.sub;refine wpAny_call (codeAny_of_tree ?_);show wpAny _ _ (callAny (.type "set") _) _ _ _;refine wpAny_pure ⟨Code.quiet_builtin _ (by decide +kernel),codeAny_builtin PySem.F.entry_type_call ?_⟩;rw[Around.under_plain (weight_type_call_type "set" [.ref l] []) rfl];have h1:=hCe.notType;have h2:=hCe.canCreate;have hct:=PySem.F.typeCall_set_1 (.ref l)
 repeat (any_goals (first|assumption|wp_step))
 refine codeAny_mono (qSv (.ref l) (E:=E) (Q1:=fun obj s1=>obj = .ref s.heap.objs.size/\s1={ s with heap:=s.heap.push (qQf w) }) ⟨rfl,rfl⟩) fun r s1 hr=>?_
 cases r with
 |error e=>exact hr
 |ok fl =>
  cases fl with
  |ret obj =>
   obtain⟨rfl,rfl⟩:=hr;have hS:(s.heap.push (qQf w)).get? s.heap.objs.size=some (qQf w):=Heap.get?_push_size _ rfl;have hT:Shared.TypeIs { s with heap:=s.heap.push (qQf w) } (.ref s.heap.objs.size) "set":=⟨_,hS,rfl⟩;have hli:=hCe.init.lookup;have hbi:=hCe.init.bind (.ref s.heap.objs.size)
   repeat (any_goals (first|assumption|wp_step))
   refine codeAny_mono (codeAny_call_builtin (R:=wants (fun r s2=>r = .none/\∃h' tk ss,s2={ s with heap:=h',toks:=tk }/\qB2 P w h' s.heap.objs.size ss/\qTg (fun i=>ss0.getD i default) items.size ss /\
     (∀b o,b<s.heap.objs.size->s.heap.get? b=some o->h'.get? b=some o)) E) hCe.init.plain PySem.F.entry_set_init (check_set_init_1 hT ?_)) fun r2 s2 hr2=>?_
   ·obtain⟨ol,hol,hcl,nl,hdl⟩:=hl;obtain⟨ocls,odict,odata,oslots⟩:=ol;simp only at hcl hdl;subst hcl;subst hdl;have hol':(s.heap.push (qQf w)).get? l=some { cls:=.type "list",dict:=odict,data:=.seq items nl,slots:=oslots }:=Heap.get?_push_of_some _ hol;have hsls:=PySem.F.sub_list_set;have hslf:=PySem.F.sub_list_frozenset;have hne:(Value.type "list" == Value.type "dict")=false:=by decide
    have hl1:(s.heap.push (qQf w)).IsList l items:=⟨_,hol',rfl,nl,rfl⟩;unfold Builtin.«set.__init__» noKeywords Builtin.Frozenset.updateFrom;generalize hPI:pyIter=PI
    wp_walk
    subst hPI;refine wpAny_pyIter_list hl1 (wpAny_bind (wpAny_runValue ?_));have lS:l<s.heap.objs.size:=Heap.lt_size hol;have h3:A.in1.in1.in1.handled=none:=by simp[hh]
    have nI:l≠(s.heap.push (qQf w)).objs.size:=by
     rw[Heap.size_push];exact hAp (hBr lS)
    have nF:s.heap.objs.size∉[(s.heap.push (qQf w)).objs.size,l]:=by
     rw[Heap.size_push];simp only[hAf,hAd,hCh,or_false,not_or];exact⟨hAp (hC1 _),hBx lS⟩
    have hval:∀(i:Nat) (v:Value),items[i]?=some v->∃t,v = .str ((fun i=>ss0.getD i default) i) t:=fun i v hv=>by
     have hv':items.toList[i]?=some v:=by rw[hBc];exact hv
     obtain⟨x,t,rfl⟩:=hi.all v (hAc hv');refine⟨t,?_⟩;have e:=congrArg (fun z=>z[i]?) hi.strs;simp only[hAe,hv']at e;show Value.str x t=Value.str (ss0.getD i default) t;rw[hA8,<-e];rfl
    refine qPq ((Walks.list h3 _ l nI items).toS) s.heap.objs.size nF (fun i=>ss0.getD i default) hval hb (items.size - 0) 0 _ [] (by omega) (hAo _) ⟨⟨_,Heap.get?_push_size _ rfl,rfl,rfl⟩,(hl1.push _)⟩ (qXf P w (Heap.get?_push_of_some _ hS)) (qTg.zero _) fun s' ss' hm hS' hO=>?_
    obtain⟨h',g',d',tk',os'⟩:=s';cases(show g'=s.gens from hm.gens);cases(show d'=s.drawn from hm.drawn);cases(show os'=s.os from hm.os);show wpAny _ _ _ _ _ _;refine wpAny_pure ?_;show wpAny _ _ (ret Value.none) _ _ _;refine wpAny_pure ⟨rfl,h',tk',ss',rfl,hS',hO,fun b o hb e=>?_⟩;have b1:b≠s.heap.objs.size:=hAp hb;have b2:b≠(s.heap.push (qQf w)).objs.size:=by
     rw[Heap.size_push];exact hAp (hBr hb)
    exact hm.heap b o (by simp only[hAf,hAd,hCh,or_false,not_or];exact⟨b1,b2⟩) (Heap.get?_push_of_some _ (Heap.get?_push_of_some _ e))
   ·cases r2 with
    |error e=>exact hr2
    |ok fl2 =>
     cases fl2 with
     |ret r =>
      obtain⟨rfl,h',tk,ss,rfl,hS',hO,hk'⟩:=hr2
      repeat (any_goals (first|assumption|wp_step))
      exact h _ _ _ hS' hO hk'
     |_=>exact hr2.elim
  |_=>exact hr.elim
end
namespace FS
theorem entry_set_iter':entryFor table "set.__iter__" = some Builtin.«frozenset.__iter__»:=entryFor_alias (id':="frozenset.__iter__") (by kernel_rfl) rfl (by decide +kernel) (by kernel_rfl)
theorem slot_sin:Slot "set_iterator" "__next__" "set_iterator.__next__":=.of (owner:="set_iterator") (n:="__next__") (by rw[typeLookup_type,builtinLookup_eq_fast];kernel_rfl) (by decide +kernel) (by decide +kernel) (by decide +kernel) (by first|exact .inl (by decide +kernel)|exact .inr (by decide +kernel)) (by rw[isSubtype_type];kernel_rfl)
theorem entry_sin:entryFor table "set_iterator.__next__" = some Builtin.«set_iterator.__next__»:=entryFor_of_tree (by kernel_rfl)
theorem qNh:Manifest.owners.lookup (String.ofList ['r','o','t','a','r','e','t','i','_','t','e','s'].reverse)=some Manifest.sig_set_iterator:=by kernel_rfl
theorem args_sin(a:Value):argsOk "set_iterator.__next__" ⟨[a],[]⟩:=by
 unfold argsOk;rw[signature?_of (id:="set_iterator.__next__") (n:=['_','_','t','x','e','n','_','_']) (o:=['r','o','t','a','r','e','t','i','_','t','e','s']) (by kernel_rfl) qNh];kernel_rfl
theorem slot_sii:Slot "set_iterator" "__iter__" "set_iterator.__iter__":=.of (owner:="set_iterator") (n:="__iter__") (by rw[typeLookup_type,builtinLookup_eq_fast];kernel_rfl) (by decide +kernel) (by decide +kernel) (by decide +kernel) (by first|exact .inl (by decide +kernel)|exact .inr (by decide +kernel)) (by rw[isSubtype_type];kernel_rfl)
theorem entry_sii:entryFor table "set_iterator.__iter__" = some Builtin.«dict_keyiterator.__iter__»:=entryFor_alias (id':="dict_keyiterator.__iter__") (by kernel_rfl) (by first|rfl|decide +kernel|(unfold String.splitOn;simp +decide [String.splitOnAux])) (by decide +kernel) (by kernel_rfl)
theorem args_sii(a:Value):argsOk "set_iterator.__iter__" ⟨[a],[]⟩:=by
 unfold argsOk;rw[signature?_of (id:="set_iterator.__iter__") (n:=['_','_','r','e','t','i','_','_']) (o:=['r','o','t','a','r','e','t','i','_','t','e','s']) (by kernel_rfl) qNh];kernel_rfl
end FS
theorem qFg:∀(l:List α) (i:Nat) (x:α),l[i]?=some x->(x :: l.eraseIdx i).Perm l
 |[],i,x,h=>by simp at h
 |y :: l,0,x,h=>by simp at h;subst h;exact hDg _
 |y :: l,i+1,x,h=>by
  have q:=qFg l i x (by simpa using h);rw[List.eraseIdx_cons_succ];exact(List.Perm.swap y x _).trans (q.cons y)
section
variable{M:Model}{A:Around}{E:Value->Shared->Prop}{s:Shared}
theorem qPj(hn:n≠0)(h:∀i d,i<n->Q i { s with drawn:=d }):wpAny M A (choose src n) Q E s:=fun Γ p _=>⟨hn,h _ _ (Nat.mod_lt _ (Nat.pos_of_ne_zero hn))⟩
theorem qFk:∀(n:Nat) (xs:List α) (s:Shared) (Q:List α->Shared->Prop),xs.length=n->(∀ys d,ys.Perm xs->Q ys { s with drawn:=d })->wpAny M A (drawOrder n xs) Q E s
 |0,xs,s,Q,hl,h=>by
  have e:xs=[]:=List.length_eq_zero_iff.mp hl;subst e;exact wpAny_pure (h [] s.drawn (hDg _))
 |n+1,[],s,Q,hl,h=>by simp at hl
 |n+1,y :: ys,s,Q,hl,h=>by
  show wpAny M A (choose .order (y :: ys).length >>= _) Q E s;refine wpAny_bind (qPj (by simp) fun i d hi=>?_);have e:(y :: ys)[i]?=some (y :: ys)[i]:=hA2 hi;rw[e];dsimp only;have p:=qFg (y :: ys) i _ e;refine wpAny_bind (qFk n ((y :: ys).eraseIdx i) _ _ ?_ fun zs d2 pz=>wpAny_pure (h _ d2 ((pz.cons _).trans p)));have:=p.length_eq;simp only[hBu]at this hl ⊢;omega
end
theorem qQ7(next:Nat->Nat):∀(n k:Nat) (left:List α) (out:Array α),left.length=n->(pickOrder.go next n k left out).toList.Perm (out.toList++left)
 |0,k,left,out,hl=>by
  have e:left=[]:=List.length_eq_zero_iff.mp hl;subst e;rw[pickOrder.go,hCo]
 |n+1,k,left,out,hl=>by
  rw[pickOrder.go];have hi:next k % left.length<left.length:=Nat.mod_lt _ (by omega);have e:left[next k % left.length]?=some left[next k % left.length]:=hA2 hi;rw[e];dsimp only;have p:=qFg left _ _ e;have l:=p.length_eq;simp only[hBu]at l;refine(qQ7 next n (k+1) _ _ (by omega)).trans ?_;rw[Array.toList_push,List.append_assoc];exact List.Perm.append_left _ p
theorem pick_perm(next:Nat->Nat)(xs:Array α):(pickOrder next xs).toList.Perm xs.toList:=by
 have q:=qQ7 next xs.size 0 xs.toList #[] (by simp)
 simpa [pickOrder] using q
section
variable{P:Program}{w:World}{A:Around}{E:Value->Shared->Prop}{s:Shared}{a:Addr}{es:Array (Int×Value)}{ep:Nat}{t:SetTable}
theorem qKs(ho:s.heap.get? a=some { cls:=.type "set",dict:=none,data:=.set es ep t,slots:=#[] })(hf:t.fits es.size=true)(h:Q (!w.params.followText "set-order" && (!t.plain && decide (es.size > 1))) s):wpAny (model P w) A (setDrawn a) Q E s:=by
 unfold setDrawn;refine wpAny_bind (wpAny_setState_of ho rfl hf ?_);unfold setsByText;exact wpAny_bind (wpAny_bind (wpAny_askSetting (wpAny_pure (wpAny_pure h))))
theorem qKq(ho:s.heap.get? a=some { cls:=.type "set",dict:=none,data:=.set es ep t,slots:=#[] })(hf:t.fits es.size=true)(hb:w.params.followText "set-order" = true)
  (h:Q (((pickOrder (w.params.setOrder a ep) es)[i]?).map fun e=>(e.2,slot)) s):wpAny (model P w) A (setNext a slot i ep) Q E s:=by
 unfold setNext;refine wpAny_bind (wpAny_setState_of ho rfl hf ?_);unfold setsByText;refine wpAny_bind (wpAny_bind (wpAny_askSetting (wpAny_pure ?_)));show wpAny _ _ (if (w.params.followText "set-order")=true then _ else _) _ _ _;rw[if_pos hb];rw[if_neg (by simp)];unfold setWalk;refine wpAny_bind (wpAny_bind (wpAny_setState_of ho rfl hf ?_));unfold setsByText;refine wpAny_bind (wpAny_bind (wpAny_askSetting (wpAny_pure ?_)));show wpAny _ _ (if (w.params.followText "set-order")=true then _ else _) _ _ _;rw[if_pos hb];exact wpAny_bind (wpAny_askSetting (wpAny_pure (wpAny_pure h)))
theorem qKr(ho:s.heap.get? a=some { cls:=.type "set",dict:=none,data:=.set es ep t,slots:=#[] })(hf:t.fits es.size=true)(hb:w.params.followText "set-order" = false)(h1:es.size<=1)(hl:t.led=true)
  (h:Q (match es[SetTable.below t.place slot]?,t.place[SetTable.below t.place slot]? with|some (_,x),some j=>some (x,j+1)|_,_=>none) s):wpAny (model P w) A (setNext a slot i ep) Q E s:=by
 unfold setNext;refine wpAny_bind (wpAny_setState_of ho rfl hf ?_);unfold setsByText;refine wpAny_bind (wpAny_bind (wpAny_askSetting (wpAny_pure ?_)));show wpAny _ _ (if (w.params.followText "set-order")=true then _ else _) _ _ _;rw[if_neg (by rw[hb];exact hAu)];show wpAny _ _ (if (!t.plain && decide (es.size > 1))=true then _ else _) _ _ _;rw[if_neg (by rw[hCa];rintro⟨_,z⟩;have:=of_decide_eq_true z;omega)];refine wpAny_bind ?_;show wpAny _ _ (if (!t.led && !es.isEmpty)=true then _ else _) _ _ _;rw[if_neg (by rw[hl];simp)];exact wpAny_pure (wpAny_pure h)
end
end L2
namespace L2
open PySem PySem.Spec PyProof.Rows
abbrev sIt(a:Addr)(f0:Value)(i n ep:Nat):Obj:={ cls:=.type "set_iterator",dict:=none,data:=.fields #[f0,rawInt i,.ref a,rawInt n,rawInt ep],slots:=#[] }
abbrev sOb(es:Array (Int×Value))(ep:Nat)(t:SetTable):Obj:={ cls:=.type "set",dict:=none,data:=.set es ep t,slots:=#[] }
section
variable{P:Program}{w:World}{A:Around}{E:Value->Shared->Prop}{s:Shared}{a I:Addr}{es:Array (Int×Value)}{ep:Nat}{t:SetTable}
theorem qMt{T:Obj}{Q:Fin->Shared->Prop}{f0:Value}{i n:Nat}{pre:Sem Unit}(hh:A.handled=none)(hI:s.heap.get? I=some (sIt a f0 i n ep))
  (hp:∀ {Q':Unit->Shared->Prop},(∀h1,Heap.SameBut I s.heap h1->(∃g0,h1.get? I=some (sIt a g0 i n ep))->Q' () { s with heap:=h1 })->wpAny (model P w) A pre Q' E s)
  (hE:∀h' e,Heap.ExtBut I s.heap h'->(∃o,h'.get? e=some o/\o.cls = .type "StopIteration")->E (.ref e) { s with heap:=h' }) :
  wpAny (model P w) A (do pre;setField (.ref I) 2 .none;raiseNew (← newExc (.type "StopIteration") [])) Q E s:=by
 refine wpAny_bind (hp fun h1 b1 hg=>?_);obtain⟨g0,hI1⟩:=hg;refine wpAny_bind (wpAny_setField_rec hI1 (by simp) fun h2 hI2 b2=>?_);show wpAny _ _ (newExc (.type "StopIteration") [] >>= fun e=>raiseNew e) _ _ _;refine wpAny_bind ?_;simp only[newExc,newTuple];refine wpAny_bind (wpAny_newObj_type ?_ (by size_fits));refine wpAny_bind (m:=firstArgMember _ _) (wpAny_of_eq (a:=Value.none) (by first|rfl|(simp only[firstArgMember];rfl)) ?_);refine wpAny_newObj_type ?_ (by size_fits);simp only[raiseNew];refine wpAny_bind (wpAny_handled ?_);rw[hh];exact wpAny_bind (wpAny_pure (wpAny_throw (hE _ _ (((b1.trans b2).extBut.push _).push _) ⟨_,Heap.get?_push_size _ rfl,rfl⟩)))
end
section
variable{P:Program}{w:World}{a I:Addr}{es:Array (Int×Value)}{ep:Nat}{t:SetTable}
theorem qI7(hne:a≠I)(hf:t.fits es.size=true)(order:List Value)(sl:Nat->Nat)
  (nx:∀(A:Around) (E:Value->Shared->Prop) (s:Shared) (Q:Option (Value×Nat)->Shared->Prop) (i:Nat),i<=order.length->s.heap.get? a=some (sOb es ep t)->Q ((order[i]?).map fun x=>(x,sl (i+1))) s->wpAny (model P w) A (setNext a (sl i) i ep) Q E s) :
  ∀A:Around,A.handled=none->Walks P w A I [I,a] [I] order.length (fun i v=>order[i]?=some v) (fun i h=>h.get? I=some (sIt a (rawInt (sl i)) i es.size ep)/\h.get? a=some (sOb es ep t)):=fun A hh=>{
 sub:=fun b hb=>by simp at hb ⊢;exact .inl hb
 frame:=fun i h h' st k=>⟨k I (by simp) _ st.1,k a (by simp) _ st.2⟩
 item:=fun i s Q E hi st hQ=>by
  obtain⟨hI,ho⟩:=st;have hT:s.TypeIs (.ref I) "set_iterator":=⟨_,hI,rfl⟩;unfold pyNext;refine wpAny_bind (wpAny_attempt (wpAny_callSpecial?_slot (name:=Str.ofString "__next__") hT FS.slot_sin (wpAny_call_entry FS.slot_sin hT FS.entry_sin ?_ (FS.args_sin _))));unfold Builtin.«set_iterator.__next__»;refine wpAny_bind (wpAny_pure (wpAny_bind (wpAny_fieldsOf hI rfl ?_)));show wpAny _ _ (setEntries a >>= _) _ _ _;refine wpAny_bind (wpAny_setEntries_of ho rfl hf ?_);rw[if_neg (by simp)];show wpAny _ _ (setNext a (sl i) i ep >>= _) _ _ _;refine wpAny_bind (nx _ _ s _ i (hB1 hi) ho ?_);rw[hA2 hi];show wpAny _ _ (setField (.ref I) 0 (rawInt (sl (i+1))) >>= _) _ _ _;refine wpAny_bind (wpAny_setField_rec hI (by simp) fun h1 hI1 b1=>wpAny_bind (wpAny_setField_rec hI1 (by simp) fun h2 hI2 b2=>?_));refine wpAny_pure ⟨_,rfl,wpAny_pure (hQ _ h2 s.toks (hA2 hi) ⟨hI2,?_⟩ fun b o hb e=>?_)⟩
  ·exact b2.extBut _ _ hne (b1.extBut _ _ hne ho)
  ·have nb:b≠I:=by simpa using hb
   exact b2.extBut _ _ nb (b1.extBut _ _ nb e)
 done:=fun s Q E st hQ=>by
  obtain⟨hI,ho⟩:=st;have hT:s.TypeIs (.ref I) "set_iterator":=⟨_,hI,rfl⟩;unfold pyNext;refine wpAny_bind (wpAny_attempt (wpAny_callSpecial?_slot (name:=Str.ofString "__next__") hT FS.slot_sin (wpAny_call_entry FS.slot_sin hT FS.entry_sin ?_ (FS.args_sin _))));unfold Builtin.«set_iterator.__next__»;refine wpAny_bind (wpAny_pure (wpAny_bind (wpAny_fieldsOf hI rfl ?_)));show wpAny _ _ (setEntries a >>= _) _ _ _;refine wpAny_bind (wpAny_setEntries_of ho rfl hf ?_);rw[if_neg (by simp)];show wpAny _ _ (setNext a (sl order.length) order.length ep >>= _) _ _ _;refine wpAny_bind (nx _ _ s _ order.length (hA7 _) ho ?_);rw[hBm (hA7 _)];refine qMt (pre:=pure ()) (T:=sOb es ep t) (by exact hh) hI (fun q=>wpAny_pure (q _ (Heap.SameBut.refl ..) ⟨_,hI⟩)) fun h' e k he=>?_
  obtain⟨oe,h1,h2⟩:=he;refine wpAny_bind (wpAny_isInstance (T:="StopIteration") (b:=true) ⟨oe,h1,h2⟩ isSubtype_stop (wpAny_pure (hQ _ s.toks fun b o hb e=>k _ _ (by simpa using hb) e)))
 self:=fun i s Q E st hQ=>by
  have hT:s.TypeIs (.ref I) "set_iterator":=⟨_,st.1,rfl⟩;refine wpAny_pyIter_slot hT FS.slot_sii (wpAny_call_entry FS.slot_sii hT FS.entry_sii ?_ (FS.args_sii _));exact wpAny_pure ⟨_,rfl,"set_iterator",_,hT,FS.slot_sin.lookup,hQ⟩ }
end
abbrev tOb(xs:Array Value):Obj:={ cls:=.type "tuple",data:=.seq xs }
section
variable{P:Program}{w:World}{a I T:Addr}{es:Array (Int×Value)}{ep:Nat}{t:SetTable}
theorem qPk(hne:a≠I)(hT0:T≠I)(hf:t.fits es.size=true)(ps:List Nat)(order:List Value)(hl:order.length=ps.length)(hp:∀(i p:Nat),ps[i]?=some p->∃k x,es[p]?=some (k,x)/\order[i]?=some x) :
  ∀A:Around,A.handled=none->Walks P w A I [I,a,T] [I] order.length (fun i v=>order[i]?=some v) (fun i h=>h.get? I=some (sIt a (.ref T) i es.size ep)/\h.get? a=some (sOb es ep t)/\h.get? T=some (tOb (ps.map fun (p:Nat)=>rawInt p).toArray)):=fun A hh=>{
 sub:=fun b hb=>by simp at hb ⊢;exact .inl hb
 frame:=fun i h h' st k=>⟨k I (by simp) _ st.1,k a (by simp) _ st.2.1,k T (by simp) _ st.2.2⟩
 item:=fun i s Q E hi st hQ=>by
  obtain⟨hI,ho,hTt⟩:=st;have hT:s.TypeIs (.ref I) "set_iterator":=⟨_,hI,rfl⟩;unfold pyNext;refine wpAny_bind (wpAny_attempt (wpAny_callSpecial?_slot (name:=Str.ofString "__next__") hT FS.slot_sin (wpAny_call_entry FS.slot_sin hT FS.entry_sin ?_ (FS.args_sin _))));unfold Builtin.«set_iterator.__next__»;refine wpAny_bind (wpAny_pure (wpAny_bind (wpAny_fieldsOf hI rfl ?_)));show wpAny _ _ (setEntries a >>= _) _ _ _;refine wpAny_bind (wpAny_setEntries_of ho rfl hf ?_);rw[if_neg (by simp)];show wpAny _ _ (seqItems? (.ref T) >>= _) _ _ _;refine wpAny_bind (wpAny_seqItems hTt rfl ?_);have hip:i<ps.length:=by rw[<-hl];exact hi
  obtain⟨k,x,h1,h2⟩:=hp i _ (hA2 hip);have e1:((ps.map fun (p:Nat)=>rawInt p).toArray)[i]?=some (rawInt ((ps[i]:Nat):Int)):=by simp[hip]
  show wpAny _ _ (match ((ps.map fun (p:Nat)=>rawInt p).toArray)[((i:Int)).toNat]? with|some (.int place _)=>_|some _=>_|none=>_) _ _ _;rw[hAz,e1];show wpAny _ _ (setNextDrawn a ps[i] ep >>= _) _ _ _;unfold setNextDrawn;refine wpAny_bind (wpAny_bind (wpAny_setState_of ho rfl hf ?_));dsimp only;rw[if_neg (by simp),h1];refine wpAny_pure (wpAny_bind (wpAny_setField_rec hI (by simp) fun h3 hI3 b3=>?_));refine wpAny_pure ⟨_,rfl,wpAny_pure (hQ _ h3 s.toks h2 ⟨hI3,b3.extBut _ _ hne ho,b3.extBut _ _ hT0 hTt⟩ fun b o hb e=>b3.extBut _ _ (by simpa using hb) e)⟩
 done:=fun s Q E st hQ=>by
  obtain⟨hI,ho,hTt⟩:=st;have hT:s.TypeIs (.ref I) "set_iterator":=⟨_,hI,rfl⟩;unfold pyNext;refine wpAny_bind (wpAny_attempt (wpAny_callSpecial?_slot (name:=Str.ofString "__next__") hT FS.slot_sin (wpAny_call_entry FS.slot_sin hT FS.entry_sin ?_ (FS.args_sin _))));unfold Builtin.«set_iterator.__next__»;refine wpAny_bind (wpAny_pure (wpAny_bind (wpAny_fieldsOf hI rfl ?_)));show wpAny _ _ (setEntries a >>= _) _ _ _;refine wpAny_bind (wpAny_setEntries_of ho rfl hf ?_);rw[if_neg (by simp)];show wpAny _ _ (seqItems? (.ref T) >>= _) _ _ _;refine wpAny_bind (wpAny_seqItems hTt rfl ?_);have e1:((ps.map fun (p:Nat)=>rawInt p).toArray)[order.length]?=none:=by simp[hl]
  show wpAny _ _ (match ((ps.map fun (p:Nat)=>rawInt p).toArray)[((order.length:Int)).toNat]? with|some (.int place _)=>_|some _=>_|none=>_) _ _ _;rw[hAz,e1];refine qMt (pre:=setField (.ref I) 0 (rawInt 0)) (T:=sOb es ep t) (by exact hh) hI (fun q=>wpAny_setField_rec hI (by simp) fun h1 hI1 b1=>q _ b1 ⟨_,hI1⟩) fun h' e k he=>?_
  obtain⟨oe,h1,h2⟩:=he;refine wpAny_bind (wpAny_isInstance (T:="StopIteration") (b:=true) ⟨oe,h1,h2⟩ isSubtype_stop (wpAny_pure (hQ _ s.toks fun b o hb e=>k _ _ (by simpa using hb) e)))
 self:=fun i s Q E st hQ=>by
  have hT:s.TypeIs (.ref I) "set_iterator":=⟨_,st.1,rfl⟩;refine wpAny_pyIter_slot hT FS.slot_sii (wpAny_call_entry FS.slot_sii hT FS.entry_sii ?_ (FS.args_sii _));exact wpAny_pure ⟨_,rfl,"set_iterator",_,hT,FS.slot_sin.lookup,hQ⟩ }
end
theorem qVf(h:j<=p):SetTable.below #[p] j=0:=by
 unfold SetTable.below;show SetTable.below.go #[p] j 1 0 1=0;unfold SetTable.below.go;have e:¬(#[p]:Array Nat).getD ((0+1) / 2) j<j:=by show ¬p<j;omega
 rw[if_pos (by decide)];dsimp only;rw[if_neg e];rfl
theorem qVg(h:p<j):SetTable.below #[p] j=1:=by
 unfold SetTable.below;show SetTable.below.go #[p] j 1 0 1=1;unfold SetTable.below.go;have e:(#[p]:Array Nat).getD ((0+1) / 2) j<j:=by show p<j;omega
 rw[if_pos (by decide)];dsimp only;rw[if_pos e];rfl
theorem qTa(j:Nat):SetTable.below #[] j=0:=rfl
section
variable{P:Program}{w:World}{A:Around}{E:Value->Shared->Prop}{s:Shared}{a:Addr}{ss:List Str}
theorem qR4(hS:qB2 P w s.heap a ss)
  (h:∀(I:Addr) (fp:List Addr) (vs:List Value) (ss1:List Str) (St:Nat->Heap->Prop) (h1:Heap) (d:Drawn),StrsAre vs ss1->ss1.Perm ss->(∀b o,s.heap.get? b=some o->h1.get? b=some o)->(∀A:Around,A.handled=none->Walks P w A I fp [I] vs.length (fun i v=>vs[i]?=some v) St) ->
   St 0 h1->I∈fp->(∀b∈fp,b<h1.objs.size/\(b=a\/s.heap.objs.size<=b))->s.heap.objs.size<=I->s.heap.objs.size<=h1.objs.size->Q (.ref I) { s with heap:=h1,drawn:=d }):wpAny (model P w) A (pyIter (.ref a)) Q E s:=by
 obtain⟨es,ep,t,ho,e1,e2,e3,e4,e5,e6⟩:=hS;have hT:s.TypeIs (.ref a) "set":=⟨_,ho,rfl⟩;have ha:a<s.heap.objs.size:=Heap.lt_size ho;have hp4:t.place.size=es.size:=by
  unfold SetTable.fits at e4;rw[hCa]at e4;exact eq_of_beq e4.1
 refine wpAny_pyIter_slot hT PySem.F.slot_set_iter (wpAny_call_entry PySem.F.slot_set_iter hT FS.entry_set_iter' ?_ (PySem.F.args_set_iter_1 _));unfold Builtin.«frozenset.__iter__» Builtin.Frozenset.slot0;refine wpAny_bind (wpAny_bind (wpAny_pure (wpAny_pure ?_)));unfold Builtin.Frozenset.sizeOf;refine wpAny_bind (wpAny_bind (wpAny_setEntries_of ho rfl e4 (wpAny_pure ?_)));refine wpAny_bind (qKs ho e4 ?_);dsimp only;cases hb:w.params.followText "set-order" with
 |true =>
  rw[if_neg (by simp)];refine wpAny_bind (wpAny_pure (wpAny_bind (wpAny_setEpoch_of ho rfl e4 ?_)));show wpAny _ _ (newFields "set_iterator" _ >>= _) _ _ _;refine wpAny_bind (wpAny_newObj_type (wpAny_pure ⟨_,rfl,"set_iterator",_,⟨_,Heap.get?_push_size _ rfl,rfl⟩,FS.slot_sin.lookup,?_⟩) (by show 5<=_;decide));have p:=pick_perm (w.params.setOrder a ep) es;obtain⟨ss1,q1,q2⟩:=qE2 e2 p;refine h s.heap.objs.size [s.heap.objs.size,a] _ ss1 _ _ s.drawn q1 q2 (fun b o e=>Heap.get?_push_of_some _ e) (qI7 (ep:=ep) (es:=es) (t:=t) (hAp ha) e4 _ (fun _=>0) ?_) ⟨Heap.get?_push_size _ rfl,Heap.get?_push_of_some _ ho⟩ (by simp) ?_ (hA7 _) (by rw[Heap.size_push];exact hBh _)
  ·intro A' E' s' Q' i hi ho' hq;refine qKq ho' e4 hb ?_;rw[hAe,hBc,Option.map_map]at hq;exact hq
  ·intro b hbm;rw[Heap.size_push];simp at hbm;rcases hbm with rfl|rfl
   ·exact⟨hC1 _,.inr (hA7 _)⟩
   ·exact⟨hBr ha,.inl rfl⟩
 |false =>
  have led:t.led=true:=by rw[e5,hb];rfl
  by_cases hz:es.size > 1
  ·have pl:t.plain=false:=e6 (by omega);rw[if_pos (by rw[pl,decide_eq_true hz];rfl)];refine wpAny_bind (qFk es.size (List.range es.size) s _ (by simp) fun ps d pp=>?_);refine wpAny_bind (wpAny_newTuple (s:={ s with drawn:=d }) ?_ (by rw[hA1,pp.length_eq,hB0];exact fits_of_scanBound e3));have ho1:(s.heap.push (tOb (ps.map fun (p:Nat)=>rawInt p).toArray)).get? a=some (sOb es ep t):=Heap.get?_push_of_some _ ho;refine wpAny_bind (wpAny_setEpoch_of (s:={ s with heap:=s.heap.push (tOb (ps.map fun (p:Nat)=>rawInt p).toArray),drawn:=d }) ho1 rfl e4 ?_);show wpAny _ _ (newFields "set_iterator" _ >>= _) _ _ _;refine wpAny_bind (wpAny_newObj_type (wpAny_pure ⟨_,rfl,"set_iterator",_,⟨_,Heap.get?_push_size _ rfl,rfl⟩,FS.slot_sin.lookup,?_⟩) (by show 5<=_;decide));have hlt:∀p∈ps,p<es.size:=fun p hm=>hB6.mp (pp.mem_iff.mp hm)
   have ep1:(ps.filterMap fun p=>es[p]?).Perm es.toList:=by
    have q:=pp.filterMap fun p=>es[p]?
    rw[filterMap_getElem?_range]at q;exact q
   have hfm:∀l:List Nat,(∀p∈l,p<es.size)->(l.filterMap fun p=>es[p]?).length=l.length/\∀(i p:Nat),l[i]?=some p->∃k x,es[p]?=some (k,x)/\((l.filterMap fun p=>es[p]?).map (·.2))[i]?=some x:=by
    intro l
    induction l with
    |nil=>intro _;exact⟨rfl,fun i p z=>by simp at z⟩
    |cons c l ih =>
     intro hm;obtain⟨i1,i2⟩:=ih fun p hp=>hm p (hA4 _ hp)
     have hcl:c<es.size:=hm c hA6;have hc:es[c]?=some es[c]:=hCl hcl;rw[hBf,hc];refine⟨by simp[i1],fun i p z=>?_⟩;cases i with
     |zero =>
      have e:c=p:=by simpa using z
      subst e;exact⟨_,_,hc,by simp⟩
     |succ i =>
      obtain⟨k,x,a1,a2⟩:=i2 i p (by simpa using z);exact⟨k,x,a1,by simpa using a2⟩
   obtain⟨f1,f2⟩:=hfm ps hlt;obtain⟨ss1,q1,q2⟩:=qE2 e2 ep1;have sz1:(s.heap.push (tOb (ps.map fun (p:Nat)=>rawInt p).toArray)).objs.size=s.heap.objs.size+1:=Heap.size_push ..;refine h (s.heap.push (tOb (ps.map fun (p:Nat)=>rawInt p).toArray)).objs.size [(s.heap.push (tOb (ps.map fun (p:Nat)=>rawInt p).toArray)).objs.size,a,s.heap.objs.size] _ ss1 _ _ d q1 q2 (fun b o e=>Heap.get?_push_of_some _ (Heap.get?_push_of_some _ e))
    (qPk (ep:=ep) (es:=es) (t:=t) (T:=s.heap.objs.size) ?_ ?_ e4 ps _ (by rw[hA1,f1]) f2) ⟨Heap.get?_push_size _ rfl,Heap.get?_push_of_some _ ho1,Heap.get?_push_of_some _ (Heap.get?_push_size _ rfl)⟩ (by simp) ?_ ?_ ?_
   ·rw[sz1];exact hAp (hBr ha)
   ·rw[sz1];exact hAp (hC1 _)
   ·intro b hbm;rw[Heap.size_push,sz1];rw[sz1]at hbm;simp at hbm;rcases hbm with rfl|rfl|rfl
    ·exact⟨hC1 _,.inr (hBh _)⟩
    ·exact⟨hBr (hBr ha),.inl rfl⟩
    ·exact⟨hBr (hC1 _),.inr (hA7 _)⟩
   ·rw[sz1];exact hBh _
   ·rw[Heap.size_push,sz1];exact Nat.le_succ_of_le (hBh _)
  ·rw[if_neg (by rw[decide_eq_false hz];simp)];refine wpAny_bind (wpAny_pure (wpAny_bind (wpAny_setEpoch_of ho rfl e4 ?_)));show wpAny _ _ (newFields "set_iterator" _ >>= _) _ _ _;refine wpAny_bind (wpAny_newObj_type (wpAny_pure ⟨_,rfl,"set_iterator",_,⟨_,Heap.get?_push_size _ rfl,rfl⟩,FS.slot_sin.lookup,?_⟩) (by show 5<=_;decide));refine h s.heap.objs.size [s.heap.objs.size,a] _ ss _ _ s.drawn e2 (hDg _) (fun b o e=>Heap.get?_push_of_some _ e) (qI7 (ep:=ep) (es:=es) (t:=t) (hAp ha) e4 _ (fun i=>if i=0 then 0 else t.place.getD 0 0+1) ?_) ⟨Heap.get?_push_size _ rfl,Heap.get?_push_of_some _ ho⟩ (by simp) ?_ (hA7 _) (by rw[Heap.size_push];exact hBh _)
   ·intro A' E' s' Q' i hi ho' hq;refine qKr ho' e4 hb (by omega) led ?_;rw[hA1,hBo]at hi;rcases Nat.lt_or_ge es.size 1 with z0|z1
    ·have e0:es=#[]:=Array.eq_empty_of_size_eq_zero (by omega);have p0:t.place=#[]:=Array.eq_empty_of_size_eq_zero (by omega);subst e0;rw[p0]at hq ⊢;rw[qTa]
     simpa using hq
    ·have z:es.size=1:=by omega
     obtain⟨x,e0⟩:∃x,es=#[x]:=by
      have:=Array.size_eq_one_iff.mp z;exact this
     obtain⟨p,p0⟩:∃p,t.place=#[p]:=Array.size_eq_one_iff.mp (by omega);subst e0;rw[p0]at hq ⊢;obtain⟨k,x⟩:=x;by_cases i0:i=0
     ·subst i0;rw[if_pos rfl,qVf (hAo _)]
      simpa using hq
     ·have i1:i=1:=by simp at hi;omega
      subst i1;rw[if_neg (by decide)];show Q' (match (#[(k,x)]:Array (Int×Value))[SetTable.below #[p] (p+1)]?,(#[p]:Array Nat)[SetTable.below #[p] (p+1)]? with|some (_,x),some j=>some (x,j+1)|_,_=>none) s';rw[qVg (hC1 _)]
      simpa using hq
   ·intro b hbm;rw[Heap.size_push];simp at hbm;rcases hbm with rfl|rfl
    ·exact⟨hC1 _,.inr (hA7 _)⟩
    ·exact⟨hBr ha,.inl rfl⟩
end
section
variable{X:Cx}{pins:List (Addr×Obj)}{σ:St}{H:Hp}{s:Shared}{h':Heap}
theorem Inv.turnedT{t':Nat}{d':Drawn}{ch:List Addr}{a:Addr}{o:HO}(I:Inv X pins σ H s)(k:∀b u,b∉ch->s.heap.get? b=some u->h'.get? b=some u)(f:∀b∈ch,qPh X pins H b)(hp:s.heap.objs.size<=a)(new:qB8 X.prog X.w (upd H a o) h' a o) :
  Inv X pins σ (upd H a o) { s with heap:=h',toks:=t',drawn:=d' }:=by
 have nit:∀b u,H b=some u->b∉ch:=fun b u e z=>by rw[(f b z).1]at e;cases e
 have hn:H a=none:=I.hok.fresh hp;refine I.step (g':=s.gens) (d':=d') (ch:=ch) (fun b hb=>?_) (fun b u _ _ hc e _=>k b u hc e) (fun b u _ _ hc e _=>⟨u.slots,k b u hc e⟩) (fun b u _ e n=>?_) (fun b u hc e=>⟨u,k b u hc e⟩) (fun b xs q=>by rw[qAl (qAo q hn)];exact q) (fun b u v q=>by rw[qAl (qAo q hn)];exact q)
  (fun b ps q=>⟨#[],by rw[qAl (qAo q hn),q];simp⟩) (fun m hm=>?_) (fun b u e=>?_) I.bare
 ·obtain⟨_,f1,_,f3,f4,f5⟩:=f b hb;exact⟨f3,f1,f4,f5⟩
 ·rw[qAl (hAp (hAi (Heap.lt_size e) hp))];exact n
 ·obtain⟨ob,es,ep,ho,r⟩:=hm;exact⟨ob,es,ep,k _ ob (fun z=>(f _ z).2.1 rfl) ho,r⟩
 ·by_cases hb:b=a
  ·subst hb;rw[upd_same]at e;cases e;exact new
  ·rw[qAl hb]at e;refine(I.hok b u e).stay (fun c v hc q=>k c v ?_ q) (fun c q=>by rw[qAl (qAo q hn)];exact q) fun c xs q=>by rw[qAl (qAo q hn)];exact q
   rcases hc with z|z
   ·rw[z];exact nit b u e
   ·exact nit c _ z
end
section
variable{P:Program}{w:World}{A:Around}{E:Value->Shared->Prop}{s:Shared}{a:Addr}{ss:List Str}
theorem qKe(hh:A.handled=none)(hS:qB2 P w s.heap a ss)
  (h:∀(vs:List Value) (ss1:List Str) (h1:Heap) (tk:Nat) (d:Drawn),StrsAre vs ss1->ss1.Perm ss->(∀b o,s.heap.get? b=some o->h1.get? b=some o)->s.heap.objs.size<=h1.objs.size->Q vs { s with heap:=h1,toks:=tk,drawn:=d }):wpAny (model P w) A (collect (.ref a)) Q E s:=by
 unfold collect;refine wpAny_bind (wpAny_runValue (codeAny_builtin PySem.F.entry_proto_collect ?_));rw[Around.under_plainId PySem.F.plain_proto_collect _];show wpAny _ A.in1 (newList [] >>= fun l=>again (.builtin "list.__iadd__" ⟨[l,.ref a],[]⟩)) _ _ _;refine wpAny_bind (wpAny_newObj_type ?_);refine wpAny_pure ⟨plainId_quiet PySem.F.plain_list_iadd _,codeAny_builtin PySem.F.entry_list_iadd ?_⟩;rw[Around.under_plainId PySem.F.plain_list_iadd _];have hS1:qB2 P w (s.heap.push (seqObj "list" #[] 0)) a ss:=hS.at fun o e=>Heap.get?_push_of_some _ e
 have hL1:(s.heap.push (seqObj "list" #[] 0)).get? s.heap.objs.size=some (seqObj "list" #[] 0):=Heap.get?_push_size _ rfl;have hT:∀s':Shared,qB2 P w s'.heap a ss->s'.TypeIs (.ref a) "set":=fun s' z=>by
  obtain⟨es,ep,t,ho,_⟩:=z;exact⟨_,ho,rfl⟩
 have ha:a<s.heap.objs.size:=by
  obtain⟨es,ep,t,ho,_⟩:=hS;exact Heap.lt_size ho
 have hz:ss.length<scanBound:=by
  obtain⟨es,ep,t,_,_,e2,e3,_⟩:=hS;rw[<-e2.strs,hA1,hA1,hBo];exact e3
 have hne:Builtin.List.listSameRef (.ref s.heap.objs.size) (.ref a)=false:=by
  show(s.heap.objs.size == a)=false;exact beq_eq_false_iff_ne.mpr (hBx ha)
 show wpAny _ A.in1 (Builtin.List.listExtendWith (.ref s.heap.objs.size) (.ref a) (.ref s.heap.objs.size)) _ _ { s with heap:=s.heap.push (seqObj "list" #[] 0) };unfold Builtin.List.listExtendWith;refine wpAny_bind (wpAny_typeOf (hT _ hS1) ?_);rw[if_neg (by rw[hne];decide)];refine wpAny_bind (qR4 hS1 fun I fp vs ss1 St h1 d q1 q2 q3 W st hI hfp hge hsz=>?_);have hS2:qB2 P w h1 a ss:=hS1.at fun o e=>q3 _ _ e
 have hL2:h1.get? s.heap.objs.size=some (seqObj "list" #[] 0):=q3 _ _ hL1;refine wpAny_bind (wpAny_holding ?_);unfold Builtin.List.listLengthHint;refine wpAny_bind (wpAny_specialOf (hT { s with heap:=h1,drawn:=d } hS2) PySem.F.slot_set_len.lookup ?_);dsimp only;rw[show splitId "set.__len__" = some ("set","__len__") from by decide +kernel];dsimp only;refine wpAny_bind (wpAny_isInstance (b:=true) (hT { s with heap:=h1,drawn:=d } hS2) sub_set_self ?_);rw[if_neg (by decide),if_pos (by decide +kernel)];refine wpAny_bind (wpAny_typeOf (hT { s with heap:=h1,drawn:=d } hS2) (wpAny_pure ?_));rw[if_pos (by decide +kernel)];refine wpAny_bind (wpAny_rule ?_);unfold Builtin.List.listTouch;have hL3:=get?_update_seq hL2 (·.push .none);have hL4:=get?_update_seq hL3 (·.pop);refine wpAny_bind (wpAny_bind (listUpdate_at (s:={ s with heap:=h1,drawn:=d }) hL2 rfl (listUpdate_at (s:={ s with heap:=h1.update s.heap.objs.size (Obj.mapSeq (·.push .none)),drawn:=d }) hL3 rfl ?_)));have nS:s.heap.objs.size∉fp:=fun z=>by
  rcases(hfp _ z).2 with e|e
  ·exact absurd e (hBx ha)
  ·rw[size_push']at e;exact absurd e (Nat.not_succ_le_self _)
 have upd2:∀b o,b≠s.heap.objs.size->h1.get? b=some o->((h1.update s.heap.objs.size (Obj.mapSeq (·.push .none))).update s.heap.objs.size (Obj.mapSeq (·.pop))).get? b=some o:=fun b o hb e=>by
  rw[Heap.get?_update_ne _ _ _ _ hb,Heap.get?_update_ne _ _ _ _ hb];exact e
 have hv:vs.length<=sizeLine:=by
  have e1:=q2.length_eq;have e2:vs.length=ss1.length:=by rw[<-q1.strs,hA1]
  rw[e2,e1];exact fits_of_scanBound hz
 have st3:=(W A.in1.in1.in1 (by exact hh)).frame 0 _ ((h1.update s.heap.objs.size (Obj.mapSeq (·.push .none))).update s.heap.objs.size (Obj.mapSeq (·.pop))) st fun b hb o e=>upd2 b o (fun z=>nS (z▸hb)) e
 refine wpAny_pure ⟨plainId_quiet PySem.F.plain_extend_loop _,codeAny_extend_loopS ((W _ (by exact hh)).toS) hv _ nS _ vs.length 0 _ _ _ rfl (hAo _) st3 hL4 (ItemsOf.nil _) fun s' acc' c' hm hS' hacc=>?_⟩;show wpAny _ A (load s.heap.objs.size >>= _) _ _ s';refine wpAny_bind (wpAny_load hS' ?_);have eacc:acc'.toList=vs:=by
  refine hDq fun i=>?_
  by_cases hi:i<vs.length
  ·have hi':i<acc'.size:=by rw[hacc.1];exact hi
   rw[hBc,hCl hi'];exact(hacc.2 i _ (hCl hi')).symm
  ·rw[hBc,Array.getElem?_eq_none (by rw[hacc.1];omega),hBm (by omega)]
 show wpAny _ A (pure acc'.toList) _ _ s';rw[eacc];obtain⟨h5,g5,d5,tk5,os5⟩:=s';cases(show g5=s.gens from hm.gens);cases(show d5=d from hm.drawn);cases(show os5=s.os from hm.os);have keep:∀b o,h1.get? b=some o->b≠s.heap.objs.size->b≠I->h5.get? b=some o:=fun b o e n1 n2=>hm.heap b o (by simp only[hAf,hCh,or_false,not_or];exact⟨n1,n2⟩) (upd2 b o n1 e)
 refine wpAny_pure (h vs ss1 h5 tk5 d q1 q2 (fun b o e=>?_) ?_)
 ·have lt:=Heap.lt_size e;refine keep b o (q3 b o (Heap.get?_push_of_some _ e)) (hAp lt) (hAp (hAi lt ?_));rw[size_push']at hge;exact Nat.le_of_succ_le hge
 ·exact hB1 (Heap.lt_size hS')
end
def zCx(P:Program)(w:World)(a:Addr)(ss:List Str):HO:=.ext fun h=>qB2 P w h a ss
section
variable{X:Cx}
theorem qS0(hc:X.calm=true):qB9 X (.type "set") (fun xs H Q=>∃(p:Addr) (ss0:List Str),xs=[.ref p]/\SqL X.K H p (ss0.map V.str)/\ss0.length<1000/\∀(r:Addr) (ss:List Str),H r=none->ss.Nodup->ss.length<=ss0.length->(∀x,x∈ss↔x∈ss0)->Q (.ref r) (upd H r (zCx X.prog X.w r ss))):=by
 intro pins s σ H xs us Q I r h;obtain⟨p,ss0,rfl,hq,hl,q⟩:=h;obtain⟨u,rfl,rx⟩:=qCl r;cases rx;obtain⟨its,rv,pl,hz⟩:=I.list hq;have hlen:=rv.length;rw[hA1]at hlen;refine qSz (I.ok.hd hc) pl.isList (by simpa using qDm rv) (by have:scanBound=4096:=rfl;simp;omega) fun h' tk ss hS hO hk=>?_
 obtain⟨o1,o2,o3⟩:=hO;rw[hAb,<-hlen]at o2 o3;refine⟨.ref s.heap.objs.size,_,I.laid (t':=tk) (a:=s.heap.objs.size) (o:=zCx X.prog X.w s.heap.objs.size ss) (fun b o e=>hk b o (Heap.lt_size e) e) (hA7 _) ⟨hS,?_,fun h1 h2 z k=>z.at k⟩,rfl,q _ ss (I.hok.fresh (hA7 _)) o1 o2 fun x=>?_⟩
 ·obtain⟨es,ep,t,ho,_⟩:=hS;exact⟨_,ho⟩
 ·rw[o3 x,List.mem_iff_getElem?];constructor
  ·rintro⟨j,hj,rfl⟩;exact⟨j,by show ss0[j]?=some (ss0.getD j default);rw[hA8,hA2 hj];rfl⟩
  ·rintro⟨j,hj⟩;exact⟨j,(hAk.mp hj).1,by show ss0.getD j default=x;rw[hA8,hj];rfl⟩
theorem qHe(hc:X.calm=true):qB9 X (.builtin "sorted") (fun xs H Q=>∃(p:Addr) (ss:List Str),xs=[.ref p]/\H p=some (zCx X.prog X.w p ss)/\ss.length<64/\∀(r:Addr) (ss':List Str),H r=none->ss'.Perm ss->sortedS ss'=true->Q (.ref r) (upd H r (.lst (ss'.map V.str)))):=by
 intro pins s σ H xs us Q I r h;obtain⟨p,ss,rfl,hp,h64,q⟩:=h;obtain⟨u,rfl,rx⟩:=qCl r;cases rx;have hS:qB2 X.prog X.w s.heap p ss:=(I.hok p _ hp).1;refine Calls.call_function_entry kind_sorted plain_sorted entry_sorted (args_sorted1 _) ?_;unfold Builtin.«sorted»;refine wpAny_bind (m:=checkCount "sorted" 1 1 _) (wpAny_pure (wpAny_bind (qKe (I.ok.hd hc) hS fun vs ss1 h1 tk d a1 a2 a3 a4=>?_)));have hvl:vs.length=ss1.length:=by rw[<-a1.strs,hA1]
 have hl64:vs.length<64:=by rw[hvl,a2.length_eq];exact h64
 refine wpAny_bind (wpAny_newList ?_ (by have:sizeLine > 64:=(by decide);omega));have hoL:(h1.push (seqObj "list" vs.toArray 0)).get? h1.objs.size=some (seqObj "list" vs.toArray 0):=Heap.get?_push_size _ rfl;refine wpAny_bind (wpAny_holding (wpAny_call_entry slot_list_sort ⟨_,hoL,rfl⟩ entry_list_sort (list_sort_treeK strKind_oneLt hoL a1.keysOf (fun v1 v2 rest e=>keyKind_strs (by rw[<-e];exact a1)) hl64 fun st' b1 b2=>⟨_,rfl,?_⟩) (args_list_sort _)));obtain⟨ss',c1,c2,c3⟩:=sorted_out_str a1 b1 b2;refine wpAny_pure ⟨_,rfl,?_⟩;have nz:H h1.objs.size=none:=I.hok.fresh a4;obtain⟨e,he⟩:=sortedHeap_at (out:=(arrOf st').map (·.2)) hoL;refine⟨.ref h1.objs.size,_,I.turnedT (t':=tk) (d':=d) (ch:=[]) (a:=h1.objs.size) (o:=.lst (ss'.map V.str)) (fun b o _ eb=>?_) (fun b z=>nomatch z) a4 ?_,rfl,q _ ss' nz (c2.trans a2) c3⟩
 ·have e1:=a3 b o eb;have lt:=Heap.lt_size e1;rw[sortedHeap_old (hAp lt) (by rw[size_push'];exact hBr lt)];exact Heap.get?_push_of_some _ e1
 ·refine⟨?_,((arrOf st').map (·.2)).toList,e,qHu c1,he⟩;rw[hA1,c2.length_eq,a2.length_eq];exact hB1 (qAi (by omega))
end
section
variable{X:Cx}{pins:List (Addr×Obj)}{σ:St}{H:Hp}{s:Shared}{h':Heap}
theorem Inv.turnedL{t':Nat}{ch:List Addr}(I:Inv X pins σ H s)(k:∀b u,b∉ch->s.heap.get? b=some u->h'.get? b=some u)(f:∀b∈ch,qPh X pins H b):Inv X pins σ H { s with heap:=h',toks:=t' }:=by
 have nit:∀b u,H b=some u->b∉ch:=fun b u e z=>by rw[(f b z).1]at e;cases e
 refine I.step (g':=s.gens) (d':=s.drawn) (ch:=ch) (fun b hb=>?_) (fun b u _ _ hc e _=>k b u hc e) (fun b u _ _ hc e _=>⟨u.slots,k b u hc e⟩) (fun b u _ e n=>n) (fun b u hc e=>⟨u,k b u hc e⟩) (fun b xs q=>q) (fun b u v q=>q) (fun b ps q=>⟨#[],by rw[q];simp⟩) (fun m hm=>?_) (fun b u e=>?_) I.bare
 ·obtain⟨_,f1,_,f3,f4,f5⟩:=f b hb;exact⟨f3,f1,f4,f5⟩
 ·obtain⟨ob,es,ep,ho,r⟩:=hm;exact⟨ob,es,ep,k _ ob (fun z=>(f _ z).2.1 rfl) ho,r⟩
 ·refine(I.hok b u e).stay (fun c v hc q=>k c v ?_ q) (fun c q=>q) fun c xs q=>q
  rcases hc with z|z
  ·rw[z];exact nit b u e
  ·exact nit c _ z
end
def Itp(n:Nat)(Ls:Hp->Prop)(xv:Nat->List V):It:=⟨fun i H=>Ls H/\i<n,fun i H x H'=>∃T,H T=none/\H'=upd H T (.tup (xv i))/\x = .ref T,fun i H=>Ls H/\i=n⟩
theorem qHj{P:Program}{w:World}{K:PySem.W.Frag}{elts:List Expr}{ct:Nat}{pos:Pos}(it:Addr)(fp fpW wr:List Addr)(n:Nat)(Ls:Hp->Prop)(xv:Nat->List V)(tn:Nat->Heap->Prop)
  (hit:it∈fp) (hwr:∀b∈wr,b∈fp) (hobj:∀i h,tn i h->∀b∈fp,∃o,h.get? b=some o/\∀v,o.data≠.cell v) (hkeep:∀i h h',tn i h->(∀b∈fp,∀o,h.get? b=some o->h'.get? b=some o)->tn i h')
  (hx:∀i,(xv i).length<=sizeLine)
  (W:∀(X:Cx),X.prog=P->X.w=w->X.K=K->X.calm=true->∀(pins:List (Addr×Obj)) (s:Shared) (σ:L2.St) (H:Hp),Inv X pins σ H s->Ls H->∃(Pt:Nat->Array Value->Prop) (St:Nat->Heap->Prop) (Mid:Nat->Addr->Heap->Prop),WalksT P w X.A it fpW wr n Pt St Mid/\(∀i,tn i s.heap->St i s.heap)/\(∀i h,St i h->tn i h) /\
   (∀i vals,Pt i vals->qBa (xv i) vals.toList))
  (hself:∀(A:Around) (i:Nat) (s:Shared) (Q:Value->Shared->Prop) (E:Value->Shared->Prop),tn i s.heap->Q (.ref it) s->wpAny (model P w) A (pyIter (.ref it)) Q E s):Turn P w K (.Tuple elts ct pos) (Itp n Ls xv) fp it tn where
 mem:=hit
 obj:=hobj
 keep:=hkeep
 item:=by
  intro X hP hw hK hc i pins s σ H E I hf st hg;obtain⟨hL,hi⟩:=hg;obtain⟨Pt,St,Mid,Wt,w1,w2,w3⟩:=W X hP hw hK hc pins s σ H I hL;subst hP hw hK;refine Wt.item i s _ _ hi (w1 i st) fun T vals h1 tk pv hT ht mid k1=>?_
  have hTw:T∉wr:=Wt.apart i T h1 mid;refine⟨_,rfl,Wt.go elts ct pos i T _ _ _ mid fun h2 st2 k2=>?_⟩;have ht2:IsTup h2 T (vals.toList).toArray:=by
   obtain⟨o,a1,a2,nn,a3⟩:=ht;exact⟨o,k2 _ _ hTw a1,a2,nn,by simpa using a3⟩
  refine⟨.ref T,upd H T (.tup (xv i)),I.turnedT (t':=tk) (d':=s.drawn) (ch:=wr) (fun b u hb e=>k2 b u hb (k1 b u hb e)) (fun b hb=>hf b (hwr b hb)) hT ⟨hx i,vals.toList,w3 i vals pv,ht2⟩,rfl,⟨T,I.hok.fresh hT,rfl,rfl⟩,w2 _ _ st2,fun b hb=>?_⟩;have e:b≠T:=by
   obtain⟨o,ho,_⟩:=hobj i _ st b hb;exact hAp (hAi (Heap.lt_size ho) hT)
  rw[qAl e];exact(hf b hb).1
 done:=by
  intro X hP hw hK hc i pins s σ H E I hf st hg;obtain⟨hL,hi⟩:=hg;obtain⟨Pt,St,Mid,Wt,w1,w2,w3⟩:=W X hP hw hK hc pins s σ H I hL;subst hP hw hK hi;exact Wt.done s _ _ (w1 _ st) fun h1 tk k1=>⟨rfl,I.turnedL (ch:=wr) (fun b u hb e=>k1 b u hb e) fun b hb=>hf b (hwr b hb)⟩
 self:=hself
theorem qI5(n a b:Nat)(h1:a<n)(h2:b<n):ZipApart (n+4) (n+2) (n+3) n (n+1) a b:=by
 constructor <;> (show @Ne Nat _ _;omega)
section
variable{X:Cx}
def zDv(K:PySem.W.Frag)(ta:TA):TI:=fun σ H R=>ta σ H fun vs H1=>∃(a b:Addr) (xs ys:List V),vs=[.ref a,.ref b]/\SqL K H1 a xs/\SqL K H1 b ys/\R (Itp (min xs.length ys.length) (fun H=>SqL K H a xs/\SqL K H b ys) (fun i=>[xs.getD i .non,ys.getD i .non])) H1
theorem qOj:bootBuiltins "zip" = some (.type "zip"):=by decide +kernel
theorem zAm{a b:Expr}{ta:TA}{p pos tpos:Pos}{elts:List Expr}{ct:Nat}(hg:Gl X "zip")(hm:X.mg "zip" = none)(ha:PA X [a,b] ta)(hs:starEach [a,b] X.env=[(false,eval a X.env),(false,eval b X.env)]:=by rfl)(hs2:starEach [b] X.env=[(false,eval b X.env)]:=by rfl) :
  PI X (.Tuple elts ct tpos) (.Call (.Name "zip" p) [a,b] [] pos) (zDv X.K ta):=by
 intro pins s σ H R I h;refine Call_ (qC9 I hg hm qOj (hBw (thn (ha pos pins s σ H _ I h) fun us s1 ⟨vs,H1,I1,r1,q1⟩=>?_) (by rw[hs,hs2]) (by rw[hs2];rfl)));obtain⟨l1,l2,xs,ys,e,hx,hy,q⟩:=q1;subst e;obtain⟨u1,u2,rfl,r1,r2⟩:=qPl r1;cases r1;cases r2;obtain⟨it1,rv1,pl1,hz1⟩:=I1.list hx;obtain⟨it2,rv2,pl2,hz2⟩:=I1.list hy;have n1:=rv1.length;have n2:=rv2.length;have b1:l1<s1.heap.objs.size:=by obtain⟨o,n,e,_⟩:=pl1;exact Heap.lt_size e
 have b2:l2<s1.heap.objs.size:=by obtain⟨o,n,e,_⟩:=pl2;exact Heap.lt_size e
 refine call_zip_2 pl1.isList pl2.isList fun h1 z1 z2 z3 z4 z5 z6 z7=>?_
 refine wpAny_pyIter_zip z1 ?_;have D:=qI5 s1.heap.objs.size l1 l2 b1 b2;have hfp:∀b∈[s1.heap.objs.size+4,s1.heap.objs.size+2,s1.heap.objs.size+3,s1.heap.objs.size,s1.heap.objs.size+1],s1.heap.objs.size<=b:=fun b hb=>by
  simp only[hAf,hCh,or_false]at hb;rcases hb with rfl|rfl|rfl|rfl|rfl
  ·exact hCb _ _
  ·exact hCb _ _
  ·exact hCb _ _
  ·exact hA7 _
  ·exact hCb _ _
 refine⟨s1.heap.objs.size+4,[s1.heap.objs.size+4,s1.heap.objs.size+2,s1.heap.objs.size+3,s1.heap.objs.size,s1.heap.objs.size+1],
  fun i h=>IsZip h (s1.heap.objs.size+4) (s1.heap.objs.size+2) (s1.heap.objs.size+3) .none/\IsPair h (s1.heap.objs.size+2) (.ref s1.heap.objs.size) (.ref (s1.heap.objs.size+1))/\(∃a b,IsPair h (s1.heap.objs.size+3) a b)/\h.IsListIter s1.heap.objs.size l1 i/\h.IsListIter (s1.heap.objs.size+1) l2 i,
  _,H1,rfl,I1.kept (t':=s1.toks) z7,
  qHj (s1.heap.objs.size+4) _ [s1.heap.objs.size+4,s1.heap.objs.size+2,s1.heap.objs.size+3,s1.heap.objs.size,s1.heap.objs.size+1,l1,l2] [s1.heap.objs.size+4,s1.heap.objs.size+3,s1.heap.objs.size,s1.heap.objs.size+1] _ _ _ _ (by simp) (fun b hb=>?_) (fun i h st b hb=>?_) (fun i h h' st k=>?_) (fun i=>by show 2<=sizeLine;decide) ?_ (fun A i s' Q E st hQ=>wpAny_pyIter_zip st.1 hQ),
  ⟨z1,z2,⟨_,_,z3⟩,z4,z5⟩,fun b hb=>I1.fpOk (hfp b hb) (I1.hok.fresh (hfp b hb)),q⟩
 ·simp only[hAf,hCh,or_false]at hb ⊢;rcases hb with h|h|h|h
  ·exact .inl h
  ·exact .inr (.inr (.inl h))
  ·exact .inr (.inr (.inr (.inl h)))
  ·exact .inr (.inr (.inr (.inr h)))
 ·obtain⟨a1,a2,⟨c,d,a3⟩,⟨o4,a4,c4,d4⟩,⟨o5,a5,c5,d5⟩⟩:=st;simp only[hAf,hCh,or_false]at hb;rcases hb with rfl|rfl|rfl|rfl|rfl
  ·exact⟨_,a1,fun v z=>by cases z⟩
  ·exact⟨_,a2,fun v z=>by cases z⟩
  ·exact⟨_,a3,fun v z=>by cases z⟩
  ·exact⟨_,a4,fun v z=>by rw[d4]at z;cases z⟩
  ·exact⟨_,a5,fun v z=>by rw[d5]at z;cases z⟩
 ·obtain⟨a1,a2,⟨c,d,a3⟩,a4,a5⟩:=st;exact⟨k _ (by simp) _ a1,k _ (by simp) _ a2,⟨c,d,k _ (by simp) _ a3⟩,a4.at fun o e=>k _ (by simp) o e,a5.at fun o e=>k _ (by simp) o e⟩
 ·intro X' hP hw hK hc pins' s' σ' H' I' hL;obtain⟨hx',hy'⟩:=hL;rw[<-hK]at hx' hy';obtain⟨jt1,sv1,ql1,_⟩:=I'.list hx';obtain⟨jt2,sv2,ql2,_⟩:=I'.list hy';have m1:=sv1.length;have m2:=sv2.length;have Wz:=WalksT.zip2 (prog:=X.prog) (w:=X.w) (I'.ok.hd hc) _ _ _ _ _ l1 l2 D jt1.toArray jt2.toArray;rw[show min jt1.toArray.size jt2.toArray.size=min xs.length ys.length by show min jt1.length jt2.length=_;rw[m1,m2]]at Wz;refine⟨_,_,_,Wz,fun i st=>?_,fun i h st=>?_,fun i vals pv=>?_⟩
  ·obtain⟨a1,a2,a3,a4,a5⟩:=st;exact⟨a1,a2,a3,a4,a5,ql1.isList,ql2.isList⟩
  ·obtain⟨a1,a2,a3,a4,a5,_⟩:=st;exact⟨a1,a2,a3,a4,a5⟩
  ·obtain⟨x,y,e1,e2,rfl⟩:=pv;have e1:jt1[i]?=some x:=by simpa using e1
   have e2:jt2[i]?=some y:=by simpa using e2
   have c1:i<xs.length:=by rw[m1];exact(hAk.mp e1).1
   have c2:i<ys.length:=by rw[m2];exact(hAk.mp e2).1
   obtain⟨u,d1,d2⟩:=sv1.get (hA2 c1);obtain⟨v,f1,f2⟩:=sv2.get (hA2 c2);rw[e1]at d1;rw[e2]at f1;cases d1;cases f1;show qBa [xs.getD i .non,ys.getD i .non] [x,y];rw[hA8,hA2 c1,hA8,hA2 c2];exact .cons d2 (.cons f2 .nil)
end
section
variable{σ0:St}{g:TG}{tt:TT}{te:TE}{Q:List V->Hp->Prop}{H1:Hp}
theorem qDa(Pv:Nat->List V->Hp->Prop)(h0:Pv 0 [] H1)(hl:∀i ys H,i<=n->Pv i ys H->Ls H)
  (hs:∀i ys H T,i<n->Pv i ys H->H T=none->g (.ref T) σ0 (upd H T (.tup (xv i))) fun σ2 H2=>Sle σ0 σ2/\tt σ2 H2 fun b H3=>if b=true then te σ2 H3 (fun v H4=>ys.length<sizeLine/\Nxt n i Pv (ys++[v]) H4) else Nxt n i Pv ys H3)
  (hd:∀ys H,Pv n ys H->Q ys H):qDj (Itp n Ls xv) σ0 g tt te Q H1:=by
 refine⟨fun i m ys H=>m=n - i/\i<=n/\Pv i ys H,⟨n,by simp,hAo _,h0⟩,?_⟩;rintro i m ys H ⟨rfl,hi,p⟩;have q:=hl i ys H hi p;by_cases hlt:i<n
 ·refine .inr ⟨⟨q,hlt⟩,fun x H' y=>?_⟩;obtain⟨T,e1,e2,e3⟩:=y;subst e2 e3;exact hs i ys H T hlt p e1
 ·have e:i=n:=by omega
  subst e;exact .inl ⟨⟨q,rfl⟩,hd ys H p⟩
end
def qSu(tpos:Pos)(it:Value)(target:Expr)(env:Env)(ifs:List Expr)(body:Sem Unit)(k:Sem Fin):Sem Fin:=do
 standAt tpos
 match ← pyNext it with
 |none=>pure (.done .next)
 |some v =>
  letOwnedTupleGo target it v
  assign target env v
  let mut ok:=true
  for c in ifs do
   if ok then ok ← isTrue c env (eval c env)
  if ok then
   body
  k
section
variable{AS:Type}
abbrev TB(AS:Type):=AS->St->Hp->(AS->St->Hp->Prop)->Prop
end
structure GC(P:Program)(w:World){AS:Type}(e target iter:Expr)(ifs:List Expr)(scope:Scope)(tpos:Pos)(newAcc:Sem Value)(body:Addr->Env->Sem Unit)(o0:Obj)(a0:AS)(AO:AS->Obj->Prop)(HOf:Addr->AS->HO):Prop where
 new:∀(A:Around) (s:Shared) (Q:Value->Shared->Prop) (E:Value->Shared->Prop),Q (.ref s.heap.objs.size) { s with heap:=s.heap.push o0 }->wpAny (model P w) A newAcc Q E s
 nf:o0.isFreed=false
 nc:∀a o,AO a o->∀v,o.data≠.cell v
 hA0:AO a0 o0
 hHO:∀(H':Hp) (h:Heap) (acc:Addr) (a:AS) (o:Obj),sysModules<acc->AO a o->h.get? acc=some o->qB8 P w H' h acc (HOf acc a)
 cl:∃gs,clausesOf e=⟨target,iter,ifs,0⟩ :: gs
 dnS:∀(it acc:Value) (env:Env) (A:Around) (Q:PySem.Fin->Shared->Prop) (E:Value->Shared->Prop) (s:Shared),wpAny (model P w) A ((compStart e 0 it acc env).onRaise (fun x=>do noteFrame x env;standAt theWindowsPlace)) Q E s->wpAny (model P w) (A.under (.compStart e 0 it acc env)) ((model P w).den (.compStart e 0 it acc env)) Q E s
 dnL:∀(it acc:Value) (env:Env) (A:Around) (Q:PySem.Fin->Shared->Prop) (E:Value->Shared->Prop) (s:Shared),wpAny (model P w) A ((compTurn e 0 it acc env).onRaise (fun x=>do noteFrame x env;theTreesLotGoes x)) Q E s->wpAny (model P w) (A.under (.compLoop e 0 it acc env)) ((model P w).den (.compLoop e 0 it acc env)) Q E s
 q:∀it acc env,(Code.compLoop e 0 it acc env).quiet=true
 sh:∀(it acc:Addr) (env:Env),compTurn e 0 (.ref it) (.ref acc) env=qSu tpos (.ref it) target env ifs (body acc env) (again (.compLoop e 0 (.ref it) (.ref acc) env))
end L2
namespace L2
open PySem PySem.Spec PyProof.Rows PySem.W
abbrev Rng(n:Nat):Array Nat:=List.toArray (List.range n)
def Gd(n:Nat)(p:Array Nat):Prop:=p.Perm (Rng n)
theorem Gd.lt(h:Gd n p)(h0:0<n)(i:Nat):p.getD i 0<n:=by
 by_cases hi:i<p.size
 ·have e:p.getD i 0=p[i]:=by simp[Array.getD,hi]
  rw[e];have m:p[i]∈p.toList:=by simp
  have m2:=(hBy.mp h).mem_iff.mp m
  simpa using m2
 ·have e:p.getD i 0=0:=by simp[Array.getD,hi]
  rw[e];exact h0
theorem Gd.rev(h:Gd n p)(i j:Nat):Gd n (kas_rev p i j):=(mirror_perm _ _ _ _).trans h
theorem Gd.bub(h:Gd n p)(i j:Nat):Gd n (bubble p i j):=(bubble_perm _ _ _).trans h
section
variable{n:Nat}{cmp:Nat->Nat->(Bool->Shared->Prop)->Shared->Prop}{s:Shared}(hask:∀i j C,i<n->j<n->(∀b,C b s)->cmp i j C s)(h0:0<n)
include hask h0
theorem qR0(g:Gd n p)(hq:∀m,Q m s):∀f m,(kas_asc p f m).kasWp cmp Q s
 |0,m=>hq m
 |f+1,m=>by
  refine hask _ _ _ (g.lt h0 _) (g.lt h0 _) fun b=>?_
  dsimp only;split
  ·exact hq m
  ·exact qR0 g hq f (m+1)
theorem qIy(hq:∀p m q,Gd n p->Q (p,m,q) s):∀f p m q,Gd n p->(kas_desc f p m q).kasWp cmp Q s
 |0,p,m,q,g=>hq p m q g
 |f+1,p,m,q,g=>by
  refine hask _ _ _ (g.lt h0 _) (g.lt h0 _) fun b=>?_
  dsimp only;split
  ·split
   ·exact qIy hq f _ _ _ (g.rev _ _)
   ·exact qIy hq f _ _ _ g
  ·refine hask _ _ _ (g.lt h0 _) (g.lt h0 _) fun d=>?_
   dsimp only;split
   ·exact hq p m q g
   ·exact qIy hq f _ _ _ g
theorem qNv(g:Gd n p)(hq:∀m p,Gd n p->Q (m,p) s)(a b:Nat):(kas_tail3 a b p).kasWp cmp Q s:=by
 unfold kas_tail3;rw[KasT.kasWp_bind];exact qR0 hask h0 (g.rev _ _) (fun m=>hq m _ (g.rev _ _)) _ _
theorem qGy(g:Gd n p)(hq:∀m p,Gd n p->Q (m,p) s)(a b:Nat):(kas_descPart a b p).kasWp cmp Q s:=by
 unfold kas_descPart;rw[KasT.kasWp_bind];refine qIy hask h0 (fun p' m q g'=>?_) _ _ _ _ g;dsimp only;split
 ·exact qNv hask h0 (g'.rev _ _) hq _ _
 ·exact qNv hask h0 g' hq _ _
theorem qUy(g:Gd n p)(hq:∀m p,Gd n p->Q (m,p) s)(b:Nat):(kas_count b p).kasWp cmp Q s:=by
 unfold kas_count;rw[KasT.kasWp_bind];refine qR0 hask h0 g (fun m=>?_) _ _;split
 ·exact hq _ _ g
 ·split
  ·refine hask _ _ _ (g.lt h0 _) (g.lt h0 _) fun c=>?_
   dsimp only;split
   ·exact hq _ _ g
   ·exact qGy hask h0 (g.rev _ _) hq _ _
  ·exact qGy hask h0 g hq _ _
theorem qIx(g:Gd n p)(hq:∀m,Q m s)(k:Nat):∀f l r,(kas_place p k f l r).kasWp cmp Q s
 |0,l,r=>hq l
 |f+1,l,r=>by
  unfold kas_place;split
  ·exact hq l
  ·refine hask _ _ _ (g.lt h0 _) (g.lt h0 _) fun c=>?_
   dsimp only;split
   ·exact qIx g hq k f _ _
   ·exact qIx g hq k f _ _
theorem qWl(hq:∀p,Gd n p->Q p s):∀f p k,Gd n p->(kas_bin f p k).kasWp cmp Q s
 |0,p,k,g=>hq p g
 |f+1,p,k,g=>by
  unfold kas_bin;rw[KasT.kasWp_bind];exact qIx hask h0 g (fun m=>qWl hq f _ _ (g.bub _ _)) k _ _ _
theorem qY6(hq:∀p,Gd n p->Q p s):(kas_sort n).kasWp cmp Q s:=by
 unfold kas_sort;rw[KasT.kasWp_bind];refine qUy hask h0 (hDm _) (fun m p g=>?_) _;dsimp only;split
 ·exact qWl hask h0 hq _ _ _ g
 ·exact hq _ g
end
def zBz(h:Heap)(v:Value)(t:List Str):Prop:=∃a its,v = .ref a/\IsTup h a its/\StrsAre its.toList t/\t≠[]
section
variable{P:Program}{w:World}{A:Around}{E:Value->Shared->Prop}{s:Shared}
theorem qF4(k:∀b o,b≠a->h.get? b=some o->h'.get? b=some o):∀ {vs:List Value} {ts:List (List Str)},Paired (zBz h) vs ts->(∀v∈vs,v≠.ref a)->∃fs:List Value,KatTups h' vs fs/\fs.length=vs.length/\∀f∈fs,∃x t,f=Value.str x t
 |_,_,.nil,_=>⟨[],trivial,rfl,fun f hf=>by cases hf⟩
 |_,_,@Paired.cons _ _ _ v t l1 l2 hh tt,hn=>by
  obtain⟨fs,q1,q2,q3⟩:=qF4 k tt fun u hu=>hn u (hA4 _ hu)
  obtain⟨b,its,rfl,⟨o,g,c,n,d⟩,st,ne⟩:=hh;have nb:b≠a:=fun z=>hn _ hA6 (by rw[z])
  cases t with
  |nil=>exact absurd rfl ne
  |cons x r =>
   have e:=st.strs;cases hi:its.toList with
   |nil=>rw[hi]at e;cases e
   |cons f fr =>
    have hf:its[0]?=some f:=by rw[<-hBc,hi];rfl
    refine⟨f :: fs,.cons (k b o nb g) c d hf q1,by simp[q2],fun g' hg'=>?_⟩;rcases hAf.mp hg' with z|z
    ·subst z;exact st.all _ (by rw[hi];exact hA6)
    ·exact q3 g' z
end
section
variable{X:Cx}
theorem refs_of:∀ {as:List Addr} {us:List Value},qBa (as.map V.ref) us->us=as.map Value.ref
 |[],_,r=>by cases r;rfl
 |a :: as,_,r=>by
  cases r with
  |cons h t=>cases h;rw[refs_of t];rfl
theorem qD8:∀as:List Addr,qBa (as.map V.ref) (as.map Value.ref)
 |[]=>.nil
 |a :: as=>.cons rfl (qD8 as)
theorem qPo(I:Inv X pins σ H s)(k:∀b o,s.heap.get? b=some o->h'.get? b=some o):∀ {as:List Addr} {ts:List (List Str)},Paired (fun a t=>SqT X.K H a (t.map V.str)/\t≠[]) as ts->Paired (zBz h') (as.map Value.ref) ts
 |_,_,.nil=>.nil
 |_,_,.cons h t=>by
  obtain⟨h1,h2⟩:=h;obtain⟨its,rv,⟨o,g,c,n,d⟩,_⟩:=I.tuple h1;exact .cons ⟨_,its.toArray,rfl,⟨o,k _ _ g,c,n,d⟩,by simpa using qDm rv,h2⟩ (qPo I k t)
theorem qPp(I:Inv X pins σ H s):∀ {as:List Addr} {ts:List (List Str)},Paired (fun a t=>SqT X.K H a (t.map V.str)/\t≠[]) as ts->∀b∈as,b<s.heap.objs.size
 |_,_,.nil,b,hb=>by cases hb
 |_,_,.cons h t,b,hb=>by
  rcases hAf.mp hb with z|z
  ·subst z;obtain⟨its,rv,⟨o,g,_⟩,_⟩:=I.tuple h.1;exact Heap.lt_size g
  ·exact qPp I t b z
end
section
variable{X:Cx}
theorem qFs:qB9 X (.type "range") (fun xs H Q=>∃j:Int,xs=[.int j]/\0<=j/\j<=1000/\∀r,H r=none->Q (.ref r) (upd H r (.rng 0 j))):=by
 intro pins s σ H xs us Q I r h;obtain⟨j,rfl,h0,h1,q⟩:=h;obtain⟨u,rfl,t,rfl⟩:=qCl r;refine call_range_1 ?_;exact⟨.ref s.heap.objs.size,_,I.laid (a:=s.heap.objs.size) (o:=.rng 0 j) (fun b o e=>Heap.get?_push_of_some _ e) (hA7 _) ⟨_,_,_,Heap.get?_push_size _ rfl⟩,rfl,q _ (I.hok.fresh (hA7 _))⟩
theorem qJ5:∀ {its:List Value} {n:Nat} (k:Nat),its.length=n->(∀i v,its[i]?=some v->∃t,v=Value.int ((k+i:Nat):Int) t)->qBa ((List.range' k n).map fun (i:Nat)=>V.int (i:Int)) its
 |[],n,k,hl,_=>by
  have e:n=0:=hl.symm;subst e;exact .nil
 |v :: r,n,k,hl,h=>by
  obtain⟨m,rfl⟩:∃m,n=m+1:=⟨n - 1,by simp at hl;omega⟩;rw[List.range'_succ,hB9];refine .cons ?_ (qJ5 (k+1) (by simpa using hl) fun i v hv=>?_)
  ·obtain⟨t,e⟩:=h 0 v rfl;exact⟨t,by rw[e,Nat.add_zero]⟩
  ·obtain⟨t,e⟩:=h (i+1) v (by simpa using hv);exact⟨t,by rw[e,show k+(i+1)=k+1+i by omega]⟩
theorem qI3(hc:X.calm=true):qB9 X (.type "list") (fun xs H Q=>∃(r:Addr) (j:Int),xs=[.ref r]/\H r=some (.rng 0 j)/\0<=j/\j<=1000/\∀l,H l=none->Q (.ref l) (upd H l (.lst ((List.range j.toNat).map fun (i:Nat)=>V.int (i:Int))))):=by
 intro pins s σ H xs us Q I r h;obtain⟨p,j,rfl,hp,h0,h1,q⟩:=h;obtain⟨u,rfl,rx⟩:=qCl r;cases rx;obtain⟨t,u,v,e⟩:=I.hok p _ hp;refine call_list_range (n:=j.toNat) (a:=0) (b:=j) (c:=1) (I.ok.hd hc) e (small_one (by decide) (by decide) (by omega) (by omega)) (by rw[rangeSize_one];split <;> omega) (by omega) fun h' tk acc' c' hk hS hacc=>?_
 refine⟨.ref s.heap.objs.size,_,I.laid (t':=tk) (a:=s.heap.objs.size) (o:=.lst ((List.range j.toNat).map fun (i:Nat)=>V.int (i:Int))) (fun b o e=>hk b o e) (hA7 _) ⟨?_,acc'.toList,c',?_,by rw[Array.toArray_toList];exact hS⟩,rfl,q _ (I.hok.fresh (hA7 _))⟩
 ·rw[hA1,hB0];exact hB1 (qAi (by omega))
 ·rw[List.range_eq_range'];refine qJ5 0 (by rw[hBo];exact hacc.1) fun i v hv=>?_
  obtain⟨t,e⟩:=hacc.2 i v (by rw[<-hBc];exact hv);exact⟨t,by rw[e];congr 1;omega⟩
end
structure Ordr(lt:Nat->Nat->Bool):Prop where
 asym:∀a b,lt a b=true->lt b a=false
 tr:∀a b c,lt b a=false->lt c b=false->lt c a=false
theorem Ordr.irr(o:Ordr lt)(a:Nat):lt a a=false:=by
 cases h:lt a a with
 |false=>rfl
 |true=>exact(o.asym a a h).symm.trans h▸rfl
def SPk(lt:Nat->Nat->Bool)(p:Array Nat)(k:Nat):Prop:=∀i j,i<j->j<k->lt (p.getD j 0) (p.getD i 0)=false
def DPk(lt:Nat->Nat->Bool)(p:Array Nat)(k:Nat):Prop:=∀i j,i<j->j<k->lt (p.getD i 0) (p.getD j 0)=false
def ERk(lt:Nat->Nat->Bool)(p:Array Nat)(a b:Nat):Prop:=∀i j,a<=i->i<b->a<=j->j<b->lt (p.getD i 0) (p.getD j 0)=false
theorem Gd.size(h:Gd n p):p.size=n:=by
 have:=Array.Perm.size_eq h
 simpa using this
theorem qHq(hj:j<=p.size)(k:Nat):(kas_rev p i j).getD k 0=if i<=k/\k<j then p.getD (i+j - 1 - k) 0 else p.getD k 0:=by
 unfold kas_rev;rw[hC6,getElem?_mirror_all hj];split <;> rw[<-hC6]
theorem qWy(hk:k<p.size)(hl:l<=k)(i:Nat):(bubble p k (k - l)).getD i 0=if i=l then p.getD k 0 else if l<i/\i<=k then p.getD (i - 1) 0 else p.getD i 0:=by
 rw[hC6,getElem?_bubble hk _ (by omega)];have e:k - (k - l)=l:=by omega
 rw[e];by_cases e1:i=l
 ·rw[if_pos e1,if_pos e1,<-hC6]
 ·rw[if_neg e1,if_neg e1];by_cases e2:l<i/\i<=k
  ·rw[if_pos e2,if_pos e2,<-hC6]
  ·rw[if_neg e2,if_neg e2,<-hC6]
section
variable{lt:Nat->Nat->Bool}(o:Ordr lt)
include o
theorem SPk.snoc(h:SPk lt p k)(h1:1<=k)(hk:lt (p.getD k 0) (p.getD (k - 1) 0)=false):SPk lt p (k+1):=fun i j hij hj=>by
 by_cases e:j=k
 ·subst e;by_cases e2:i=j - 1
  ·subst e2;exact hk
  ·exact o.tr _ _ _ (h i (j - 1) (by omega) (by omega)) hk
 ·exact h i j hij (by omega)
theorem DPk.snoc(h:DPk lt p k)(h1:1<=k)(hk:lt (p.getD (k - 1) 0) (p.getD k 0)=false):DPk lt p (k+1):=fun i j hij hj=>by
 by_cases e:j=k
 ·subst e;by_cases e2:i=j - 1
  ·subst e2;exact hk
  ·exact o.tr _ _ _ hk (h i (j - 1) (by omega) (by omega))
 ·exact h i j hij (by omega)
omit o in
theorem DPk.rev(h:DPk lt p k)(hb:b<=p.size)(hbk:b<=k)(e:ERk lt p a b):DPk lt (kas_rev p a b) k:=fun i j hij hj=>by
 rw[qHq hb,qHq hb];split
 ·split
  ·exact e _ _ (by omega) (by omega) (by omega) (by omega)
  ·exact h _ _ (by omega) (by omega)
 ·split
  ·exact h _ _ (by omega) (by omega)
  ·exact h _ _ (by omega) (by omega)
omit o in
theorem DPk.turn(h:DPk lt p k)(hk:k<=p.size):SPk lt (kas_rev p 0 k) k:=fun i j hij hj=>by
 rw[qHq hk,qHq hk,if_pos (by omega),if_pos (by omega)];exact h _ _ (by omega) (by omega)
variable{n:Nat}{cmp:Nat->Nat->(Bool->Shared->Prop)->Shared->Prop}{s:Shared}(hask:∀i j C,i<n->j<n->C (lt i j) s->cmp i j C s)(h0:0<n)
include hask h0
theorem qQd(g:Gd n p)(N:Nat)(hq:∀m,SPk lt p m->1<=m->m<=N->(m<N->lt (p.getD m 0) (p.getD (m - 1) 0)=true)->Q m s):∀f m,1<=m->m+f=N->SPk lt p m->(kas_asc p f m).kasWp cmp Q s
 |0,m,h1,hN,sp=>hq m sp h1 (by omega) (fun z=>by omega)
 |f+1,m,h1,hN,sp=>by
  refine hask _ _ _ (g.lt h0 _) (g.lt h0 _) ?_;dsimp only;split
  ·rename_i c;exact hq m sp h1 (by omega) fun _=>c
  ·rename_i c;exact qQd g N hq f (m+1) (by omega) (by omega) (sp.snoc o h1 (by simpa using c))
theorem qId(N:Nat)(hN:N<=n)(hq:∀p m q,Gd n p->1<=m->q+1<=m->m<=N->DPk lt p m->ERk lt p (m - (q+1)) m->Q (p,m,q) s):∀f p m q,Gd n p->1<=m->q+1<=m->m+f=N->DPk lt p m->ERk lt p (m - (q+1)) m->(kas_desc f p m q).kasWp cmp Q s
 |0,p,m,q,g,h1,h2,h3,dp,er=>hq p m q g h1 h2 (by omega) dp er
 |f+1,p,m,q,g,h1,h2,h3,dp,er=>by
  have sz:=g.size;refine hask _ _ _ (g.lt h0 _) (g.lt h0 _) ?_;dsimp only;split
  ·rename_i c;have dp':=dp.snoc o h1 (o.asym _ _ c);have one:∀p':Array Nat,ERk lt p' (m+1 - (0+1)) (m+1):=fun p' i j hi hi' hj hj'=>by
    have e1:i=m:=by omega
    have e2:j=m:=by omega
    subst e1 e2;exact o.irr _
   split
   ·exact qId N hN hq f _ (m+1) 0 (g.rev _ _) (by omega) (by omega) (by omega) (dp'.rev (by omega) (by omega) er) (one _)
   ·exact qId N hN hq f p (m+1) 0 g (by omega) (by omega) (by omega) dp' (one _)
  ·rename_i c;refine hask _ _ _ (g.lt h0 _) (g.lt h0 _) ?_;dsimp only;split
   ·exact hq p m q g h1 h2 (by omega) dp er
   ·rename_i d;have c':lt (p.getD m 0) (p.getD (m - 1) 0)=false:=by simpa using c
    have d':lt (p.getD (m - 1) 0) (p.getD m 0)=false:=by simpa using d
    refine qId N hN hq f p (m+1) (q+1) g (by omega) (by omega) (by omega) (dp.snoc o h1 d') fun i j hi hi' hj hj'=>?_
    by_cases ei:i=m
    ·subst ei;by_cases ej:j=i
     ·subst ej;exact o.irr _
     ·exact o.tr _ _ _ (er (i - 1) j (by omega) (by omega) (by omega) (by omega)) c'
    ·by_cases ej:j=m
     ·subst ej;exact o.tr _ _ _ d' (er i (j - 1) (by omega) (by omega) (by omega) (by omega))
     ·exact er i j (by omega) (by omega) (by omega) (by omega)
theorem qMs(g:Gd n p)(N:Nat)(hN:N<=n)(hq:∀m p,Gd n p->SPk lt p m->1<=m->m<=N->Q (m,p) s)(m:Nat)(h1:1<=m)(h2:m<=N)(dp:DPk lt p m):(kas_tail3 m N p).kasWp cmp Q s:=by
 unfold kas_tail3;rw[KasT.kasWp_bind];have sz:=g.size;exact qQd o hask h0 (g.rev _ _) N (fun m' sp a b _=>hq m' _ (g.rev _ _) sp a b) _ _ h1 (by omega) (dp.turn (by omega))
theorem qF8(g:Gd n p)(N:Nat)(hN:N<=n)(hq:∀m p,Gd n p->SPk lt p m->1<=m->m<=N->Q (m,p) s)(m:Nat)(h2:m+1<=N)(dp:DPk lt p (m+1)):(kas_descPart m N p).kasWp cmp Q s:=by
 unfold kas_descPart;rw[KasT.kasWp_bind];refine qId o hask h0 N hN (fun p' m' q g' a b c dp' er=>?_) _ _ _ _ g (by omega) (by omega) (by omega) dp fun i j hi hi' hj hj'=>?_
 ·have sz:=g'.size;dsimp only;split
  ·exact qMs o hask h0 (g'.rev _ _) N hN hq _ a c (dp'.rev (by omega) (hA7 _) er)
  ·exact qMs o hask h0 g' N hN hq _ a c dp'
 ·have e1:i=m:=by omega
  have e2:j=m:=by omega
  subst e1 e2;exact o.irr _
theorem qTp(g:Gd n p)(hq:∀m p,Gd n p->SPk lt p m->1<=m->m<=n->Q (m,p) s):(kas_count n p).kasWp cmp Q s:=by
 unfold kas_count;rw[KasT.kasWp_bind];have sz:=g.size;refine qQd o hask h0 g n (fun m sp m1 mn st=>?_) _ _ (hA7 _) (by omega) (fun i j hij hj=>by omega);split
 ·exact hq _ _ g sp m1 mn
 ·rename_i c;have c':m≠n:=by simpa using c
  have lt1:=st (by omega);have ge1:=o.asym _ _ lt1;split
  ·refine hask _ _ _ (g.lt h0 _) (g.lt h0 _) ?_;dsimp only;split
   ·exact hq _ _ g sp m1 mn
   ·rename_i d;have d':lt (p.getD 0 0) (p.getD (m - 1) 0)=false:=by simpa using d
    have lo:∀i,i<m->lt (p.getD (m - 1) 0) (p.getD i 0)=false:=fun i hi=>by
     by_cases e:i=m - 1
     ·subst e;exact o.irr _
     ·exact sp i (m - 1) (by omega) (by omega)
    have hi0:∀j,j<m->lt (p.getD j 0) (p.getD 0 0)=false:=fun j hj=>by
     by_cases e:j=0
     ·subst e;exact o.irr _
     ·exact sp 0 j (by omega) hj
    have er:ERk lt p 0 m:=fun i j _ hi _ hj=>o.tr _ _ _ (o.tr _ _ _ (lo j hj) d') (hi0 i hi)
    refine qF8 o hask h0 (g.rev _ _) n (hA7 _) hq m (by omega) fun i j hij hj=>?_
    rw[qHq (by omega),qHq (by omega)];by_cases ej:j=m
    ·subst ej;rw[if_pos (by omega),if_neg (by omega)];exact o.tr _ _ _ ge1 (er _ _ (by omega) (by omega) (by omega) (by omega))
    ·rw[if_pos (by omega),if_pos (by omega)];exact er _ _ (by omega) (by omega) (by omega) (by omega)
  ·have e:m=1:=by omega
   subst e;refine qF8 o hask h0 g n (hA7 _) hq 1 (by omega) fun i j hij hj=>?_
   have e1:i=0:=by omega
   have e2:j=1:=by omega
   subst e1 e2;exact ge1
theorem qIc(g:Gd n p)(k:Nat)(sp:SPk lt p k)(hq:∀l,l<=k->(∀i,i<l->lt (p.getD k 0) (p.getD i 0)=false)->(∀i,l<=i->i<k->lt (p.getD i 0) (p.getD k 0)=false)->Q l s) :
  ∀f l r,l<=r->r<=k->r - l<=f->(∀i,i<l->lt (p.getD k 0) (p.getD i 0)=false)->(∀i,r<=i->i<k->lt (p.getD i 0) (p.getD k 0)=false)->(kas_place p k f l r).kasWp cmp Q s
 |0,l,r,h1,h2,h3,a,b=>hq l (by omega) a fun i hi hk=>b i (by omega) hk
 |f+1,l,r,h1,h2,h3,a,b=>by
  unfold kas_place;split
  ·exact hq l (by omega) a fun i hi hk=>b i (by omega) hk
  ·refine hask _ _ _ (g.lt h0 _) (g.lt h0 _) ?_;dsimp only;split
   ·rename_i c;have c':=o.asym _ _ c;refine qIc g k sp hq f l ((l+r) / 2) (by omega) (by omega) (by omega) a fun i hi hk=>?_
    by_cases e:i=(l+r) / 2
    ·subst e;exact c'
    ·exact o.tr _ _ _ c' (sp _ _ (by omega) hk)
   ·rename_i c;have c':lt (p.getD k 0) (p.getD ((l+r) / 2) 0)=false:=by simpa using c
    refine qIc g k sp hq f ((l+r) / 2+1) r (by omega) h2 (by omega) (fun i hi=>?_) b;by_cases e:i=(l+r) / 2
    ·subst e;exact c'
    ·exact o.tr _ _ _ (sp i ((l+r) / 2) (by omega) (by omega)) c'
theorem qV8(hq:∀p,Gd n p->SPk lt p n->Q p s):∀f p k,Gd n p->k+f=n->SPk lt p k->(kas_bin f p k).kasWp cmp Q s
 |0,p,k,g,h1,sp=>hq p g (by rw[<-h1];exact sp)
 |f+1,p,k,g,h1,sp=>by
  unfold kas_bin;rw[KasT.kasWp_bind];have sz:=g.size;refine qIc o hask h0 g k sp (fun l hl a b=>qV8 hq f _ _ (g.bub _ _) (by omega) fun i j hij hj=>?_) k 0 k (by omega) (hA7 _) (by omega) (fun i hi=>by omega) (fun i hi hk=>by omega);rw[qWy (by omega) hl,qWy (by omega) hl];by_cases ej:j=l
  ·rw[if_pos ej,if_neg (by omega),if_neg (by omega)];exact a i (by omega)
  ·rw[if_neg ej];by_cases ej2:l<j/\j<=k
   ·rw[if_pos ej2];by_cases ei:i=l
    ·rw[if_pos ei];exact b (j - 1) (by omega) (by omega)
    ·rw[if_neg ei];split
     ·exact sp _ _ (by omega) (by omega)
     ·exact sp _ _ (by omega) (by omega)
   ·rw[if_neg ej2,if_neg (by omega),if_neg (by omega)];exact sp _ _ hij (by omega)
theorem qQc(hq:∀p,Gd n p->SPk lt p n->Q p s):(kas_sort n).kasWp cmp Q s:=by
 unfold kas_sort;rw[KasT.kasWp_bind];refine qTp o hask h0 (hDm _) (fun m p g sp m1 mn=>?_);dsimp only;have e:max m 1=m:=by omega
 rw[e];split
 ·exact qV8 o hask h0 hq _ _ _ g (by omega) sp
 ·have e2:m=n:=by omega
  subst e2;exact hq _ g sp
end
theorem txTri:∀a b:List Nat,a<b\/a=b\/b<a
 |[],[]=>.inr (.inl rfl)
 |[],_ :: _=>.inl (List.nil_lt_cons _ _)
 |_ :: _,[]=>.inr (.inr (List.nil_lt_cons _ _))
 |x :: a,y :: b=>by
  rcases Nat.lt_trichotomy x y with h|h|h
  ·exact .inl (hDn.mpr (.inl h))
  ·subst h;rcases txTri a b with h|h|h
   ·exact .inl (hDn.mpr (.inr ⟨rfl,h⟩))
   ·exact .inr (.inl (by rw[h]))
   ·exact .inr (.inr (hDn.mpr (.inr ⟨rfl,h⟩)))
  ·exact .inr (.inr (hDn.mpr (.inl h)))
theorem zB2{x y:Str}(h:x.cps.toList=y.cps.toList):x=y:=by
 cases x;cases y;simp only[Str.mk.injEq];exact Array.toList_inj.mp h
def qIh(x y:Str):Bool:=decide (x.cps.toList<y.cps.toList)
theorem qB3(x:Str):qIh x x=false:=decide_eq_false (List.lt_irrefl _)
theorem qDp(h:qIh x y=true)(h':qIh y z=true):qIh x z=true:=decide_eq_true (List.lt_trans (of_decide_eq_true h) (of_decide_eq_true h'))
theorem sLtB_tri(x y:Str):qIh x y=true\/x=y\/qIh y x=true:=by
 rcases txTri x.cps.toList y.cps.toList with h|h|h
 ·exact .inl (decide_eq_true h)
 ·exact .inr (.inl (zB2 h))
 ·exact .inr (.inr (decide_eq_true h))
def ltL:List Str->List Str->Bool
 |[],[]=>false
 |[],_ :: _=>true
 |_ :: _,[]=>false
 |x :: r,y :: t=>if x=y then ltL r t else qIh x y
theorem qRs:∀a:List Str,ltL a a=false
 |[]=>rfl
 |x :: r=>by unfold ltL;rw[if_pos rfl];exact qRs r
theorem ltL_tri:∀a b:List Str,ltL a b=true\/a=b\/ltL b a=true
 |[],[]=>.inr (.inl rfl)
 |[],_ :: _=>.inl rfl
 |_ :: _,[]=>.inr (.inr rfl)
 |x :: r,y :: t=>by
  unfold ltL;by_cases e:x=y
  ·subst e;rw[if_pos rfl,if_pos rfl];rcases ltL_tri r t with h|h|h
   ·exact .inl h
   ·exact .inr (.inl (by rw[h]))
   ·exact .inr (.inr h)
  ·rw[if_neg e,if_neg (fun z=>e z.symm)];rcases sLtB_tri x y with h|h|h
   ·exact .inl h
   ·exact absurd h e
   ·exact .inr (.inr h)
theorem qGw:∀a b c:List Str,ltL a b=true->ltL b c=true->ltL a c=true
 |[],_,[],h,h'=>by
  rename_i b;cases b with
  |nil=>exact h
  |cons _ _=>cases h'
 |[],_,_ :: _,_,_=>rfl
 |_ :: _,[],_,h,_=>by cases h
 |_ :: _,_ :: _,[],_,h'=>by cases h'
 |x :: r,y :: t,z :: u,h,h'=>by
  unfold ltL at h h' ⊢;by_cases e1:x=y
  ·subst e1;rw[if_pos rfl]at h;by_cases e2:x=z
   ·subst e2;rw[if_pos rfl]at h' ⊢;exact qGw r t u h h'
   ·rw[if_neg e2]at h' ⊢;exact h'
  ·rw[if_neg e1]at h;by_cases e2:y=z
   ·subst e2;rw[if_neg e1];exact h
   ·rw[if_neg e2]at h';have q:=qDp h h';have e3:¬x=z:=fun e=>by rw[e,qB3]at q;cases q
    rw[if_neg e3];exact q
theorem qNo(a b:List Str)(h:ltL a b=true):ltL b a=false:=by
 cases q:ltL b a with
 |false=>rfl
 |true=>have:=qGw a b a h q;rw[qRs]at this;cases this
def ltI(ts:List (List Str))(i j:Nat):Bool:=ltL (ts.getD i []) (ts.getD j [])
theorem qRu(ts:List (List Str)):Ordr (ltI ts):=⟨fun a b h=>qNo _ _ h,fun a b c h h'=>by
 have h1:ltL (ts.getD b []) (ts.getD a [])=false:=h;have h2:ltL (ts.getD c []) (ts.getD b [])=false:=h';show ltL (ts.getD c []) (ts.getD a [])=false;rcases ltL_tri (ts.getD a []) (ts.getD b []) with q|q|q
 ·rcases ltL_tri (ts.getD b []) (ts.getD c []) with r|r|r
  ·exact qNo _ _ (qGw _ _ _ q r)
  ·rw[<-r];exact h1
  ·rw[h2]at r;cases r
 ·rw[q];exact h2
 ·rw[h1]at q;cases q⟩
theorem qC2(vs:List Value):(List.range vs.length).map (fun i=>vs.getD i Value.none)=vs:=by
 refine hDq fun i=>?_
 by_cases hi:i<vs.length
 ·rw[hAe,hDd hi,hA2 hi];show some (vs.getD i Value.none)=_;rw[hA8,hA2 hi];rfl
 ·rw[hBm (by simp;omega),hBm (by omega)]
theorem qJ2:∀ {vs us:List Value} {x y:List Str} (i:Nat),StrsAre vs x->StrsAre us y->Q (ltL x y) s->fin=decide (x.length<y.length)->KatLex P w A b fin Q (vs.zip us) i s
 |_,_,_,_,i,.nil,.nil,hQ,hf=>by rw[hf];exact hQ
 |_,_,_,_,i,.nil,.cons _ _ _,hQ,hf=>by rw[hf];exact hQ
 |_,_,_,_,i,.cons _ _ _,.nil,hQ,hf=>by rw[hf];exact hQ
 |_,_,_,_,i,.cons p t r,.cons q u r',hQ,hf=>by
  refine kat_cons (wpAny_eqBool_str (kat_go (fun e=>kat_yes (qJ2 (i+1) r r' ?_ ?_)) fun e=>kat_no ?_))
  ·have e':=of_decide_eq_true e;unfold ltL at hQ;rw[if_pos e']at hQ;exact hQ
  ·rw[hf];simp
  ·have e':=of_decide_eq_false e;unfold ltL at hQ;rw[if_neg e']at hQ;cases hb:(b && i == 0) with
   |true=>exact strKind_oneLt P w A _ s _ _ _ _ rfl rfl hQ
   |false=>exact kat_one _ _ (lt_str hQ)
section
variable{P:Program}{w:World}{A:Around}{E:Value->Shared->Prop}{s:Shared}
theorem qH3(k:∀b o,b≠a->h.get? b=some o->h'.get? b=some o):∀ {vs:List Value} {ts:List (List Str)} {i:Nat},Paired (zBz h) vs ts->(∀v∈vs,v≠.ref a)->i<vs.length->∃(b:Addr) (its:Array Value),IsTup h' b its/\vs.getD i Value.none = .ref b/\StrsAre its.toList (ts.getD i [])
 |_,_,i,.nil,_,hi=>absurd hi (hC3 _)
 |_,_,0,@Paired.cons _ _ _ v t l1 l2 hh tt,hn,_=>by
  obtain⟨b,its,rfl,⟨o,g,c,n,d⟩,st,ne⟩:=hh;have nb:b≠a:=fun z=>hn _ hA6 (by rw[z])
  exact⟨b,its,⟨o,k b o nb g,c,n,d⟩,rfl,st⟩
 |_,_,i+1,@Paired.cons _ _ _ v t l1 l2 hh tt,hn,hi=>qH3 (i:=i) k tt (fun u hu=>hn u (hA4 _ hu)) (by simpa using hi)
theorem qOu(ho:s.heap.get? a=some (seqObj "list" vs.toArray n))(ht:Paired (zBz s.heap) vs ts)(h64:vs.length<64)(hna:∀v∈vs,v≠.ref a)
  (h:∀(out:List Value) (p:Array Nat),out.Perm vs->Gd vs.length p->SPk (ltI ts) p vs.length->out=p.toList.map (fun i=>vs.getD i Value.none)->R (.done (.ret .none)) { s with heap:=sortedHeap s.heap a vs out.toArray }):wpAny (model P w) A (Builtin.«list.sort» ⟨[.ref a],[]⟩) R E s:=by
 rw[list_sort_plain];have ha:a<s.heap.objs.size:=Heap.lt_size ho;refine wpAny_bind (listItems_at ho rfl (wpAny_bind (listUpdate_at ho rfl ?_ (by rw[hAb,sizeLine_eq];omega) (hAo _))));obtain⟨e1,ho1⟩:∃e1,(s.heap.update a (Obj.mapSeq fun _=>#[])).get? a=some (seqObj "list" #[] e1):=⟨_,get?_update_seq ho (fun _=>#[])⟩;refine wpAny_bind (seqEpoch_at ho1 rfl (wpAny_bind (wpAny_newTuple ?_ (by show vs.length<=_;rw[sizeLine_eq];omega))));refine wpAny_bind (wpAny_newList ?_ (hAo _));refine wpAny_holding ?_;have ho6:(((s.heap.update a (Obj.mapSeq fun _=>#[])).push (seqObj "tuple" vs.toArray 0)).push (seqObj "list" #[] 0)).get? a=some (seqObj "list" #[] e1):=Heap.get?_push_of_some _ (Heap.get?_push_of_some _ ho1);have keep:∀b o,b≠a->s.heap.get? b=some o->(((s.heap.update a (Obj.mapSeq fun _=>#[])).push (seqObj "tuple" vs.toArray 0)).push (seqObj "list" #[] 0)).get? b=some o:=fun b o hb e=>by
  refine Heap.get?_push_of_some _ (Heap.get?_push_of_some _ ?_);rw[Heap.get?_update_ne _ _ _ _ hb];exact e
 show wpAny (model P w) A _ R E { s with heap:=((s.heap.update a (Obj.mapSeq fun _=>#[])).push (seqObj "tuple" vs.toArray 0)).push (seqObj "list" #[] 0) };dsimp only;have fin:∀(st':SortSt) (out:List Value),(arrOf st').map (·.2)=out.toArray->failedOf st'=none->out.Perm vs->(∃p,Gd vs.length p/\SPk (ltI ts) p vs.length/\out=p.toList.map (fun i=>vs.getD i Value.none))->wpAny (model P w) A (do
   let touched:=(← seqEpoch a) != e1
   Builtin.List.listUpdate (.ref a) fun _=>(arrOf st').map (·.2)
   if let some e:=failedOf st' then rule "list.sort.comparison-raised";throw e
   if touched then rule "list.sort.modified";raiseError "ValueError" "list modified during sort"
   ret .none) R E { s with heap:=((s.heap.update a (Obj.mapSeq fun _=>#[])).push (seqObj "tuple" vs.toArray 0)).push (seqObj "list" #[] 0) }:=by
  intro st' out e hf hp ⟨p,hg,hsp,ep⟩;refine wpAny_bind (seqEpoch_at ho6 rfl ?_);refine wpAny_bind (listUpdate_at ho6 rfl ?_ (hAo _) (by rw[e,hAb,hp.length_eq,sizeLine_eq];omega));rw[hf];simp only[bne_self_eq_false,hBn,if_false];rw[e];exact wpAny_pure (h out p hp hg hsp ep)
 by_cases h2:vs.toArray.size<2
 ·rw[if_pos h2,if_pos h2];refine wpAny_bind (wpAny_pure ?_);rw[StateT.run_pure];refine wpAny_bind (wpAny_pure (fin _ vs ?_ rfl (hDg _) ⟨Rng vs.length,hDm _,fun i j hij hj=>absurd hj (by rw[hAb]at h2;omega),(qC2 vs).symm⟩));show(vs.toArray.zip vs.toArray).map (·.2)=vs.toArray;apply Array.toList_inj.mp;rw[Array.toList_map,Array.toList_zip];exact List.map_snd_zip (hA7 _)
 ·rw[if_neg h2,if_neg h2];have hl2:2<=vs.length:=by rw[hAb]at h2;omega
  obtain⟨fs,kt,fl,fa⟩:=qF4 (a:=a) keep ht hna;refine wpAny_bind (kat_kind (T:=.type "str") kt (by omega) (fun v hv=>?_) (by decide) ?_)
  ·obtain⟨x,t,rfl⟩:=fa v hv;exact .now
  refine wpAny_bind (wpAny_mono (kat_run (ks:=vs) (Q:=fun st' s'=>s'={ s with heap:=((s.heap.update a (Obj.mapSeq fun _=>#[])).push (seqObj "tuple" vs.toArray 0)).push (seqObj "list" #[] 0) }/\∃out:List Value,(arrOf st').map (·.2)=out.toArray/\failedOf st'=none/\out.Perm vs/\∃p,Gd vs.length p/\SPk (ltI ts) p vs.length/\out=p.toList.map (fun i=>vs.getD i Value.none)) (G:=fun p s'=>s'={ s with heap:=((s.heap.update a (Obj.mapSeq fun _=>#[])).push (seqObj "tuple" vs.toArray 0)).push (seqObj "list" #[] 0) }/\Gd vs.length p/\SPk (ltI ts) p vs.length) rfl hl2 h64 (fun p st' s' a1 a2 a3 a4=>?_) ?_) ?_ fun _ _ e=>e)
  ·obtain⟨rfl,g,sp⟩:=a4;refine⟨rfl,_,kat_snds rfl a2,a3,?_,p,g,sp,rfl⟩;have q:=(hBy.mp g).map fun i=>vs.getD i Value.none
   exact q.trans (List.Perm.of_eq (qC2 vs))
  ·refine qQc (qRu ts) (fun i j C hi hj hC=>?_) (by omega) fun p g sp=>⟨rfl,g,sp⟩
   obtain⟨x1,y1,z1,v1,w1⟩:=qH3 keep ht hna hi;obtain⟨x2,y2,z2,v2,w2⟩:=qH3 keep ht hna hj;show wpAny _ _ (keyLt' _ (vs.getD i Value.none) (vs.getD j Value.none)) C _ _;rw[v1,v2];obtain⟨o1,g1,c1,n1,d1⟩:=z1;obtain⟨o2,g2,c2,n2,d2⟩:=z2;have l1:y1.size=(ts.getD i []).length:=by rw[<-w1.strs];simp
   have l2:y2.size=(ts.getD j []).length:=by rw[<-w2.strs];simp
   exact kat_lt g1 d1 g2 d2 (qJ2 0 w1 w2 hC (by rw[l1,l2]))
  ·rintro⟨⟨⟩,st'⟩ s' ⟨rfl,out,q1,q2,q3,q4⟩;exact fin st' out q1 q2 q3 q4
end
theorem qN0(g:Gd n o)(hi:i∈o.toList):i<n:=by
 have:=(hBy.mp g).mem_iff.mp hi
 simpa using this
theorem qSc(g:Gd n o):o.toList.length=n:=by
 have:=g.size
 simpa using this
theorem qJt{as:List Addr}{l:List Nat}(h:∀i∈l,i<as.length):l.map (fun i=>(as.map Value.ref).getD i Value.none)=(l.map fun i=>as.getD i 0).map Value.ref:=by
 rw[hB5];refine hBi fun i hi=>?_
 have:=h i hi;show(as.map Value.ref).getD i Value.none=Value.ref (as.getD i 0);rw[hA8,hA8,hAe,hA2 this];rfl
section
variable{X:Cx}
theorem qI1:qB9 X (.builtin "sorted") (fun xs H Q=>∃(p:Addr) (as:List Addr) (ts:List (List Str)),xs=[.ref p]/\SqL X.K H p (as.map V.ref)/\Paired (fun a t=>SqT X.K H a (t.map V.str)/\t≠[]) as ts/\as.length<64/\∀(r:Addr) (o:Array Nat),H r=none->Gd as.length o->SPk (ltI ts) o as.length->Q (.ref r) (upd H r (.lst ((o.toList.map fun i=>as.getD i 0).map V.ref)))):=by
 intro pins s σ H xs us Q I r h;obtain⟨p,as,ts,rfl,hq,ht,h64,q⟩:=h;obtain⟨u,rfl,rx⟩:=qCl r;cases rx;obtain⟨its,rv,pl,hz⟩:=I.list hq;have ei:=refs_of rv;subst ei;refine Calls.call_function_entry kind_sorted plain_sorted entry_sorted (args_sorted1 _) ?_;unfold Builtin.«sorted»;refine wpAny_bind (m:=checkCount "sorted" 1 1 _) (wpAny_pure (wpAny_bind (collect_list pl.isList ?_ (by rw[hA1,sizeLine_eq];omega))));refine wpAny_bind (wpAny_newList ?_ (by rw[hA1,sizeLine_eq];omega));have hsz:((s.heap.push (seqObj "list" #[] 0)).update s.heap.objs.size (Obj.mapSeq (·++(as.map Value.ref).toArray))).objs.size=s.heap.objs.size+1:=by rw[Heap.size_update,size_push']
 have hoL:(((s.heap.push (seqObj "list" #[] 0)).update s.heap.objs.size (Obj.mapSeq (·++(as.map Value.ref).toArray))).push (seqObj "list" (as.map Value.ref).toArray 0)).get? (s.heap.objs.size+1)=some (seqObj "list" (as.map Value.ref).toArray 0):=by
  rw[<-hsz];exact Heap.get?_push_size _ rfl
 have keep:∀b o,s.heap.get? b=some o->(((s.heap.push (seqObj "list" #[] 0)).update s.heap.objs.size (Obj.mapSeq (·++(as.map Value.ref).toArray))).push (seqObj "list" (as.map Value.ref).toArray 0)).get? b=some o:=fun b o e=>by
  have hlt:b<s.heap.objs.size:=Heap.lt_size e;rw[Heap.get?_push_ne _ _ _ (by rw[hsz];exact hAp (hBr hlt)),Heap.get?_update_ne _ _ _ _ (hAp hlt),Heap.get?_push_ne _ _ _ (hAp hlt)];exact e
 show wpAny _ _ _ _ _ { s with heap:=((s.heap.push (seqObj "list" #[] 0)).update s.heap.objs.size (Obj.mapSeq (·++(as.map Value.ref).toArray))).push (seqObj "list" (as.map Value.ref).toArray 0) };rw[hsz];have tp:=qPo (h':=((s.heap.push (seqObj "list" #[] 0)).update s.heap.objs.size (Obj.mapSeq (·++(as.map Value.ref).toArray))).push (seqObj "list" (as.map Value.ref).toArray 0)) I keep ht;refine wpAny_bind (wpAny_holding (wpAny_call_entry slot_list_sort ⟨_,hoL,rfl⟩ entry_list_sort (qOu hoL tp (by rw[hA1];exact h64) (fun v hv z=>?_) fun out o hp hg hsp eo=>⟨_,rfl,?_⟩) (args_list_sort _)))
 ·obtain⟨b,hb,e⟩:=hAg.mp hv;rw[<-e]at z;injection z with z
  have lt:=qPp I ht b hb;exact absurd lt (by rw[z];exact Nat.not_lt_of_le (hBh _))
 rw[hA1]at hg hsp;rw[qJt fun i hi=>qN0 hg hi]at eo;subst eo;have nz:H (s.heap.objs.size+1)=none:=I.hok.fresh (hBh _);obtain⟨e,he⟩:=sortedAll_at s.heap (as.map Value.ref) ((o.toList.map fun i=>as.getD i 0).map Value.ref).toArray;refine wpAny_pure ⟨_,rfl,.ref (s.heap.objs.size+1),_,I.laid (t':=s.toks) (a:=s.heap.objs.size+1) (o:=.lst ((o.toList.map fun i=>as.getD i 0).map V.ref)) (h':=sortedAll s.heap (as.map Value.ref) ((o.toList.map fun i=>as.getD i 0).map Value.ref).toArray) (fun b o eb=>sortedAll_old eb) (hBh _) ⟨?_,(o.toList.map fun i=>as.getD i 0).map Value.ref,e,qD8 _,he⟩,rfl,q _ o nz hg hsp⟩;rw[hA1,hA1,qSc hg];exact hB1 (qAi (by omega))
end
end L2
namespace L2
open PySem PySem.Spec PyProof.Rows PySem.W
open AutoSeq1 (wpAny_loadPart')
open MeetsSeq MeetsSeq2 MeetsSeq3 SeqRoads2
theorem qH5(h:StrsAre vs x):∀ {i:Nat},i<vs.length->∃t,vs[i]?=some (.str (x.getD i "") t):=by
 induction h with
 |nil=>intro i hi;exact absurd hi (hC3 _)
 |cons p t r ih =>
  intro i hi;cases i with
  |zero=>exact⟨t,rfl⟩
  |succ i=>simpa using ih (i:=i) (by simpa using hi)
theorem qSk{x:List Str}{i:Nat}(h:i<x.length):x.drop i=x.getD i "" :: x.drop (i+1):=by
 rw[hCm h,hA8,hA2 h];rfl
theorem qUw(l b:Addr)(items items2:Array Value)(n n2:Nat)(dd dd2:Option Addr)(sl sl2:Array (Option Value))(x y:List Str)(hx:StrsAre items.toList x)(hy:StrsAre items2.toList y):∀(k i:Nat),items.size - i=k->i<=items.size->i<=items2.size ->
  Meets (Builtin.«list.__eq__.loop» ⟨[.ref l,.ref b,rawInt i,rawInt 0],[]⟩)
   (fun A R s=>(s.heap.get? l=some { cls:=.type "list",dict:=dd,data:=.seq items n,slots:=sl }/\s.heap.get? b=some { cls:=.type "list",dict:=dd2,data:=.seq items2 n2,slots:=sl2 })/\R (.ok (.ret (.bool (ltL (x.drop i) (y.drop i))))) s):=by
 have lx:items.size=x.length:=by rw[<-hx.strs];simp
 have ly:items2.size=y.length:=by rw[<-hy.strs];simp
 intro k
 induction k with
 |zero =>
  intro i hk h1 h2 prog w A R s h;obtain⟨hp,g,d,tk,os⟩:=s;obtain⟨⟨hl,hb⟩,h⟩:=h;have e1:i=items.size:=by omega
  have q1:items[((i:Nat):Int).toNat]?=none:=by simp;omega
  wp_walk using wpAny_loadPart' hl,wpAny_loadPart' hb
  rw[q1]
  wp_walk using wpAny_loadPart' hl,wpAny_loadPart' hb
  have dx:x.drop i=[]:=by simp;omega
  rw[dx]at h;show R (.ok (.ret (.bool (decide (items.size<items2.size))))) _;cases hd:y.drop i with
  |nil =>
   rw[hd]at h;have:y.length<=i:=by simpa using hd
   rw[decide_eq_false (by omega)];exact h
  |cons a r =>
   rw[hd]at h;have:i<y.length:=by
    have:=congrArg List.length hd;rw[hD3,hBu]at this;omega
   rw[decide_eq_true (by omega)];exact h
 |succ k ih =>
  intro i hk h1 h2 prog w A R s h;obtain⟨hp,g,d,tk,os⟩:=s;obtain⟨⟨hl,hb⟩,h⟩:=h;have hlt:i<items.size:=by omega
  obtain⟨t1,q1⟩:=qH5 hx (i:=i) (by simpa using hlt);rw[hBc]at q1;have q1':items[((i:Nat):Int).toNat]?=some (.str (x.getD i "") t1):=q1;have dx:=qSk (x:=x) (i:=i) (by omega)
  wp_walk using wpAny_loadPart' hl,wpAny_loadPart' hb
  rw[q1'];by_cases hlt2:i<items2.size
  ·obtain⟨t2,q2⟩:=qH5 hy (i:=i) (by simpa using hlt2);rw[hBc]at q2;have q2':items2[((i:Nat):Int).toNat]?=some (.str (y.getD i "") t2):=q2;have dy:=qSk (x:=y) (i:=i) (by omega);have hc:((i:Int)+1)=((i+1:Nat):Int):=by push_cast;rfl
   rw[dx,dy]at h;unfold ltL at h;rw[q2'];refine wpAny_bind (wpAny_eqBool_str ?_);by_cases e:x.getD i "" = y.getD i ""
   ·rw[if_pos e]at h;rw[decide_eq_true e]
    wp_walk
    rw[hc];exact⟨plainId_quiet plain_eq_loop _,codeAny_builtin entry_eq_loop (by
     rw[Around.under_plainId plain_eq_loop _];exact ih (i+1) (by omega) (by omega) (by omega) prog w A R _ ⟨⟨hl,hb⟩,h⟩)⟩
   ·rw[if_neg e]at h;rw[decide_eq_false e]
    wp_walk using wpAny_loadPart' hl,wpAny_loadPart' hb
    rw[q1',q2'];refine wpAny_bind (richCompare_gives (op:=.Lt) (typeIs_str _ _ _) (typeIs_str _ _ _) F.slot_str_lt F.entry_str_lt (F.args_str_lt_2 _ _) (gives_str_lt _ _ _ _) (fun e=>nomatch e) ?_);exact wpAny_pure h
  ·have q2':items2[((i:Nat):Int).toNat]?=none:=by simp;omega
   rw[q2']
   wp_walk using wpAny_loadPart' hl,wpAny_loadPart' hb
   have dy:y.drop i=[]:=by simp;omega
   rw[dx,dy]at h;show R (.ok (.ret (.bool (decide (items.size<items2.size))))) _;rw[decide_eq_false (by omega)];exact h
theorem qNs(l b:Addr)(items items2:Array Value)(n n2:Nat)(dd dd2:Option Addr)(sl sl2:Array (Option Value))(x y:List Str)(hx:StrsAre items.toList x)(hy:StrsAre items2.toList y) :
  Meets (Builtin.«list.__lt__» ⟨[.ref l,.ref b],[]⟩)
   (fun A R s=>(s.heap.get? l=some { cls:=.type "list",dict:=dd,data:=.seq items n,slots:=sl }/\s.heap.get? b=some { cls:=.type "list",dict:=dd2,data:=.seq items2 n2,slots:=sl2 })/\R (.ok (.ret (.bool (ltL x y)))) s):=by
 intro prog w A R s h;obtain⟨hp,g,d,tk,os⟩:=s;obtain⟨⟨hl,hb⟩,h⟩:=h;have f3:=AutoSeq1.sub_list_list
 wp_walk using wpAny_loadPart' hl,wpAny_loadPart' hb
 exact⟨plainId_quiet plain_eq_loop _,codeAny_builtin entry_eq_loop (by
  rw[Around.under_plainId plain_eq_loop _];exact qUw l b items items2 n n2 dd dd2 sl sl2 x y hx hy _ 0 rfl (hAo _) (hAo _) prog w A R _ ⟨⟨hl,hb⟩,h⟩)⟩
theorem qLv(hu:A.units<cLine)(hl:s.heap.IsList l items)(hb:s.heap.IsList b items2)(hx:StrsAre items.toList x)(hy:StrsAre items2.toList y)
  (h:Q (ltL x y) s):wpAny (model P w) A (keyLt' oneType' (.ref l) (.ref b)) Q E s:=by
 obtain⟨⟨cls,dd,data,sl⟩,ho,hc,n,hd⟩:=hl;obtain⟨⟨cls2,dd2,data2,sl2⟩,ho2,hc2,n2,hd2⟩:=hb;simp only at hc hd hc2 hd2;subst hc hd hc2 hd2;rw[keyLt'_oneType,oneLt'_eq];simp only[if_true];refine wpAny_bind (wpAny_cRoomFor hu ?_);refine wpAny_bind (wpAny_callSpecialIfBound?_slot (⟨_,ho,rfl⟩:s.TypeIs (.ref l) "list") F.slot_list_lt (call_meets F.slot_list_lt ⟨_,ho,rfl⟩ F.entry_list_lt (F.args_list_lt_2 _ _) (qNs l b items items2 n n2 dd dd2 sl sl2 x y hx hy) ⟨⟨ho,ho2⟩,?_⟩));exact wpAny_truthy_bool h
def qTd(h:Heap)(v:Value)(t:List Str):Prop:=∃a its,v = .ref a/\h.IsList a its/\StrsAre its.toList t
theorem qJy:∀ {vs:List Value} {ts:List (List Str)},Paired (qTd h) vs ts->∀v∈vs,∃t∈ts,qTd h v t
 |_,_,.nil,v,hv=>by cases hv
 |_,_,.cons x r,v,hv=>by
  rcases hAf.mp hv with z|z
  ·subst z;exact⟨_,hA6,x⟩
  ·obtain⟨t,ht,q⟩:=qJy r v z;exact⟨t,hA4 _ ht,q⟩
section
variable{P:Program}{w:World}{A:Around}{E:Value->Shared->Prop}{s:Shared}
theorem qGx{h h':Heap}{a:Addr}(k:∀b o,b≠a->h.get? b=some o->h'.get? b=some o):∀ {vs:List Value} {ts:List (List Str)} {i:Nat},Paired (qTd h) vs ts->(∀v∈vs,v≠.ref a)->i<vs.length->∃(b:Addr) (its:Array Value),h'.IsList b its/\vs.getD i Value.none = .ref b/\StrsAre its.toList (ts.getD i [])
 |_,_,i,.nil,_,hi=>absurd hi (hC3 _)
 |_,_,0,@Paired.cons _ _ _ v t l1 l2 hh tt,hn,_=>by
  obtain⟨b,its,rfl,⟨o,g,c,n,d⟩,st⟩:=hh;have nb:b≠a:=fun z=>hn _ hA6 (by rw[z])
  exact⟨b,its,⟨o,k b o nb g,c,n,d⟩,rfl,st⟩
 |_,_,i+1,@Paired.cons _ _ _ v t l1 l2 hh tt,hn,hi=>qGx (i:=i) k tt (fun u hu=>hn u (hA4 _ hu)) (by simpa using hi)
theorem qK1(hu:A.units<cLine)(ho:s.heap.get? a=some (seqObj "list" vs.toArray n))(ht:Paired (qTd s.heap) vs ts)(h64:vs.length<64)(hna:∀v∈vs,v≠.ref a)
  (h:∀(out:List Value) (p:Array Nat),out.Perm vs->Gd vs.length p->SPk (ltI ts) p vs.length->out=p.toList.map (fun i=>vs.getD i Value.none)->R (.done (.ret .none)) { s with heap:=sortedHeap s.heap a vs out.toArray }):wpAny (model P w) A (Builtin.«list.sort» ⟨[.ref a],[]⟩) R E s:=by
 rw[list_sort_plain];have ha:a<s.heap.objs.size:=Heap.lt_size ho;refine wpAny_bind (listItems_at ho rfl (wpAny_bind (listUpdate_at ho rfl ?_ (by rw[hAb,sizeLine_eq];omega) (hAo _))));obtain⟨e1,ho1⟩:∃e1,(s.heap.update a (Obj.mapSeq fun _=>#[])).get? a=some (seqObj "list" #[] e1):=⟨_,get?_update_seq ho (fun _=>#[])⟩;refine wpAny_bind (seqEpoch_at ho1 rfl (wpAny_bind (wpAny_newTuple ?_ (by show vs.length<=_;rw[sizeLine_eq];omega))));refine wpAny_bind (wpAny_newList ?_ (hAo _));refine wpAny_holding ?_;have ho6:(((s.heap.update a (Obj.mapSeq fun _=>#[])).push (seqObj "tuple" vs.toArray 0)).push (seqObj "list" #[] 0)).get? a=some (seqObj "list" #[] e1):=Heap.get?_push_of_some _ (Heap.get?_push_of_some _ ho1);have keep:∀b o,b≠a->s.heap.get? b=some o->(((s.heap.update a (Obj.mapSeq fun _=>#[])).push (seqObj "tuple" vs.toArray 0)).push (seqObj "list" #[] 0)).get? b=some o:=fun b o hb e=>by
  refine Heap.get?_push_of_some _ (Heap.get?_push_of_some _ ?_);rw[Heap.get?_update_ne _ _ _ _ hb];exact e
 show wpAny (model P w) A _ R E { s with heap:=((s.heap.update a (Obj.mapSeq fun _=>#[])).push (seqObj "tuple" vs.toArray 0)).push (seqObj "list" #[] 0) };dsimp only;have fin:∀(st':SortSt) (out:List Value),(arrOf st').map (·.2)=out.toArray->failedOf st'=none->out.Perm vs->(∃p,Gd vs.length p/\SPk (ltI ts) p vs.length/\out=p.toList.map (fun i=>vs.getD i Value.none))->wpAny (model P w) A (do
   let touched:=(← seqEpoch a) != e1
   Builtin.List.listUpdate (.ref a) fun _=>(arrOf st').map (·.2)
   if let some e:=failedOf st' then rule "list.sort.comparison-raised";throw e
   if touched then rule "list.sort.modified";raiseError "ValueError" "list modified during sort"
   ret .none) R E { s with heap:=((s.heap.update a (Obj.mapSeq fun _=>#[])).push (seqObj "tuple" vs.toArray 0)).push (seqObj "list" #[] 0) }:=by
  intro st' out e hf hp ⟨p,hg,hsp,ep⟩;refine wpAny_bind (seqEpoch_at ho6 rfl ?_);refine wpAny_bind (listUpdate_at ho6 rfl ?_ (hAo _) (by rw[e,hAb,hp.length_eq,sizeLine_eq];omega));rw[hf];simp only[bne_self_eq_false,hBn,if_false];rw[e];exact wpAny_pure (h out p hp hg hsp ep)
 by_cases h2:vs.toArray.size<2
 ·rw[if_pos h2,if_pos h2];refine wpAny_bind (wpAny_pure ?_);rw[StateT.run_pure];refine wpAny_bind (wpAny_pure (fin _ vs ?_ rfl (hDg _) ⟨Rng vs.length,hDm _,fun i j hij hj=>absurd hj (by rw[hAb]at h2;omega),(qC2 vs).symm⟩));show(vs.toArray.zip vs.toArray).map (·.2)=vs.toArray;apply Array.toList_inj.mp;rw[Array.toList_map,Array.toList_zip];exact List.map_snd_zip (hA7 _)
 ·rw[if_neg h2,if_neg h2];have hl2:2<=vs.length:=by rw[hAb]at h2;omega
  refine wpAny_bind (kas_kind (T:=.type "list") hl2 (fun v hv=>?_) (by decide) (by decide) ?_)
  ·obtain⟨t,_,b,its,rfl,⟨o,g,c,_⟩,st⟩:=qJy ht v hv;have nb:b≠a:=fun z=>hna _ hv (by rw[z])
   exact kitAt_ty _ _ ⟨o,keep b o nb g,c⟩
  refine wpAny_bind (wpAny_mono (kat_run (ks:=vs) (Q:=fun st' s'=>s'={ s with heap:=((s.heap.update a (Obj.mapSeq fun _=>#[])).push (seqObj "tuple" vs.toArray 0)).push (seqObj "list" #[] 0) }/\∃out:List Value,(arrOf st').map (·.2)=out.toArray/\failedOf st'=none/\out.Perm vs/\∃p,Gd vs.length p/\SPk (ltI ts) p vs.length/\out=p.toList.map (fun i=>vs.getD i Value.none)) (G:=fun p s'=>s'={ s with heap:=((s.heap.update a (Obj.mapSeq fun _=>#[])).push (seqObj "tuple" vs.toArray 0)).push (seqObj "list" #[] 0) }/\Gd vs.length p/\SPk (ltI ts) p vs.length) rfl hl2 h64 (fun p st' s' a1 a2 a3 a4=>?_) ?_) ?_ fun _ _ e=>e)
  ·obtain⟨rfl,g,sp⟩:=a4;refine⟨rfl,_,kat_snds rfl a2,a3,?_,p,g,sp,rfl⟩;have q:=(hBy.mp g).map fun i=>vs.getD i Value.none
   exact q.trans (List.Perm.of_eq (qC2 vs))
  ·refine qQc (qRu ts) (fun i j C hi hj hC=>?_) (by omega) fun p g sp=>⟨rfl,g,sp⟩
   obtain⟨x1,y1,z1,v1,w1⟩:=qGx keep ht hna hi;obtain⟨x2,y2,z2,v2,w2⟩:=qGx keep ht hna hj;show wpAny _ _ (keyLt' _ (vs.getD i Value.none) (vs.getD j Value.none)) C _ _;rw[v1,v2];exact qLv hu z1 z2 w1 w2 hC
  ·rintro⟨⟨⟩,st'⟩ s' ⟨rfl,out,q1,q2,q3,q4⟩;exact fin st' out q1 q2 q3 q4
end
section
variable{X:Cx}
theorem qIu(I:Inv X pins σ H s)(k:∀b o,s.heap.get? b=some o->h'.get? b=some o):∀ {as:List Addr} {ts:List (List Str)},Paired (fun a t=>SqL X.K H a (t.map V.str)) as ts->Paired (qTd h') (as.map Value.ref) ts
 |_,_,.nil=>.nil
 |_,_,.cons h t=>by
  obtain⟨its,rv,⟨o,n,e,c,_,dt⟩,_⟩:=I.list h;exact .cons ⟨_,its.toArray,rfl,⟨o,k _ _ e,c,_,dt⟩,by simpa using qDm rv⟩ (qIu I k t)
theorem qNr(I:Inv X pins σ H s):∀ {as:List Addr} {ts:List (List Str)},Paired (fun a t=>SqL X.K H a (t.map V.str)) as ts->∀b∈as,b<s.heap.objs.size
 |_,_,.nil,b,hb=>by cases hb
 |_,_,.cons h t,b,hb=>by
  rcases hAf.mp hb with z|z
  ·subst z;obtain⟨its,rv,⟨o,n,e,_⟩,_⟩:=I.list h;exact Heap.lt_size e
  ·exact qNr I t b z
theorem qI2(hu:X.A.units+2<cLine):qB9 X (.builtin "sorted") (fun xs H Q=>∃(p:Addr) (as:List Addr) (ts:List (List Str)),xs=[.ref p]/\SqL X.K H p (as.map V.ref)/\Paired (fun a t=>SqL X.K H a (t.map V.str)) as ts/\as.length<64/\∀(r:Addr) (o:Array Nat),H r=none->Gd as.length o->SPk (ltI ts) o as.length->Q (.ref r) (upd H r (.lst ((o.toList.map fun i=>as.getD i 0).map V.ref)))):=by
 intro pins s σ H xs us Q I r h;obtain⟨p,as,ts,rfl,hq,ht,h64,q⟩:=h;obtain⟨u,rfl,rx⟩:=qCl r;cases rx;obtain⟨its,rv,pl,hz⟩:=I.list hq;have ei:=refs_of rv;subst ei;refine Calls.call_function_entry kind_sorted plain_sorted entry_sorted (args_sorted1 _) ?_;unfold Builtin.«sorted»;refine wpAny_bind (m:=checkCount "sorted" 1 1 _) (wpAny_pure (wpAny_bind (collect_list pl.isList ?_ (by rw[hA1,sizeLine_eq];omega))));refine wpAny_bind (wpAny_newList ?_ (by rw[hA1,sizeLine_eq];omega));have hsz:((s.heap.push (seqObj "list" #[] 0)).update s.heap.objs.size (Obj.mapSeq (·++(as.map Value.ref).toArray))).objs.size=s.heap.objs.size+1:=by rw[Heap.size_update,size_push']
 have hoL:(((s.heap.push (seqObj "list" #[] 0)).update s.heap.objs.size (Obj.mapSeq (·++(as.map Value.ref).toArray))).push (seqObj "list" (as.map Value.ref).toArray 0)).get? (s.heap.objs.size+1)=some (seqObj "list" (as.map Value.ref).toArray 0):=by
  rw[<-hsz];exact Heap.get?_push_size _ rfl
 have keep:∀b o,s.heap.get? b=some o->(((s.heap.push (seqObj "list" #[] 0)).update s.heap.objs.size (Obj.mapSeq (·++(as.map Value.ref).toArray))).push (seqObj "list" (as.map Value.ref).toArray 0)).get? b=some o:=fun b o e=>by
  have hlt:b<s.heap.objs.size:=Heap.lt_size e;rw[Heap.get?_push_ne _ _ _ (by rw[hsz];exact hAp (hBr hlt)),Heap.get?_update_ne _ _ _ _ (hAp hlt),Heap.get?_push_ne _ _ _ (hAp hlt)];exact e
 show wpAny _ _ _ _ _ { s with heap:=((s.heap.push (seqObj "list" #[] 0)).update s.heap.objs.size (Obj.mapSeq (·++(as.map Value.ref).toArray))).push (seqObj "list" (as.map Value.ref).toArray 0) };rw[hsz];have tp:=qIu (h':=((s.heap.push (seqObj "list" #[] 0)).update s.heap.objs.size (Obj.mapSeq (·++(as.map Value.ref).toArray))).push (seqObj "list" (as.map Value.ref).toArray 0)) I keep ht;refine wpAny_bind (wpAny_holding (wpAny_call_entry slot_list_sort ⟨_,hoL,rfl⟩ entry_list_sort (qK1 ?hu hoL tp (by rw[hA1];exact h64) (fun v hv z=>?_) fun out o hp hg hsp eo=>⟨_,rfl,?_⟩) (args_list_sort _)))
 case hu=>omega
 ·obtain⟨b,hb,e⟩:=hAg.mp hv;rw[<-e]at z;injection z with z
  have lt:=qNr I ht b hb;exact absurd lt (by rw[z];exact Nat.not_lt_of_le (hBh _))
 rw[hA1]at hg hsp;rw[qJt fun i hi=>qN0 hg hi]at eo;subst eo;have nz:H (s.heap.objs.size+1)=none:=I.hok.fresh (hBh _);obtain⟨e,he⟩:=sortedAll_at s.heap (as.map Value.ref) ((o.toList.map fun i=>as.getD i 0).map Value.ref).toArray;refine wpAny_pure ⟨_,rfl,.ref (s.heap.objs.size+1),_,I.laid (t':=s.toks) (a:=s.heap.objs.size+1) (o:=.lst ((o.toList.map fun i=>as.getD i 0).map V.ref)) (h':=sortedAll s.heap (as.map Value.ref) ((o.toList.map fun i=>as.getD i 0).map Value.ref).toArray) (fun b o eb=>sortedAll_old eb) (hBh _) ⟨?_,(o.toList.map fun i=>as.getD i 0).map Value.ref,e,qD8 _,he⟩,rfl,q _ o nz hg hsp⟩;rw[hA1,hA1,qSc hg];exact hB1 (qAi (by omega))
end
abbrev Srt(a:List (List Str)):Prop:=a.Pairwise fun x y=>ltL y x=false
theorem qLz(ts:List (List Str)):(List.range ts.length).map (fun i=>ts.getD i [])=ts:=by
 refine hDq fun i=>?_
 by_cases hi:i<ts.length
 ·rw[hAe,hDd hi,hA2 hi];show some (ts.getD i [])=_;rw[hA8,hA2 hi];rfl
 ·rw[hBm (by simp;omega),hBm (by omega)]
theorem qHt(g:Gd ts.length o)(sp:SPk (ltI ts) o ts.length):Srt (o.toList.map fun i=>ts.getD i [])/\(o.toList.map fun i=>ts.getD i []).Perm ts:=by
 have sz:=g.size;refine⟨?_,?_⟩
 ·rw[Srt,List.pairwise_iff_getElem];intro i j hi hj hij;rw[hA1]at hi hj;have h:=sp i j hij (by simpa [sz] using hj);rw[List.getElem_map,List.getElem_map];have e:∀k (hk:k<o.toList.length),o.getD k 0=o.toList[k]:=fun k hk=>by
   have hk':k<o.size:=by simpa using hk
   simp[Array.getD,hk']
  rw[e i hi,e j hj]at h;exact h
 ·have q:=(hBy.mp g).map fun i=>ts.getD i []
  exact q.trans (List.Perm.of_eq (qLz ts))
theorem qBf{X:Cx}{target iter elt:Expr}{ifs:List Expr}{scope sc:Scope}{pos:Pos}{N N':List Str}{sub:List (Option Nat)}{wi:TI}{g:TG}{tt:TT}{te:TE}(hN:X.N=N)(hsc:X.env.scope=sc)
  (O:CmpOk N sc N' scope sub) (hc:X.calm=true) (hi:PI X target iter wi)
  (B:∀C s H fp,PG (qDi X scope N' C s H fp) target g/\PTs (qDi X scope N' C s H fp) ifs tt/\PE (qDi X scope N' C s H fp) elt te)
  (hs:∀x,foldedSetIterable iter X.env x=pure x:=by intro _;rfl):PE X (.ListComp elt [⟨target,iter,ifs,0⟩] scope pos) (qTl sub wi g tt te) :=
 qX5 hc (by rw[hN,hsc];exact O) hi B hs
theorem qEi{X:Cx}{target iter elt:Expr}{ifs:List Expr}{scope sc:Scope}{pos:Pos}{N N':List Str}{sub:List (Option Nat)}{wi:TI}{g:TG}{tt:TT}{te:TE}{i:Nat}{y:Str}{py spos:Pos}(hN:X.N=N)(hsc:X.env.scope=sc)
  (O:CmpOk N sc N' scope sub) (hc:X.calm=true) (hi:PI X target iter wi)
  (B:∀C s H fp,PG (qDi X scope N' C s H fp) target g/\PTs (qDi X scope N' C s H fp) ifs tt/\PE (qDi X scope N' C s H fp) elt te)
  (nd:X.N.Nodup) (hy:X.N[i]?=some y) (hx:Loc X.env.scope y)
  (hsw:swapsWith (.ListComp elt [⟨target,iter,ifs,0⟩] scope pos) (some (.Name y py)) spos.line X.env=pure true:=by rfl)
  (hs:∀x,foldedSetIterable iter X.env x=pure x:=by intro _;rfl) (hf:X.fn y=true\/X.env.scope.names.lookup y=some .local:=by first|exact .inl rfl|exact .inr rfl|assumption) :
  PS X (.Assign [.Name y py] (.ListComp elt [⟨target,iter,ifs,0⟩] scope pos) spos) (zBu (qTl sub wi g tt te) (qU7 i)) :=
 qXz hc (by rw[hN,hsc];exact O) hi B nd hy hx hsw hs hf
end L2
namespace My
open PySem L2
structure Cl(P:Program)(w:World)(K:PySem.W.Frag)(mg:Str->Option Value)(base:Heap)(CX:CXT)(k:Nat)(f:Addr)(fd:FuncData)(ps:List Str)(sp:Sp)(n:Str):Prop where
 g:FnOk P w K mg base CX k f fd ps sp
 b:qMb K fd ps []
 k:PySem.W.keepIn K (.ref f)=true
 m:mg n=some (.ref f)
theorem qAx{X:Cx}{CX:CXT}{k:Nat}{f:Addr}{fd:FuncData}{ps:List Str}{sp:Sp}{x:Str}{dvs:List V}{E:XK}{e:Expr}{es:List Expr}{t:TA}{p pos:Pos}(G:Cl X.prog X.w X.K X.mg X.base CX k f fd ps sp x)(hr:Room k X.A)(hg:Gl X x)(hd:qBa dvs [])(hx:qOl CX X E)
  (ha:PA X (e :: es) t) (hdb:(x == ("__debug__" : Str))=false:=by decide) (he:starEach (e :: es) X.env=(false,eval e X.env) :: starEach es X.env:=by rfl) (hpl:(backTo pos (starEach es X.env)).any (·.1)=false:=by rfl):PE X (.Call (.Name x p) (e :: es) [] pos) (qZ0 sp dvs E t):=qLn G.g hr hg G.m G.k G.b hd hx ha hdb he hpl
def top(i:Nat):Stmt:=PySem.Challenge.pw_roundsalone_k34_parts_hang_on_the_span.main.body.getD i (.Pass ⟨0,0,0,0⟩)
abbrev qTz:Stmt:=top 1
abbrev qHn:Stmt:=top 2
abbrev qXj:Stmt:=top 3
abbrev qTy:Stmt:=top 4
abbrev qM0:Stmt:=top 6
abbrev qLa:Stmt:=top 8
abbrev qK9:Stmt:=top 9
abbrev qXi:Stmt:=top 10
abbrev qXn:Stmt:=top 12
abbrev qHm:Stmt:=top 13
abbrev qQn:Stmt:=top 14
abbrev qE4:Stmt:=top 15
abbrev qQo:Stmt:=top 16
abbrev qXm:Stmt:=top 17
abbrev qIg:Stmt:=top 18
abbrev qLd:Stmt:=top 19
abbrev qM2:Stmt:=top 20
abbrev qGc:Stmt:=top 21
abbrev qGe:Stmt:=top 22
abbrev qDc:Stmt:=top 23
abbrev qXo:Stmt:=top 25
abbrev zCe:Stmt:=top 26
abbrev qM1:Stmt:=top 27
abbrev qT8:Stmt:=top 28
abbrev zCd:Stmt:=top 29
abbrev qT3:Stmt:=top 30
abbrev qJl:Stmt:=top 31
abbrev qQm:Stmt:=top 32
abbrev qLc:Stmt:=top 33
abbrev qT4:Stmt:=top 34
abbrev qT2:Stmt:=top 35
abbrev qT5:Stmt:=top 36
abbrev qXl:Stmt:=top 37
abbrev qT1:Stmt:=top 38
abbrev qT0:Stmt:=top 39
abbrev qFu:Stmt:=top 40
abbrev qT6:Stmt:=top 41
abbrev qOx:Stmt:=top 42
abbrev qT7:Stmt:=top 43
abbrev qJk:Stmt:=top 44
abbrev qQl:Stmt:=top 45
abbrev qOy:Stmt:=top 46
abbrev qXk:Stmt:=top 47
abbrev qQk:Stmt:=top 48
abbrev qLb:Stmt:=top 49
def Ext(H H':Hp):Prop:=∀b o,H b=some o->H' b=some o
theorem Ext.refl(H:Hp):Ext H H:=fun _ _ h=>h
theorem Ext.trans{H H1 H2:Hp}(a:Ext H H1)(b:Ext H1 H2):Ext H H2:=fun c o h=>b c o (a c o h)
theorem Ext.new{H:Hp}{p:Addr}(h:H p=none)(o:HO):Ext H (upd H p o):=fun b u q=>by rw[qAl (qAo q h)];exact q
theorem Ext.none{H H':Hp}(e:Ext H H'){p:Addr}(h:H' p=none):H p=none:=by
 cases q:H p with
 |none=>rfl
 |some o=>rw[e p o q]at h;cases h
theorem Ext.sqL{K:PySem.W.Frag}{H H':Hp}{a:Addr}{xs:List V}(e:Ext H H')(h:SqL K H a xs):SqL K H' a xs:=by
 rcases h with (h|⟨o,h⟩)|h
 ·exact .inl (.inl (e _ _ h))
 ·exact .inl (.inr ⟨o,e _ _ h⟩)
 ·exact .inr h
def qV4(K:PySem.W.Frag):Sp:=fun vs H Q _=>∃(a:Addr) (ns:List Int) (k:Int),vs=[.ref a,.int k]/\SqL K H a (ns.map V.int)/\0<=k/\∀v,Q (.int v) H
section
variable{P:Program}{w:World}{K:PySem.W.Frag}{mg:Str->Option Value}{base:Heap}{f f1:Addr}{fd fd1:FuncData}
theorem zAd:FnScope ["_law_script","_law_k"] ["_law_script","_law_k"] (qAe qXo):=⟨rfl,rfl,rfl,by decide +kernel,rfl,by decide +kernel,by decide +kernel⟩
theorem qYv(F:Fun K "_law_cell_at" "_law_cell_at" qXo f fd)(ml:mg "len" = none):FnOk P w K mg base CX0 1 f fd ["_law_script","_law_k"] (qV4 K):=by
 refine F.ok zAd (fun vs H Q E h=>?_) (fun cdv A outer s H vs Q E hr h=>?_)
 ·obtain⟨a,ns,k,rfl,_⟩:=h;rfl
 obtain⟨a,ns,k,rfl,hS,h0,q⟩:=h;refine⟨_,qAc (qBi (qAp qEk (pv 1) (qAk qAn rfl ml hAv (qAa (pv 0) qAb)) (qAu _)) (qAf (qAt (qBg qBv (pv 0) (pv 1) (fun _ _=>rfl)))) qA1) (qAf (qAt qAd)),?_⟩;refine⟨_,rfl,_,rfl,a,_,rfl,.inl hS,_,_,rfl,rfl,_,rfl,?_⟩;refine ite2 (fun c=>?_) (fun c=>q 0);have c':k<(((ns.map V.int).length:Nat):Int):=of_decide_eq_true c;rw[hA1]at c';have hk:k.toNat<ns.length:=by omega
 have hv:atI (ns.map V.int) ((k.toNat:Nat):Int)=some (.int ns[k.toNat]):=qA0 (by rw[hAe,hA2 hk] <;> rfl);rw[hD0 h0]at hv;exact⟨_,rfl,_,rfl,a,_,_,_,rfl,rfl,hS,hv,q _⟩
end
theorem qCp:bootBuiltins "isinstance" = some (.builtin "isinstance"):=by decide +kernel
theorem qEn(K:PySem.W.Frag)(t:Value):PySem.W.kitOne K t t=some true:=by unfold PySem.W.kitOne;rw[if_pos (beq_self_eq_true t)]
theorem qKi:bootBuiltins "abs" = some (.builtin "abs"):=by decide +kernel
theorem qL6:bootBuiltins "range" = some (.type "range"):=by decide +kernel
section
variable{σ0:St}{g:TG}{tt:TT}{te:TE}{Q:List V->Hp->Prop}{H1:Hp}
theorem qOp{K:PySem.W.Frag}{a:Addr}{xs:List V}(f:V->Option V)(hS:SqL K H1 a xs)(hz:xs.length<=sizeLine)
  (hs:∀x∈xs,∀C:Option V->Hp->Prop,C (f x) H1->g x σ0 H1 fun σ2 H2=>Sle σ0 σ2/\tt σ2 H2 fun b H3=>if b=true then te σ2 H3 (fun v H4=>C (some v) H4) else C none H3)
  (hd:Q (xs.filterMap f) H1):qDj (Itl K a) σ0 g tt te Q H1:=by
 refine qAr (xs:=xs) (fun i ys H=>H=H1/\ys=(xs.take i).filterMap f) ⟨rfl,by simp⟩ (fun i ys H _ h=>by rw[h.1];exact hS) ?_ ?_
 ·rintro i x ys H hx ⟨rfl,rfl⟩;have hi:i<xs.length:=(hAk.mp hx).1;have hm:x∈xs:=hAc hx;have tk:(xs.take (i+1)).filterMap f=(xs.take i).filterMap f++(f x).toList:=by
   rw[List.take_add_one,hx,hCp];cases e:f x <;> simp[e]
  have hl:((xs.take i).filterMap f).length<sizeLine:=by
   have h1:=hBp f (xs.take i);rw[hAh]at h1;omega
  refine hs x hm (fun o H4=>match o with|some v=>((xs.take i).filterMap f).length<sizeLine/\Nxt xs.length i _ ((xs.take i).filterMap f++[v]) H4|none=>Nxt xs.length i _ ((xs.take i).filterMap f) H4) ?_;cases e:f x with
  |none=>exact nxt hi ⟨rfl,by rw[tk,e];simp⟩
  |some v=>exact⟨hl,nxt hi ⟨rfl,by rw[tk,e];simp⟩⟩
 ·rintro ys H ⟨rfl,rfl⟩;rw[hA5 (hA7 _)];exact hd
end
theorem qLy(n:Str):∀other:List Str,inV (.str n) (other.map V.str)=decide (n∈other)
 |[]=>by simp[inV]
 |x :: r=>by
  have ih:=qLy n r;unfold inV at ih ⊢;rw[hB9,List.any_cons,ih];show(x == n || decide (n∈r))=_;by_cases e:n=x
  ·subst e;simp
  ·have e':¬x=n:=fun z=>e z.symm
   simp[e,e']
theorem qJ6:∀other:List Str,(other.map V.str).all qHd=true:=fun other=>by
 rw[hCw];intro x hx;obtain⟨y,_,rfl⟩:=hAg.mp hx;rfl
def LsS(H:Hp)(a:Addr)(ss:List Str):Prop:=H a=some (.lst (ss.map V.str))
abbrev sg:Str:="abcdefghijklmnopqrstuvwxyz0123456789"
def sgC(n:Nat):Nat:=sg.cps.toList.getD n 0
theorem qMv:sg.cps.toList.length=36:=by decide +kernel
theorem zCb:sg.cps.toList.Nodup:=by decide +kernel
theorem qTs:∀c∈sg.cps.toList,c<128:=by decide +kernel
theorem qZ7{i:Int}(h0:0<=i)(h1:i<36):atI sg.cps.toList i=some (sgC i.toNat):=by
 have hk:i.toNat<sg.cps.toList.length:=by rw[qMv];omega
 have:=qA0 (xs:=sg.cps.toList) (j:=i.toNat) (v:=sgC i.toNat) (by
  unfold sgC;rw[hA8,hA2 hk];rfl)
 rw[hD0 h0]at this;exact this
theorem qXe{i j:Nat}(hi:i<36)(hj:j<36)(e:sgC i=sgC j):i=j:=by
 have hi':i<sg.cps.toList.length:=by rw[qMv];exact hi
 have hj':j<sg.cps.toList.length:=by rw[qMv];exact hj
 unfold sgC at e;rw[hA8,hA8,hA2 hi',hA2 hj']at e;exact(List.getElem_inj zCb).mp e
def Sm(x:Str):Prop:=∀c∈x.cps.toList,c<128
theorem Sm.ok{x:Str}(h:Sm x):PyData.strOk x=true:=by
 unfold PyData.strOk;rw[Array.all_eq_true_iff_forall_mem];intro c hc;have:=h c (by simpa using hc);exact decide_eq_true (by omega)
def qHp(r:List Str):PyData:=.list (r.map .str)
def qJm(F:List (List Str)):PyData:=.list (F.map qHp)
theorem qN6:∀a b:List Str,PyData.eqvAll (a.map .str) (b.map .str)=decide (a=b)
 |[],[]=>rfl
 |[],_ :: _=>rfl
 |_ :: _,[]=>rfl
 |x :: a,y :: b=>by
  show(x == y && PyData.eqvAll (a.map .str) (b.map .str))=_;rw[qN6 a b];by_cases e:x=y
  ·subst e;simp
  ·simp[e]
theorem qSh(a b:List Str):PyData.eqv (qHp a) (qHp b)=decide (a=b):=qN6 a b
def SOk(r:List Str):Prop:=∀x∈r,PyData.strOk x=true
theorem qIw:∀ {r:List Str},SOk r->PyData.canLayAll0 (r.map .str)=true/\PyData.depthAll (r.map .str)=0
 |[],_=>⟨rfl,rfl⟩
 |x :: r,h=>by
  obtain⟨h1,h2⟩:=qIw (r:=r) fun y hy=>h y (hA4 _ hy)
  refine⟨?_,?_⟩
  ·show(PyData.strOk x && PyData.canLayAll0 (r.map .str))=true;rw[h1,h x hA6];rfl
  ·show max 0 (PyData.depthAll (r.map .str))=0;rw[h2];rfl
theorem qOv{r:List Str}(h:SOk r):SeqAt.shaped (qHp r)=true:=by
 obtain⟨h3,h4⟩:=qIw h;show(PyData.canLayAll0 (r.map .str) && decide (PyData.depthAll (r.map .str)+1<=64))=true;rw[h3,h4];rfl
theorem qSl{K:PySem.W.Frag}{H:Hp}:∀r:List Str,DRs K H (r.map V.str) (r.map .str)
 |[]=>.nil
 |x :: r=>.cons (.str x) (qSl r)
theorem qOc{K:PySem.W.Frag}{H:Hp}{a:Addr}{r:List Str}(h:LsS H a r):DR K H (.ref a) (qHp r):=.lst (SqL.of h) (qSl r)
theorem qJn{k:Nat}{A:Around}(hr:Room k A):A.units+64<cLine:=by have:=hr.un;omega
theorem qBy:bootBuiltins "list" = some (.type "list"):=by decide +kernel
theorem qKh:bootBuiltins "str" = some (.type "str"):=by decide +kernel
theorem qBj:bootBuiltins "sorted" = some (.builtin "sorted"):=by decide +kernel
theorem qEy:bootBuiltins "all" = some (.builtin "all"):=by decide +kernel
theorem qS4:bootBuiltins "set" = some (.type "set"):=by decide +kernel
theorem qD6:bootBuiltins "tuple" = some (.type "tuple"):=by decide +kernel
end My
namespace L2
open PySem PySem.Spec PyProof.Rows
def zDl(Pm:St->Hp->Prop)(t:TS):TS:=fun D σ H=>t { D with nx:=Pm } σ H/\∀σ' H',Pm σ' H'->D.nx σ' H'
theorem qHr{X:Cx}{st:Stmt}{t:TS}(Pm:St->Hp->Prop)(h:PS X st t):PS X st (zDl Pm t):=by
 intro pins s σ H D I hw;refine thn (h pins s σ H { D with nx:=Pm } I hw.1) fun fl s' q=>?_
 cases fl with
 |next=>obtain⟨σ',H',I',q⟩:=q;exact⟨σ',H',I',hw.2 σ' H' q⟩
 |brk=>exact q
 |cont=>exact q
 |ret u=>exact q
end L2
namespace My
open PySem L2
theorem qFz{α:Type}{P:List α->Prop}(h0:P [])(hs:∀l t,P l->P (l++[t]))(l:List α):P l:=by
 have:∀r:List α,P r.reverse:=fun r=>by
  induction r with
  |nil=>exact h0
  |cons a r ih=>rw[List.reverse_cons];exact hs _ _ ih
 have q:=this l.reverse
 rwa [List.reverse_reverse]at q
abbrev Tr:=Str×Str×Str
abbrev lab(f:Str->Str)(t:Tr):Str->Str:=fun p=>if f p=f t.2.2 then f t.2.1 else f p
def qCh(net:List Tr):Str->Str:=net.foldl lab id
theorem qEo(net:List Tr)(t:Tr):qCh (net++[t])=lab (qCh net) t:=by unfold qCh;rw[hBk];rfl
def zBc(net:List Tr)(x:Str):Prop:=∃t∈net,x=t.2.1\/x=t.2.2
theorem qU2(net:List Tr):∀t∈net,qCh net t.2.1=qCh net t.2.2:=by
 refine qFz (P:=fun net=>∀t∈net,qCh net t.2.1=qCh net t.2.2) (fun t h=>by cases h) (fun l t ih=>?_) net;intro u hu;rw[qEo];show(if qCh l u.2.1=qCh l t.2.2 then qCh l t.2.1 else qCh l u.2.1)=if qCh l u.2.2=qCh l t.2.2 then qCh l t.2.1 else qCh l u.2.2
 rcases hAj.mp hu with z|z
 ·rw[ih u z]
 ·rw[hAd]at z;subst z;rw[if_pos rfl];split <;> rfl
def qTh(kept:List Tr)(t:Tr):List Tr:=if qCh kept t.2.1=qCh kept t.2.2 then kept else kept++[t]
def qF2(net:List Tr):List Tr:=net.foldl qTh []
theorem qHg(net:List Tr)(t:Tr):qF2 (net++[t])=qTh (qF2 net) t:=by unfold qF2;rw[hBk];rfl
theorem qUx{f:Str->Str}{t:Tr}(h:f t.2.1=f t.2.2):lab f t=f:=by
 funext p
 show(if f p=f t.2.2 then f t.2.1 else f p)=f p;split
 ·rename_i e;rw[e,h]
 ·rfl
theorem qR9(net:List Tr):qCh (qF2 net)=qCh net:=by
 refine qFz (P:=fun net=>qCh (qF2 net)=qCh net) rfl (fun l t ih=>?_) net;rw[qHg,qEo];unfold qTh;rw[ih];split
 ·rename_i e;rw[ih,qUx e]
 ·rw[qEo,ih]
abbrev qDu(l:List Str):Prop:=l.Pairwise fun a b=>qIh a b=true
theorem qM5:∀ {a b:List Str},qDu a->qDu b->(∀x,x∈a↔x∈b)->a=b
 |[],[],_,_,_=>rfl
 |[],y :: b,_,_,h=>by have:=(h y).mpr hA6;cases this
 |x :: a,[],_,_,h=>by have:=(h x).mp hA6;cases this
 |x :: a,y :: b,ha,hb,h=>by
  obtain⟨a1,a2⟩:=hB3.mp ha;obtain⟨b1,b2⟩:=hB3.mp hb;have e:x=y:=by
   rcases hAf.mp ((h x).mp hA6) with z|z
   ·exact z
   ·rcases hAf.mp ((h y).mpr hA6) with w|w
    ·exact w.symm
    ·have q:=qDp (b1 x z) (a1 y w);rw[qB3]at q;cases q
  subst e;refine congrArg _ (qM5 a2 b2 fun z=>⟨fun hz=>?_,fun hz=>?_⟩)
  ·rcases hAf.mp ((h z).mp (hA4 _ hz)) with w|w
   ·have:=a1 z hz;rw[w,qB3]at this;cases this
   ·exact w
  ·rcases hAf.mp ((h z).mpr (hA4 _ hz)) with w|w
   ·have:=b1 z hz;rw[w,qB3]at this;cases this
   ·exact w
abbrev trV(t:Tr):List V:=[.str t.1,.str t.2.1,.str t.2.2]
def qD7(H:Hp)(p:Addr)(net:List Tr):Prop:=∃as:List Addr,H p=some (.lst (as.map V.ref))/\Paired (fun a t=>H a=some (.tup (trV t))) as net
theorem qD7.ext{H H':Hp}{p:Addr}{net:List Tr}(h:qD7 H p net)(e:Ext H H'):qD7 H' p net:=by
 obtain⟨as,h1,h2⟩:=h;exact⟨as,e _ _ h1,Paired.mapP h2 fun a t z=>e _ _ z⟩
theorem qAw{α β:Type}{R:α->β->Prop}:∀ {as:List α} {bs:List β} {i:Nat} {a:α},Paired R as bs->as[i]?=some a->∃b,bs[i]?=some b/\R a b
 |_,_,_,_,.nil,e=>by simp at e
 |_,_,0,_,.cons h _,e=>by simp at e;subst e;exact⟨_,rfl,h⟩
 |_,_,i+1,_,.cons _ t,e=>by
  obtain⟨b,h1,h2⟩:=qAw (i:=i) t (by simpa using e);exact⟨b,by simpa using h1,h2⟩
theorem qYy{H:Hp}{as:List Addr}{net:List Tr}{i:Nat}{x:V}(h:Paired (fun a t=>H a=some (.tup (trV t))) as net)(e:(as.map V.ref)[i]?=some x):∃a t,x = .ref a/\net[i]?=some t/\H a=some (.tup (trV t)):=by
 rw[hAe]at e;cases ha:as[i]? with
 |none=>rw[ha]at e;cases e
 |some a =>
  rw[ha]at e;obtain⟨t,h1,h2⟩:=qAw h ha;exact⟨a,t,(hAm e).symm,h1,h2⟩
theorem qAm{α:Type}{l:List α}{i:Nat}{t:α}(h:l[i]?=some t):l.take (i+1)=l.take i++[t]:=by rw[List.take_add_one,h];rfl
theorem qAy{α:Type}{l:List α}{i:Nat}{t:α}(h:l[i]?=some t):i<l.length:=(hAk.mp h).1
theorem qQy:∀(l:List Str) (p:Str),PyProof.Rows.risingS p l=true->(p :: l).Nodup->qDu (p :: l)
 |[],p,_,_=>hCf _ _
 |x :: r,p,h,nd=>by
  have h':(!PySem.Spec.ltCps x.cps.toList p.cps.toList && PyProof.Rows.risingS x r)=true:=h;rw[hCa]at h';have nd':=hBg.mp nd;have ih:=qQy r x h'.2 nd'.2;have px:qIh p x=true:=by
   have z:=h'.1;rw[PyProof.Rows.ltCps_eq]at z;rcases sLtB_tri p x with t|t|t
   ·exact t
   ·exact absurd t (fun e=>nd'.1 (by rw[e];exact hA6))
   ·rw[decide_eq_true (of_decide_eq_true t)]at z;cases z
  refine hB3.mpr ⟨fun y hy=>?_,ih⟩;rcases hAf.mp hy with e|hy
  ·rw[e];exact px
  ·exact qDp px ((hB3.mp ih).1 y hy)
theorem qLg{l:List Str}(h:PyProof.Rows.sortedS l=true)(nd:l.Nodup):qDu l:=by
 cases l with
 |nil=>exact List.Pairwise.nil
 |cons x r=>exact qQy r x h nd
def qPd(net:List Tr)(ps:List Str):Prop:=ps.Nodup/\∀x,x∈ps↔zBc net x
theorem Ext.over{H H':Hp}{d:Addr}(e:Ext H H')(h:H d=Option.none)(o:HO):Ext H (upd H' d o):=fun b u q=>by rw[qAl (qAo q h)];exact e b u q
def hD(ps:List Str)(f:Str->Str):List (Key×V):=ps.map fun p=>(Sum.inr p,V.str (f p))
theorem zCh{k:Nat}{A:Around}(hr:Room k A):A.units+2<cLine:=by have:=hr.un;omega
def qEz(H:Hp)(p:Addr)(F:List (List Str)):Prop:=∃as:List Addr,H p=some (.lst (as.map V.ref))/\Paired (LsS H) as F
theorem qEz.ext{H H':Hp}{p:Addr}{F:List (List Str)}(h:qEz H p F)(e:Ext H H'):qEz H' p F:=by
 obtain⟨as,h1,h2⟩:=h;exact⟨as,e _ _ h1,Paired.mapP h2 fun a r z=>e _ _ z⟩
theorem qL0(as:List Addr):(List.range as.length).map (fun i=>as.getD i 0)=as:=by
 refine hDq fun i=>?_
 by_cases hi:i<as.length
 ·rw[hAe,hDd hi,hA2 hi];show some (as.getD i 0)=_;rw[hA8,hA2 hi];rfl
 ·rw[hBm (by simp;omega),hBm (by omega)]
theorem pick_perm{as:List Addr}{o:Array Nat}(g:Gd as.length o):(o.toList.map fun i=>as.getD i 0).Perm as :=
 ((hBy.mp g).map fun i=>as.getD i 0).trans (List.Perm.of_eq (qL0 as))
theorem qJr{R:Addr->List Str->Prop}:∀ {as:List Addr} {ts:List (List Str)} {i:Nat},Paired R as ts->i<as.length->R (as.getD i 0) (ts.getD i [])
 |_,_,i,.nil,hi=>absurd hi (hC3 _)
 |_,_,0,.cons h _,_=>h
 |_,_,i+1,.cons _ t,hi=>by simpa using qJr (i:=i) t (by simpa using hi)
theorem qGr{R:Addr->List Str->Prop}{as:List Addr}{ts:List (List Str)}(pr:Paired R as ts):∀ {l:List Nat},(∀i∈l,i<as.length)->Paired R (l.map fun i=>as.getD i 0) (l.map fun i=>ts.getD i [])
 |[],_=>.nil
 |i :: l,h=>.cons (qJr pr (h i hA6)) (qGr pr fun j hj=>h j (hA4 _ hj))
def Sgd(s:Str):Prop:=∀c∈s.cps.toList,c∈sg.cps.toList
theorem qXd{i:Nat}(hi:i<36):sgC i∈sg.cps.toList:=by
 have hi':i<sg.cps.toList.length:=by rw[qMv];exact hi
 unfold sgC;rw[hA8,hA2 hi'];exact hBs hi'
theorem Sgd.sm{s:Str}(h:Sgd s):Sm s:=fun c hc=>qTs c (h c hc)
theorem Sgd.app{x y:Str}(h:Sgd x)(h':Sgd y):Sgd (x++y):=fun c hc=>by
 rw[Str.cps_append,Array.toList_append,hAj]at hc;exact hc.elim (h c) (h' c)
theorem Sgd.one{i:Nat}(hi:i<36):Sgd ⟨#[sgC i]⟩:=fun d hd=>by
 have:d=sgC i:=by simpa using hd
 rw[this];exact qXd hi
theorem Sgd.nil:Sgd "":=fun c hc=>by
 have:c∈([]:List Nat):=hc;cases this
theorem Sgd.slice{x:Str}(h:Sgd x)(l u:Option Int):Sgd (Txt.slice x l u):=fun c hc=>by
 unfold Txt.slice at hc;split at hc
 ·exact h c hc
 ·simp only[hCr]at hc;obtain⟨i,_,hi⟩:=hc;exact h c (by simpa using Array.mem_of_getElem? hi)
def zCy(s:Str):Prop:=Sgd s/\1<=s.length/\s.length<=6
theorem qK2{x:Str}{j:Int}(h0:0<=j)(h1:j<=x.length):(Txt.slice x none (some j)).length<=j.toNat:=by
 have e:Txt.slice x none (some j)=_:=PySem.StrLaws.sliceText_to (x:=x) (j:=j) ⟨h0,h1⟩;rw[e];show(List.toArray _).size<=_;rw[hAb,hAh];omega
theorem qIa{x:Str}{j:Int}(h0:0<=j)(h1:j<=x.length):(Txt.slice x (some j) none).length<=x.length - j.toNat:=by
 have e:Txt.slice x (some j) none=_:=PySem.StrLaws.sliceText_from (x:=x) (i:=j) ⟨h0,h1⟩;rw[e];show(List.toArray _).size<=_;rw[hAb,hAh,hD3];have:x.cps.toList.length=x.length:=rfl;omega
def qK0(K:PySem.W.Frag):Sp:=fun vs H Q _=>∃(a:Addr) (ns:List Int) (k:Int),vs=[.ref a,.int k]/\SqL K H a (ns.map V.int)/\0<=k/\k<=100/\∀v,Q (.int v) H
def Tx(ss:List Str):Prop:=∀s∈ss,zCy s
def qF6:Sp:=fun vs H Q _=>∃(b n:Int),vs=[.int b,.int n]/\0<=n/\n<=100/\∀(r:Addr) (ss:List Str) (H':Hp),Ext H H'->H r=none->LsS H' r ss->ss.length=n.toNat->Tx ss->(n<=36->ss.Nodup)->Q (.ref r) H'
def nmF(pre post:Str)(f:Int)(k:Nat):Str:=pre++⟨#[sgC ((f+7*(0+(k:Int))) % 36).toNat]⟩++post
theorem qYx{pre post:Str}{f:Int}{i j:Nat}(hi:i<36)(hj:j<36)(e:nmF pre post f i=nmF pre post f j):i=j:=by
 have e1:=congrArg (fun s:Str=>s.cps.toList) e;unfold nmF at e1;simp only[Str.cps_append,Array.toList_append]at e1;have e2:=List.append_cancel_left (List.append_cancel_right e1);have a0:=hB8 (f+7*(0+(i:Int))) (show(36:Int)≠0 by decide);have a1:=hB4 (f+7*(0+(i:Int))) (show(0:Int)<36 by decide);have b0:=hB8 (f+7*(0+(j:Int))) (show(36:Int)≠0 by decide);have b1:=hB4 (f+7*(0+(j:Int))) (show(0:Int)<36 by decide);have e3:sgC ((f+7*(0+(i:Int))) % 36).toNat=sgC ((f+7*(0+(j:Int))) % 36).toNat:=by simpa using e2
 have e4:=qXe (by omega) (by omega) e3;omega
theorem qNk{g:Nat->Str}:∀ {n:Nat},(∀i j,i<n->j<n->g i=g j->i=j)->((List.range n).map g).Nodup
 |0,_=>List.nodup_nil
 |n+1,h=>by
  rw[hCq,hA3,List.nodup_append];refine⟨qNk fun i j hi hj=>h i j (by omega) (by omega),by simp,fun a ha b hb=>?_⟩;obtain⟨i,hi,rfl⟩:=hAg.mp ha;rw[hCt,hAd]at hb;subst hb;rw[hB6]at hi;intro z;have:=h i n (by omega) (by omega) z;omega
section
variable{P:Program}{w:World}{K:PySem.W.Frag}{mg:Str->Option Value}{base:Heap}{f f1 f2:Addr}{fd fd1 fd2:FuncData}
abbrev bgN:List Str:=["_law_script","_law_k","_law_x","_law_total","_law_j"]
theorem qK8:FnScope bgN ["_law_script","_law_k"] (qAe zCe):=⟨rfl,rfl,rfl,by decide +kernel,rfl,by decide +kernel,by decide +kernel⟩
theorem zAy(F:Fun K "_law_big" "_law_big" zCe f fd)(G:Cl P w K mg base CX0 1 f1 fd1 ["_law_script","_law_k"] (qV4 K) "_law_cell_at")(mr:mg "range" = none)(ma:mg "abs" = none) :
  FnOk P w K mg base CX0 2 f fd ["_law_script","_law_k"] (qK0 K):=by
 refine F.ok qK8 (fun vs H Q E h=>?_) (fun cdv A outer s H vs Q E hr h=>?_)
 ·obtain⟨a,ns,k,rfl,_⟩:=h;rfl
 obtain⟨a,ns,k,rfl,hS,h0,h1,q⟩:=h;refine⟨_,qAc (qBi (qAp zCp (qAk qOh rfl ma qKi (qAa (qAx G hr rfl .nil qAv (qAa (pv 0) (qAa (pv 1) qAb))) qAb)) (qAh qWi qAd qAd) (qAu _))
   (qAf (qAt (qAh qCu (qAk qOh rfl ma qKi (qAa (qAx G hr rfl .nil qAv (qAa (pv 0) (qAa (pv 1) qAb))) qAb)) (qAh qWi qAd qAd)))) qA1)
  (qAc (qAj (i:=2) qK8.nd rfl (Or.inl rfl) (qAh qA6 (qAh qA6 (qAh qA6 (qAh qA7 (qAx G hr rfl .nil qAv (qAa (pv 0) (qAa qAd qAb))) qAd) (qAh qDf qAd (pv 1))) (qAh qDf qAd (qAx G hr rfl .nil qAv (qAa (pv 0) (qAa (pv 1) qAb))))) qAd))
  (qAc (qAj (i:=2) qK8.nd rfl (Or.inl rfl) (qAh qA6 (qAh qA7 (pv 2) qAd) qAd))
  (qAc (qAj (i:=3) qK8.nd rfl (Or.inl rfl) qAd)
  (qAc (qBb PassesOwn.never rfl (qA8 rfl mr (qAa qAd qAb)) (qAg (i:=4) qK8.nd rfl (Or.inl rfl))
   (qAc (qAj (i:=2) qK8.nd rfl (Or.inl rfl) (qAh qA7 (qAh qA6 (qAh qA6 (qAh qA6 (qAh qDf (pv 2) qAd) (qAh qA3 (pv 2) qAd)) (qAh qDf (qAh qDf qAd (pv 4)) (pv 4))) (pv 1)) qAd))
   (qAf (qAj (i:=3) qK8.nd rfl (Or.inl rfl) (qAh qA6 (qAh qDf (pv 3) qAd) (qAh qA7 (qAh qDf (pv 2) qAd) qAd))))))
  (qAf (qAt (pv 3))))))),?_⟩
 refine⟨_,rfl,_,rfl,a,ns,k,rfl,hS,h0,fun v=>⟨v,rfl,?_⟩⟩;refine⟨_,_,rfl,rfl,⟨by decide,by decide,by decide⟩,_,_,rfl,rfl,_,rfl,?_⟩;refine ite2 (fun c=>?_) (fun c=>?_)
 ·refine⟨_,rfl,_,rfl,a,ns,k,rfl,hS,h0,fun v=>⟨v,rfl,?_⟩⟩;exact⟨_,_,rfl,rfl,⟨by decide,by decide,by decide⟩,_,_,rfl,rfl,q _⟩
 refine⟨_,rfl,a,ns,0,rfl,hS,by decide,fun v1=>?_⟩;refine⟨_,_,rfl,rfl,(by show(0:Int)<_;decide),_,rfl,_,_,rfl,rfl,.inl ⟨by decide,by decide⟩,_,_,rfl,rfl,?_⟩;refine⟨_,rfl,_,rfl,a,ns,k,rfl,hS,h0,fun v2=>?_⟩;refine⟨_,_,rfl,rfl,.inl ⟨by decide,by decide⟩,_,_,rfl,rfl,_,_,rfl,rfl,?_⟩;refine⟨_,rfl,_,_,rfl,rfl,(by show(0:Int)<_;decide),_,_,rfl,rfl,?_⟩;refine⟨8,rfl,by decide,by decide,qBp (lo:=0) (n:=8) (fun i σ H'=>H'=H/\∃(x t:Int) (z:Option V),σ=[some (.ref a),some (.int k),some (.int x),some (.int t),z]) ⟨rfl,_,0,none,rfl⟩ ?_ ?_⟩
 ·rintro i σ H' hi ⟨rfl,x,t,z,rfl⟩;refine⟨_,rfl,_,_,rfl,rfl,.inr ⟨by decide,by decide⟩,_,rfl,_,_,rfl,rfl,⟨by decide,by decide⟩,_,_,rfl,rfl,?_⟩;refine⟨_,rfl,_,_,rfl,rfl,.inl ⟨by decide,by decide⟩,_,rfl,_,_,rfl,rfl,.inr ⟨by omega,by omega⟩,_,_,rfl,rfl,?_⟩;refine⟨_,rfl,_,_,rfl,rfl,_,_,rfl,rfl,(by show(0:Int)<_;decide),?_⟩;refine⟨_,rfl,_,_,rfl,rfl,.inr ⟨by decide,by decide⟩,_,rfl,_,_,rfl,rfl,.inr ⟨by decide,by decide⟩,_,_,rfl,rfl,(by show(0:Int)<_;decide),_,_,rfl,rfl,?_⟩;exact⟨rfl,_,_,_,rfl⟩
 ·rintro σ H' ⟨rfl,x,t,z,rfl⟩;exact⟨_,rfl,q _⟩
abbrev naN:List Str:=["_law_big_here","_law_many","_law_signs","_law_word","_law_k","_law_spot","_law_first","_law_head","_law_tail"]
theorem qCw:FnScope naN ["_law_big_here","_law_many"] (qAe qM1):=⟨rfl,rfl,rfl,by decide +kernel,rfl,by decide +kernel,by decide +kernel⟩
theorem qUk(F:Fun K "_law_names" "_law_names" qM1 f fd)(mr:mg "range" = none)(ml:mg "len" = none):FnOk P w K mg base CX0 1 f fd ["_law_big_here","_law_many"] qF6:=by
 refine F.ok qCw (fun vs H Q E h=>?_) (fun cdv A outer s H vs Q E hr h=>?_)
 ·obtain⟨b,n,rfl,_⟩:=h;rfl
 obtain⟨b,n,rfl,n0,n1,q⟩:=h;refine⟨_,qAc (qAj (i:=2) qCw.nd rfl (Or.inr rfl) qDz)
  (qAc (qAj (i:=3) qCw.nd rfl (Or.inl rfl) qDz)
  (qAc (qBb PassesOwn.never rfl (qA8 rfl mr (qAa (qAh qA6 qAd (qAh qA7 (pv 0) qAd)) qAb)) (qAg (i:=4) qCw.nd rfl (Or.inl rfl))
   (qAc (qAj (i:=3) qCw.nd rfl (Or.inl rfl) (qAh qDr (pv 3) (qBg qWn (pv 2) (qAh qA7 (qAh qA3 (pv 0) qAd) qAd) (fun _ _=>rfl))))
   (qAf (qAj (i:=0) qCw.nd rfl (Or.inl rfl) (qAh qA3 (pv 0) qAd)))))
  (qAc (qAj (i:=5) qCw.nd rfl (Or.inl rfl) (qAh qA7 (qAh qA3 (pv 0) qAd) (qAk qKg rfl ml hAv (qAa (pv 3) qAb))))
  (qAc (qAj (i:=6) qCw.nd rfl (Or.inr rfl) (qAh qA7 (qAh qA3 (pv 0) qAd) qAd))
  (qAc (qFn (qA5 (qAa (qEj qV7 (pv 3) qGn (qGm (pv 5))) (qAa (qEj qV7 (pv 3) (qGm (qAh qA6 (pv 5) qAd)) qGn) qAb))) (qB0 rfl (qAs (qAg (i:=7) qCw.nd rfl (Or.inr rfl)) (qAs (qAg (i:=8) qCw.nd rfl (Or.inr rfl)) qBe))))
  (qAf (qAt (qBf (N:=naN) (sc:=qAe qM1) (N':=["_law_k","_law_head","_law_signs","_law_first","_law_tail"]) (sub:=[none,some 7,some 2,some 6,some 8]) rfl rfl (CmpOk.of (by decide +kernel)) rfl (qA8 rfl mr (qAa (pv 1) qAb))
   (fun C s H fp=>⟨qAg (i:=0) (by show(["_law_k","_law_head","_law_signs","_law_first","_law_tail"]:List Str).Nodup;decide) rfl (Or.inl rfl),qAz,
    qAh qDr (qAh qDr (pv 1) (qBg qWn (pv 2) (qAh qA7 (qAh qA6 (pv 3) (qAh qDf qAd (pv 0))) qAd) (fun _ _=>rfl))) (pv 4)⟩))))))))),?_⟩
 have b6:=hB8 b (show(6:Int)≠0 by decide);have b6':=hB4 b (show(0:Int)<6 by decide);refine⟨_,rfl,_,_,rfl,rfl,(by show(0:Int)<_;decide),_,_,rfl,rfl,1+b % 6,rfl,by omega,by omega,?_⟩;refine qBp (lo:=0) (n:=(1+b % 6).toNat) (fun i σ H'=>H'=H/\∃(b':Int) (word:Str) (x:Option V),σ=[some (.int b'),some (.int n),some (.str sg),some (.str word),x,none,none,none,none]/\word.length=i/\Sgd word) ⟨rfl,b,"",none,rfl,rfl,Sgd.nil⟩ ?_ ?_
 ·rintro i σ H' hi ⟨rfl,b',word,x,rfl,hw,sm⟩;have c1:=hB8 (b' / 6) (show(36:Int)≠0 by decide);have c2:=hB4 (b' / 6) (show(0:Int)<36 by decide);refine⟨_,rfl,_,rfl,_,rfl,_,_,rfl,rfl,⟨by decide,by decide⟩,_,_,rfl,rfl,(by show(0:Int)<_;decide),sg,_,sgC (b' / 6 % 36).toNat,rfl,rfl,by decide +kernel,qZ7 c1 c2,word,⟨#[sgC (b' / 6 % 36).toNat]⟩,rfl,rfl,?_,?_⟩
  ·show word.length+1<=sizeLine;exact hB1 (qAi (by omega))
  ·refine⟨_,rfl,_,_,rfl,rfl,⟨by decide,by decide⟩,?_⟩;refine⟨rfl,_,_,_,rfl,?_,sm.app (Sgd.one (by omega))⟩;rw[Str.length_append];show word.length+1=i+1;omega
 ·rintro σ H' ⟨rfl,b',word,x,rfl,hw,sm⟩;have wl:word.length<=sizeLine:=hB1 (qAi (by omega));have fa:=hB8 (b' / 216) (show(36:Int)≠0 by decide);have fb:=hB4 (b' / 216) (show(0:Int)<36 by decide);refine⟨_,rfl,_,_,rfl,rfl,⟨by decide,by decide⟩,_,rfl,word,rfl,wl,_,_,rfl,rfl,(by show(0:Int)<_;omega),?_⟩;refine⟨_,rfl,_,_,rfl,rfl,⟨by decide,by decide⟩,_,_,rfl,rfl,(by show(0:Int)<_;decide),?_⟩;obtain⟨spot,hsp⟩:∃spot,b' / 6 % ((word.length:Nat):Int)=spot:=⟨_,rfl⟩;refine⟨_,rfl,_,rfl,_,rfl,word,rfl,wl,_,rfl,_,rfl,_,_,rfl,rfl,_,rfl,word,rfl,wl,(by show 2<=sizeLine;decide),fun T hT=>⟨T,_,rfl,SqT.of upd_same,rfl,_,_,rfl,_,_,rfl,rfl,?_⟩⟩;have l1:=Txt.slice_le word none (some spot);have l2:=Txt.slice_le word (some (spot+1)) none;have s1:=sm.slice none (some spot);have s2:=sm.slice (some (spot+1)) none;have X1:=Ext.new hT (.tup [V.str (Txt.slice word none (some spot)),V.str (Txt.slice word (some (spot+1)) none)]);refine⟨_,rfl,n,rfl,by omega,by omega,?_⟩;refine qD2 (lo:=0) (n:=n.toNat) (fun i ys H2=>H2=upd H' T (.tup [V.str (Txt.slice word none (some spot)),V.str (Txt.slice word (some (spot+1)) none)])/\∃ss:List Str,ys=ss.map V.str/\ss.length=i/\Tx ss/\ss=(List.range i).map (nmF (Txt.slice word none (some spot)) (Txt.slice word (some (spot+1)) none) (b' / 216 % 36))) ⟨by rw[hsp],[],rfl,rfl,(fun s hs=>by cases hs),rfl⟩ ?_ ?_
  ·rintro i ys H2 hi ⟨rfl,ss,rfl,ls,tx,eq⟩;have ea:=hB8 (b' / 216 % 36+7*(0+(i:Int))) (show(36:Int)≠0 by decide);have eb:=hB4 (b' / 216 % 36+7*(0+(i:Int))) (show(0:Int)<36 by decide);rw[hsp];refine⟨Sle.set _ (Sle.refl _) (fun u z=>by cases z),iteT (B:=False) ⟨_,rfl,_,rfl,_,rfl,_,rfl,_,_,rfl,rfl,.inl ⟨by decide,by decide⟩,_,_,rfl,rfl,_,_,rfl,rfl,(by show(0:Int)<_;decide),sg,_,sgC ((b' / 216 % 36+7*(0+(i:Int))) % 36).toNat,rfl,rfl,by decide +kernel,qZ7 ea eb,_,_,rfl,rfl,?_,_,rfl,_,_,rfl,rfl,?_,?_,nxt hi ⟨rfl,ss++[Txt.slice word none (some spot)++⟨#[sgC ((b' / 216 % 36+7*(0+(i:Int))) % 36).toNat]⟩++Txt.slice word (some (spot+1)) none],?_,?_,?_,?_⟩⟩⟩
   ·show _+1<=sizeLine;exact hB1 (qAi (by omega))
   ·rw[Str.length_append];show _+1+_<=sizeLine;exact hB1 (qAi (by omega))
   ·rw[hA1];exact qAi (by omega)
   ·rw[hA3];rfl
   ·rw[hAa,ls];rfl
   ·intro s hs;rcases hAj.mp hs with z|z
    ·exact tx s z
    ·rw[hAd]at z;subst z;have sp0:0<=spot:=by rw[<-hsp];exact hB8 _ (by omega)
     have sp1:spot<(word.length:Int):=by rw[<-hsp];exact hB4 _ (by omega)
     have la:=qK2 (x:=word) (j:=spot) sp0 (by omega);have lb:=qIa (x:=word) (j:=spot+1) (by omega) (by omega);have lc:(⟨#[sgC ((b' / 216 % 36+7*(0+(i:Int))) % 36).toNat]⟩:Str).length=1:=rfl;refine⟨(s1.app (Sgd.one (by omega))).app s2,?_,?_⟩
     ·rw[Str.length_append,Str.length_append,lc];omega
     ·rw[Str.length_append,Str.length_append,lc];omega
   ·rw[eq,hCq,hA3];rfl
  ·rintro ys H2 ⟨rfl,ss,rfl,ls,tx,eq⟩ r hr';exact q r ss _ (X1.trans (Ext.new hr' _)) (X1.none hr') upd_same ls tx (fun n36=>by rw[eq];exact qNk fun i j hi hj=>qYx (by omega) (by omega))
end
abbrev enV(e:Int×Int):List V:=[.int e.1,.int e.2]
def qBd(H:Hp)(p:Addr)(es:List (Int×Int)):Prop:=∃as:List Addr,H p=some (.lst (as.map V.ref))/\Paired (fun a e=>H a=some (.tup (enV e))) as es
theorem qBd.ext{H H':Hp}{p:Addr}{es:List (Int×Int)}(h:qBd H p es)(e:Ext H H'):qBd H' p es:=by
 obtain⟨as,h1,h2⟩:=h;exact⟨as,e _ _ h1,Paired.mapP h2 fun a t z=>e _ _ z⟩
theorem qBd.snoc{H H':Hp}{k a:Addr}{as:List Addr}{net:List (Int×Int)}{t:Int×Int}(hk:H k=some (.lst (as.map V.ref)))(pr:Paired (fun a t=>H a=some (.tup (enV t))) as net)(e:Ext H H')(ha:H' a=some (.tup (enV t))):qBd (upd H' k (.lst (as.map V.ref++[V.ref a]))) k (net++[t]):=by
 have hk':=e _ _ hk;have ne:∀ {b:Addr} {xs:List V},H' b=some (.tup xs)->b≠k:=fun h z=>by rw[z,hk']at h;cases h
 refine⟨as++[a],by rw[upd_same,hA3];rfl,?_⟩;refine Paired.snoc (Paired.mapP pr fun b u z=>?_) ?_
 ·have z':=e _ _ z;rw[qAl (ne z')];exact z'
 ·rw[qAl (ne ha)];exact ha
theorem qW4{hs:List Int}{i:Int}(h0:0<=i)(h1:i<(hs.length:Int)):∃v,atI (hs.map V.int) i=some (.int v):=by
 have hk:i.toNat<hs.length:=by omega
 have hv:atI (hs.map V.int) ((i.toNat:Nat):Int)=some (.int hs[i.toNat]):=qA0 (by rw[hAe,hA2 hk] <;> rfl);rw[hD0 h0]at hv;exact⟨_,hv⟩
def qPg(sp:Int)(e:Int×Int):Prop:=(0<=e.1/\e.1<sp)/\0<=e.2/\e.2<sp
def qV3:Sp:=fun vs H Q _=>∃(b n sp:Int),vs=[.int b,.int n,.int sp]/\0<=n/\n<=12/\0<sp/\sp<=10/\∀r es H',Ext H H'->H r=none->qBd H' r es->es.length<=n.toNat->(∀e∈es,qPg sp e)->Q (.ref r) H'
section
variable{P:Program}{w:World}{K:PySem.W.Frag}{mg:Str->Option Value}{base:Heap}{f f1 f2:Addr}{fd fd1 fd2:FuncData}
abbrev eN:List Str:=["_law_big_here","_law_many","_law_spread","_law_heaps","_law_found","_law_high","_law_k","_law_one","_law_other","_law_gone"]
theorem qDb:FnScope eN ["_law_big_here","_law_many","_law_spread"] (qAe qT8):=⟨rfl,rfl,rfl,by decide +kernel,rfl,by decide +kernel,by decide +kernel⟩
structure EI(H:Hp)(sp n:Int)(i:Nat)(σ:St)(H':Hp)(b' h:Int)(hp fo:Addr)(hs:List Int)(es:List (Int×Int)):Prop where
 st:∃x6 x7 x8 x9:Option V,σ=[some (.int b'),some (.int n),some (.int sp),some (.ref hp),some (.ref fo),some (.int h),x6,x7,x8,x9]
 ext:Ext H H'
 fo0:H fo=none
 ne:hp≠fo
 hsA:H' hp=some (.lst (hs.map V.int))
 hsl:(hs.length:Int)=sp
 esA:qBd H' fo es
 esl:es.length<=i
 esi:∀e∈es,qPg sp e
theorem qYu(F:Fun K "_law_ends" "_law_ends" qT8 f fd)(mr:mg "range" = none)(ml:mg "len" = none)(mL:mg "list" = none):FnOk P w K mg base CX0 1 f fd ["_law_big_here","_law_many","_law_spread"] qV3:=by
 refine F.ok qDb (fun vs H Q E h=>?_) (fun cdv A outer s H vs Q E hr h=>?_)
 ·obtain⟨b,n,sp,rfl,_⟩:=h;rfl
 obtain⟨b,n,sp,rfl,n0,n1,p0,p1,q⟩:=h;refine⟨_,qAc (qAj (i:=3) qDb.nd rfl (Or.inr rfl) (qBn (qI3 rfl) rfl mL qBy (qAa (qBn qFs rfl mr qL6 (qAa (pv 2) qAb)) qAb)))
  (qAc (qAj (i:=4) qDb.nd rfl (Or.inl rfl) (qA4 qAb))
  (qAc (qAj (i:=5) qDb.nd rfl (Or.inl rfl) qAd)
  (qAc (qBb PassesOwn.never rfl (qA8 rfl mr (qAa (pv 1) qAb)) (qAg (i:=6) qDb.nd rfl (Or.inl rfl))
   (qAc (qFn (qA5 (qAa (qAh qA7 (pv 0) (pv 2)) (qAa (qAh qA7 (qAh qA3 (pv 0) (pv 2)) (pv 2)) qAb))) (qB0 rfl (qAs (qAg (i:=7) qDb.nd rfl (Or.inr rfl)) (qAs (qAg (i:=8) qDb.nd rfl (Or.inl rfl)) qBe))))
   (qAc (qAj (i:=0) qDb.nd rfl (Or.inl rfl) (qAh qA3 (qAh qA3 (pv 0) (pv 2)) (pv 2)))
   (qAf (qBi (PW.pt (qJo (qAp qB1 (qBg qBv (pv 3) (pv 7) (fun _ _=>rfl)) (qBg qBv (pv 3) (pv 8) (fun _ _=>rfl)) (qAu _)) (qGk (qAp qEk (qAh qCu (qAk qAn rfl ml hAv (qAa (pv 4) qAb)) (pv 5)) qAd (qAu _)))))
    (qAf (qB4 (qC7 hAr hBd hBe qBo (pv 4) (qAa (qA5 (qAa (pv 7) (qAa (pv 8) qAb))) qAb))))
    (qAf (qBi (PW.pt (qJo (qAp qE9 (qBg qBv (pv 3) (pv 7) (fun _ _=>rfl)) (qBg qBv (pv 3) (pv 8) (fun _ _=>rfl)) (qAu _)) (qGk (qAp qEk (pv 5) qAd (qAu _)))))
     (qAc (qB4 (qC7 hAr hBd hBe qBo (pv 4) (qAa (qA5 (qAa (pv 7) (qAa (pv 8) qAb))) qAb)))
     (qAc (qJp (i:=5) qDb.nd rfl (Or.inl rfl) qAd qNy)
     (qAc (qAj (i:=9) qDb.nd rfl (Or.inr rfl) (qBg qBv (pv 3) (pv 8) (fun _ _=>rfl)))
     (qAf (qAj (i:=3) qDb.nd rfl (Or.inr rfl) (qBf (N:=eN) (sc:=qAe qT8) (N':=["_law_heap","_law_heaps","_law_one","_law_gone"]) (sub:=[none,some 3,some 7,some 9]) rfl rfl (CmpOk.of (by decide +kernel)) rfl (qAq (pv 3))
      (fun C s H fp=>⟨qAg (i:=0) (by show(["_law_heap","_law_heaps","_law_one","_law_gone"]:List Str).Nodup;decide) rfl (Or.inl rfl),qAz,qDq (qAp qB1 (pv 0) (pv 3) (qAu _)) (qBg (show IxR _ (zC3 K) from qBv) (pv 1) (pv 2) (fun _ _=>rfl)) (pv 0)⟩)))))))
     qA1)))))))
  (qAf (qAt (pv 4)))))),?_⟩
 refine⟨_,rfl,sp,rfl,by omega,by omega,fun rg hrg=>⟨rg,sp,rfl,upd_same,by omega,by omega,fun hp hhp=>?_⟩⟩;have X1:=Ext.new hrg (.rng 0 sp);have X2:=X1.trans (Ext.new hhp (.lst ((List.range sp.toNat).map fun (i:Nat)=>V.int (i:Int))));refine⟨hAo _,fun fo hfo=>?_⟩;have f0:=X2.none hfo;refine⟨_,rfl,n,rfl,by omega,by omega,qBp (lo:=0) (n:=n.toNat) (fun i σ H'=>∃b' h hp fo hs es,EI H sp n i σ H' b' h hp fo hs es)
  ⟨b,0,hp,fo,(List.range sp.toNat).map fun (i:Nat)=>(i:Int),[],⟨_,_,_,_,rfl⟩,X2.trans (Ext.new hfo _),f0,fun e=>(by rw[<-e,upd_same]at hfo;cases hfo),?_,?_,⟨[],upd_same,.nil⟩,hA7 _,fun e he=>by cases he⟩ ?_ ?_⟩
 ·rw[qAl (fun e=>by rw[<-e,upd_same]at hfo;cases hfo),upd_same,hB5];rfl
 ·rw[hA1,hB0];omega
 ·rintro i σ H' hi ⟨b',h,hp,fo,hs,es,⟨x6,x7,x8,x9,rfl⟩,ext,fo0,ne,hsA,hsl,esA,esl,esi⟩;have sp0:(0:Int)<sp:=p0;have o0:=hB8 b' (show sp≠0 by omega);have o1:=hB4 b' p0;have t0:=hB8 (b' / sp) (show sp≠0 by omega);have t1:=hB4 (b' / sp) p0;have cd:zC0 (b' / sp) sp:=⟨p0,by omega⟩;have cd':zC0 b' sp:=⟨p0,by omega⟩;refine⟨_,rfl,_,rfl,_,_,rfl,rfl,p0,_,rfl,_,rfl,_,_,rfl,rfl,cd',_,rfl,_,_,rfl,rfl,p0,(by show 2<=sizeLine;decide),fun T hT=>⟨T,_,rfl,SqT.of upd_same,rfl,_,_,rfl,_,_,rfl,rfl,?_⟩⟩;have X3:=Ext.new hT (.tup [V.int (b' % sp),V.int (b' / sp % sp)]);refine⟨_,rfl,_,rfl,_,_,rfl,rfl,cd',_,rfl,_,_,rfl,rfl,cd,?_⟩;obtain⟨v1,a1⟩:=qW4 (hs:=hs) o0 (by omega);obtain⟨v2,a2⟩:=qW4 (hs:=hs) t0 (by omega);have hs3:=X3 _ _ hsA;have es3:=esA.ext X3;obtain⟨as,ea1,ea2⟩:=id esA;have la:as.length=es.length:=ea2.length;have inn:qPg sp ((b' % sp),(b' / sp % sp)):=⟨⟨o0,o1⟩,t0,t1⟩;refine⟨_,rfl,_,rfl,hp,_,_,_,rfl,rfl,SqL.of hs3,a1,_,rfl,_,rfl,hp,_,_,_,rfl,rfl,SqL.of hs3,a2,rfl,_,rfl,?_⟩;refine ite2 (fun c=>?_) (fun c=>?_)
  ·refine⟨_,rfl,fo,_,rfl,.inl (SqL.of (X3 _ _ ea1)),_,rfl,_,_,rfl,rfl,_,_,rfl,rfl,_,rfl,?_⟩;refine ite2 (fun c2=>?_) (fun c2=>?_)
   ·refine⟨_,rfl,.inl ⟨rfl,_,SqL.of (X3 _ _ ea1)⟩,_,rfl,_,rfl,(by show 2<=sizeLine;decide),fun T2 hT2=>?_⟩;have X4:=X3.trans (Ext.new hT2 (.tup (enV ((b' % sp),(b' / sp % sp)))));refine⟨fo,_,_,rfl,rfl,X4 _ _ ea1,by rw[hA1];exact qAi (by omega),?_⟩;refine⟨_,_,hp,fo,hs,es++[((b' % sp),(b' / sp % sp))],⟨_,_,_,_,rfl⟩,(ext.trans X4).over fo0 _,fo0,ne,by rw[qAl ne];exact X4 _ _ hsA,hsl,qBd.snoc ea1 ea2 X4 upd_same,by rw[hAa];exact hC7 esl,fun e he=>?_⟩;rcases hAj.mp he with z|z
    ·exact esi e z
    ·rw[hAd]at z;subst z;exact inn
   ·refine⟨_,rfl,_,rfl,hp,_,_,_,rfl,rfl,SqL.of hs3,a1,_,rfl,_,rfl,hp,_,_,_,rfl,rfl,SqL.of hs3,a2,rfl,_,rfl,?_⟩;refine ite2 (fun c3=>?_) (fun c3=>?_)
    ·have e1:v1=v2:=by simpa using c
     have e2:¬v1=v2:=by simpa using c3
     exact absurd e1 e2
    ·refine qHa ?_;exact⟨_,_,hp,fo,hs,es,⟨_,_,_,_,rfl⟩,ext.trans X3,fo0,ne,hs3,hsl,es3,by omega,esi⟩
  ·refine qHa ?_;refine⟨_,rfl,_,rfl,hp,_,_,_,rfl,rfl,SqL.of hs3,a1,_,rfl,_,rfl,hp,_,_,_,rfl,rfl,SqL.of hs3,a2,rfl,_,rfl,?_⟩;refine ite2 (fun c3=>?_) (fun c3=>?_)
   ·refine⟨_,rfl,_,_,rfl,rfl,_,rfl,?_⟩;refine ite2 (fun c2=>?_) (fun c2=>?_)
    ·refine⟨_,rfl,.inl ⟨rfl,_,SqL.of (X3 _ _ ea1)⟩,_,rfl,_,rfl,(by show 2<=sizeLine;decide),fun T2 hT2=>?_⟩;have X4:=X3.trans (Ext.new hT2 (.tup (enV ((b' % sp),(b' / sp % sp)))));refine⟨fo,_,_,rfl,rfl,X4 _ _ ea1,by rw[hA1];exact qAi (by omega),?_⟩;have hs4:upd (upd (upd H' T (.tup [V.int (b' % sp),V.int (b' / sp % sp)])) T2 (.tup (enV ((b' % sp),(b' / sp % sp))))) fo (.lst (as.map V.ref++[V.ref T2])) hp=some (.lst (hs.map V.int)):=by rw[qAl ne];exact X4 _ _ hsA
     have en4:=qBd.snoc (t:=((b' % sp),(b' / sp % sp))) ea1 ea2 X4 upd_same;have X5:=(ext.trans X4).over fo0 (.lst (as.map V.ref++[V.ref T2]));refine⟨_,rfl,_,_,rfl,rfl,?_⟩;refine⟨_,rfl,_,rfl,hp,_,_,_,rfl,rfl,SqL.of hs4,a2,?_⟩;refine⟨_,rfl,hp,rfl,⟨_,SqL.of hs4⟩,?_⟩;refine qOp (fun v=>some (if v = .int v2 then .int v1 else v)) (SqL.of hs4) (by rw[hA1];exact hB1 (qAi (by omega))) (fun x hx C hC=>?_) (fun r hr'=>?_)
     ·obtain⟨y,_,rfl⟩:=hAg.mp hx;refine⟨Sle.set _ (Sle.refl _) (fun u z=>by cases z),iteT (B:=False) ?_⟩;refine⟨_,rfl,_,rfl,rfl,_,rfl,?_⟩;refine ite2 (fun c5=>?_) (fun c5=>?_)
      ·have e5:y=v2:=by simpa using c5
       subst e5;refine⟨_,rfl,_,rfl,hp,_,_,_,rfl,rfl,SqL.of hs4,a1,?_⟩;rw[if_pos rfl]at hC;exact hC
      ·have e5:¬y=v2:=by simpa using c5
       rw[if_neg (fun z=>e5 (V.int.inj z))]at hC;exact⟨_,rfl,hC⟩
     ·have rf:r≠fo:=fun e=>by rw[e,upd_same]at hr';cases hr'
      have em:(hs.map V.int).filterMap (fun v=>some (if v = .int v2 then .int v1 else v))=(hs.map fun y=>if y=v2 then v1 else y).map V.int:=by
       rw[List.filterMap_eq_map',hB5,hB5];refine hBi fun y _=>?_
       show(if V.int y=V.int v2 then V.int v1 else V.int y)=V.int (if y=v2 then v1 else y);by_cases z:y=v2
       ·subst z;rw[if_pos rfl,if_pos rfl]
       ·rw[if_neg (fun e=>z (V.int.inj e)),if_neg z]
      rw[em];refine⟨_,_,r,fo,_,es++[((b' % sp),(b' / sp % sp))],⟨_,_,_,_,rfl⟩,X5.trans (Ext.new hr' _),fo0,rf,upd_same,by rw[hA1];exact hsl,en4.ext (Ext.new hr' _),by rw[hAa];exact hC7 esl,fun e he=>?_⟩;rcases hAj.mp he with z|z
      ·exact esi e z
      ·rw[hAd]at z;subst z;exact inn
    ·exact⟨_,_,hp,fo,hs,es,⟨_,_,_,_,rfl⟩,ext.trans X3,fo0,ne,hs3,hsl,es3,by omega,esi⟩
   ·refine qHa ?_;exact⟨_,_,hp,fo,hs,es,⟨_,_,_,_,rfl⟩,ext.trans X3,fo0,ne,hs3,hsl,es3,by omega,esi⟩
 ·rintro σ H' ⟨b',h,hp,fo,hs,es,⟨x6,x7,x8,x9,rfl⟩,ext,fo0,ne,hsA,hsl,esA,esl,esi⟩;exact⟨_,rfl,q fo es H' ext fo0 esA esl esi⟩
end
end My
namespace L2
open PySem PySem.Spec PyProof.Rows
theorem qG3{n:Nat}{Ls:Hp->Prop}{xv:Nat->List V}{g:TG}{tb:TS}{D:Ends}{σ:St}{H:Hp}(Pv:Nat->St->Hp->Prop)(h0:Pv 0 σ H)(hl:∀i σ H,i<=n->Pv i σ H->Ls H)
  (hs:∀i σ H T,i<n->Pv i σ H->H T=none->g (.ref T) σ (upd H T (.tup (xv i))) fun σ2 H2=>tb { D with nx:=Pv (i+1),ct:=Pv (i+1),bk:=D.nx } σ2 H2) (hd:∀σ H,Pv n σ H->D.nx σ H) :
  ∃W:Nat->Nat->St->Hp->Prop,(∃m,W 0 m σ H)/\∀i m σ H,W i m σ H ->
   ((Itp n Ls xv).stop i H/\D.nx σ H)\/((Itp n Ls xv).go i H/\∃N:St->Hp->Prop,(∀σ' H',N σ' H'->∃m',m'<m/\W (i+1) m' σ' H')/\∀x H',(Itp n Ls xv).yld i H x H'->g x σ H' fun σ2 H2=>tb { D with nx:=N,ct:=N,bk:=D.nx } σ2 H2):=by
 refine⟨fun i m σ H=>m=n - i/\i<=n/\Pv i σ H,⟨n,by simp,hAo _,h0⟩,?_⟩;rintro i m σ H ⟨rfl,hi,p⟩;have q:=hl i σ H hi p;by_cases hlt:i<n
 ·refine .inr ⟨⟨q,hlt⟩,Pv (i+1),fun σ' H' p'=>⟨n - (i+1),by omega,rfl,hlt,p'⟩,fun x H' y=>?_⟩;obtain⟨T,e1,e2,e3⟩:=y;subst e2 e3;exact hs i σ H T hlt p e1
 ·have e:i=n:=by omega
  subst e;exact .inl ⟨⟨q,rfl⟩,hd σ H p⟩
end L2
namespace My
open PySem L2
theorem qZj{hs:List Int}{i:Int}(h0:0<=i)(h1:i<(hs.length:Int)):∃v∈hs,atI (hs.map V.int) i=some (.int v):=by
 have hk:i.toNat<hs.length:=by omega
 have hv:atI (hs.map V.int) ((i.toNat:Nat):Int)=some (.int hs[i.toNat]):=qA0 (by rw[hAe,hA2 hk] <;> rfl);rw[hD0 h0]at hv;exact⟨_,hBs hk,hv⟩
theorem qTb{hs:List Str}{i:Int}(h0:0<=i)(h1:i<(hs.length:Int)):∃v∈hs,atI (hs.map V.str) i=some (.str v):=by
 have hk:i.toNat<hs.length:=by omega
 have hv:atI (hs.map V.str) ((i.toNat:Nat):Int)=some (.str hs[i.toNat]):=qA0 (by rw[hAe,hA2 hk] <;> rfl);rw[hD0 h0]at hv;exact⟨_,hBs hk,hv⟩
theorem qE8{α β γ:Type}{R:α->β->Prop}{S:α->γ->Prop}(g:β->γ)(h:∀a b,R a b->S a (g b)):∀ {as:List α} {bs:List β},Paired R as bs->Paired S as (bs.map g)
 |_,_,.nil=>.nil
 |_,_,.cons x t=>.cons (h _ _ x) (qE8 g h t)
theorem qD7.snoc{H H':Hp}{k a:Addr}{as:List Addr}{net:List Tr}{t:Tr}(hk:H k=some (.lst (as.map V.ref)))(pr:Paired (fun a t=>H a=some (.tup (trV t))) as net)(e:Ext H H')(ha:H' a=some (.tup (trV t))):qD7 (upd H' k (.lst (as.map V.ref++[V.ref a]))) k (net++[t]):=by
 have hk':=e _ _ hk;have ne:∀ {b:Addr} {xs:List V},H' b=some (.tup xs)->b≠k:=fun h z=>by rw[z,hk']at h;cases h
 refine⟨as++[a],by rw[upd_same,hA3];rfl,?_⟩;refine Paired.snoc (Paired.mapP pr fun b u z=>?_) ?_
 ·have z':=e _ _ z;rw[qAl (ne z')];exact z'
 ·rw[qAl (ne ha)];exact ha
def qKo(t:Tr):List Str:=[t.1,t.2.1,t.2.2]
def t0:Tr:=("","","")
theorem qQv:∀ {net:List Tr} {i:Nat},i<net.length->qKo (net.getD i t0)=(net.map qKo).getD i []
 |[],_,h=>absurd h (hC3 _)
 |t :: r,0,_=>rfl
 |t :: r,i+1,h=>by simpa using qQv (net:=r) (i:=i) (by simpa using h)
theorem qNj{H:Hp}:∀ {as:List Addr} {net:List Tr} {i:Nat},Paired (fun a t=>H a=some (.tup (trV t))) as net->i<as.length->H (as.getD i 0)=some (.tup (trV (net.getD i t0)))
 |_,_,i,.nil,hi=>absurd hi (hC3 _)
 |_,_,0,.cons h _,_=>h
 |_,_,i+1,.cons _ t,hi=>by simpa using qNj (i:=i) t (by simpa using hi)
theorem qJw{H:Hp}{as:List Addr}{net:List Tr}(pr:Paired (fun a t=>H a=some (.tup (trV t))) as net):∀ {l:List Nat},(∀i∈l,i<as.length)->Paired (fun a t=>H a=some (.tup (trV t))) (l.map fun i=>as.getD i 0) (l.map fun i=>net.getD i t0)
 |[],_=>.nil
 |i :: l,h=>.cons (qNj pr (h i hA6)) (qJw pr fun j hj=>h j (hA4 _ hj))
theorem qHo{net:List Tr}:∀ {l:List Nat},(∀i∈l,i<net.length)->(l.map fun i=>net.getD i t0).map qKo=l.map fun i=>(net.map qKo).getD i []
 |[],_=>rfl
 |i :: l,h=>by
  rw[hB9,hB9,hB9,qHo fun j hj=>h j (hA4 _ hj),qQv (h i hA6)]
theorem qUa{t u:Tr}(e:qKo t=qKo u):t=u:=by
 obtain⟨a,b,c⟩:=t;obtain⟨a',b',c'⟩:=u;unfold qKo at e;simp at e;obtain⟨e1,e2,e3⟩:=e;subst e1 e2 e3;rfl
theorem qJx(net:List Tr):(net.map qKo).map (fun r=>r.getD 0 "")=net.map (·.1):=by
 rw[hB5];rfl
theorem qM4:∀ {net:List Tr},Srt (net.map qKo)->(net.map (·.1)).Nodup->qDu (net.map (·.1))
 |[],_,_=>List.Pairwise.nil
 |t :: r,h,nd=>by
  rw[hB9]at h nd;obtain⟨h1,h2⟩:=hB3.mp h;obtain⟨n1,n2⟩:=hBg.mp nd;rw[hB9];refine hB3.mpr ⟨fun x hx=>?_,qM4 h2 n2⟩;obtain⟨u,hu,rfl⟩:=hAg.mp hx;have q:=h1 (qKo u) (hBb hu);have ne:¬u.1=t.1:=fun z=>n1 (z▸hBb hu)
  unfold qKo ltL at q;rw[if_neg ne]at q;rcases sLtB_tri t.1 u.1 with z|z|z
  ·exact z
  ·exact absurd z.symm ne
  ·rw[z]at q;cases q
def TxT(t:Tr):Prop:=Sm t.1/\Sm t.2.1/\Sm t.2.2
def TxN(net:List Tr):Prop:=∀t∈net,TxT t
def qZ4(K:PySem.W.Frag):Sp:=fun vs H Q _=>∃(a:Addr) (ns:List Int),vs=[.ref a,.int 1]/\SqL K H a (ns.map V.int)/\∀r net H',Ext H H'->H r=none->qD7 H' r net->net.length<=12->TxN net->qDu (net.map (·.1))->Q (.ref r) H'
section
variable{P:Program}{w:World}{K:PySem.W.Frag}{mg:Str->Option Value}{base:Heap}{f f1 f2 f3:Addr}{fd fd1 fd2 fd3:FuncData}
abbrev neN:List Str:=["_law_script","_law_at","_law_head","_law_ends_here","_law_ties","_law_knots","_law_net_here","_law_tie","_law_two"]
theorem qJh:FnScope neN ["_law_script","_law_at"] (qAe zCd):=⟨rfl,rfl,rfl,by decide +kernel,rfl,by decide +kernel,by decide +kernel⟩
abbrev spr:List Int:=[4,5,3,6,5,9,2,10]
theorem zAv(F:Fun K "_law_net" "_law_net" zCd f fd)
  (G1:Cl P w K mg base CX0 2 f1 fd1 ["_law_script","_law_k"] (qK0 K) "_law_big")
  (G2:Cl P w K mg base CX0 1 f2 fd2 ["_law_big_here","_law_many","_law_spread"] qV3 "_law_ends")
  (G3:Cl P w K mg base CX0 1 f3 fd3 ["_law_big_here","_law_many"] qF6 "_law_names")
  (ml:mg "len" = none) (mz:mg "zip" = none) (mtu:mg "tuple" = none) (mso:mg "sorted" = none):FnOk P w K mg base CX0 3 f fd ["_law_script","_law_at"] (qZ4 K):=by
 refine F.ok qJh (fun vs H Q E h=>?_) (fun cdv A outer s H vs Q E hr h=>?_)
 ·obtain⟨a,ns,rfl,_⟩:=h;rfl
 obtain⟨a,ns,rfl,hS,q⟩:=h;have hr1:=hr.mono (j:=1) (by decide);refine⟨_,qAc (qAj (i:=2) qJh.nd rfl (Or.inl rfl) (qAx G1 hr rfl .nil qAv (qAa (pv 0) (qAa (pv 1) qAb))))
  (qAc (qAj (i:=3) qJh.nd rfl (Or.inl rfl) (qAx G2 hr1 rfl .nil qAv (qAa (qAx G1 hr rfl .nil qAv (qAa (pv 0) (qAa (qAh qA6 (pv 1) qAd) qAb))) (qAa (qAh qA7 (qAh qA3 (pv 2) qAd) qAd) (qAa
    (qBg qBv (qA4 (qAa qAd (qAa qAd (qAa qAd (qAa qAd (qAa qAd (qAa qAd (qAa qAd (qAa qAd qAb))))))))) (qAh qA7 (pv 2) qAd) (fun _ _=>rfl)) qAb)))))
  (qAc (qAj (i:=4) qJh.nd rfl (Or.inl rfl) (qAx G3 hr1 rfl .nil qAv (qAa (qAh qA3 (pv 2) qAd) (qAa (qAk qAn rfl ml hAv (qAa (pv 3) qAb)) qAb))))
  (qAc (qAj (i:=5) qJh.nd rfl (Or.inl rfl) (qAx G3 hr1 rfl .nil qAv (qAa (qAx G1 hr rfl .nil qAv (qAa (pv 0) (qAa (qAh qA6 (pv 1) qAd) qAb))) (qAa qAd qAb))))
  (qAc (qAj (i:=6) qJh.nd rfl (Or.inl rfl) (qA4 qAb))
  (qAc (qBb PassesOwn.never rfl (zAm rfl mz (qAa (pv 4) (qAa (pv 3) qAb))) (qB0 rfl (qAs (qAg (i:=7) qJh.nd rfl (Or.inl rfl)) (qAs (qAg (i:=8) qJh.nd rfl (Or.inl rfl)) qBe)))
   (qAf (qB4 (qC7 hAr hBd hBe qBo (pv 6) (qAa
    (qAh qRb (qA5 (qAa (pv 7) qAb)) (qBn qEs rfl mtu qD6 (qAa (qAk qCc rfl mso qBj (qAa
     (qA4 (qAa (qBg qBv (pv 5) (qBg qBs (pv 8) qAd (fun _ _=>rfl)) (fun _ _=>rfl)) (qAa (qBg qBv (pv 5) (qBg qBs (pv 8) qAd (fun _ _=>rfl)) (fun _ _=>rfl)) qAb))) qAb)) qAb))) qAb)))))
  (qAf (qAt (qAk qI1 rfl mso qBj (qAa (pv 6) qAb))))))))),?_⟩
 refine⟨_,rfl,_,rfl,a,ns,1,rfl,hS,by decide,by decide,fun hd=>?_⟩;have d1:=hB8 (hd / 8) (show(13:Int)≠0 by decide);have d2:=hB4 (hd / 8) (show(0:Int)<13 by decide);have d3:=hB8 hd (show(8:Int)≠0 by decide);have d4:=hB4 hd (show(0:Int)<8 by decide);refine⟨_,rfl,_,rfl,_,_,rfl,rfl,a,ns,_,rfl,hS,by decide,by decide,fun v1=>?_⟩;refine⟨_,rfl,_,_,rfl,rfl,⟨by decide,by decide⟩,_,_,rfl,rfl,(by show(0:Int)<_;decide),(by show 8<=sizeLine;decide),fun L hL=>?_⟩;have X1:=Ext.new hL (.lst (spr.map V.int));obtain⟨sp,spm,spa⟩:=qZj (hs:=spr) d3 (by show hd % 8<8;exact d4);have spb:0<sp/\sp<=10:=by
  have:∀z∈spr,0<z/\z<=10:=by decide
  exact this sp spm
 refine⟨_,rfl,_,_,rfl,rfl,(by show(0:Int)<_;decide),L,spr.map V.int,_,_,rfl,rfl,SqL.of upd_same,spa,?_⟩;refine⟨_,_,sp,rfl,d1,by omega,spb.1,spb.2,fun en es H2 e2 en0 hen esl esi=>?_⟩;have E2:=X1.trans e2;obtain⟨bs,hb1,hb2⟩:=id hen;have lb:bs.length=es.length:=hb2.length;have esl':es.length<=12:=by omega
 refine⟨_,rfl,_,_,rfl,rfl,⟨by decide,by decide⟩,_,rfl,en,_,rfl,.inl (SqL.of hb1),?_⟩;refine⟨_,_,rfl,by omega,by rw[hA1];omega,fun tl ts H3 e3 tl0 htl tsl tsx tnd=>?_⟩;have E3:=E2.trans e3;refine⟨_,rfl,_,rfl,_,_,rfl,rfl,a,ns,_,rfl,E3.sqL hS,by decide,by decide,fun v2=>?_⟩;refine⟨_,10,rfl,by decide,by decide,fun kl kn H4 e4 kl0 hkl knl knx _=>?_⟩;have E4:=E3.trans e4;refine⟨hAo _,fun nl hnl=>?_⟩;have nl0:=E4.none hnl;have E5:=E4.trans (Ext.new hnl (.lst []));have tsl':ts.length=es.length:=by rw[tsl,hA1,lb];omega
 have mn:min (ts.map V.str).length (bs.map V.ref).length=es.length:=by rw[hA1,hA1,lb,tsl'];exact Nat.min_self _
 have htl5:=(Ext.new hnl (.lst [])) _ _ (e4 _ _ htl);have hen5:=(Ext.new hnl (.lst [])) _ _ (e4 _ _ (e3 _ _ hb1));refine⟨_,rfl,_,rfl,tl,en,_,_,rfl,SqL.of htl5,SqL.of hen5,?_⟩;refine qG3 (fun i σ H6=>∃(x7 x8:Option V) (net:List Tr),σ=[some (.ref a),some (.int 1),some (.int hd),some (.ref en),some (.ref tl),some (.ref kl),some (.ref nl),x7,x8]/\Ext H4 H6/\qD7 H6 nl net/\net.length=i/\TxN net/\net.map (·.1)=ts.take i)
  ⟨none,none,[],rfl,Ext.new hnl _,⟨[],upd_same,.nil⟩,rfl,(fun t ht=>by cases ht),rfl⟩ ?_ ?_ ?_
 ·rintro i σ H6 _ ⟨x7,x8,net,_,e6,_⟩;exact⟨SqL.of (e6 _ _ (e4 _ _ htl)),SqL.of (e6 _ _ (e4 _ _ (e3 _ _ hb1)))⟩
 ·rintro i σ H6 T hi ⟨x7,x8,net,rfl,e6,nt,nl',tx,nm⟩ hT;rw[mn]at hi;have hit:i<ts.length:=by omega
  have hib:i<bs.length:=by omega
  have g1:(ts.map V.str).getD i .non = .str ts[i]:=by rw[hA8,hAe,hA2 hit];rfl
  have g2:(bs.map V.ref).getD i .non = .ref bs[i]:=by rw[hA8,hAe,hA2 hib];rfl
  obtain⟨e,he,hbe⟩:=qAw hb2 (hA2 hib);obtain⟨⟨i0,i1⟩,j0,j1⟩:=esi e (hAc he);obtain⟨k1,k1m,k1a⟩:=qTb (hs:=kn) i0 (by rw[knl];show e.1<10;omega);obtain⟨k2,k2m,k2a⟩:=qTb (hs:=kn) j0 (by rw[knl];show e.2<10;omega);obtain⟨as,ea1,ea2⟩:=id nt;have la:as.length=net.length:=ea2.length;dsimp only;rw[g1,g2];have Y1:=Ext.new hT (.tup [V.str ts[i],V.ref bs[i]]);refine⟨T,_,rfl,SqT.of upd_same,rfl,_,_,rfl,_,_,rfl,rfl,?_⟩;refine⟨_,rfl,.inl ⟨rfl,_,SqL.of (Y1 _ _ ea1)⟩,_,rfl,(by show 1<=sizeLine;decide),fun T1 hT1=>?_⟩;have Y2:=Y1.trans (Ext.new hT1 (.tup [V.str ts[i]]));have hb6:=Y2 _ _ (e6 _ _ (e4 _ _ (e3 _ _ hbe)));have hk6:=Y2 _ _ (e6 _ _ hkl);refine⟨_,rfl,_,rfl,bs[i],_,_,_,rfl,rfl,SqT.of hb6,(by exact qA0 (j:=0) rfl),kl,_,_,_,rfl,rfl,SqL.of hk6,k1a,?_⟩;refine⟨_,rfl,_,rfl,bs[i],_,_,_,rfl,rfl,SqT.of hb6,(by exact qA0 (j:=1) rfl),kl,_,_,_,rfl,rfl,SqL.of hk6,k2a,?_⟩;refine⟨(by show 2<=sizeLine;decide),fun L2 hL2=>⟨L2,[k1,k2],rfl,SqL.of upd_same,(by show 2<64;decide),fun S ss hS' perm srt=>?_⟩⟩;have Y3:=Y2.trans (Ext.new hL2 (.lst [V.str k1,V.str k2]));have Y4:=Y3.trans (Ext.new hS' (.lst (ss.map V.str)));refine⟨S,_,rfl,.inl ⟨SqL.of upd_same,fun T2 hT2=>?_⟩⟩;have lss:ss.length=2:=perm.length_eq;obtain⟨x,y,rfl⟩:∃x y,ss=[x,y]:=by
   match ss,lss with
   |[x,y],_=>exact⟨x,y,rfl⟩
  have sx:Sm x:=by
   have:x∈[k1,k2]:=perm.mem_iff.mp (by simp);simp at this;rcases this with rfl|rfl
   ·exact(knx _ k1m).1.sm
   ·exact(knx _ k2m).1.sm
  have sy:Sm y:=by
   have:y∈[k1,k2]:=perm.mem_iff.mp (by simp);simp at this;rcases this with rfl|rfl
   ·exact(knx _ k1m).1.sm
   ·exact(knx _ k2m).1.sm
  have Y5:=Y4.trans (Ext.new hT2 (.tup ([x,y].map V.str)));have t1:upd (upd H6 T (.tup [V.str ts[i],V.ref bs[i]])) T1 (.tup [V.str ts[i]]) T1=some (.tup [V.str ts[i]]):=upd_same;have t15:=Ext.new hT2 (.tup ([x,y].map V.str)) _ _ (Ext.new hS' (.lst ([x,y].map V.str)) _ _ (Ext.new hL2 (.lst [V.str k1,V.str k2]) _ _ t1));refine⟨T1,T2,_,_,rfl,rfl,SqT.of t15,SqT.of upd_same,(by simp),(by show 3<=sizeLine;decide),(fun z=>by cases z),fun _ T3 hT3=>?_⟩;have Y6:=Y5.trans (Ext.new hT3 (.tup (trV (ts[i],x,y))));refine⟨nl,_,_,rfl,rfl,Y6 _ _ ea1,?_,?_⟩
  ·rw[hA1];exact qAi (by omega)
  ·refine⟨_,_,net++[(ts[i],x,y)],rfl,(e6.trans Y6).over hnl _,qD7.snoc ea1 ea2 Y6 upd_same,by rw[hAa,nl'];rfl,(fun t ht=>?_),by rw[hA3,nm,qAm (hA2 hit)];rfl⟩;rcases hAj.mp ht with z|z
   ·exact tx t z
   ·rw[hAd]at z;subst z;exact⟨(tsx _ (hBs hit)).1.sm,sx,sy⟩
 ·rintro σ H6 ⟨x7,x8,net,rfl,e6,nt,nl',tx,nm⟩;rw[mn]at nl' nm;obtain⟨as,ea1,ea2⟩:=id nt;have la:as.length=net.length:=ea2.length;refine⟨_,rfl,nl,as,net.map qKo,rfl,SqL.of ea1,qE8 _ (fun a t z=>⟨SqT.of z,by simp[qKo]⟩) ea2,by omega,fun r o hr' g sp=>?_⟩;have E6:=E4.trans e6;have gm:∀i∈o.toList,i<as.length:=fun i hi=>qN0 g hi
  have gm':∀i∈o.toList,i<net.length:=fun i hi=>by have:=gm i hi;omega
  have gl:=qSc g;have lt:as.length=(net.map qKo).length:=by rw[hA1];exact la
  rw[lt]at g sp;obtain⟨s1,s2⟩:=qHt g sp;rw[<-qHo gm']at s1 s2;have nd:((o.toList.map fun i=>net.getD i t0).map (·.1)).Nodup:=by
   rw[<-qJx];refine(s2.map _).nodup_iff.mpr ?_;rw[qJx,nm,<-tsl',hA5 (hA7 _)];refine tnd ?_;rw[hA1];omega
  refine q r (o.toList.map fun i=>net.getD i t0) _ (E6.trans (Ext.new hr' _)) (E6.none hr') ⟨_,upd_same,Paired.mapP (qJw ea2 gm) fun a' t z=>Ext.new hr' _ _ _ z⟩ ?_ (fun t ht=>?_) (qM4 s1 nd)
  ·rw[hA1,gl];omega
  ·have m:qKo t∈net.map qKo:=s2.mem_iff.mp (hBb ht);obtain⟨u,hu,e⟩:=hAg.mp m;rw[<-qUa e];exact tx u hu
end
section
variable{K:PySem.W.Frag}
theorem qF3{as:List Addr}{net:List Tr}{Q:List V->Hp->Prop}{H1:Hp}{σ0:St}{g:TG}{tt:TT}{te:TE}{p:Addr}(h:Tr->Str)(hp:H1 p=some (.lst (as.map V.ref)))(pr:Paired (fun a t=>H1 a=some (.tup (trV t))) as net)(ln:net.length<=12)
  (hs:∀a t,H1 a=some (.tup (trV t))->∀(C:V->Hp->Prop) (B:Hp->Prop),C (.str (h t)) H1->g (.ref a) σ0 H1 fun σ2 H2=>Sle σ0 σ2/\tt σ2 H2 fun b H3=>if b=true then te σ2 H3 C else B H3)
  (hd:Q ((net.map h).map V.str) H1):qDj (Itl K p) σ0 g tt te Q H1:=by
 have lA:as.length=net.length:=pr.length;refine qAr (xs:=as.map V.ref) (fun j ys H2=>H2=H1/\ys=((net.take j).map h).map V.str) ⟨rfl,rfl⟩ (fun j ys H2 _ h=>by rw[h.1];exact SqL.of hp) ?_ ?_
 ·rintro j x ys H2 hx ⟨rfl,rfl⟩;obtain⟨a,t,rfl,ht,ha⟩:=qYy pr hx;have hi:=qAy ht;have sz:(((net.take j).map h).map V.str).length<sizeLine:=by
   rw[hA1,hA1,hAh];exact qAi (by omega)
  exact hs a t ha _ _ ⟨sz,nxt (qAy hx) ⟨rfl,by rw[qAm ht,hA3,hA3];rfl⟩⟩
 ·rintro ys H2 ⟨rfl,rfl⟩;rw[hA1,lA,hA5 (hA7 _)];exact hd
end
theorem qJb{x i:Nat}(h:x<2^i){j:Nat}(hj:i<=j):x.testBit j=false :=
 hD2 (hAi h (hBj (by decide) hj))
theorem qZw{x i:Nat}(h:x.testBit i=true):2^i<=x:=by
 rcases Nat.lt_or_ge x (2^i) with z|z
 ·rw[hD2 z]at h;cases h
 ·exact z
theorem qRw{x i:Nat}(h1:x.testBit i=true)(h2:x<2^(i+1)):x.log2=i:=by
 have g:=qZw h1;have nz:x≠0:=fun z=>by subst z;simp at h1
 have a:=(Nat.log2_lt nz).mpr h2;have b:=(Nat.le_log2 nz).mpr g;omega
theorem qZv{x i:Nat}(h:x.testBit i=true):i<=x.log2:=by
 have nz:x≠0:=fun z=>by subst z;simp at h
 exact(Nat.le_log2 nz).mpr (qZw h)
theorem qMh{x i:Nat}(h:x.log2<i):x.testBit i=false:=qJb hDs h
theorem qFj{n:Nat}(h:n % 2=0):n^^^1=n+1:=by
 have d:(n^^^1) / 2=n / 2:=by rw[Nat.xor_div_two];simp
 have b:(n^^^1).testBit 0=true:=by rw[hAs,hAy,hAy];simp[h]
 rw[hAy]at b;have b':=of_decide_eq_true b;omega
theorem qKp{n:Nat}(h:n % 2=1):n^^^1=n - 1:=by
 have d:(n^^^1) / 2=n / 2:=by rw[Nat.xor_div_two];simp
 have b:(n^^^1).testBit 0=false:=by rw[hAs,hAy,hAy];simp[h]
 rw[hAy]at b;have b':=of_decide_eq_false b;omega
theorem qTq{s:Nat}(hs:s≠0):s >>> s.log2=1:=by
 rw[hDa];have a:=Nat.log2_self_le hs;have b:s<2^(s.log2+1):=hDs;rw[hDu]at b;have p:0<2^s.log2:=Nat.pow_pos (by decide);exact Nat.div_eq_of_lt_le (by omega) (by omega)
theorem qHf(x:Nat){s:Nat}(hs:s≠0):x^^^s<x↔x.testBit s.log2=true:=by
 have e:(x^^^s) >>> s.log2=(x >>> s.log2)^^^1:=by rw[Nat.shiftRight_xor_distrib,qTq hs]
 have tb:x.testBit s.log2=decide ((x >>> s.log2) % 2=1):=by rw[Nat.testBit_eq_decide_div_mod_eq,hDa]
 rw[tb];have lt:∀ {a b:Nat},a >>> s.log2<b >>> s.log2->a<b:=fun {a b} h=>by
  rw[hDa,hDa]at h;rcases Nat.lt_or_ge a b with z|z
  ·exact z
  ·have:=Nat.div_le_div_right (c:=2^s.log2) z;omega
 rcases hBq (x >>> s.log2) with h|h
 ·rw[qFj h]at e;have:x<x^^^s:=lt (by omega);constructor
  ·intro z;omega
  ·intro z;rw[h]at z;simp at z
 ·rw[qKp h]at e;have:x^^^s<x:=lt (by rw[e];exact Nat.sub_one_lt fun z=>by rw[z]at h;cases h);exact⟨fun _=>by simp[h],fun _=>this⟩
def rd1(x s:Nat):Nat:=if x.testBit s.log2=true then x^^^s else x
theorem qYz(x:Nat){s:Nat}(hs:s≠0):(if x^^^s<x then x^^^s else x)=rd1 x s:=by
 unfold rd1;by_cases h:x.testBit s.log2=true
 ·rw[if_pos h,if_pos ((qHf x hs).mpr h)]
 ·rw[if_neg h,if_neg (fun z=>h ((qHf x hs).mp z))]
theorem qCy(x s i:Nat):(rd1 x s).testBit i=(x.testBit i ^^ (x.testBit s.log2 && s.testBit i)):=by
 unfold rd1;by_cases h:x.testBit s.log2=true
 ·rw[if_pos h,hAs,h,hCn]
 ·rw[if_neg h];have:x.testBit s.log2=false:=by simpa using h
  rw[this];simp
theorem qUd(s:Nat):rd1 0 s=0:=by unfold rd1;simp
theorem qXv(x y s:Nat):rd1 (x^^^y) s=rd1 x s^^^rd1 y s:=by
 refine hAt fun i=>?_
 rw[qCy,hAs,hAs,hAs,qCy,qCy];cases x.testBit i <;> cases y.testBit i <;> cases x.testBit s.log2 <;> cases y.testBit s.log2 <;> cases s.testBit i <;> rfl
def red1(k:List Nat)(x:Nat):Nat:=k.foldl rd1 x
theorem qGi:∀k:List Nat,red1 k 0=0
 |[]=>rfl
 |s :: k=>by show red1 k (rd1 0 s)=0;rw[qUd];exact qGi k
theorem qNc:∀(k:List Nat) (x y:Nat),red1 k (x^^^y)=red1 k x^^^red1 k y
 |[],_,_=>rfl
 |s :: k,x,y=>by show red1 k (rd1 (x^^^y) s)=red1 k (rd1 x s)^^^red1 k (rd1 y s);rw[qXv];exact qNc k _ _
structure RR(k:List Nat):Prop where
 nz:∀s∈k,s≠0
 ap:k.Pairwise fun s t=>t.testBit s.log2=false/\s.testBit t.log2=false
theorem RR.nil:RR []:=⟨fun s h=>(by cases h),.nil⟩
theorem RR.tl{s:Nat}{k:List Nat}(h:RR (s :: k)):RR k:=⟨fun t ht=>h.nz t (hA4 _ ht),(hB3.mp h.ap).2⟩
theorem RR.hd{s:Nat}{k:List Nat}(h:RR (s :: k)):∀t∈k,t.testBit s.log2=false/\s.testBit t.log2=false:=(hB3.mp h.ap).1
theorem RR.ne:∀ {k:List Nat},RR k->∀ {s t:Nat},s∈k->t∈k->s≠t->s.testBit t.log2=false
 |[],_,_,_,hs,_,_=>by cases hs
 |a :: k,h,s,t,hs,ht,e=>by
  rcases hAf.mp hs with rfl|zs
  ·rcases hAf.mp ht with rfl|zt
   ·exact absurd rfl e
   ·exact(h.hd t zt).2
  ·rcases hAf.mp ht with rfl|zt
   ·exact(h.hd s zs).1
   ·exact RR.ne h.tl zs zt e
theorem RR.self{k:List Nat}(h:RR k){s:Nat}(hs:s∈k):s.testBit s.log2=true:=hCc (h.nz s hs)
theorem RR.nd{k:List Nat}(h:RR k):k.Nodup:=by
 have:∀ {k:List Nat},RR k->k.Nodup:=fun {k} h=>by
  induction k with
  |nil=>exact List.nodup_nil
  |cons s k ih =>
   refine hBg.mpr ⟨fun z=>?_,ih h.tl⟩;have:=(h.hd s z).1;rw[h.self hA6]at this;cases this
 exact this h
theorem qEh:∀ {k:List Nat} {x i:Nat},RR k->(∀s∈k,x.testBit s.log2=true->s.testBit i=false)->(red1 k x).testBit i=x.testBit i
 |[],_,_,_,_=>rfl
 |s :: k,x,i,h,hx=>by
  show(red1 k (rd1 x s)).testBit i=_;have b1:(rd1 x s).testBit i=x.testBit i:=by
   rw[qCy];cases q:x.testBit s.log2 with
   |false=>simp
   |true=>rw[hx s hA6 q];simp
  rw[qEh h.tl fun t ht hb=>?_,b1];refine hx t (hA4 _ ht) ?_;rw[qCy,(h.hd t ht).2]at hb
  simpa using hb
theorem qGj:∀ {k:List Nat} {x:Nat},RR k->∀s∈k,(red1 k x).testBit s.log2=false
 |[],_,_,_,hs=>by cases hs
 |a :: k,x,h,s,hs=>by
  show(red1 k (rd1 x a)).testBit s.log2=false;rcases hAf.mp hs with rfl|z
  ·rw[qEh h.tl fun t ht _=>(h.hd t ht).1,qCy,h.self hA6];cases x.testBit s.log2 <;> rfl
  ·exact qGj h.tl s z
theorem qNb:∀ {k:List Nat},RR k->∀s∈k,red1 k s=0
 |[],_,_,hs=>by cases hs
 |a :: k,h,s,hs=>by
  show red1 k (rd1 s a)=0;rcases hAf.mp hs with rfl|z
  ·have:rd1 s s=0:=by unfold rd1;rw[if_pos (h.self hA6),hCy]
   rw[this];exact qGi k
  ·have:rd1 s a=s:=by unfold rd1;rw[if_neg (by rw[(h.hd s z).1];decide)]
   rw[this];exact qNb h.tl s z
theorem qQ1{k:List Nat}(h:RR k){x:Nat}(hx:∀s∈k,x.testBit s.log2=false):red1 k x=x :=
 hAt fun i=>qEh h fun s hs z=>by rw[hx s hs]at z;cases z
inductive Spn (l:List Nat):Nat->Prop
 |zero:Spn l 0
 |add {x y:Nat}:x∈l->Spn l y->Spn l (x^^^y)
theorem Spn.mem{l:List Nat}{x:Nat}(h:x∈l):Spn l x:=by
 have:=Spn.add h Spn.zero
 rwa [Nat.xor_zero]at this
theorem Spn.xor{l:List Nat}{x y:Nat}(h:Spn l x)(h':Spn l y):Spn l (x^^^y):=by
 induction h with
 |zero=>rwa [hDo]
 |add m _ ih=>rw[hC0];exact .add m ih
theorem Spn.mono{l l':List Nat}(h:∀x∈l,Spn l' x){y:Nat}(hy:Spn l y):Spn l' y:=by
 induction hy with
 |zero=>exact .zero
 |add m _ ih=>exact(h _ m).xor ih
theorem Spn.lt{l:List Nat}{m:Nat}(h:∀x∈l,x<2^m){y:Nat}(hy:Spn l y):y<2^m:=by
 induction hy with
 |zero=>exact Nat.pow_pos (by decide)
 |add hm _ ih=>exact hC8 (h _ hm) ih
theorem qA9(x y:Nat):(x^^^y)^^^y=x:=by rw[hC0,hCy,Nat.xor_zero]
theorem qXu{k:List Nat}{x s:Nat}(hs:s∈k):Spn k (rd1 x s^^^x):=by
 unfold rd1;split
 ·rw[hDp x s,qA9];exact .mem hs
 ·rw[hCy];exact .zero
theorem qNa(k:List Nat):∀(k':List Nat),(∀s∈k',s∈k)->∀x,Spn k (red1 k' x^^^x)
 |[],_,x=>by show Spn k (x^^^x);rw[hCy];exact .zero
 |s :: k',h,x=>by
  have a:=qNa k k' (fun t ht=>h t (hA4 _ ht)) (rd1 x s);have b:=qXu (x:=x) (h s hA6);have c:=a.xor b;rw[<-hC0,qA9]at c;exact c
theorem qMk{k:List Nat}(h:RR k){y:Nat}(hy:Spn k y):red1 k y=0:=by
 induction hy with
 |zero=>exact qGi k
 |add m _ ih=>rw[qNc,qNb h _ m,ih];rfl
theorem qMj{k:List Nat}(h:RR k){y:Nat}(hy:Spn k y)(hx:∀s∈k,y.testBit s.log2=false):y=0:=(qQ1 h hx).symm.trans (qMk h hy)
theorem qH7{k:List Nat}(h:RR k){y:Nat}(hy:Spn k y)(nz:y≠0):∃s∈k,s.log2=y.log2:=by
 refine Classical.byContradiction fun no=>?_
 have e:(red1 k y).testBit y.log2=y.testBit y.log2:=qEh h fun s hs hb=>by
  have le:=qZv hb;have ne:s.log2≠y.log2:=fun z=>no ⟨s,hs,z⟩
  exact qMh (by omega)
 rw[qMk h hy,hCc nz]at e;simp at e
theorem qQt{a b:List Nat}(ha:RR a)(hb:RR b)(h:∀y,Spn a y↔Spn b y):∀s∈a,s∈b:=fun s hs=>by
 obtain⟨t,ht,e⟩:=qH7 hb ((h s).mp (.mem hs)) (ha.nz s hs);have d:s^^^t=0:=by
  refine qMj ha ((Spn.mem hs).xor ((h t).mpr (.mem ht))) fun u hu=>?_
  rw[hAs];by_cases z:u=s
  ·subst z;have h2:=hb.self ht;rw[e]at h2;rw[ha.self hs,h2];rfl
  ·have s1:=ha.ne hs hu (fun w=>z w.symm);obtain⟨v,hv,ev⟩:=qH7 hb ((h u).mp (.mem hu)) (ha.nz u hu);have us:=ha.ne hu hs z;have vt:t≠v:=fun w=>by
    have h3:=ha.self hu;rw[<-ev,<-w,e]at h3;rw[h3]at us;cases us
   have t1:=hb.ne ht hv vt;rw[ev]at t1;rw[s1,t1];rfl
 have:s=t:=by
  have q:=qA9 s t;rw[d,hDo]at q;exact q.symm
 rw[this];exact ht
def qPf(k:List Nat)(x:Nat):List Nat:=if red1 k x=0 then k else k.map (fun s=>rd1 s (red1 k x))++[red1 k x]
def red(xs:List Nat):List Nat:=xs.foldl qPf []
theorem qEf(xs:List Nat)(x:Nat):red (xs++[x])=qPf (red xs) x:=by unfold red;rw[hBk];rfl
theorem qNd{s f:Nat}(hs:s≠0)(hf:f≠0)(h:f.testBit s.log2=false):(rd1 s f).log2=s.log2/\rd1 s f≠0:=by
 have ss:=hCc hs;have bit:(rd1 s f).testBit s.log2=true:=by rw[qCy,ss,h];simp
 refine⟨qRw bit ?_,fun z=>by rw[z]at bit;simp at bit⟩;unfold rd1;split
 ·rename_i q;have le:=qZv q;exact hC8 hDs (hAi hDs (hBj (by decide) (by omega)))
 ·exact hDs
theorem RR.step{k:List Nat}(h:RR k)(x:Nat):RR (qPf k x):=by
 unfold qPf;by_cases z:red1 k x=0
 ·rw[if_pos z];exact h
 rw[if_neg z];have ld:=fun s hs=>qGj (x:=x) h s hs
 generalize red1 k x=f at z ld;have l2:∀s∈k,(rd1 s f).log2=s.log2/\rd1 s f≠0:=fun s hs=>qNd (h.nz s hs) z (ld s hs)
 have ff:=hCc z;refine⟨fun s hs=>?_,?_⟩
 ·rcases hAj.mp hs with w|w
  ·obtain⟨u,hu,rfl⟩:=hAg.mp w;exact(l2 u hu).2
  ·rw[hAd]at w;rw[w];exact z
 ·rw[hBl];refine⟨?_,hCf _ _,fun a ha b hb=>?_⟩
  ·rw[hC4];refine hCu (fun {a b} ha hb r=>?_) h.ap;rw[(l2 a ha).1,(l2 b hb).1,qCy,qCy,r.1,r.2,ld a ha,ld b hb];simp
  ·rw[hAd]at hb;obtain⟨u,hu,rfl⟩:=hAg.mp ha;subst hb;refine⟨by rw[(l2 u hu).1];exact ld u hu,?_⟩;rw[qCy,ff];cases u.testBit b.log2 <;> rfl
theorem qUb{k:List Nat}(x y:Nat):Spn (qPf k x) y↔Spn (k++[x]) y:=by
 have rx:=qNa k k (fun _ h=>h) x;unfold qPf;have inl:∀ {z},Spn k z->Spn (k++[x]) z:=fun {z} hz=>hz.mono fun u hu=>.mem (hAl _ hu)
 have xm:Spn (k++[x]) x:=.mem (by simp);by_cases z:red1 k x=0
 ·rw[if_pos z];rw[z,hDo]at rx;refine⟨inl,fun h=>h.mono fun u hu=>?_⟩;rcases hAj.mp hu with w|w
  ·exact .mem w
  ·rw[hAd]at w;rw[w];exact rx
 rw[if_neg z];have fm:Spn (k++[x]) (red1 k x):=by
  have:=(inl rx).xor xm
  rwa [qA9]at this
 revert rx fm;generalize red1 k x=f;intro rx fm;have ff:Spn (k.map (fun s=>rd1 s f)++[f]) f:=.mem (by simp);have sk:∀s∈k,Spn (k.map (fun s=>rd1 s f)++[f]) s:=fun s hs=>by
  have a:Spn (k.map (fun s=>rd1 s f)++[f]) (rd1 s f):=.mem (hAl _ (hBb (f:=fun s=>rd1 s f) hs));by_cases q:s.testBit f.log2=true
  ·have b:=a.xor ff;rw[show rd1 s f=s^^^f from if_pos q,qA9]at b;exact b
  ·rw[show rd1 s f=s from if_neg q]at a;exact a
 constructor
 ·intro h;refine h.mono fun u hu=>?_
  rcases hAj.mp hu with w|w
  ·obtain⟨s,hs,rfl⟩:=hAg.mp w;unfold rd1;split
   ·exact(inl (.mem hs)).xor fm
   ·exact inl (.mem hs)
  ·rw[hAd]at w;rw[w];exact fm
 ·intro h;refine h.mono fun u hu=>?_
  rcases hAj.mp hu with w|w
  ·exact sk u w
  ·rw[hAd]at w;subst w;have b:=ff.xor (rx.mono sk);rw[<-hC0,hCy,hDo]at b;exact b
theorem qJe{P:List Nat->Prop}(h0:P [])(hs:∀l t,P l->P (l++[t]))(l:List Nat):P l:=by
 have:∀r:List Nat,P r.reverse:=fun r=>by
  induction r with
  |nil=>exact h0
  |cons a r ih=>rw[List.reverse_cons];exact hs _ _ ih
 have q:=this l.reverse
 rwa [List.reverse_reverse]at q
theorem qEg(xs:List Nat):RR (red xs):=qJe (P:=fun xs=>RR (red xs)) RR.nil (fun l t ih=>by rw[qEf];exact ih.step t) xs
theorem qIk(xs:List Nat):∀y,Spn (red xs) y↔Spn xs y:=by
 refine qJe (P:=fun xs=>∀y,Spn (red xs) y↔Spn xs y) (fun y=>Iff.rfl) (fun l t ih y=>?_) xs;rw[qEf,qUb];constructor
 ·exact fun h=>h.mono fun u hu=>by
   rcases hAj.mp hu with w|w
   ·exact((ih u).mp (.mem w)).mono fun v hv=>.mem (hAl _ hv)
   ·exact .mem (hA9 _ w)
 ·exact fun h=>h.mono fun u hu=>by
   rcases hAj.mp hu with w|w
   ·exact((ih u).mpr (.mem w)).mono fun v hv=>.mem (hAl _ hv)
   ·exact .mem (hA9 _ w)
theorem zAh{xs:List Nat}{m:Nat}(h:∀x∈xs,x<2^m):∀s∈red xs,s<2^m:=fun s hs=>Spn.lt h ((qIk xs s).mp (.mem hs))
def Fsh(xs:List Nat):Prop:=∀i x,xs[i]?=some x->∃j,x.testBit j=true/\∀y∈xs.take i,y.testBit j=false
theorem qKx{l:List Nat}{j:Nat}(h:∀x∈l,x.testBit j=false){y:Nat}(hy:Spn l y):y.testBit j=false:=by
 induction hy with
 |zero=>simp
 |add m _ ih=>rw[hAs,h _ m,ih];rfl
def xsum:Nat->(Nat->Bool)->Bool
 |0,_=>false
 |m+1,f=>xsum m f ^^ f m
theorem qDl{f g:Nat->Bool}:∀ {m:Nat},(∀j,j<m->f j=g j)->xsum m f=xsum m g
 |0,_=>rfl
 |m+1,h=>by unfold xsum;rw[qDl fun j hj=>h j (by omega),h m (by omega)]
theorem qMd(f g:Nat->Bool):∀m:Nat,xsum m (fun j=>f j ^^ g j)=(xsum m f ^^ xsum m g)
 |0=>rfl
 |m+1=>by
  unfold xsum;rw[qMd f g m];show((xsum m f ^^ xsum m g) ^^ (f m ^^ g m))=_;cases xsum m f <;> cases xsum m g <;> cases f m <;> cases g m <;> rfl
theorem qE0:∀m:Nat,xsum m (fun _=>false)=false
 |0=>rfl
 |m+1=>by unfold xsum;rw[qE0 m];rfl
theorem qH1{f:Nat->Bool}{l:Nat}:∀ {m:Nat},(∀j,j<m->j≠l->f j=false)->xsum m f=(decide (l<m) && f l)
 |0,_=>by simp[xsum]
 |m+1,h=>by
  unfold xsum;rw[qH1 (m:=m) fun j hj=>h j (by omega)];by_cases e:l=m
  ·subst e;simp
  ·have n:=h m (by omega) (fun z=>e z.symm);rw[n];have:decide (l<m)=decide (l<m+1):=by
    by_cases q:l<m
    ·rw[decide_eq_true q,decide_eq_true (by omega)]
    ·rw[decide_eq_false q,decide_eq_false (by omega)]
   rw[this];simp
theorem qL9:∀(l x:Nat),x.testBit l=false->2^l+x=2^l^^^x
 |0,x,h=>by
  have e:x % 2=0:=by
   rw[hAy]at h;have:=of_decide_eq_false h;omega
  show 1+x=1^^^x;rw[hDp,qFj e,Nat.add_comm]
 |l+1,x,h=>by
  rw[hCd]at h;have ih:=qL9 l (x / 2) h;have d:(2^(l+1)^^^x) / 2=2^l+x / 2:=by
   rw[Nat.xor_div_two,ih,hDu,Nat.mul_div_cancel _ (by decide)]
  have b:(2^(l+1)^^^x).testBit 0=x.testBit 0:=by rw[hAs,hAw];simp
  rw[hAy,hAy]at b;have b':(2^(l+1)^^^x) % 2=1↔x % 2=1:=by simpa using b
  have p:=hDu (n:=2) (m:=l);rcases hBq x with q|q
  ·have:¬(2^(l+1)^^^x) % 2=1:=fun z=>by have:=b'.mp z;omega
   omega
  ·have:=b'.mpr q;omega
theorem qKw:∀(L:List Nat),L.Nodup->∀j,((L.map fun l=>2^l).sum).testBit j=decide (j∈L)
 |[],_,j=>by simp
 |l :: L,nd,j=>by
  obtain⟨n1,n2⟩:=hBg.mp nd;have ih:=qKw L n2;rw[hB9,hD6,qL9 l _ (by rw[ih l,decide_eq_false n1]),hAs,ih j,hAw];by_cases e:l=j
  ·subst e;simp[n1]
  ·have e':¬j=l:=fun z=>e z.symm
   simp[e,e']
def crM(S:List Nat)(p:Nat):Nat:=2^p+((S.filter fun s:Nat=>s.testBit p).map fun s:Nat=>2^s.log2).sum
def zDa(S:List Nat)(p:Nat):Prop:=∃s∈S,s.log2=p
instance (S:List Nat):DecidablePred (zDa S):=fun p=>inferInstanceAs (Decidable (∃s∈S,s.log2=p))
theorem qY4:∀ {S:List Nat},RR S->(S.map Nat.log2).Nodup
 |[],_=>List.nodup_nil
 |s :: S,h=>by
  rw[hB9];refine hBg.mpr ⟨fun z=>?_,qY4 h.tl⟩;obtain⟨t,ht,e⟩:=hAg.mp z;have a:=(h.hd t ht).1;rw[<-e,h.self (hA4 _ ht)]at a;cases a
def zBr(S:List Nat)(m:Nat):List Nat:=((List.range m).filter fun p=>!decide (zDa S p)).map (crM S)
def xl(L:List Nat):Nat:=L.foldr (·^^^·) 0
theorem qTc:∀(n a b:Nat),a<n->a+b=(a^^^b)+2*(a&&&b)
 |0,_,_,h=>absurd h (hC3 _)
 |n+1,a,b,h=>by
  by_cases a0:a=0
  ·subst a0;simp
  have ih:=qTc n (a / 2) (b / 2) (by omega);have d1:(a^^^b) / 2=a / 2^^^b / 2:=Nat.xor_div_two;have d2:(a&&&b) / 2=a / 2&&&b / 2:=Nat.and_div_two;have b1:(a^^^b).testBit 0=(a.testBit 0 ^^ b.testBit 0):=hAs ..;have b2:(a&&&b).testBit 0=(a.testBit 0 && b.testBit 0):=hBt ..;rw[hAy,hAy,hAy]at b1 b2;rw[<-d1,<-d2]at ih;generalize a^^^b=X at b1 ih ⊢;generalize a&&&b=Y at b2 ih ⊢;rcases hBq a with p|p <;> rcases hBq b with q|q <;> rw[p,q]at b1 b2 <;> simp at b1 b2 <;> omega
theorem qCb(a b:Nat):Builtin.bitAnd (a:Int) (b:Int)=((a&&&b:Nat):Int):=by
 unfold Builtin.bitAnd;rw[decide_eq_true (hCs a),decide_eq_true (hCs b)];simp
theorem qBx(a b:Nat):Builtin.bitXor (a:Int) (b:Int)=((a^^^b:Nat):Int):=by
 have e:=qTc (a+1) a b (hC1 a);have h:Builtin.bitXor (a:Int) (b:Int)=(a:Int)+b - 2*Builtin.bitAnd a b:=by
  have x:∀x y:Int,Builtin.bitNot (Builtin.bitNot x)=x:=fun x y=>by unfold Builtin.bitNot;omega
  unfold Builtin.bitXor Builtin.bitOr;have na:¬(0:Int)<=Builtin.bitNot (a:Int):=by unfold Builtin.bitNot;omega
  have nb:¬(0:Int)<=Builtin.bitNot (b:Int):=by unfold Builtin.bitNot;omega
  have o:Builtin.bitAnd (Builtin.bitNot (a:Int)) (Builtin.bitNot (b:Int))=Builtin.bitNot ((a ||| b:Nat):Int):=by
   unfold Builtin.bitAnd;rw[decide_eq_false na,decide_eq_false nb];show Builtin.bitNot _=_;rw[x a 0,x b 0];simp
  rw[o,x _ 0,qCb];have e2:(a ||| b)+(a&&&b)=a+b:=by
   have:=add_or (a+1) a b (hC1 a);omega
  omega
 rw[h,qCb];omega
where
 add_or:∀(n a b:Nat),a<n->(a ||| b)+(a&&&b)=a+b
 |0,_,_,h=>absurd h (hC3 _)
 |n+1,a,b,h=>by
  by_cases a0:a=0
  ·subst a0;simp
  have ih:=add_or n (a / 2) (b / 2) (by omega);have d1:(a ||| b) / 2=a / 2 ||| b / 2:=Nat.or_div_two
  have d2:(a&&&b) / 2=a / 2&&&b / 2:=Nat.and_div_two;have b1:(a ||| b).testBit 0=(a.testBit 0 || b.testBit 0):=hCz ..;have b2:(a&&&b).testBit 0=(a.testBit 0 && b.testBit 0):=hBt ..;rw[hAy,hAy,hAy]at b1 b2;rw[<-d1,<-d2]at ih;generalize a ||| b=X at b1 ih ⊢
  generalize a&&&b=Y at b2 ih ⊢;rcases hBq a with p|p <;> rcases hBq b with q|q <;> rw[p,q]at b1 b2 <;> simp at b1 b2 <;> omega
theorem qWk:∀(n f:Nat),f<n->f≠0->∃i,f.testBit i=true/\∀j,j<i->f.testBit j=false
 |0,_,h,_=>absurd h (hC3 _)
 |n+1,f,h,nz=>by
  rcases hBq f with p|p
  ·obtain⟨i,h1,h2⟩:=qWk n (f / 2) (by omega) (by omega);refine⟨i+1,by rw[hCd];exact h1,fun j hj=>?_⟩;cases j with
   |zero=>rw[hAy,p];rfl
   |succ j=>rw[hCd];exact h2 j (by omega)
  ·exact⟨0,by rw[hAy,p];rfl,fun j hj=>absurd hj (hC3 _)⟩
noncomputable def lo(f:Nat):Nat:=Classical.epsilon fun i=>f.testBit i=true/\∀j,j<i->f.testBit j=false
theorem qFd{f:Nat}(h:f≠0):f.testBit (lo f)=true/\∀j,j<lo f->f.testBit j=false :=
 Classical.epsilon_spec (qWk (f+1) f (hC1 _) h)
theorem qIm:∀(i f:Nat),f.testBit i=true->(∀j,j<i->f.testBit j=false)->∀j,(f - 1).testBit j=(decide (j<i) || (decide (i<j) && f.testBit j))
 |0,f,h1,_,j=>by
  rw[hAy]at h1;have p:=of_decide_eq_true h1;cases j with
  |zero=>rw[hAy];simp;omega
  |succ j=>rw[hCd,hCd,show(f - 1) / 2=f / 2 by omega];simp
 |i+1,f,h1,h2,j=>by
  have z:=h2 0 (by omega);rw[hAy]at z;have p:=of_decide_eq_false z;rw[hCd]at h1;have nz:f / 2≠0:=fun w=>by rw[w]at h1;simp at h1
  cases j with
  |zero=>rw[hAy];simp;omega
  |succ j =>
   rw[hCd,hCd,show(f - 1) / 2=f / 2 - 1 by omega,qIm i (f / 2) h1 (fun k hk=>by have:=h2 (k+1) (by omega);rwa [hCd]at this) j];simp
theorem qNq(e:Nat){f:Nat}(nz:f≠0):Builtin.bitAnd (Builtin.bitAnd (e:Int) (f:Int)) (-(f:Int))≠0↔e.testBit (lo f)=true:=by
 obtain⟨h1,h2⟩:=qFd nz;rw[qCb];have ev:Builtin.bitAnd (((e&&&f:Nat)):Int) (-(f:Int))=((e&&&f:Nat):Int) - (((e&&&f)&&&(f - 1):Nat):Int):=by
  unfold Builtin.bitAnd;rw[decide_eq_true (hCs _),decide_eq_false (by omega:¬(0:Int)<=-(f:Int))];show((e&&&f:Nat):Int) - (((((e&&&f:Nat):Int).toNat)&&&(Builtin.bitNot (-(f:Int))).toNat:Nat):Int)=_;rw[show(Builtin.bitNot (-(f:Int))).toNat=f - 1 by unfold Builtin.bitNot;omega,hAz]
 rw[ev];have pb:=qIm (lo f) f h1 h2;constructor
 ·intro ne;cases q:e.testBit (lo f) with
  |true=>rfl
  |false =>
   refine absurd ?_ ne;have:(e&&&f)&&&(f - 1)=e&&&f:=by
    refine hAt fun j=>?_
    rw[hBt,hBt,pb j];rcases Nat.lt_trichotomy j (lo f) with z|z|z
    ·rw[h2 j z];simp
    ·subst z;rw[q];simp
    ·simp[z];exact fun _ h=>.inr h
   rw[this];omega
 ·intro q ne;have this:(e&&&f)&&&(f - 1)=e&&&f:=by omega
  have b:=congrArg (fun x:Nat=>x.testBit (lo f)) this;simp only[hBt,pb,q,h1]at b;simp at b
theorem qLu{f:Nat}(nz:f≠0):Builtin.bitAnd (f:Int) (-(f:Int))=((2^lo f:Nat):Int):=by
 obtain⟨h1,h2⟩:=qFd nz;have ev:Builtin.bitAnd (f:Int) (-(f:Int))=(f:Int) - ((f&&&(f - 1):Nat):Int):=by
  unfold Builtin.bitAnd;rw[decide_eq_true (hCs _),decide_eq_false (by omega:¬(0:Int)<=-(f:Int))];show(f:Int) - ((((f:Int).toNat)&&&(Builtin.bitNot (-(f:Int))).toNat:Nat):Int)=_;rw[show(Builtin.bitNot (-(f:Int))).toNat=f - 1 by unfold Builtin.bitNot;omega,hAz]
 rw[ev];have pb:=qIm (lo f) f h1 h2;have e:f=2^lo f+(f&&&(f - 1)):=by
  rw[qL9 _ _ (by rw[hBt,pb];simp)];refine hAt fun j=>?_
  rw[hAs,hAw,hBt,pb j];rcases Nat.lt_trichotomy j (lo f) with z|z|z
  ·have:¬lo f=j:=by omega
   rw[h2 j z];simp[this]
  ·subst z;rw[h1];simp
  ·have n1:¬lo f=j:=by omega
   simp[z,n1];exact fun h=>.inr h
 omega
theorem qZk(x p:Nat):x&&&2^p≠0↔x.testBit p=true:=by
 constructor
 ·intro ne;cases q:x.testBit p with
  |true=>rfl
  |false =>
   refine absurd (hAt fun j=>?_) ne;rw[hBt,hAw,hBv];by_cases e:p=j
   ·subst e;rw[q];rfl
   ·simp[e]
 ·intro q z;have:=congrArg (fun x:Nat=>x.testBit p) z;simp[hBt,q]at this
def rv(m x:Nat):Nat:=((((List.range m).filter fun i=>x.testBit i).map fun i=>m - 1 - i).map fun l=>2^l).sum
theorem qCs(m x j:Nat):(rv m x).testBit j=(decide (j<m) && x.testBit (m - 1 - j)):=by
 have nd:(((List.range m).filter fun i=>x.testBit i).map fun i=>m - 1 - i).Nodup:=by
  have h:((List.range m).filter fun i=>x.testBit i).Pairwise fun a b=>m - 1 - a≠m - 1 - b:=by
   have:(List.range m).Pairwise fun a b=>a≠b:=List.nodup_range
   refine hCu (fun {a b} ha hb ne=>?_) (this.sublist hD1);have a1:=hB6.mp (hAn.mp ha).1;have b1:=hB6.mp (hAn.mp hb).1;omega
  rw[List.Nodup,hC4];exact h
 unfold rv;rw[qKw _ nd];by_cases hj:j<m
 ·rw[decide_eq_true hj,hCn];cases q:x.testBit (m - 1 - j) with
  |true=>exact decide_eq_true (hAg.mpr ⟨m - 1 - j,hAn.mpr ⟨hB6.mpr (by omega),q⟩,by omega⟩)
  |false =>
   refine decide_eq_false fun z=>?_
   obtain⟨i,hi,e⟩:=hAg.mp z;obtain⟨h1,h2⟩:=hAn.mp hi;have:=hB6.mp h1;rw[show m - 1 - j=i by omega,h2]at q;cases q
 ·rw[decide_eq_false hj,Bool.false_and];refine decide_eq_false fun z=>?_
  obtain⟨i,hi,e⟩:=hAg.mp z;have:=hB6.mp (hAn.mp hi).1;omega
theorem qT9(m x:Nat):rv m x<2^m:=hC5 _ fun i hi=>by rw[qCs,decide_eq_false (by omega)];rfl
theorem qQp(m x y:Nat):rv m (x^^^y)=rv m x^^^rv m y:=hAt fun j=>by
 rw[hAs,qCs,qCs,qCs,hAs];cases decide (j<m) <;> simp
theorem qQq{m x:Nat}(h:x<2^m):rv m (rv m x)=x:=hAt fun j=>by
 rw[qCs,qCs];by_cases hj:j<m
 ·rw[decide_eq_true hj,decide_eq_true (by omega),show m - 1 - (m - 1 - j)=j by omega];rfl
 ·rw[decide_eq_false hj,qJb h (Nat.le_of_not_lt hj)];rfl
theorem qGf(m:Nat):rv m 0=0:=hAt fun j=>by rw[qCs];simp
theorem qXp{m x:Nat}(h:x<2^m)(nz:x≠0):rv m x≠0:=fun z=>nz (by rw[<-qQq h,z,qGf])
theorem zA3{m x:Nat}(h:x<2^m)(nz:x≠0):lo x<m:=by
 rcases Nat.lt_or_ge (lo x) m with z|z
 ·exact z
 ·have:=(qFd nz).1;rw[qJb h z]at this;cases this
theorem qXq{m x:Nat}(h:x<2^m)(nz:x≠0):(rv m x).log2=m - 1 - lo x:=by
 obtain⟨h1,h2⟩:=qFd nz;have l:=zA3 h nz;refine qRw ?_ (hC5 _ fun i hi=>?_)
 ·rw[qCs,decide_eq_true (by omega),show m - 1 - (m - 1 - lo x)=lo x by omega,h1];rfl
 ·rw[qCs];by_cases q:i<m
  ·rw[h2 (m - 1 - i) (by omega)];simp
  ·rw[decide_eq_false q];rfl
noncomputable def rdL(x s:Nat):Nat:=if x.testBit (lo s)=true then x^^^s else x
theorem qQr{m x s:Nat}(hs:s<2^m)(nz:s≠0):rv m (rdL x s)=rd1 (rv m x) (rv m s):=by
 have l:=zA3 hs nz;unfold rdL rd1;have b:(rv m x).testBit (rv m s).log2=x.testBit (lo s):=by
  rw[qXq hs nz,qCs,decide_eq_true (by omega),show m - 1 - (m - 1 - lo s)=lo s by omega];rfl
 rw[b];split
 ·exact qQp m x s
 ·rfl
theorem qWb{m x s:Nat}(hx:x<2^m)(hs:s<2^m):rdL x s<2^m:=by
 unfold rdL;split
 ·exact hC8 hx hs
 ·exact hx
noncomputable def redL1(k:List Nat)(x:Nat):Nat:=k.foldl rdL x
def Gm(m:Nat)(k:List Nat):Prop:=∀s∈k,s<2^m/\s≠0
theorem qM9{m:Nat}:∀ {k:List Nat} {x:Nat},Gm m k->x<2^m->redL1 k x<2^m/\rv m (redL1 k x)=red1 (k.map (rv m)) (rv m x)
 |[],x,_,hx=>⟨hx,rfl⟩
 |s :: k,x,h,hx=>by
  obtain⟨h1,h2⟩:=h s hA6;have ih:=qM9 (x:=rdL x s) (fun t ht=>h t (hA4 _ ht)) (qWb hx h1);refine⟨ih.1,?_⟩;show rv m (redL1 k (rdL x s))=red1 (k.map (rv m)) (rd1 (rv m x) (rv m s));rw[ih.2,qQr h1 h2]
noncomputable def qLj(k:List Nat)(x:Nat):List Nat:=if redL1 k x=0 then k else k.map (fun s=>rdL s (redL1 k x))++[redL1 k x]
noncomputable def redL(xs:List Nat):List Nat:=xs.foldl qLj []
theorem qGh(xs:List Nat)(x:Nat):redL (xs++[x])=qLj (redL xs) x:=by unfold redL;rw[hBk];rfl
theorem qE5{m:Nat}(xs:List Nat):(∀x∈xs,x<2^m)->Gm m (redL xs)/\(redL xs).map (rv m)=red (xs.map (rv m)):=by
 refine qJe (P:=fun xs=>(∀x∈xs,x<2^m)->Gm m (redL xs)/\(redL xs).map (rv m)=red (xs.map (rv m))) (fun _=>⟨fun s hs=>(by cases hs),rfl⟩) (fun l t ih h=>?_) xs;obtain⟨g,e⟩:=ih fun x hx=>h x (hAl _ hx)
 have ht:=h t (by simp);obtain⟨l1,l2⟩:=qM9 g ht;have sp:∀s∈redL l,rv m s≠0:=fun s hs=>qXp (g s hs).1 (g s hs).2
 rw[hA3,hCt,qEf,qGh,<-e];unfold qLj qPf;rw[<-l2];by_cases z:redL1 (redL l) t=0
 ·rw[if_pos z,z,qGf,if_pos rfl];exact⟨g,rfl⟩
 ·have z':=qXp l1 z;rw[if_neg z,if_neg z'];have rr:=qEg (l.map (rv m));rw[<-e]at rr;refine⟨fun s hs=>?_,?_⟩
  ·rcases hAj.mp hs with w|w
   ·obtain⟨u,hu,rfl⟩:=hAg.mp w;refine⟨qWb (g u hu).1 l1,fun q=>?_⟩;have q2:=qQr (x:=u) l1 z;rw[q,qGf]at q2;have ld:=qGj (x:=rv m t) rr (rv m u) (hBb hu);rw[<-l2]at ld;exact(qNd (sp u hu) z' ld).2 q2.symm
   ·rw[hAd]at w;rw[w];exact⟨l1,z⟩
  ·rw[hA3,hCt,hB5,hB5];congr 1;refine hBi fun s hs=>?_
   exact qQr l1 z
def bd(V:Nat->Nat):Nat->Nat->Nat
 |0,_=>0
 |m+1,y=>bd V m y^^^(if y.testBit m=true then V m else 0)
theorem qDk(V:Nat->Nat):∀(m x y:Nat),bd V m (x^^^y)=bd V m x^^^bd V m y
 |0,_,_=>by simp[bd]
 |m+1,x,y=>by
  show bd V m (x^^^y)^^^_=(bd V m x^^^_)^^^(bd V m y^^^_);rw[qDk V m x y,hAs];refine hAt fun j=>?_
  simp only[hAs];cases x.testBit m <;> cases y.testBit m <;> simp[hAs] <;> cases(bd V m x).testBit j <;> cases(bd V m y).testBit j <;> cases(V m).testBit j <;> rfl
theorem qG8(V:Nat->Nat):∀m:Nat,bd V m 0=0
 |0=>rfl
 |m+1=>by show bd V m 0^^^_=0;rw[qG8 V m];simp
theorem qW1(V:Nat->Nat)(q:Nat):∀m y:Nat,(bd V m y).testBit q=xsum m fun i=>y.testBit i && (V i).testBit q
 |0,_=>by simp[bd,xsum]
 |m+1,y=>by
  show(bd V m y^^^_).testBit q=(xsum m _ ^^ (y.testBit m && (V m).testBit q));rw[hAs,qW1 V q m y];cases y.testBit m <;> simp
theorem qOk{V:Nat->Nat}{m p:Nat}(hp:p<m):bd V m (2^p)=V p:=by
 refine hAt fun q=>?_
 rw[qW1,qH1 (l:=p) fun j _ ne=>by rw[hAw,decide_eq_false (fun z=>ne z.symm)];rfl,hAw];simp[hp]
noncomputable def el1(v f:Nat×Nat):Nat×Nat:=if v.1.testBit (lo f.1)=true then (v.1^^^f.1,v.2^^^f.2) else v
noncomputable def el(k:List (Nat×Nat))(v:Nat×Nat):Nat×Nat:=k.foldl el1 v
abbrev Ech(k:List (Nat×Nat)):Prop:=k.Pairwise fun a b=>b.1.testBit (lo a.1)=false
theorem qSj:∀ {k:List (Nat×Nat)} {v:Nat×Nat} {i:Nat},(∀f∈k,f.1.testBit i=false)->(el k v).1.testBit i=v.1.testBit i
 |[],_,_,_=>rfl
 |f :: k,v,i,h=>by
  show(el k (el1 v f)).1.testBit i=_;rw[qSj fun g hg=>h g (hA4 _ hg)];unfold el1;split
  ·show(v.1^^^f.1).testBit i=_;rw[hAs,h f hA6];simp
  ·rfl
theorem qWu:∀ {k:List (Nat×Nat)} {v:Nat×Nat},Ech k->(∀f∈k,f.1≠0)->∀f∈k,(el k v).1.testBit (lo f.1)=false
 |[],_,_,_,_,h=>by cases h
 |g :: k,v,e,nz,f,hf=>by
  obtain⟨e1,e2⟩:=hB3.mp e;show(el k (el1 v g)).1.testBit (lo f.1)=false;rcases hAf.mp hf with rfl|z
  ·rw[qSj fun h hh=>e1 h hh];unfold el1;cases q:v.1.testBit (lo f.1) with
   |true =>
    rw[if_pos rfl];show(v.1^^^f.1).testBit _=false;rw[hAs,q,(qFd (nz f hA6)).1];rfl
   |false=>rw[if_neg (by decide)];exact q
  ·exact qWu e2 (fun h hh=>nz h (hA4 _ hh)) f z
theorem qWt(V:Nat->Nat)(m:Nat)(K:List (Nat×Nat)):∀ {k:List (Nat×Nat)} {v:Nat×Nat},(∀f∈k,f∈K/\f.1=bd V m f.2)->v.1=bd V m v.2->(el k v).1=bd V m (el k v).2/\Spn (K.map (·.2)) ((el k v).2^^^v.2)
 |[],v,_,hv=>⟨hv,by show Spn _ (v.2^^^v.2);rw[hCy];exact .zero⟩
 |f :: k,v,h,hv=>by
  have h1:(el1 v f).1=bd V m (el1 v f).2:=by
   unfold el1;split
   ·show v.1^^^f.1=bd V m (v.2^^^f.2);rw[qDk,<-hv,<-(h f hA6).2]
   ·exact hv
  have h2:Spn (K.map (·.2)) ((el1 v f).2^^^v.2):=by
   unfold el1;split
   ·show Spn _ ((v.2^^^f.2)^^^v.2);rw[hDp v.2 f.2,qA9];exact .mem (hBb (h f hA6).1)
   ·rw[hCy];exact .zero
  obtain⟨a,b⟩:=qWt V m K (k:=k) (fun g hg=>h g (hA4 _ hg)) h1;refine⟨a,?_⟩;have c:=b.xor h2;rw[<-hC0,qA9]at c;exact c
theorem spn_cons{a:Nat}{l:List Nat}{y:Nat}(h:Spn (a :: l) y):Spn l y\/Spn l (a^^^y):=by
 induction h with
 |zero=>exact .inl .zero
 |add m _ ih =>
  rename_i x y _;rcases hAf.mp m with rfl|z
  ·rcases ih with ih|ih
   ·refine .inr ?_;rw[<-hC0,hCy,hDo];exact ih
   ·exact .inl ih
  ·rcases ih with ih|ih
   ·exact .inl (.add z ih)
   ·refine .inr ?_;have:=Spn.add z ih;rw[<-hC0,hDp x a,hC0]at this;exact this
theorem qOt{l l':List Nat}{y:Nat}(h:Spn (l++l') y):∃a b,Spn l a/\Spn l' b/\y=a^^^b:=by
 induction h with
 |zero=>exact⟨0,0,.zero,.zero,rfl⟩
 |add m _ ih =>
  obtain⟨a,b,ha,hb,rfl⟩:=ih;rename_i x _;rcases hAj.mp m with z|z
  ·exact⟨x^^^a,b,.add z ha,hb,by rw[hC0]⟩
  ·exact⟨a,x^^^b,ha,.add z hb,by rw[<-hC0,<-hC0,hDp x a]⟩
theorem qZ3(V:Nat->Nat)(m:Nat){k:List (Nat×Nat)}(h:∀f∈k,f.1=bd V m f.2){y:Nat}(hy:Spn (k.map (·.2)) y):Spn (k.map (·.1)) (bd V m y):=by
 induction hy with
 |zero=>rw[qG8];exact .zero
 |add hm _ ih =>
  obtain⟨f,hf,rfl⟩:=hAg.mp hm;rw[qDk,<-h f hf];exact .add (hBb hf) ih
theorem qN9(V:Nat->Nat)(m:Nat):∀ {k:List (Nat×Nat)},Ech k->(∀f∈k,f.1≠0/\f.1=bd V m f.2)->∀ {y:Nat},Spn (k.map (·.2)) y->(∀f∈k,(bd V m y).testBit (lo f.1)=false)->y=0
 |[],_,_,y,hy,_=>by
  cases hy with
  |zero=>rfl
  |add m _=>cases m
 |f :: k,e,h,y,hy,hb=>by
  obtain⟨e1,e2⟩:=hB3.mp e;obtain⟨f1,f2⟩:=h f hA6;have hk:=fun g hg=>h g (hA4 _ hg)
  rw[hB9]at hy;rcases spn_cons hy with z|z
  ·exact qN9 V m e2 hk z fun g hg=>hb g (hA4 _ hg)
  ·have b:=qKx (j:=lo f.1) (fun x hx=>by
    obtain⟨g,hg,rfl⟩:=hAg.mp hx;exact e1 g hg) (qZ3 V m (fun g hg=>(hk g hg).2) z)
   rw[qDk,<-f2,hAs,(qFd f1).1,hb f hA6]at b;cases b
structure EIv(V:Nat->Nat)(m j:Nat)(K:List (Nat×Nat))(F:List Nat):Prop where
 k1:∀f∈K,f.1≠0/\f.1=bd V m f.2
 kl:∀f∈K,f.2<2^j
 k2:Ech K
 f1:∀y∈F,y<2^j/\bd V m y=0
 cov:∀y,y<2^j->Spn (F++K.map (·.2)) y
 len:F.length+K.length=j
 fsh:Fsh F
theorem EIv.start(V:Nat->Nat)(m:Nat):EIv V m 0 [] []:=⟨fun f h=>(by cases h),fun f h=>(by cases h),.nil,fun y h=>(by cases h),fun y hy=>by
 have:y=0:=by omega
 subst this;exact .zero,rfl,fun i x h=>(by cases h)⟩
theorem EIv.run{V:Nat->Nat}{m j:Nat}{K:List (Nat×Nat)}{F:List Nat}(h:EIv V m j K F)(hj:j<m) :
  (el K (V j,2^j)).1=bd V m (el K (V j,2^j)).2/\Spn (K.map (·.2)) ((el K (V j,2^j)).2^^^2^j)/\(el K (V j,2^j)).2<2^(j+1)/\(el K (V j,2^j)).2.testBit j=true/\∀f∈K,(el K (V j,2^j)).1.testBit (lo f.1)=false:=by
 obtain⟨a,b⟩:=qWt V m K (k:=K) (v:=(V j,2^j)) (fun f hf=>⟨hf,(h.k1 f hf).2⟩) (by show V j=bd V m (2^j);rw[qOk hj]);have c:(el K (V j,2^j)).2^^^2^j<2^j:=Spn.lt (fun x hx=>by
  obtain⟨f,hf,rfl⟩:=hAg.mp hx;exact h.kl f hf) b
 have d:((el K (V j,2^j)).2^^^2^j)^^^2^j=(el K (V j,2^j)).2:=qA9 _ _;have p:2^j<2^(j+1):=Nat.pow_lt_pow_right (by decide) (by omega);refine⟨a,b,?_,?_,qWu h.k2 (fun f hf=>(h.k1 f hf).1)⟩
 ·rw[<-d];exact hC8 (by omega) p
 ·rw[<-d,hAs,hD2 c,hAw];simp
theorem Fsh.snoc{F:List Nat}{x j:Nat}(h:Fsh F)(hx:x.testBit j=true)(hF:∀y∈F,y<2^j):Fsh (F++[x]):=fun i z hz=>by
 by_cases hi:i<F.length
 ·rw[List.getElem?_append_left hi]at hz;obtain⟨l,h1,h2⟩:=h i z hz;exact⟨l,h1,fun y hy=>h2 y (by rwa [List.take_append_of_le_length (by omega)]at hy)⟩
 ·have hl:i<(F++[x]).length:=(hAk.mp hz).1;rw[hAa]at hl;have e:i=F.length:=by
   have:i<F.length+1:=hl;omega
  subst e;have ez:x=z:=by simpa using hz
  subst ez;refine⟨j,hx,fun y hy=>?_⟩;rw[List.take_append_of_le_length (hA7 _),hA5 (hA7 _)]at hy;exact hD2 (hF y hy)
theorem EIv.next{V:Nat->Nat}{m j:Nat}{K:List (Nat×Nat)}{F:List Nat}(h:EIv V m j K F)(hj:j<m) :
  if (el K (V j,2^j)).1=0 then EIv V m (j+1) K (F++[(el K (V j,2^j)).2]) else EIv V m (j+1) (K++[el K (V j,2^j)]) F:=by
 obtain⟨a,b,c,d,e⟩:=h.run hj;have mono:∀ {x:Nat},x<2^j->x<2^(j+1):=fun hx=>Nat.lt_trans hx (Nat.pow_lt_pow_right (by decide) (by omega))
 generalize el K (V j,2^j)=r at a b c d e;have big:∀ {l:List Nat},(∀x∈F++K.map (·.2),Spn l x)->Spn l r.2->∀y,y<2^(j+1)->Spn l y:=fun {l} hl hr y hy=>by
  by_cases q:y.testBit j=true
  ·have lt:y^^^r.2<2^j:=by
    refine hC5 _ fun i hi=>?_
    rw[hAs];by_cases e2:i=j
    ·subst e2;rw[q,d];rfl
    ·rw[qJb hy (by omega),qJb c (by omega)];rfl
   have:=((h.cov _ lt).mono hl).xor hr
   rwa [qA9]at this
  ·have lt:y<2^j:=by
    refine hC5 _ fun i hi=>?_
    by_cases e2:i=j
    ·subst e2;simpa using q
    ·exact qJb hy (by omega)
   exact(h.cov _ lt).mono hl
 split
 ·rename_i z;refine⟨h.k1,fun f hf=>mono (h.kl f hf),h.k2,fun y hy=>?_,big (fun x hx=>?_) ?_,?_,h.fsh.snoc d fun y hy=>(h.f1 y hy).1⟩
  ·rcases hAj.mp hy with w|w
   ·exact⟨mono (h.f1 y w).1,(h.f1 y w).2⟩
   ·rw[hAd]at w;rw[w];exact⟨c,by rw[<-a,z]⟩
  ·refine .mem ?_;rcases hAj.mp hx with w|w
   ·exact hAl _ (hAl _ w)
   ·exact hA9 _ w
  ·exact .mem (hAl _ (by simp))
  ·rw[hAa];have:=h.len;show F.length+1+K.length=j+1;omega
 ·rename_i z;refine⟨fun f hf=>?_,fun f hf=>?_,?_,fun y hy=>⟨mono (h.f1 y hy).1,(h.f1 y hy).2⟩,big (fun x hx=>?_) ?_,?_,h.fsh⟩
  ·rcases hAj.mp hf with w|w
   ·exact h.k1 f w
   ·rw[hAd]at w;rw[w];exact⟨z,a⟩
  ·rcases hAj.mp hf with w|w
   ·exact mono (h.kl f w)
   ·rw[hAd]at w;rw[w];exact c
  ·rw[Ech,hBl];refine⟨h.k2,hCf _ _,fun x hx y hy=>?_⟩;rw[hAd]at hy;rw[hy];exact e x hx
  ·refine .mem ?_;rw[hA3];rcases hAj.mp hx with w|w
   ·exact hAl _ w
   ·exact hA9 _ (hAl _ w)
  ·refine .mem (hA9 _ ?_);rw[hA3];simp
  ·rw[hAa];have:=h.len;show F.length+(K.length+1)=j+1;omega
theorem EIv.none{V:Nat->Nat}{m j:Nat}{K:List (Nat×Nat)}{F:List Nat}(h:EIv V m j K F)(hj:j<m){y:Nat}(hy:y<2^j)(e:bd V m y=V j):(el K (V j,2^j)).1=0:=by
 obtain⟨a,b,_,_,d⟩:=h.run hj;have bF:∀ {a},Spn F a->bd V m a=0:=fun {a} ha=>by
  induction ha with
  |zero=>exact qG8 V m
  |add hm _ ih=>rw[qDk,(h.f1 _ hm).2,ih];rfl
 have c:(el K (V j,2^j)).2^^^2^j<2^j:=Spn.lt (fun x hx=>by
  obtain⟨f,hf,rfl⟩:=hAg.mp hx;exact h.kl f hf) b
 have z:bd V m (((el K (V j,2^j)).2^^^2^j)^^^y)=(el K (V j,2^j)).1:=by
  rw[qDk,qDk,qOk hj,e,<-a,qA9]
 obtain⟨u,v,hu,hv,ez⟩:=qOt (h.cov _ (hC8 c hy));rw[ez,qDk,bF hu,hDo]at z;have:v=0:=qN9 V m h.k2 h.k1 hv fun f hf=>by rw[z];exact d f hf
 rw[<-z,this,qG8]
end My
namespace L2
open PySem PySem.Spec PyProof.Rows
section
variable{X:Cx}
theorem qR6:∀ {us:List Value},qBa (ns.map V.int) us->∃xs:List (Int×Tok),us=xs.map (fun p=>Value.int p.1 p.2)/\xs.map (·.1)=ns:=by
 induction ns with
 |nil=>intro us r;cases r;exact⟨[],rfl,rfl⟩
 |cons a l ih =>
  intro us r;cases r with
  |cons r rr =>
   obtain⟨t,rfl⟩:=r;obtain⟨xs,rfl,rfl⟩:=ih rr;exact⟨(a,t) :: xs,rfl,rfl⟩
theorem qCm(hc:X.calm=true):qB9 X (.builtin "sum") (fun xs H Q=>∃(p:Addr) (ns:List Int),xs=[.ref p]/\SqL X.K H p (ns.map V.int)/\Q (.int ns.sum) H):=by
 intro pins s σ H xs us Q I r h;obtain⟨p,ns,rfl,hq,q⟩:=h;obtain⟨u,rfl,rx⟩:=qCl r;cases rx;obtain⟨its,rv,pl,hz⟩:=I.list hq;obtain⟨ys,rfl,rfl⟩:=qR6 rv;have e:(ys.map (fun p=>Value.int p.1 p.2)).toArray=intItems ys.toArray:=by unfold intItems;simp
 have pl':=pl.isList;rw[e]at pl';refine sum_intListG (I.ok.hd hc) pl' fun h' tk t' hk=>⟨.int _,H,I.kept (t':=tk) hk,⟨t',rfl⟩,?_⟩
 rw[preSum_eq,hA5 (by simp)];exact q
theorem qG0:∀ {us:List Value},qBa (ns.map V.int) us->IntsAre us ns:=by
 induction ns with
 |nil=>intro us r;cases r;exact .nil
 |cons a l ih =>
  intro us r;cases r with
  |cons r rr =>
   obtain⟨t,rfl⟩:=r;exact .cons a t (ih rr)
theorem qHv:∀ {us:List Value},IntsAre us ns->qBa (ns.map V.int) us:=by
 induction ns with
 |nil=>intro us r;cases r;exact .nil
 |cons a l ih =>
  intro us r;cases r with
  |cons _ _ r=>exact .cons ⟨_,rfl⟩ (ih r)
def qTj(K:PySem.W.Frag)(t:TA):TE:=fun σ H Q=>t σ H fun vs H1=>∃(p:Addr) (ns:List Int),vs=[.ref p]/\SqL K H1 p (ns.map V.int)/\ns.length<64/\∀(r:Addr) (ns':List Int),H1 r=none->ns'.Perm ns->Ordered true ns'->Q (.ref r) (upd H1 r (.lst (ns'.map V.int)))
theorem qE7(hg:Gl X "sorted")(hm:X.mg "sorted" = none)(ha:PA X [e] t)
  (he:backTo pos (starEach [e] X.env)=(false,eval e X.env) :: backTo pos (starEach [] X.env):=by rfl)
  (hplain:(backTo pos (starEach [e] X.env)).any (·.1)=false:=by rfl):PE X (.Call (.Name "sorted" p) [e] [⟨some "reverse",.Constant (.bool true) j cp,kp⟩] pos) (qTj X.K t):=by
 intro pins s σ H Q I h;refine wpAny_Call_Name_kw (qC9 I hg hm (by decide +kernel:bootBuiltins "sorted" = some (.builtin "sorted")) ?_ (by decide) (by decide));refine PyProof.Rows.callWith_kw (thn (ha pos pins s σ H _ I h) fun us s1 ⟨vs,H1,I1,r1,q1⟩=>?_) he hplain;obtain⟨a,ns,rfl,hq,h64,q⟩:=q1;obtain⟨u,rfl,rx⟩:=qCl r1;cases rx;refine hD7 (Constant_bool (hDb ?_));obtain⟨its,rv,pl,hz⟩:=I1.list hq;have hl:=rv.length;rw[hA1]at hl;refine sorted_ints_rev (b:=true) pl.isList (qG0 rv) (by omega) fun out ns' h1 h2 h3=>?_
 obtain⟨e,he⟩:=sortedAll_at s1.heap its out;have nz:H1 (s1.heap.objs.size+1)=none:=I1.hok.fresh (hBh _);refine⟨.ref (s1.heap.objs.size+1),_,I1.laid (t':=s1.toks) (a:=s1.heap.objs.size+1) (o:=.lst (ns'.map V.int)) (fun b o eb=>sortedAll_old eb) (hBh _) ?_,rfl,q _ ns' nz h2 h3⟩;refine⟨?_,out.toList,e,qHv h1,by simpa using he⟩;rw[hA1,h2.length_eq];exact hB1 (qAi (by omega))
def qWc(K:PySem.W.Frag):V->List V->Hp->VK->Prop:=fun x vs H Q=>∃(l:Addr) (ss:List Str) (z:Str) (j:Nat),x = .ref l/\vs=[.str z]/\H l=some (.lst (ss.map V.str))/\ss[j]?=some z/\(∀k,k<j->ss[k]?≠some z)/\j<1000/\Q (.int (j:Nat)) H
theorem qIr:MtR X "list.index" (qWc X.K):=by
 intro pins s σ H x vs v us Q I rx rv h;obtain⟨l,ss,z,j,rfl,rfl,hH,hj,hno,hsm,q⟩:=h;cases rx;obtain⟨u,rfl,ru⟩:=rv.one;obtain⟨t,rfl⟩:=ru;obtain⟨zz,its,n,r,hl,e⟩:=I.lstM hH;have at_:∀k (hk:k<its.length),∃y t',ss[k]?=some y/\its[k]=Value.str y t':=fun k hk=>by
  have hk':k<ss.length:=by rw[hA1]at hl;omega
  obtain⟨w,hw,rw'⟩:=r.get (i:=k) (x:=V.str ss[k]) (by rw[hAe,hA2 hk'];rfl);obtain⟨t',rfl⟩:=rw';rw[hA2 hk]at hw;exact⟨ss[k],t',hA2 hk',hAm hw⟩
 have jl:j<its.length:=by
  have:=(hAk.mp hj).1;rw[hA1]at hl;omega
 refine call_meets F.slot_list_index ⟨_,e,rfl⟩ F.entry_list_index (F.args_list_index_2 _ _)
  (MeetsSeq.list_index l its.toArray n (.str z t) (fun y=>match y with | .str y _=>y == z|_=>false) (fun y hy=>?_) j (by rw[hAb];exact jl) (by omega) ?_ (fun m hm hmj=>?_)) ⟨e,⟨.int _,H,I.tok _,⟨_,rfl⟩,q⟩⟩
 ·have hy':y∈its:=by simpa using hy
  obtain⟨k,hk,rfl⟩:=List.getElem_of_mem hy';obtain⟨y,t',_,e2⟩:=at_ k hk;rw[e2];exact eqGives_str y z t' t
 ·obtain⟨y,t',h1,e2⟩:=at_ j jl;have:its.toArray[j]=Value.str y t':=by simpa using e2
  rw[this];rw[hj]at h1;cases h1;exact beq_self_eq_true _
 ·have hm':m<its.length:=by simpa using hm
  obtain⟨y,t',h1,e2⟩:=at_ m hm';have:its.toArray[m]=Value.str y t':=by simpa using e2
  rw[this];show(y == z)=false;rw[beq_eq_false_iff_ne];intro w;exact hno m hmj (by rw[h1,w])
end
section
variable{X:Cx}
def zCs(K:PySem.W.Frag)(ta:TA):TI:=fun σ H R=>ta σ H fun vs H1=>∃(a:Addr) (xs:List V),vs=[.ref a]/\SqL K H1 a xs/\R (Itp xs.length (fun H=>SqL K H a xs) (fun i=>[.int (i:Nat),xs.getD i .non])) H1
theorem qS6:bootBuiltins "enumerate" = some (.type "enumerate"):=by decide +kernel
theorem qD4(hg:Gl X "enumerate")(hm:X.mg "enumerate" = none)(ha:PA X [a] ta)(hs:starEach [a] X.env=[(false,eval a X.env)]:=by rfl) :
  PI X (.Tuple elts ct tpos) (.Call (.Name "enumerate" p) [a] [] pos) (zCs X.K ta):=by
 intro pins s σ H R I h;refine Call_ (qC9 I hg hm qS6 (hBw (thn (ha pos pins s σ H _ I h) fun us s1 ⟨vs,H1,I1,r1,q1⟩=>?_) (by rw[hs];rfl) (by rfl)));obtain⟨l,xs,e,hx,q⟩:=q1;subst e;obtain⟨u,rfl,rx⟩:=qCl r1;cases rx;obtain⟨it1,rv1,pl1,hz1⟩:=I1.list hx;have b1:l<s1.heap.objs.size:=by obtain⟨o,n,e,_⟩:=pl1;exact Heap.lt_size e
 refine call_enumerate_list pl1.isList fun h1 z1 z2 z3 z7=>?_
 refine wpAny_pyIter_enum z1 ?_;have hfp:∀b∈[s1.heap.objs.size+1,s1.heap.objs.size],s1.heap.objs.size<=b:=fun b hb=>by
  simp only[hAf,hCh,or_false]at hb;rcases hb with rfl|rfl
  ·exact hCb _ _
  ·exact hA7 _
 refine⟨s1.heap.objs.size+1,[s1.heap.objs.size+1,s1.heap.objs.size],
  fun i h=>(∃old,IsEnum h (s1.heap.objs.size+1) s1.heap.objs.size i old)/\h.IsListIter s1.heap.objs.size l i,
  _,H1,rfl,I1.kept (t':=s1.toks) z7,
  qHj (s1.heap.objs.size+1) _ [s1.heap.objs.size+1,s1.heap.objs.size,l] [s1.heap.objs.size+1,s1.heap.objs.size] _ _ _ _ (by simp) (fun b hb=>hb) (fun i h st b hb=>?_) (fun i h h' st k=>?_) (fun i=>by show 2<=sizeLine;decide) ?_ (fun A i s' Q E st hQ=>by
   obtain⟨⟨old,he⟩,_⟩:=st;exact wpAny_pyIter_enum he hQ),
  ⟨⟨_,z1⟩,z2⟩,fun b hb=>I1.fpOk (hfp b hb) (I1.hok.fresh (hfp b hb)),q⟩
 ·obtain⟨⟨old,a1⟩,⟨o4,a4,c4,d4⟩⟩:=st;simp only[hAf,hCh,or_false]at hb;rcases hb with rfl|rfl
  ·exact⟨_,a1,fun v z=>by cases z⟩
  ·exact⟨_,a4,fun v z=>by rw[d4]at z;cases z⟩
 ·obtain⟨⟨old,a1⟩,a4⟩:=st;exact⟨⟨old,k _ (by simp) _ a1⟩,a4.at fun o e=>k _ (by simp) o e⟩
 ·intro X' hP hw hK hc pins' s' σ' H' I' hL;rw[<-hK]at hL;obtain⟨jt1,sv1,ql1,_⟩:=I'.list hL;have m1:=sv1.length;have ne1:l≠s1.heap.objs.size:=hAp b1;have Wz:=WalksT.enumerateD (A:=X'.A) (Draws.list (prog:=X.prog) (w:=X.w) (A:=X'.A.in1) (I'.ok.hd hc) s1.heap.objs.size l ne1 jt1.toArray) (s1.heap.objs.size+1) (Nat.succ_ne_self _) (fun z=>by
   simp only[hAf,hCh,or_false]at z;rcases z with z|z
   ·exact Nat.succ_ne_self _ z
   ·exact absurd b1 (by rw[<-z];exact Nat.not_lt_of_le (hBh _))) (by simp)
  rw[show jt1.toArray.size=xs.length by show jt1.length=_;rw[m1]]at Wz;refine⟨_,_,_,Wz,fun i st=>?_,fun i h st=>?_,fun i vals pv=>?_⟩
  ·exact⟨st.1,st.2,ql1.isList⟩
  ·exact⟨st.1,st.2.1⟩
  ·obtain⟨t,x,e1,rfl⟩:=pv;have e1:jt1[i]?=some x:=by simpa using e1
   have c1:i<xs.length:=by rw[m1];exact(hAk.mp e1).1
   obtain⟨u,d1,d2⟩:=sv1.get (hA2 c1);rw[e1]at d1;cases d1;show qBa [.int (i:Nat),xs.getD i .non] [.int i t,x];rw[hA8,hA2 c1];exact .cons ⟨t,rfl⟩ (.cons d2 .nil)
end
end L2
namespace My
open PySem L2
abbrev iV(n:Nat):V:=.int (n:Int)
def LsN(H:Hp)(a:Addr)(ms:List Nat):Prop:=H a=some (.lst (ms.map iV))
theorem qEx:bootBuiltins "min" = some (.builtin "min"):=by decide +kernel
theorem qCo:bootBuiltins "sum" = some (.builtin "sum"):=by decide +kernel
theorem qPy{as:List Str}{i:Nat}{x:V}(e:(as.map V.str)[i]?=some x):∃a,x = .str a/\as[i]?=some a:=by
 rw[hAe]at e;cases ha:as[i]? with
 |none=>rw[ha]at e;cases e
 |some a=>rw[ha]at e;exact⟨a,(hAm e).symm,rfl⟩
theorem qBk{as:List Addr}{i:Nat}{x:V}(e:(as.map V.ref)[i]?=some x):∃a,x = .ref a/\as[i]?=some a:=by
 rw[hAe]at e;cases ha:as[i]? with
 |none=>rw[ha]at e;cases e
 |some a=>rw[ha]at e;exact⟨a,(hAm e).symm,rfl⟩
theorem qBz{ms:List Nat}{i:Nat}{x:V}(e:(ms.map iV)[i]?=some x):∃n,x=iV n/\ms[i]?=some n:=by
 rw[hAe]at e;cases ha:ms[i]? with
 |none=>rw[ha]at e;cases e
 |some a=>rw[ha]at e;exact⟨a,(hAm e).symm,rfl⟩
theorem qB6(ms:List Nat):ms.map iV=(ms.map fun n:Nat=>(n:Int)).map V.int:=by rw[hB5];rfl
def qBu(names row:List Str):Nat:=names.foldl (fun m n=>2*m+(if n∈row then 1 else 0)) 0
theorem qFc(names row:List Str)(n:Str):qBu (names++[n]) row=2*qBu names row+(if n∈row then 1 else 0):=by unfold qBu;rw[hBk];rfl
theorem qGv(row:List Str)(names:List Str):∀j,(qBu names row).testBit j=(decide (j<names.length) && decide (∃n,names[names.length - 1 - j]?=some n/\n∈row)):=by
 refine qFz (P:=fun names=>∀j,(qBu names row).testBit j=(decide (j<names.length) && decide (∃n,names[names.length - 1 - j]?=some n/\n∈row))) (fun j=>by simp[qBu]) (fun l n ih j=>?_) names;rw[qFc,hAa];show _=(decide (j<l.length+1) && decide (∃m,(l++[n])[l.length+1 - 1 - j]?=some m/\m∈row));cases j with
 |zero =>
  rw[hAy,decide_eq_true (by omega:0<l.length+1),hCn];refine decide_eq_decide.mpr ?_;rw[show l.length+1 - 1 - 0=l.length by omega,List.getElem?_append_right (hA7 _)];simp;by_cases h:n∈row
  ·simp[h]
  ·simp[h]
 |succ j =>
  rw[hCd,show(2*qBu l row+(if n∈row then 1 else 0)) / 2=qBu l row by split <;> omega,ih j];by_cases hj:j<l.length
  ·rw[decide_eq_true hj,decide_eq_true (by omega:j+1<l.length+1),show l.length+1 - 1 - (j+1)=l.length - 1 - j by omega,List.getElem?_append_left (by omega)]
  ·rw[decide_eq_false hj,decide_eq_false (by omega:¬j+1<l.length+1)];rfl
theorem qUv(names row:List Str):qBu names row<2^names.length:=hC5 _ fun i hi=>by rw[qGv,decide_eq_false (by omega)];rfl
def qVn:Sp:=fun vs H Q _=>∃(pn pr:Addr) (names row:List Str),vs=[.ref pn,.ref pr]/\LsS H pn names/\LsS H pr row/\Q (iV (qBu names row)) H
def rowM(names:List Str)(x:Nat):List Str:=(List.range names.length).filterMap fun i=>if x.testBit (names.length - 1 - i)=true then names[i]? else none
def qP1:Sp:=fun vs H Q _=>∃(pn:Addr) (names:List Str) (x:Nat),vs=[.ref pn,iV x]/\LsS H pn names/\names.length<=12/\∀r H',Ext H H'->H r=none->LsS H' r (rowM names x)->Q (.ref r) H'
theorem qE3(x k:Nat):Builtin.bitAnd ((x:Int) / 2^k) 1=if x.testBit k=true then 1 else 0:=by
 have e:(x:Int) / 2^k=((x / 2^k:Nat):Int):=by rw[Int.natCast_ediv,Int.natCast_pow];rfl
 have e1:(1:Int)=((1:Nat):Int):=rfl;rw[e];show Builtin.bitAnd _ ((1:Nat):Int)=_;rw[qCb,Nat.and_one_is_mod,Nat.testBit_eq_decide_div_mod_eq];rcases hBq (x / 2^k) with h|h <;> rw[h] <;> rfl
def qMp:Sp:=fun vs H Q _=>∃(x:Nat) (p:Addr) (k:List Nat),vs=[iV x,.ref p]/\LsN H p k/\(∀s∈k,s≠0)/\Q (iV (red1 k x)) H
theorem qRm(x:Nat){s:Nat}(hs:s≠0):(if Builtin.bitXor (x:Int) (s:Int)<(x:Int) then Builtin.bitXor (x:Int) (s:Int) else (x:Int))=((rd1 x s:Nat):Int):=by
 rw[qBx,<-qYz x hs];by_cases h:x^^^s<x
 ·rw[if_pos h,if_pos (by omega)]
 ·rw[if_neg h,if_neg (by omega)]
def qP2:Sp:=fun vs H Q _=>∃(p:Addr) (ms:List Nat),vs=[.ref p]/\LsN H p ms/\ms.length<=24/\∀(r:Addr) (M:List Nat) (H':Hp),Ext H H'->H r=none->LsN H' r M->M.Perm (red ms)->M.Pairwise (fun a b=>b<=a)->Q (.ref r) H'
theorem qUc(k:List Nat)(x:Nat):(qPf k x).length<=k.length+1:=by
 unfold qPf;split
 ·omega
 ·rw[hAa,hA1];exact hA7 _
theorem qQ0(xs:List Nat):(red xs).length<=xs.length:=by
 refine qJe (P:=fun xs=>(red xs).length<=xs.length) (hA7 _) (fun l t ih=>?_) xs;rw[qEf,hAa];have:=qUc (red l) t;show _<=l.length+1;omega
section
variable{P:Program}{w:World}{K:PySem.W.Frag}{mg:Str->Option Value}{base:Heap}{f f1 f2:Addr}{fd fd1 fd2:FuncData}
abbrev maN:List Str:=["names","row","mask","name"]
theorem qFl:FnScope maN ["names","row"] (qAe qTz):=⟨rfl,rfl,rfl,by decide +kernel,rfl,by decide +kernel,by decide +kernel⟩
theorem qYa(F:Fun K "mask_of" "mask_of" qTz f fd):FnOk P w K mg base CX0 1 f fd ["names","row"] qVn:=by
 refine F.ok qFl (fun vs H Q E h=>?_) (fun cdv A outer s H vs Q E hr h=>?_)
 ·obtain⟨pn,pr,names,row,rfl,_⟩:=h;rfl
 obtain⟨pn,pr,names,row,rfl,hn,hw,q⟩:=h;refine⟨_,qAc (qAj (i:=2) qFl.nd rfl (Or.inl rfl) qAd)
  (qAc (qBb PassesOwn.never rfl (qAq (pv 0)) (qAg (i:=3) qFl.nd rfl (Or.inl rfl))
   (qAf (qAj (i:=2) qFl.nd rfl (Or.inl rfl) (qAh qA6 (qAh qDf qAd (pv 2)) (qDq (qAp qDg (pv 3) (pv 1) (by with_unfolding_all rfl)) qAd qAd)))))
  (qAf (qAt (pv 2)))),?_⟩
 refine⟨_,rfl,pn,rfl,⟨_,SqL.of hn⟩,?_⟩;refine qBm (xs:=names.map V.str) (fun i σ H'=>H'=H/\∃x3:Option V,σ=[some (.ref pn),some (.ref pr),some (iV (qBu (names.take i) row)),x3]) ⟨rfl,none,rfl⟩ (fun i σ H' _ h=>by rw[h.1];exact SqL.of hn) ?_ ?_
 ·rintro i x σ H' hx ⟨rfl,x3,rfl⟩;obtain⟨y,rfl,hy⟩:=qPy hx;refine⟨_,rfl,_,_,rfl,rfl,.inl ⟨by decide,by decide⟩,_,rfl,_,rfl,pr,_,rfl,.inl (SqL.of hw),rfl,qJ6 _,_,rfl,?_⟩;rw[if_neg (by decide),qLy];refine ite2 (fun c=>?_) (fun c=>?_)
  ·have c':y∈row:=by simpa using c
   refine⟨_,_,rfl,rfl,rfl,some (.str y),?_⟩;rw[show iV (qBu (names.take (i+1)) row)=V.int (2*((qBu (names.take i) row:Nat):Int)+1) by rw[qAm hy,qFc,if_pos c'];rfl];rfl
  ·have c':¬y∈row:=by simpa using c
   refine⟨_,_,rfl,rfl,rfl,some (.str y),?_⟩;rw[show iV (qBu (names.take (i+1)) row)=V.int (2*((qBu (names.take i) row:Nat):Int)+0) by rw[qAm hy,qFc,if_neg c'];rfl];rfl
 ·rintro σ H' ⟨rfl,x3,rfl⟩;rw[hA1,hA5 (hA7 _)];exact⟨_,rfl,q⟩
theorem qIe:FnScope ["names","mask","last"] ["names","mask"] (qAe qHn):=⟨rfl,rfl,rfl,by decide +kernel,rfl,by decide +kernel,by decide +kernel⟩
abbrev roN:List Str:=["at","name","mask","last"]
theorem qUi(F:Fun K "row_of" "row_of" qHn f fd)(ml:mg "len" = none)(me:mg "enumerate" = none):FnOk P w K mg base CX0 1 f fd ["names","mask"] qP1:=by
 refine F.ok qIe (fun vs H Q E h=>?_) (fun cdv A outer s H vs Q E hr h=>?_)
 ·obtain⟨pn,names,x,rfl,_⟩:=h;rfl
 obtain⟨pn,names,x,rfl,hn,ln,q⟩:=h;refine⟨_,qAc (qAj (i:=2) qIe.nd rfl (Or.inr rfl) (qAh qCu (qAk qAn rfl ml hAv (qAa (pv 0) qAb)) qAd))
  (qAf (qAt (qBf (N:=["names","mask","last"]) (sc:=qAe qHn) (N':=roN) (sub:=[none,none,some 1,some 2]) rfl rfl (CmpOk.of (by decide +kernel)) rfl (qD4 rfl me (qAa (pv 0) qAb))
   (fun C s H fp=>⟨(show PG _ _ (qZb K 2 _) from qB0 rfl (qAs (qAg (i:=0) (by show roN.Nodup;decide) rfl (Or.inl rfl)) (qAs (qAg (i:=1) (by show roN.Nodup;decide) rfl (Or.inl rfl)) qBe))),
    qBl (qAp qB1 (qAh qBr (qAh qFq (pv 2) (qAh qCu (pv 3) (pv 0))) qAd) qAd (qAu _)),pv 1⟩)))),?_⟩
 refine⟨_,rfl,pn,_,rfl,.inl (SqL.of hn),_,_,rfl,rfl,?_⟩;refine⟨_,rfl,pn,_,rfl,SqL.of hn,?_⟩;rw[hA1];refine qDa (fun i ys H'=>Ext H H'/\ys=((List.range i).filterMap fun i=>if x.testBit (names.length - 1 - i)=true then names[i]? else none).map V.str) ⟨Ext.refl _,rfl⟩ (fun i ys H' _ p=>SqL.of (p.1 _ _ hn)) ?_ ?_
 ·rintro i ys H' T hi ⟨e,rfl⟩ hT;have gd:(names.map V.str).getD i .non = .str names[i]:=by rw[hA8,hAe,hA2 hi];rfl
  have e2:=e.trans (Ext.new hT (.tup [V.int (i:Nat),(names.map V.str).getD i .non]));refine⟨T,_,rfl,SqT.of upd_same,rfl,_,_,rfl,_,_,rfl,rfl,?_⟩;refine⟨Sle.set _ (Sle.set _ (Sle.refl _) (fun u z=>by cases z)) (fun u z=>by cases z),?_⟩;have k:(((names.length:Nat):Int) - 1 - (i:Nat))=((names.length - 1 - i:Nat):Int):=by omega
  refine⟨_,rfl,_,rfl,_,rfl,_,_,rfl,rfl,_,_,rfl,rfl,(by show(0:Int)<=_;omega),_,_,rfl,rfl,rfl,_,rfl,?_⟩;have fm:((List.range (i+1)).filterMap fun i=>if x.testBit (names.length - 1 - i)=true then names[i]? else none)=((List.range i).filterMap fun i=>if x.testBit (names.length - 1 - i)=true then names[i]? else none)++(if x.testBit (names.length - 1 - i)=true then [names[i]] else []):=by
   rw[hCq,hCp];congr 1;by_cases b:x.testBit (names.length - 1 - i)=true
   ·simp[b,hA2 hi]
   ·simp[b]
  have sz:=hBp (fun i=>if x.testBit (names.length - 1 - i)=true then names[i]? else none) (List.range i);rw[hB0]at sz;have key:(decide (V.int (Builtin.bitAnd ((x:Int) / 2^(((names.length:Nat):Int) - 1 - (i:Nat)).toNat) 1)=V.int 1)=true)↔x.testBit (names.length - 1 - i)=true:=by
   rw[decide_eq_true_iff,V.int.injEq,k,hAz,qE3];by_cases b:x.testBit (names.length - 1 - i)=true
   ·simp[b]
   ·simp[b]
  refine ite2 (fun c=>?_) (fun c=>?_)
  ·have b:=key.mp c;refine⟨_,rfl,by rw[hA1];exact qAi (by omega),nxt hi ⟨e2,?_⟩⟩;rw[fm,if_pos b,hA3,gd];rfl
  ·have b:¬x.testBit (names.length - 1 - i)=true:=fun z=>c (key.mpr z)
   refine nxt hi ⟨e2,?_⟩;rw[fm,if_neg b,hCo]
 ·rintro ys H' ⟨e,rfl⟩ r hr';exact q r _ (e.trans (Ext.new hr' _)) (e.none hr') upd_same
theorem qQi:FnScope ["mask","kept","step"] ["mask","kept"] (qAe qXj):=⟨rfl,rfl,rfl,by decide +kernel,rfl,by decide +kernel,by decide +kernel⟩
theorem qYo(F:Fun K "lessened" "lessened" qXj f fd)(mmi:mg "min" = none):FnOk P w K mg base CX0 1 f fd ["mask","kept"] qMp:=by
 refine F.ok qQi (fun vs H Q E h=>?_) (fun cdv A outer s H vs Q E hr h=>?_)
 ·obtain⟨x,p,k,rfl,_⟩:=h;rfl
 obtain⟨x,p,k,rfl,hk,nz,q⟩:=h;refine⟨_,qAc (qBb PassesOwn.never rfl (qAq (pv 1)) (qAg (i:=2) qQi.nd rfl (Or.inl rfl))
   (qAf (qAj (i:=0) qQi.nd rfl (Or.inl rfl) (qAk (qEv rfl) rfl mmi qEx (qAa (pv 0) (qAa (qAh qCt (pv 0) (pv 2)) qAb))))))
  (qAf (qAt (pv 0))),?_⟩
 refine⟨_,rfl,p,rfl,⟨_,SqL.of hk⟩,?_⟩;refine qBm (xs:=k.map iV) (fun i σ H'=>H'=H/\∃x2:Option V,σ=[some (iV (red1 (k.take i) x)),some (.ref p),x2]) ⟨rfl,none,rfl⟩ (fun i σ H' _ h=>by rw[h.1];exact SqL.of hk) ?_ ?_
 ·rintro i v σ H' hx ⟨rfl,x2,rfl⟩;obtain⟨s,rfl,hs⟩:=qBz hx;refine⟨_,rfl,_,rfl,_,rfl,_,_,rfl,rfl,_,_,rfl,rfl,some (iV s),?_⟩;rw[qRm _ (nz s (hAc hs)),show red1 (k.take (i+1)) x=rd1 (red1 (k.take i) x) s by rw[qAm hs];unfold red1;rw[hBk];rfl];rfl
 ·rintro σ H' ⟨rfl,x2,rfl⟩;rw[hA1,hA5 (hA7 _)];exact⟨_,rfl,q⟩
theorem qJg:FnScope ["masks","kept","mask","fresh"] ["masks"] (qAe qTy):=⟨rfl,rfl,rfl,by decide +kernel,rfl,by decide +kernel,by decide +kernel⟩
theorem qX9(F:Fun K "reduced" "reduced" qTy f fd)(G:Cl P w K mg base CX0 1 f1 fd1 ["mask","kept"] qMp "lessened")(mmi:mg "min" = none)(mso:mg "sorted" = none):FnOk P w K mg base CX0 2 f fd ["masks"] qP2:=by
 refine F.ok qJg (fun vs H Q E h=>?_) (fun cdv A outer s H vs Q E hr h=>?_)
 ·obtain⟨p,ms,rfl,_⟩:=h;rfl
 obtain⟨p,ms,rfl,hp,lm,q⟩:=h;refine⟨_,qAc (qAj (i:=1) qJg.nd rfl (Or.inl rfl) (qA4 qAb))
  (qAc (qBb PassesOwn.never rfl (qAq (pv 0)) (qAg (i:=2) qJg.nd rfl (Or.inl rfl))
   (qAc (qAj (i:=3) qJg.nd rfl (Or.inr rfl) (qAx G hr rfl .nil qAv (qAa (pv 2) (qAa (pv 1) qAb))))
   (qAf (qBi (qAp qE9 (pv 3) qAd (qAu _))
    (qAf (qAj (i:=1) qJg.nd rfl (Or.inl rfl) (qAh qB5 (qBf (N:=["masks","kept","mask","fresh"]) (sc:=qAe qTy) (N':=["step","fresh"]) (sub:=[none,some 3]) rfl rfl (CmpOk.of (by decide +kernel)) rfl (qAq (pv 1))
     (fun C s H fp=>⟨qAg (i:=0) (by show(["step","fresh"]:List Str).Nodup;decide) rfl (Or.inl rfl),qAz,qAk (qEv rfl) rfl mmi qEx (qAa (pv 0) (qAa (qAh qCt (pv 0) (pv 1)) qAb))⟩)) (qA4 (qAa (pv 3) qAb)))))
    qA1))))
  (qAf (qAt (qE7 rfl mso (qAa (pv 1) qAb))))),?_⟩
 refine⟨hAo _,fun ke ke0=>?_⟩;have X0:=Ext.new ke0 (.lst []);refine⟨_,rfl,p,rfl,⟨_,SqL.of (X0 _ _ hp)⟩,?_⟩;refine qBm (xs:=ms.map iV) (fun i σ H'=>∃(ke:Addr) (x2 x3:Option V),σ=[some (.ref p),some (.ref ke),x2,x3]/\Ext H H'/\LsN H' ke (red (ms.take i))) ⟨ke,none,none,rfl,X0,upd_same⟩ (fun i σ H' _ h=>by obtain⟨_,_,_,_,e,_⟩:=h;exact SqL.of (e _ _ hp)) ?_ ?_
 ·rintro i v σ H' hx ⟨ke,x2,x3,rfl,e,hk⟩;obtain⟨m,rfl,hm⟩:=qBz hx;have hi:i<ms.length:=qAy hm;have rr:=qEg (ms.take i);have lr:=qQ0 (ms.take i);rw[hAh]at lr;refine⟨_,rfl,_,rfl,m,ke,_,rfl,hk,rr.nz,?_⟩;have sn:red (ms.take (i+1))=qPf (red (ms.take i)) m:=by rw[qAm hm,qEf]
  refine⟨_,rfl,rfl,_,rfl,?_⟩;refine ite2 (fun c=>?_) (fun c=>?_)
  ·have c':red1 (red (ms.take i)) m≠0:=fun z=>by rw[z]at c;simp at c
   refine⟨_,rfl,ke,rfl,⟨_,SqL.of hk⟩,?_⟩;refine qAr (xs:=(red (ms.take i)).map iV) (fun j ys H2=>H2=H'/\ys=(((red (ms.take i)).take j).map fun s=>rd1 s (red1 (red (ms.take i)) m)).map iV) ⟨rfl,rfl⟩ (fun j ys H2 _ h=>by rw[h.1];exact SqL.of hk) ?_ ?_
   ·rintro j x ys H2 hx2 ⟨rfl,rfl⟩;obtain⟨s,rfl,hs⟩:=qBz hx2;have hj:=qAy hs;refine⟨Sle.set _ (Sle.refl _) (fun u z=>by cases z),iteT (B:=False) ⟨_,rfl,_,rfl,_,rfl,_,_,rfl,rfl,_,_,rfl,?_,nxt (qAy hx2) ⟨rfl,?_⟩⟩⟩
    ·rw[hA1,hA1,hAh];exact qAi (by omega)
    ·rw[qRm _ c',qAm hs,hA3,hA3];rfl
   ·rintro ys H2 ⟨rfl,rfl⟩ l hl;rw[hA1,hA5 (hA7 _)];have n1:=Ext.new hl (.lst (((red (ms.take i)).map fun s=>rd1 s (red1 (red (ms.take i)) m)).map iV));refine⟨_,rfl,(by show 1<=sizeLine;decide),fun l2 hl2=>?_⟩;have n2:=Ext.new hl2 (.lst [iV (red1 (red (ms.take i)) m)]);refine⟨l,l2,_,_,rfl,rfl,n2 _ _ upd_same,upd_same,?_,fun l3 hl3=>?_⟩
    ·rw[hA1,hA1];show _+1<=sizeLine;exact hB1 (qAi (by omega))
    ·refine⟨l3,_,_,rfl,((e.trans n1).trans n2).trans (Ext.new hl3 _),?_⟩;rw[sn];unfold qPf LsN;rw[if_neg c',upd_same,hA3];rfl
  ·have c':red1 (red (ms.take i)) m=0:=by
    have:(red1 (red (ms.take i)) m:Int)=0:=by simpa using c
    omega
   refine⟨ke,_,_,rfl,e,?_⟩;rw[sn];unfold qPf;rw[if_pos c'];exact hk
 ·rintro σ H' ⟨ke,x2,x3,rfl,e,hk⟩;rw[hA1,hA5 (hA7 _)]at hk;have lr:=qQ0 ms;refine⟨_,rfl,ke,(red ms).map (fun n:Nat=>(n:Int)),rfl,by rw[<-qB6];exact SqL.of hk,by rw[hA1];omega,fun r ns hr' pm od=>?_⟩;have od':ns.Pairwise fun a b=>a >= b:=od
  obtain⟨M,rfl⟩:∃M:List Nat,ns=M.map (fun n:Nat=>(n:Int)):=by
   refine⟨ns.map Int.toNat,?_⟩;rw[hB5];refine(List.map_id _).symm.trans (hBi fun a ha=>?_);obtain⟨n,_,rfl⟩:=hAg.mp (pm.mem_iff.mp ha);simp
  have pm':M.Perm (red ms):=by
   have:=pm.map Int.toNat;rw[hB5,hB5]at this;have idn:(Int.toNat∘fun n:Nat=>(n:Int))=id:=by funext n;simp
   rw[idn,List.map_id,List.map_id]at this;exact this
  refine q r M _ (e.trans (Ext.new hr' _)) (e.none hr') (by unfold LsN;rw[upd_same,qB6]) pm' ?_;rw[hC4]at od';exact hDr (fun {a b} h=>by omega) od'
end
theorem qCq:∀l:List Nat,(l.map fun n:Nat=>(n:Int)).sum=((l.sum:Nat):Int)
 |[]=>rfl
 |a :: l=>by rw[hB9,hD6,hD6,qCq l];omega
theorem qBt(p:Nat):(1:Int)*2^((p:Int)).toNat=((2^p:Nat):Int):=by
 rw[hAz,Int.one_mul,Int.natCast_pow];rfl
def qFi(H:Hp)(T:Addr)(names:List Str)(rows:List (List Str)):Prop:=∃a b,H T=some (.tup [.ref a,.ref b])/\LsS H a names/\qEz H b rows
theorem qFi.ext{H H':Hp}{T:Addr}{names:List Str}{rows:List (List Str)}(h:qFi H T names rows)(e:Ext H H'):qFi H' T names rows:=by
 obtain⟨a,b,h1,h2,h3⟩:=h;exact⟨a,b,e _ _ h1,e _ _ h2,h3.ext e⟩
def qPz:Sp:=fun vs H Q _=>∃(T:Addr) (names:List Str) (rows:List (List Str)),vs=[.ref T]/\qFi H T names rows/\rows.length<=24/\∀(r:Addr) (M:List Nat) (H':Hp),Ext H H'->H r=none->LsN H' r M->M.Perm (red (rows.map (qBu names)))->M.Pairwise (fun a b=>b<=a)->Q (.ref r) H'
def zC6(net:List Tr)(x:Str):List Str:=(net.filter fun t=>decide (t.2.1=x) != decide (t.2.2=x)).map (·.1)
section
variable{P:Program}{w:World}{K:PySem.W.Frag}{mg:Str->Option Value}{base:Heap}{f f1 f2 f3 f4:Addr}{fd fd1 fd2 fd3 fd4:FuncData}
theorem qK7:FnScope ["table","names","rows"] ["table"] (qAe qM0):=⟨rfl,rfl,rfl,by decide +kernel,rfl,by decide +kernel,by decide +kernel⟩
theorem qUg(F:Fun K "step_masks" "step_masks" qM0 f fd)(G1:Cl P w K mg base CX0 1 f1 fd1 ["names","row"] qVn "mask_of")
  (G2:Cl P w K mg base CX0 2 f2 fd2 ["masks"] qP2 "reduced"):FnOk P w K mg base CX0 3 f fd ["table"] qPz:=by
 refine F.ok qK7 (fun vs H Q E h=>?_) (fun cdv A outer s H vs Q E hr h=>?_)
 ·obtain⟨T,names,rows,rfl,_⟩:=h;rfl
 obtain⟨T,names,rows,rfl,⟨a,b,hT,ha,⟨as,hb,pr⟩⟩,lr,q⟩:=h;have hr1:=hr.mono (j:=1) (by decide);refine⟨_,qAc (qFn (pv 0) (qB0 rfl (qAs (qAg (i:=1) qK7.nd rfl (Or.inr rfl)) (qAs (qAg (i:=2) qK7.nd rfl (Or.inl rfl)) qBe))))
  (qAf (qAt (qAx G2 hr rfl .nil qAv (qAa (qBf (N:=["table","names","rows"]) (sc:=qAe qM0) (N':=["row","names"]) (sub:=[none,some 1]) rfl rfl (CmpOk.of (by decide +kernel)) rfl (qAq (pv 2))
   (fun C s H fp=>⟨qAg (i:=0) (by show(["row","names"]:List Str).Nodup;decide) rfl (Or.inl rfl),qAz,qAx G1 hr1 rfl .nil qAv (qAa (pv 1) (qAa (pv 0) qAb))⟩)) qAb)))),?_⟩
 have la:as.length=rows.length:=pr.length;refine⟨_,rfl,T,_,rfl,SqT.of hT,rfl,_,_,rfl,_,_,rfl,rfl,?_⟩;refine⟨_,rfl,b,rfl,⟨_,SqL.of hb⟩,?_⟩;refine qAr (xs:=as.map V.ref) (fun j ys H2=>H2=H/\ys=((rows.take j).map (qBu names)).map iV) ⟨rfl,rfl⟩ (fun j ys H2 _ h=>by rw[h.1];exact SqL.of hb) ?_ ?_
 ·rintro j v ys H2 hx ⟨rfl,rfl⟩;obtain⟨c,rfl,hc⟩:=qBk hx;obtain⟨rw1,hrw,hc1⟩:=qAw pr hc;have hj:=qAy hrw;refine⟨Sle.set _ (Sle.refl _) (fun u z=>by cases z),iteT (B:=False) ⟨_,rfl,_,rfl,a,c,names,rw1,rfl,ha,hc1,?_,nxt (qAy hx) ⟨rfl,?_⟩⟩⟩
  ·rw[hA1,hA1,hAh];exact qAi (by omega)
  ·rw[qAm hrw,hA3,hA3];rfl
 ·rintro ys H2 ⟨rfl,rfl⟩ l hl;rw[hA1,la,hA5 (hA7 _)];have n1:=Ext.new hl (.lst ((rows.map (qBu names)).map iV));refine⟨l,_,rfl,upd_same,by rw[hA1];exact lr,fun r M H1 e1 r0 hM pM dM=>?_⟩;exact q r M H1 (n1.trans e1) (n1.none r0) hM pM dM
end
theorem qPa(net:List Tr):∀S:Str->Prop,(∀t∈net,S t.2.1↔S t.2.2)->∀x y,qCh net x=qCh net y->(S x↔S y):=by
 refine qFz (P:=fun net=>∀S:Str->Prop,(∀t∈net,S t.2.1↔S t.2.2)->∀x y,qCh net x=qCh net y->(S x↔S y)) (fun S _ x y e=>?_) (fun l t ih S hS x y e=>?_) net
 ·have:x=y:=e;rw[this]
 have ih':=ih S fun u hu=>hS u (hAl _ hu)
 have hT:=hS t (by simp);rw[qEo]at e;have e':(if qCh l x=qCh l t.2.2 then qCh l t.2.1 else qCh l x)=(if qCh l y=qCh l t.2.2 then qCh l t.2.1 else qCh l y):=e;by_cases a:qCh l x=qCh l t.2.2
 ·by_cases b:qCh l y=qCh l t.2.2
  ·exact ih' x y (a.trans b.symm)
  ·rw[if_pos a,if_neg b]at e';exact(ih' x t.2.2 a).trans (hT.symm.trans (ih' t.2.1 y e'))
 ·by_cases b:qCh l y=qCh l t.2.2
  ·rw[if_neg a,if_pos b]at e';exact(ih' x t.2.1 e').trans (hT.trans (ih' t.2.2 y b.symm))
  ·rw[if_neg a,if_neg b]at e';exact ih' x y e'
def ixF(ps:List Str)(x:Str):Nat:=ps.findIdx fun y=>decide (y=x)
theorem qD0{ps:List Str}{x:Str}(h:x∈ps):ps[ixF ps x]?=some x/\(∀k,k<ixF ps x->ps[k]?≠some x)/\ixF ps x<ps.length:=by
 have lt:ixF ps x<ps.length:=List.findIdx_lt_length_of_exists ⟨x,h,by simp⟩;have at_:ps[ixF ps x]=x:=by
  have:=List.findIdx_getElem (w:=lt);exact of_decide_eq_true this
 refine⟨by rw[hA2 lt,at_],fun k hk e=>?_,lt⟩;have:=List.not_of_lt_findIdx hk;have kl:k<ps.length:=Nat.lt_trans hk lt;rw[hA2 kl]at e;have e':=hAm e;simp[e']at this
def vT(ps:List Str)(t:Tr):Nat:=2^ixF ps t.2.1^^^2^ixF ps t.2.2
def vF(net:List Tr)(ps:List Str)(i:Nat):Nat:=match net[i]? with|some t=>vT ps t|none=>0
theorem qPm{net:List Tr}{ps:List Str}{i:Nat}{t:Tr}(h:net[i]?=some t):vF net ps i=vT ps t:=by unfold vF;rw[h]
def phi(M:Nat)(Z:Nat->Bool)(z:Nat):Bool:=xsum M fun q=>z.testBit q && Z q
theorem qIo(M:Nat)(Z:Nat->Bool)(x y:Nat):phi M Z (x^^^y)=(phi M Z x ^^ phi M Z y):=by
 unfold phi;rw[<-qMd];refine qDl fun j _=>?_
 rw[hAs];cases x.testBit j <;> cases y.testBit j <;> cases Z j <;> rfl
theorem qIn(M:Nat)(Z:Nat->Bool):phi M Z 0=false:=by
 unfold phi;rw[qDl (g:=fun _=>false) fun j _=>by simp,qE0]
theorem qX3{M p:Nat}{Z:Nat->Bool}(h:p<M):phi M Z (2^p)=Z p:=by
 unfold phi;rw[qH1 (l:=p) fun j _ ne=>by rw[hAw,decide_eq_false (fun z=>ne z.symm)];rfl,hAw];simp[h]
theorem qWe(M:Nat)(Z:Nat->Bool)(V:Nat->Nat):∀m y:Nat,phi M Z (bd V m y)=xsum m fun j=>y.testBit j && phi M Z (V j)
 |0,y=>by show phi M Z 0=false;exact qIn M Z
 |m+1,y=>by
  show phi M Z (bd V m y^^^_)=(xsum m _ ^^ (y.testBit m && phi M Z (V m)));rw[qIo,qWe M Z V m y];cases y.testBit m
  ·simp[qIn]
  ·simp
theorem qU9{net:List Tr}{ps:List Str}(hp:∀x,zBc net x->x∈ps){i m:Nat}{K:List (Nat×Nat)}{F:List Nat}(h:EIv (vF net ps) m i K F)(hi:i<m){t:Tr}(ht:net[i]?=some t) :
  (el K (vF net ps i,2^i)).1=0↔qCh (net.take i) t.2.1=qCh (net.take i) t.2.2:=by
 have tm:=hAc ht;have pa:t.2.1∈ps:=hp _ ⟨t,tm,.inl rfl⟩;have pb:t.2.2∈ps:=hp _ ⟨t,tm,.inr rfl⟩;have il:i<net.length:=qAy ht;have got:∀j,j<i->∃u,net[j]?=some u/\u∈net.take i/\u∈net:=fun j hj=>by
  have jl:j<net.length:=by omega
  refine⟨net[j],hA2 jl,?_,hBs jl⟩;refine hAc (i:=j) ?_;rw[List.getElem?_take,if_pos hj,hA2 jl]
 constructor
 ·intro r0;refine Classical.byContradiction fun ne=>?_
  obtain⟨a,b,c,d,_⟩:=h.run hi;have c':(el K (vF net ps i,2^i)).2^^^2^i<2^i:=Spn.lt (fun x hx=>by
   obtain⟨f,hf,rfl⟩:=hAg.mp hx;exact h.kl f hf) b
  have e:(el K (vF net ps i,2^i)).1=bd (vF net ps) m ((el K (vF net ps i,2^i)).2^^^2^i)^^^vF net ps i:=by
   rw[qDk,qOk hi,<-a,qA9]
  have Zix:∀ {x:Str},x∈ps->phi ps.length (fun q=>decide (qCh (net.take i) (ps.getD q "")=qCh (net.take i) t.2.1)) (2^ixF ps x)=decide (qCh (net.take i) x=qCh (net.take i) t.2.1):=fun {x} hx=>by
   obtain⟨h1,_,h3⟩:=qD0 hx;rw[qX3 h3];show decide (qCh (net.take i) (ps.getD (ixF ps x) "")=_)=_;rw[hA8,h1];rfl
  have p0:=congrArg (phi ps.length (fun q=>decide (qCh (net.take i) (ps.getD q "")=qCh (net.take i) t.2.1))) e;rw[r0,qIn,qIo,qWe]at p0;have z1:(xsum m fun j=>((el K (vF net ps i,2^i)).2^^^2^i).testBit j && phi ps.length (fun q=>decide (qCh (net.take i) (ps.getD q "")=qCh (net.take i) t.2.1)) (vF net ps j))=false:=by
   rw[qDl (g:=fun _=>false) fun j _=>?_,qE0];by_cases hj:j<i
   ·obtain⟨u,hu,hu2,hu3⟩:=got j hj;rw[qPm hu];unfold vT;rw[qIo,Zix (hp _ ⟨u,hu3,.inl rfl⟩),Zix (hp _ ⟨u,hu3,.inr rfl⟩),qU2 (net.take i) u hu2];simp
   ·rw[qJb c' (by omega)];rfl
  rw[z1,qPm ht]at p0;unfold vT at p0;rw[qIo,Zix pa,Zix pb,decide_eq_true rfl,decide_eq_false (fun z=>ne z.symm)]at p0;cases p0
 ·intro e;have S:=qPa (net.take i) (fun z=>∃y,y<2^i/\bd (vF net ps) m y=2^ixF ps t.2.1^^^2^ixF ps z) (fun u hu=>by
   obtain⟨j,hj,ej⟩:=List.getElem_of_mem hu;have ji:j<i:=by rw[hAh]at hj;omega
   have uj:net[j]?=some u:=by
    have:(net.take i)[j]?=some u:=by rw[hA2 hj,ej]
    rw[List.getElem?_take,if_pos ji]at this;exact this
   have jm:j<m:=by omega
   have b:bd (vF net ps) m (2^j)=2^ixF ps u.2.1^^^2^ixF ps u.2.2:=by rw[qOk jm,qPm uj];rfl
   have pj:2^j<2^i:=Nat.pow_lt_pow_right (by decide) ji;constructor
   ·rintro⟨y,hy,ey⟩;refine⟨y^^^2^j,hC8 hy pj,?_⟩;rw[qDk,ey,b,<-hC0,qA9]
   ·rintro⟨y,hy,ey⟩;refine⟨y^^^2^j,hC8 hy pj,?_⟩;rw[qDk,ey,b,hDp (2^ixF ps u.2.1),<-hC0,qA9]) t.2.1 t.2.2 e
  obtain⟨y,hy,ey⟩:=S.mp ⟨0,Nat.pow_pos (by decide),by rw[qG8,hCy]⟩;exact h.none hi hy (by rw[ey,qPm ht];rfl)
theorem qSg{net:List Tr}{ps:List Str}(hp:∀x,zBc net x->x∈ps){i m:Nat}{K:List (Nat×Nat)}{F:List Nat}(h:EIv (vF net ps) m i K F)(hi:i<m){t:Tr}(ht:net[i]?=some t)(hk:K.length=(qF2 (net.take i)).length) :
  if (el K (vF net ps i,2^i)).1=0 then K.length=(qF2 (net.take (i+1))).length else (K++[el K (vF net ps i,2^i)]).length=(qF2 (net.take (i+1))).length:=by
 have e:=qU9 hp h hi ht;rw[qAm ht,qHg];unfold qTh;rw[qR9];split
 ·rename_i z;rw[if_pos (e.mp z)];exact hk
 ·rename_i z;rw[if_neg (fun w=>z (e.mpr w)),hAa,hAa,hk];rfl
def qHl:Sp:=fun vs H Q _=>∃(p:Addr) (ms:List Nat) (m:Nat),vs=[.ref p]/\LsN H p ms/\ms.length<=300/\(∀x∈ms,x<2^m)/\∀r H',Ext H H'->H r=none->LsN H' r (redL ms)->Q (.ref r) H'
theorem qOz(k:List Nat)(s x:Nat):redL1 (k++[s]) x=rdL (redL1 k x) s:=by unfold redL1;rw[hBk];rfl
theorem qD3(xs:List Nat):(redL xs).length<=xs.length:=by
 refine qJe (P:=fun xs=>(redL xs).length<=xs.length) (hA7 _) (fun l t ih=>?_) xs;rw[qGh,hAa];unfold qLj;split
 ·exact hAq ih (hCb _ _)
 ·rw[hAa,hA1];exact Nat.add_le_add_right ih _
def qOm(H:Hp)(p:Addr)(K:List (Nat×Nat)):Prop:=∃as:List Addr,H p=some (.lst (as.map V.ref))/\Paired (fun a f=>H a=some (.tup [iV f.1,iV f.2])) as K
def qKz:Sp:=fun vs H Q _=>∃(p:Addr) (net:List Tr),vs=[.ref p]/\qD7 H p net/\net.length<=12/\∀(r:Addr) (F:List Nat) (K:List (Nat×Nat)) (ps:List Str) (H':Hp),Ext H H'->H r=none->LsN H' r F->qPd net ps->EIv (vF net ps) net.length net.length K F->K.length=(qF2 net).length->Q (.ref r) H'
def rowL(names:List Str)(x:Nat):List Str:=(List.range names.length).filterMap fun i=>if x.testBit i=true then names[i]? else none
def qP7:Sp:=fun vs H Q _=>∃(pn:Addr) (names:List Str) (x:Nat),vs=[.ref pn,iV x]/\LsS H pn names/\names.length<=12/\∀r H',Ext H H'->H r=none->LsS H' r (rowL names x)->Q (.ref r) H'
theorem qZd(k:List (Nat×Nat))(f v:Nat×Nat):el (k++[f]) v=el1 (el k v) f:=by unfold el;rw[hBk];rfl
section
variable{P:Program}{w:World}{K:PySem.W.Frag}{mg:Str->Option Value}{base:Heap}{f f1 f2 f3 f4:Addr}{fd fd1 fd2 fd3 fd4:FuncData}
abbrev lrN:List Str:=["_law_numbers","_law_rows","_law_number","_law_row_here","_law_lead"]
abbrev lrC:List Str:=["_law_row_here","_law_number","_law_lead"]
theorem qGb:FnScope lrN ["_law_numbers"] (qAe qT3):=⟨rfl,rfl,rfl,by decide +kernel,rfl,by decide +kernel,by decide +kernel⟩
theorem qYg(F:Fun K "_law_reduced" "_law_reduced" qT3 f fd):FnOk P w K mg base CX0 1 f fd ["_law_numbers"] qHl:=by
 refine F.ok qGb (fun vs H Q E h=>?_) (fun cdv A outer s H vs Q E hr h=>?_)
 ·obtain⟨p,ms,m,rfl,_⟩:=h;rfl
 obtain⟨p,ms,m,rfl,hp,lm,lt,q⟩:=h;refine⟨_,qAc (qAj (i:=1) qGb.nd rfl (Or.inl rfl) (qA4 qAb))
  (qAc (qBb PassesOwn.never rfl (qAq (pv 0)) (qAg (i:=2) qGb.nd rfl (Or.inr rfl))
   (qAc (qBb PassesOwn.never rfl (qAq (pv 1)) (qAg (i:=3) qGb.nd rfl (Or.inl rfl))
    (qAf (qBi (qAp qE9 (qAh qBr (qAh qBr (pv 2) (pv 3)) (qLk qHh (pv 3))) qAd (qAu _)) (qAf (qAj (i:=2) qGb.nd rfl (Or.inr rfl) (qAh qCt (pv 2) (pv 3)))) qA1)))
   (qAf (qBi (qAp qE9 (pv 2) qAd (qAu _))
    (qAc (qAj (i:=4) qGb.nd rfl (Or.inr rfl) (qAh qBr (pv 2) (qLk qHh (pv 2))))
    (qAf (qAj (i:=1) qGb.nd rfl (Or.inl rfl) (qAh qB5 (qBf (N:=lrN) (sc:=qAe qT3) (N':=lrC) (sub:=[none,some 2,some 4]) rfl rfl (CmpOk.of (by decide +kernel)) rfl (qAq (pv 1))
     (fun C s H fp=>⟨qAg (i:=0) (by show lrC.Nodup;decide) rfl (Or.inl rfl),qAz,qDq (qAp qE9 (qAh qBr (pv 0) (pv 2)) qAd (qAu _)) (qAh qCt (pv 0) (pv 1)) (pv 0)⟩)) (qA4 (qAa (pv 2) qAb))))))
    qA1))))
  (qAf (qAt (pv 1)))),?_⟩
 refine⟨hAo _,fun ro ro0=>?_⟩;have X0:=Ext.new ro0 (.lst []);refine⟨_,rfl,p,rfl,⟨_,SqL.of (X0 _ _ hp)⟩,?_⟩;refine qBm (xs:=ms.map iV) (fun i σ H'=>∃(ro:Addr) (x2 x3 x4:Option V),σ=[some (.ref p),some (.ref ro),x2,x3,x4]/\Ext H H'/\H ro=none/\LsN H' ro (redL (ms.take i))) ⟨ro,none,none,none,rfl,X0,ro0,upd_same⟩ (fun i σ H' _ h=>by obtain⟨_,_,_,_,_,e,_⟩:=h;exact SqL.of (e _ _ hp)) ?_ ?_
 ·rintro i v σ H' hx ⟨ro,x2,x3,x4,rfl,e,ro0,hk⟩;obtain⟨n,rfl,hn⟩:=qBz hx;have hi:i<ms.length:=qAy hn;have nl:=lt n (hAc hn);obtain⟨gm,_⟩:=qE5 (m:=m) (ms.take i) fun x hx=>lt x (hDc hx)
  have lr:=qD3 (ms.take i);rw[hAh]at lr;have sn:redL (ms.take (i+1))=qLj (redL (ms.take i)) n:=by rw[qAm hn,qGh]
  refine⟨_,rfl,ro,rfl,⟨_,SqL.of hk⟩,?_⟩;refine qBm (xs:=(redL (ms.take i)).map iV) (fun j σ H2=>H2=H'/\∃x3:Option V,σ=[some (.ref p),some (.ref ro),some (iV (redL1 ((redL (ms.take i)).take j) n)),x3,x4]) ⟨rfl,x3,rfl⟩ (fun j σ H2 _ h=>by rw[h.1];exact SqL.of hk) ?_ ?_
  ·rintro j v σ H2 hx2 ⟨rfl,x3,rfl⟩;obtain⟨s,rfl,hs⟩:=qBz hx2;have snz:=(gm s (hAc hs)).2;have st:redL1 ((redL (ms.take i)).take (j+1)) n=rdL (redL1 ((redL (ms.take i)).take j) n) s:=by rw[qAm hs,qOz]
   refine⟨_,rfl,_,rfl,_,_,rfl,rfl,_,rfl,_,rfl,_,_,rfl,rfl,rfl,_,rfl,?_⟩;have lt2:=qNq (redL1 ((redL (ms.take i)).take j) n) snz;have key:((!decide (V.int (Builtin.bitAnd (Builtin.bitAnd ((redL1 ((redL (ms.take i)).take j) n:Nat):Int) (s:Int)) (-(s:Int)))=V.int 0))=true)↔(redL1 ((redL (ms.take i)).take j) n).testBit (lo s)=true:=by
    rw[<-lt2];simp
   refine ite2 (fun c=>?_) (fun c=>?_)
   ·refine⟨_,rfl,_,rfl,_,_,rfl,rfl,rfl,some (iV s),?_⟩;rw[st,show rdL (redL1 ((redL (ms.take i)).take j) n) s=redL1 ((redL (ms.take i)).take j) n^^^s from if_pos (key.mp c),show iV (redL1 ((redL (ms.take i)).take j) n^^^s)=V.int (Builtin.bitXor ((redL1 ((redL (ms.take i)).take j) n:Nat):Int) (s:Int)) by rw[qBx]];rfl
   ·refine⟨rfl,some (iV s),?_⟩;rw[st,show rdL (redL1 ((redL (ms.take i)).take j) n) s=redL1 ((redL (ms.take i)).take j) n from if_neg fun z=>c (key.mpr z)];rfl
  ·rintro σ H2 ⟨rfl,x3,rfl⟩;rw[hA1,hA5 (hA7 _)];refine⟨_,rfl,rfl,_,rfl,?_⟩;refine ite2 (fun c=>?_) (fun c=>?_)
   ·have nz:redL1 (redL (ms.take i)) n≠0:=fun z=>by rw[z]at c;simp at c
    have lb:=qLu nz;refine⟨_,rfl,_,rfl,_,rfl,_,_,rfl,rfl,?_⟩;refine⟨_,rfl,ro,rfl,⟨_,SqL.of hk⟩,?_⟩;refine qAr (xs:=(redL (ms.take i)).map iV) (fun j ys H3=>H3=H2/\ys=(((redL (ms.take i)).take j).map fun s=>rdL s (redL1 (redL (ms.take i)) n)).map iV) ⟨rfl,rfl⟩ (fun j ys H3 _ h=>by rw[h.1];exact SqL.of hk) ?_ ?_
    ·rintro j v ys H3 hx3 ⟨rfl,rfl⟩;obtain⟨s,rfl,hs⟩:=qBz hx3;have hj:=qAy hs;have sz:((((redL (ms.take i)).take j).map fun s=>rdL s (redL1 (redL (ms.take i)) n)).map iV).length<sizeLine:=by
      rw[hA1,hA1,hAh];exact qAi (by omega)
     have ap:=qZk s (lo (redL1 (redL (ms.take i)) n));have key:((!decide (V.int (Builtin.bitAnd (s:Int) (Builtin.bitAnd ((redL1 (redL (ms.take i)) n:Nat):Int) (-((redL1 (redL (ms.take i)) n:Nat):Int))))=V.int 0))=true)↔s.testBit (lo (redL1 (redL (ms.take i)) n))=true:=by
      rw[lb,qCb,<-ap];simp
     refine⟨Sle.set _ (Sle.refl _) (fun u z=>by cases z),iteT (B:=False) ?_⟩;refine⟨_,rfl,_,rfl,_,_,rfl,rfl,rfl,_,rfl,?_⟩;refine ite2 (fun c3=>?_) (fun c3=>?_)
     ·refine⟨_,rfl,_,rfl,_,_,rfl,rfl,sz,nxt (qAy hx3) ⟨rfl,?_⟩⟩;rw[qAm hs,hA3,hA3,hCt,hCt,show rdL s (redL1 (redL (ms.take i)) n)=s^^^redL1 (redL (ms.take i)) n from if_pos (key.mp c3),show iV (s^^^redL1 (redL (ms.take i)) n)=V.int (Builtin.bitXor (s:Int) ((redL1 (redL (ms.take i)) n:Nat):Int)) by rw[qBx]]
     ·refine⟨_,rfl,sz,nxt (qAy hx3) ⟨rfl,?_⟩⟩;rw[qAm hs,hA3,hA3,hCt,hCt,show rdL s (redL1 (redL (ms.take i)) n)=s from if_neg fun z=>c3 (key.mpr z)]
    ·rintro ys H3 ⟨rfl,rfl⟩ l1 hl1;rw[hA1,hA5 (hA7 _)];have n1:=Ext.new hl1 (.lst (((redL (ms.take i)).map fun s=>rdL s (redL1 (redL (ms.take i)) n)).map iV));refine⟨_,rfl,(by show 1<=sizeLine;decide),fun l2 hl2=>?_⟩;have n2:=Ext.new hl2 (.lst [iV (redL1 (redL (ms.take i)) n)]);refine⟨l1,l2,_,_,rfl,rfl,n2 _ _ upd_same,upd_same,?_,fun l3 hl3=>?_⟩
     ·rw[hA1,hA1];show _+1<=sizeLine;exact hB1 (qAi (by omega))
     ·refine⟨l3,_,_,_,rfl,((e.trans n1).trans n2).trans (Ext.new hl3 _),((e.trans n1).trans n2).none hl3,?_⟩;rw[sn];unfold qLj LsN;rw[if_neg nz,upd_same,hA3];rfl
   ·have z:redL1 (redL (ms.take i)) n=0:=by
     have:(redL1 (redL (ms.take i)) n:Int)=0:=by simpa using c
     omega
    refine⟨ro,_,_,_,rfl,e,ro0,?_⟩;rw[sn];unfold qLj;rw[if_pos z];exact hk
 ·rintro σ H' ⟨ro,x2,x3,x4,rfl,e,ro0,hk⟩;rw[hA1,hA5 (hA7 _)]at hk;exact⟨_,rfl,q ro _ e ro0 hk⟩
theorem qZ9:FnScope ["_law_names_here","_law_number"] ["_law_names_here","_law_number"] (qAe qT2):=⟨rfl,rfl,rfl,by decide +kernel,rfl,by decide +kernel,by decide +kernel⟩
abbrev lwN:List Str:=["_law_k","_law_name","_law_number"]
theorem qYe(F:Fun K "_law_row" "_law_row" qT2 f fd)(me:mg "enumerate" = none):FnOk P w K mg base CX0 1 f fd ["_law_names_here","_law_number"] qP7:=by
 refine F.ok qZ9 (fun vs H Q E h=>?_) (fun cdv A outer s H vs Q E hr h=>?_)
 ·obtain⟨pn,names,x,rfl,_⟩:=h;rfl
 obtain⟨pn,names,x,rfl,hn,ln,q⟩:=h;refine⟨_,qAf (qAt (qBf (N:=["_law_names_here","_law_number"]) (sc:=qAe qT2) (N':=lwN) (sub:=[none,none,some 1]) rfl rfl (CmpOk.of (by decide +kernel)) rfl (qD4 rfl me (qAa (pv 0) qAb))
   (fun C s H fp=>⟨(show PG _ _ (qZb K 2 _) from qB0 rfl (qAs (qAg (i:=0) (by show lwN.Nodup;decide) rfl (Or.inl rfl)) (qAs (qAg (i:=1) (by show lwN.Nodup;decide) rfl (Or.inl rfl)) qBe))),
    qBl (qAp qB1 (qAh qBr (qAh qFq (pv 2) (pv 0)) qAd) qAd (qAu _)),pv 1⟩))),?_⟩
 refine⟨_,rfl,pn,_,rfl,SqL.of hn,?_⟩;rw[hA1];refine qDa (fun i ys H'=>Ext H H'/\ys=((List.range i).filterMap fun i=>if x.testBit i=true then names[i]? else none).map V.str) ⟨Ext.refl _,rfl⟩ (fun i ys H' _ p=>SqL.of (p.1 _ _ hn)) ?_ ?_
 ·rintro i ys H' T hi ⟨e,rfl⟩ hT;have gd:(names.map V.str).getD i .non = .str names[i]:=by rw[hA8,hAe,hA2 hi];rfl
  have e2:=e.trans (Ext.new hT (.tup [V.int (i:Nat),(names.map V.str).getD i .non]));refine⟨T,_,rfl,SqT.of upd_same,rfl,_,_,rfl,_,_,rfl,rfl,?_⟩;refine⟨Sle.set _ (Sle.set _ (Sle.refl _) (fun u z=>by cases z)) (fun u z=>by cases z),?_⟩;refine⟨_,rfl,_,rfl,_,_,rfl,rfl,(by show(0:Int)<=_;omega),_,_,rfl,rfl,rfl,_,rfl,?_⟩;have fm:((List.range (i+1)).filterMap fun i=>if x.testBit i=true then names[i]? else none)=((List.range i).filterMap fun i=>if x.testBit i=true then names[i]? else none)++(if x.testBit i=true then [names[i]] else []):=by
   rw[hCq,hCp];congr 1;by_cases b:x.testBit i=true
   ·simp[b,hA2 hi]
   ·simp[b]
  have sz:=hBp (fun i=>if x.testBit i=true then names[i]? else none) (List.range i);rw[hB0]at sz;have key:(decide (V.int (Builtin.bitAnd ((x:Int) / 2^(((i:Nat):Int)).toNat) 1)=V.int 1)=true)↔x.testBit i=true:=by
   rw[decide_eq_true_iff,V.int.injEq,hAz,qE3];by_cases b:x.testBit i=true
   ·simp[b]
   ·simp[b]
  refine ite2 (fun c=>?_) (fun c=>?_)
  ·have b:=key.mp c;refine⟨_,rfl,by rw[hA1];exact qAi (by omega),nxt hi ⟨e2,?_⟩⟩;rw[fm,if_pos b,hA3,gd];rfl
  ·have b:¬x.testBit i=true:=fun z=>c (key.mpr z)
   refine nxt hi ⟨e2,?_⟩;rw[fm,if_neg b,hCo]
 ·rintro ys H' ⟨e,rfl⟩ r hr';exact q r _ (e.trans (Ext.new hr' _)) (e.none hr') upd_same
end
theorem qOm.ext{H H':Hp}{p:Addr}{K:List (Nat×Nat)}(h:qOm H p K)(e:Ext H H'):qOm H' p K:=by
 obtain⟨as,h1,h2⟩:=h;exact⟨as,e _ _ h1,Paired.mapP h2 fun a t z=>e _ _ z⟩
section
variable{P:Program}{w:World}{K:PySem.W.Frag}{mg:Str->Option Value}{base:Heap}{f f1 f2 f3 f4:Addr}{fd fd1 fd2 fd3 fd4:FuncData}
abbrev leN:List Str:=["_law_net_here","_law_knots","_law_kept","_law_found","_law_place","_law_tie","_law_ends_here","_law_mine","_law_far","_law_more"]
theorem qCe:FnScope leN ["_law_net_here"] (qAe qJl):=⟨rfl,rfl,rfl,by decide +kernel,rfl,by decide +kernel,by decide +kernel⟩
theorem qUp(F:Fun K "_law_even" "_law_even" qJl f fd)(mso:mg "sorted" = none)(mst:mg "set" = none)(me:mg "enumerate" = none):FnOk P w K mg base CX0 1 f fd ["_law_net_here"] qKz:=by
 refine F.ok qCe (fun vs H Q E h=>?_) (fun cdv A outer s H vs Q E hr h=>?_)
 ·obtain⟨p,net,rfl,_⟩:=h;rfl
 obtain⟨p,net,rfl,⟨as,hp,pr⟩,hl,q⟩:=h;refine⟨_,qAc (qHr (fun σ H1=>∃(kn:Addr) (ps:List Str),σ=[some (.ref p),some (.ref kn),none,none,none,none,none,none,none,none]/\Ext H H1/\LsS H1 kn ps/\qPd net ps/\ps.length<=24) (qAj (i:=1) qCe.nd rfl (Or.inl rfl) (qAk (qHe rfl) rfl mso qBj (qAa (qBn (qS0 rfl) rfl mst qS4 (qAa (qAh qB5
  (qBf (N:=leN) (sc:=qAe qJl) (N':=["_law_tie"]) (sub:=[none]) rfl rfl (CmpOk.of (by decide +kernel)) rfl (qAq (pv 0)) (fun C s H fp=>⟨qAg (i:=0) (by show(["_law_tie"]:List Str).Nodup;decide) rfl (Or.inl rfl),qAz,qBg (show IxR _ (qO0 K) from qBs) (pv 0) qAd (fun _ _=>rfl)⟩))
  (qBf (N:=leN) (sc:=qAe qJl) (N':=["_law_tie"]) (sub:=[none]) rfl rfl (CmpOk.of (by decide +kernel)) rfl (qAq (pv 0)) (fun C s H fp=>⟨qAg (i:=0) (by show(["_law_tie"]:List Str).Nodup;decide) rfl (Or.inl rfl),qAz,qBg (show IxR _ (qO0 K) from qBs) (pv 0) qAd (fun _ _=>rfl)⟩))) qAb)) qAb))))
  (qAc (qAj (i:=2) qCe.nd rfl (Or.inl rfl) (qA4 qAb))
  (qAc (qAj (i:=3) qCe.nd rfl (Or.inl rfl) (qA4 qAb))
  (qAc (qBb PassesOwn.never rfl (qD4 rfl me (qAa (pv 0) qAb)) (qB0 rfl (qAs (qAg (i:=4) qCe.nd rfl (Or.inl rfl)) (qAs (qAg (i:=5) qCe.nd rfl (Or.inl rfl)) qBe)))
   (qAc (qAj (i:=6) qCe.nd rfl (Or.inl rfl) (qAh qCt (qAh qCa qAd (qC7 hAr hDe hDf qIr (pv 1) (qAa (qBg qBs (pv 5) qAd (fun _ _=>rfl)) qAb))) (qAh qCa qAd (qC7 hAr hDe hDf qIr (pv 1) (qAa (qBg qBs (pv 5) qAd (fun _ _=>rfl)) qAb)))))
   (qAc (qAj (i:=7) qCe.nd rfl (Or.inl rfl) (qAh qCa qAd (pv 4)))
   (qAc (qBb PassesOwn.never rfl (qAq (pv 2)) (qB0 rfl (qAs (qAg (i:=8) qCe.nd rfl (Or.inl rfl)) (qAs (qAg (i:=9) qCe.nd rfl (Or.inl rfl)) qBe)))
    (qAf (qBi (qAp qE9 (qAh qBr (qAh qBr (pv 6) (pv 8)) (qLk qHh (pv 8))) qAd (qAu _))
     (qAc (qAj (i:=6) qCe.nd rfl (Or.inl rfl) (qAh qCt (pv 6) (pv 8)))
     (qAf (qAj (i:=7) qCe.nd rfl (Or.inl rfl) (qAh qCt (pv 7) (pv 9))))) qA1)))
   (qAf (qBi (qAp qB1 (pv 6) qAd (qAu _))
    (qAf (qB4 (qC7 hAr hBd hBe qBo (pv 3) (qAa (pv 7) qAb))))
    (qAf (qB4 (qC7 hAr hBd hBe qBo (pv 2) (qAa (qA5 (qAa (pv 6) (qAa (pv 7) qAb))) qAb))))))))))
  (qAf (qAt (pv 3)))))),?_⟩
 refine⟨?_,?_⟩
 ·refine⟨_,rfl,p,rfl,⟨_,SqL.of hp⟩,?_⟩;refine qF3 (fun t=>t.2.1) hp pr hl (fun a t ha C B c=>⟨Sle.set _ (Sle.refl _) (fun u z=>by cases z),?_⟩) ?_
  ·exact iteT (B:=B H) ⟨_,rfl,a,_,_,_,rfl,rfl,SqT.of ha,(by exact qA0 (j:=1) rfl),c⟩
  intro l1 hl1;have n1:=Ext.new hl1 (.lst ((net.map fun t=>t.2.1).map V.str));refine⟨_,rfl,p,rfl,⟨_,SqL.of (n1 _ _ hp)⟩,?_⟩;refine qF3 (fun t=>t.2.2) (n1 _ _ hp) (Paired.mapP pr fun a t z=>n1 _ _ z) hl (fun a t ha C B c=>⟨Sle.set _ (Sle.refl _) (fun u z=>by cases z),?_⟩) ?_
  ·exact iteT (B:=B (upd H l1 (.lst ((net.map fun t=>t.2.1).map V.str)))) ⟨_,rfl,a,_,_,_,rfl,rfl,SqT.of ha,(by exact qA0 (j:=2) rfl),c⟩
  intro l2 hl2;have n2:=n1.trans (Ext.new hl2 (.lst ((net.map fun t=>t.2.2).map V.str)));refine⟨l1,l2,_,_,rfl,rfl,(Ext.new hl2 _) _ _ upd_same,upd_same,?_,fun l3 hl3=>?_⟩
  ·simp only[hA1];exact hB1 (qAi (by omega))
  have n3:=n2.trans (Ext.new hl3 (.lst ((net.map fun t=>t.2.1).map V.str++(net.map fun t=>t.2.2).map V.str)));refine⟨l3,(net.map fun t=>t.2.1)++(net.map fun t=>t.2.2),rfl,SqL.of (by rw[upd_same,hA3]),?_,fun r1 ss hr1 nd ln mem=>?_⟩
  ·simp only[hAa,hA1];omega
  simp only[hAa,hA1]at ln;refine⟨r1,ss,rfl,upd_same,by omega,fun kn ps hkn pm srt=>?_⟩;have E1:=(n3.trans (Ext.new hr1 _)).trans (Ext.new hkn (.lst (ps.map V.str)));have pok:qPd net ps:=⟨pm.nodup_iff.mpr nd,fun x=>by
   rw[pm.mem_iff,mem,hAj,hAg,hAg];unfold zBc;constructor
   ·rintro(⟨t,ht,rfl⟩|⟨t,ht,rfl⟩)
    ·exact⟨t,ht,.inl rfl⟩
    ·exact⟨t,ht,.inr rfl⟩
   ·rintro⟨t,ht,rfl|rfl⟩
    ·exact .inl ⟨t,ht,rfl⟩
    ·exact .inr ⟨t,ht,rfl⟩⟩
  have lps:ps.length<=24:=by rw[pm.length_eq];omega
  exact⟨kn,ps,rfl,E1,upd_same,pok,lps⟩
 rintro σ H1 ⟨kn,ps,rfl,E1,hk1,pok,lps⟩;refine⟨hAo _,fun ke ke1=>?_⟩;have Xk:=Ext.new ke1 (.lst []);refine⟨hAo _,fun fo fo1=>?_⟩;have Xf:=Xk.trans (Ext.new fo1 (.lst []));have ke0:=E1.none ke1;have fo0:=E1.none (Xk.none fo1);have kefo:ke≠fo:=qAo (upd_same:upd H1 ke (.lst []) ke=_) fo1;have lA:as.length=net.length:=pr.length;have hpx:∀x,zBc net x->x∈ps:=fun x hx=>(pok.2 x).mpr hx
 refine⟨_,rfl,p,_,rfl,SqL.of (Xf _ _ (E1 _ _ hp)),?_⟩;rw[hA1,lA];refine qG3 (fun i σ H2=>∃(Kp:List (Nat×Nat)) (Fd:List Nat) (x4 x5 x6 x7 x8 x9:Option V),σ=[some (.ref p),some (.ref kn),some (.ref ke),some (.ref fo),x4,x5,x6,x7,x8,x9]/\Ext H1 H2/\qOm H2 ke Kp/\LsN H2 fo Fd/\EIv (vF net ps) net.length i Kp Fd/\Kp.length=(qF2 (net.take i)).length)
  ⟨[],[],none,none,none,none,none,none,rfl,Xf,⟨[],(Ext.new fo1 _) _ _ upd_same,.nil⟩,upd_same,EIv.start _ _,rfl⟩ ?_ ?_ ?_
 ·rintro i σ H2 _ ⟨Kp,Fd,x4,x5,x6,x7,x8,x9,_,e2,_⟩;exact SqL.of ((E1.trans e2) _ _ hp)
 ·rintro i σ H2 T hi ⟨Kp,Fd,x4,x5,x6,x7,x8,x9,rfl,e2,kp,fd,ei,kw⟩ hT;have hia:i<as.length:=by omega
  have g2:(as.map V.ref).getD i .non = .ref as[i]:=by rw[hA8,hAe,hA2 hia];rfl
  obtain⟨t,ht,hta⟩:=qAw pr (hA2 hia);dsimp only;rw[g2];have Y1:=Ext.new hT (.tup [V.int (i:Nat),V.ref as[i]]);have E2:=(E1.trans e2).trans Y1;obtain⟨a1,a2,a3⟩:=qD0 (hpx t.2.1 ⟨t,hAc ht,.inl rfl⟩);obtain⟨b1,b2,b3⟩:=qD0 (hpx t.2.2 ⟨t,hAc ht,.inr rfl⟩);have hk2:=(e2.trans Y1) _ _ hk1;refine⟨T,_,rfl,SqT.of upd_same,rfl,_,_,rfl,_,_,rfl,rfl,?_⟩;refine⟨_,rfl,.inl ⟨rfl,_,SqL.of hk2⟩,_,rfl,as[i],_,_,_,rfl,rfl,SqT.of (E2 _ _ hta),(by exact qA0 (j:=1) rfl),kn,ps,t.2.1,ixF ps t.2.1,rfl,rfl,hk2,a1,a2,by omega,_,_,rfl,rfl,⟨by omega,by omega,by decide⟩,?_⟩;refine⟨_,rfl,.inl ⟨rfl,_,SqL.of hk2⟩,_,rfl,as[i],_,_,_,rfl,rfl,SqT.of (E2 _ _ hta),(by exact qA0 (j:=2) rfl),kn,ps,t.2.2,ixF ps t.2.2,rfl,rfl,hk2,b1,b2,by omega,_,_,rfl,rfl,⟨by omega,by omega,by decide⟩,_,_,rfl,rfl,?_⟩;have vv:(fun i j:Int=>V.int (Builtin.bitXor i j)) (1*2^(((ixF ps t.2.1:Nat):Int)).toNat) (1*2^(((ixF ps t.2.2:Nat):Int)).toNat)=iV (vF net ps i):=by
   show V.int (Builtin.bitXor _ _)=_;rw[qBt,qBt,qBx,qPm ht];rfl
  rw[vv];refine⟨_,rfl,_,_,rfl,rfl,⟨by omega,by omega,by decide⟩,?_⟩;have wv:(fun i j:Int=>V.int (i*2^j.toNat)) 1 ((i:Nat):Int)=iV (2^i):=by
   show V.int (1*2^_)=_;rw[qBt]
  rw[wv];obtain⟨ks,hks,pks⟩:=kp.ext Y1;have lk:ks.length=Kp.length:=pks.length;have lKp:Kp.length<=12:=by have:=ei.len;omega
  refine⟨_,rfl,ke,rfl,⟨_,SqL.of hks⟩,?_⟩;refine qBm (xs:=ks.map V.ref) (fun j σ H3=>H3=upd H2 T (.tup [V.int (i:Nat),V.ref as[i]])/\∃(x8 x9:Option V),σ=[some (.ref p),some (.ref kn),some (.ref ke),some (.ref fo),some (.int (i:Nat)),some (.ref as[i]),some (iV (el (Kp.take j) (vF net ps i,2^i)).1),some (iV (el (Kp.take j) (vF net ps i,2^i)).2),x8,x9])
   ⟨rfl,x8,x9,rfl⟩ (fun j σ H3 _ h=>by rw[h.1];exact SqL.of hks) ?_ ?_
  ·rintro j v σ H3 hx3 ⟨rfl,x8,x9,rfl⟩;obtain⟨c,rfl,hc⟩:=qBk hx3;obtain⟨g,hg,hcg⟩:=qAw pks hc;have gnz:=(ei.k1 g (hAc hg)).1;have st:el (Kp.take (j+1)) (vF net ps i,2^i)=el1 (el (Kp.take j) (vF net ps i,2^i)) g:=by rw[qAm hg,qZd]
   refine⟨c,_,rfl,SqT.of hcg,rfl,_,_,rfl,_,_,rfl,rfl,?_⟩;refine⟨_,rfl,_,rfl,_,_,rfl,rfl,_,rfl,_,rfl,_,_,rfl,rfl,rfl,_,rfl,?_⟩;rw[st];generalize el (Kp.take j) (vF net ps i,2^i)=ev;have lt2:=qNq ev.1 gnz;have key:((!decide (V.int (Builtin.bitAnd (Builtin.bitAnd ((ev.1:Nat):Int) ((g.1:Nat):Int)) (-((g.1:Nat):Int)))=V.int 0))=true)↔ev.1.testBit (lo g.1)=true:=by
    rw[<-lt2];simp
   refine ite2 (fun c2=>?_) (fun c2=>?_)
   ·refine⟨_,rfl,_,rfl,_,_,rfl,rfl,_,rfl,_,rfl,_,_,rfl,rfl,rfl,some (iV g.1),some (iV g.2),?_⟩;rw[show el1 ev g=(ev.1^^^g.1,ev.2^^^g.2) from if_pos (key.mp c2),show iV (ev.1^^^g.1,ev.2^^^g.2).1=V.int (Builtin.bitXor ((ev.1:Nat):Int) ((g.1:Nat):Int)) by rw[qBx],show iV (ev.1^^^g.1,ev.2^^^g.2).2=V.int (Builtin.bitXor ((ev.2:Nat):Int) ((g.2:Nat):Int)) by rw[qBx]];rfl
   ·refine⟨rfl,some (iV g.1),some (iV g.2),?_⟩;rw[show el1 ev g=ev from if_neg fun z=>c2 (key.mpr z)];rfl
  ·rintro σ H3 ⟨rfl,x8,x9,rfl⟩;rw[hA1,lk,hA5 (hA7 _)];have nx:=ei.next hi;have wd:=qSg hpx ei hi ht kw;have fd3:=Y1 _ _ fd;have lF:Fd.length<=12:=by have:=ei.len;omega
   revert nx wd;generalize el Kp (vF net ps i,2^i)=ev;intro nx wd;refine⟨_,rfl,rfl,_,rfl,?_⟩;refine ite2 (fun c2=>?_) (fun c2=>?_)
   ·have z:ev.1=0:=by
     have:((ev.1:Nat):Int)=0:=by simpa using c2
     omega
    rw[if_pos z]at nx wd;refine⟨_,rfl,.inl ⟨rfl,_,SqL.of fd3⟩,_,rfl,fo,_,_,rfl,rfl,fd3,by rw[hA1];exact qAi (by omega),?_⟩;refine⟨Kp,Fd++[ev.2],_,_,_,_,_,_,rfl,(e2.trans Y1).over (Xk.none fo1) _,⟨ks,by rw[qAl kefo];exact hks,Paired.mapP pks fun a u z=>?_⟩,?_,nx,wd⟩
    ·have ne:a≠fo:=fun w=>by
      rw[w]at z;have f3:upd H2 T (.tup [V.int (i:Nat),V.ref as[i]]) fo=some (.lst (Fd.map iV)):=fd3;rw[f3]at z;cases z
     rw[qAl ne];exact z
    ·unfold LsN;rw[upd_same,hA3];rfl
   ·have z:¬ev.1=0:=fun w=>c2 (by rw[w];rfl)
    rw[if_neg z]at nx wd;refine⟨_,rfl,.inl ⟨rfl,_,SqL.of hks⟩,_,rfl,_,rfl,(by show 2<=sizeLine;decide),fun T2 hT2=>?_⟩;have Y2:=Ext.new hT2 (.tup [iV ev.1,iV ev.2]);refine⟨ke,_,_,rfl,rfl,Y2 _ _ hks,by rw[hA1];exact qAi (by omega),?_⟩;refine⟨Kp++[ev],Fd,_,_,_,_,_,_,rfl,((e2.trans Y1).trans Y2).over ke1 _,⟨ks++[T2],by rw[upd_same,hA3];rfl,Paired.snoc (Paired.mapP pks fun a u z=>?_) ?_⟩,?_,nx,wd⟩
    ·have z':=Y2 _ _ z;have ne:a≠ke:=fun w=>by rw[w,Y2 _ _ hks]at z';cases z'
     rw[qAl ne];exact z'
    ·have ne:T2≠ke:=fun w=>by rw[w,hks]at hT2;cases hT2
     rw[qAl ne,upd_same]
    ·unfold LsN;rw[qAl (Ne.symm kefo)];exact Y2 _ _ fd3
 ·rintro σ H2 ⟨Kp,Fd,x4,x5,x6,x7,x8,x9,rfl,e2,kp,fd,ei,kw⟩;rw[hA5 (hA7 _)]at kw;exact⟨_,rfl,q fo Fd Kp ps _ (E1.trans e2) fo0 fd pok ei kw⟩
end
abbrev nmS(net:List Tr):List Str:=net.map fun t=>t.1
theorem qN4{α β:Type}{f g:α->Option β}:∀ {l:List α},(∀i∈l,f i=g i)->l.filterMap f=l.filterMap g
 |[],_=>rfl
 |a :: l,h=>by rw[hBf,hBf,h a hA6,qN4 fun i hi=>h i (hA4 _ hi)]
theorem qZ2{m:Nat}{F:List Nat}(hF:∀x∈F,x<2^m)(z:Nat):Spn (F.map (rv m)) z↔z<2^m/\Spn F (rv m z):=by
 constructor
 ·intro h;refine⟨Spn.lt (fun x hx=>?_) h,?_⟩
  ·obtain⟨y,_,rfl⟩:=hAg.mp hx;exact qT9 m y
  ·induction h with
   |zero=>rw[qGf];exact .zero
   |add hm _ ih =>
    obtain⟨y,hy,rfl⟩:=hAg.mp hm;rw[qQp,qQq (hF y hy)];exact .add hy ih
 ·rintro⟨hz,h⟩;rw[<-qQq hz];generalize rv m z=y at h
  induction h with
  |zero=>rw[qGf];exact .zero
  |add hm _ ih=>rw[qQp];exact .add (hBb hm) ih
theorem qQx{names:List Str}(x:Nat):rowM names (rv names.length x)=rowL names x:=by
 unfold rowM rowL;have:∀i∈List.range names.length,(if (rv names.length x).testBit (names.length - 1 - i)=true then names[i]? else none)=(if x.testBit i=true then names[i]? else none):=fun i hi=>by
  have hi':=hB6.mp hi;rw[qCs,decide_eq_true (by omega),hCn,show names.length - 1 - (names.length - 1 - i)=i by omega]
 exact qN4 this
theorem qQw{names:List Str}{z:Nat}(nz:z≠0)(lt:z<2^names.length):∃n rest,rowM names z=n :: rest/\names[names.length - 1 - z.log2]?=some n:=by
 have l:z.log2<names.length:=(Nat.log2_lt nz).mpr lt;have hi:names.length - 1 - z.log2<names.length:=by omega
 have sp:List.range names.length=List.range (names.length - 1 - z.log2)++((names.length - 1 - z.log2) :: (List.range z.log2).map fun k=>names.length - 1 - z.log2+1+k):=by
  have e:names.length=(names.length - 1 - z.log2)+(1+z.log2):=by omega
  conv=>lhs;rw[e]
  rw[List.range_add];congr 1;rw[Nat.add_comm 1 z.log2,hDi,hB9,hB5];congr 1;refine hBi fun k _=>?_
  show _+(k+1)=_;omega
 refine⟨names[names.length - 1 - z.log2],((List.range z.log2).map fun k=>names.length - 1 - z.log2+1+k).filterMap fun i=>if z.testBit (names.length - 1 - i)=true then names[i]? else none,?_,hA2 hi⟩;unfold rowM;rw[sp,hCp,hBf];have z1:(List.range (names.length - 1 - z.log2)).filterMap (fun i=>if z.testBit (names.length - 1 - i)=true then names[i]? else none)=[]:=by
  rw[List.filterMap_eq_nil_iff];intro i hi';have:=hB6.mp hi';rw[qMh (by omega)];rfl
 rw[z1,show names.length - 1 - (names.length - 1 - z.log2)=z.log2 by omega,hCc nz,if_pos rfl,hA2 hi];rfl
theorem qIi{l:List Str}(h:qDu l){i j:Nat}{a b:Str}(hij:i<j)(ha:l[i]?=some a)(hb:l[j]?=some b):qIh a b=true:=by
 obtain⟨hi,rfl⟩:=hAk.mp ha;obtain⟨hj,rfl⟩:=hAk.mp hb;exact(List.pairwise_iff_getElem.mp h) i j hi hj hij
structure Made(net:List Tr)(ps ps':List Str)(S M:List Nat)(K:List (Nat×Nat))(F:List Nat):Prop where
 rs:qDu (nmS net)
 pk:qPd net ps
 pk':qPd net ps'
 pS:S.Perm (red (ps.map fun x=>qBu (nmS net) (zC6 net x)))
 pM:M.Perm (red (zBr S net.length))
 dM:M.Pairwise fun a b=>b<=a
 ei:EIv (vF net ps') net.length net.length K F
 kw:K.length=(qF2 net).length
theorem qDy{l:List Str}(h:qDu l):l.Nodup:=hDr (fun {a b} z e=>by rw[e,qB3]at z;cases z) h
theorem zBi{α:Type}{p:α->Bool}{l:List α}{i:Nat}{t:α}(h:l[i]?=some t)(c:p t=true):(l.take (i+1)).filter p=(l.take i).filter p++[t]:=by rw[qAm h,hCg];simp[c]
theorem zBj{α:Type}{p:α->Bool}{l:List α}{i:Nat}{t:α}(h:l[i]?=some t)(c:p t=false):(l.take (i+1)).filter p=(l.take i).filter p:=by rw[qAm h,hCg];simp[c]
theorem qKa:∀a b:List (List Str),PyData.eqvAll (a.map qHp) (b.map qHp)=decide (a=b)
 |[],[]=>rfl
 |[],_ :: _=>rfl
 |_ :: _,[]=>rfl
 |x :: a,y :: b=>by
  show(PyData.eqv (qHp x) (qHp y) && PyData.eqvAll (a.map qHp) (b.map qHp))=_;rw[qKa a b,qSh];by_cases e:x=y
  ·subst e;simp
  ·simp[e]
theorem qVa(a b:List (List Str)):PyData.eqv (qJm a) (qJm b)=decide (a=b):=qKa a b
theorem qNt:∀ {F:List (List Str)},(∀r∈F,SOk r)->PyData.canLayAll0 (F.map qHp)=true/\PyData.depthAll (F.map qHp)<=1
 |[],_=>⟨rfl,by decide⟩
 |x :: r,h=>by
  obtain⟨h1,h2⟩:=qNt (F:=r) fun y hy=>h y (hA4 _ hy)
  obtain⟨h3,h4⟩:=qIw (h x hA6);refine⟨?_,?_⟩
  ·show(PyData.canLayAll0 (x.map .str) && PyData.canLayAll0 (r.map qHp))=true;rw[h1,h3];rfl
  ·show max (PyData.depthAll (x.map .str)+1) (PyData.depthAll (r.map qHp))<=1;rw[h4];omega
theorem qOb{K:PySem.W.Frag}{H:Hp}:∀ {as:List Addr} {F:List (List Str)},Paired (LsS H) as F->DRs K H (as.map V.ref) (F.map qHp)
 |_,_,.nil=>.nil
 |_,_,.cons h t=>.cons (qOc h) (qOb t)
theorem qSm{K:PySem.W.Frag}{H:Hp}{p:Addr}{F:List (List Str)}(h:qEz H p F):DR K H (.ref p) (qJm F):=by
 obtain⟨as,h1,h2⟩:=h;exact .lst (SqL.of h1) (qOb h2)
def zC1(names:List Str)(rows:List (List Str)):PyData:=.tuple [qHp names,qJm rows]
theorem qWw{K:PySem.W.Frag}{H:Hp}{T:Addr}{names:List Str}{rows:List (List Str)}(h:qFi H T names rows):DR K H (.ref T) (zC1 names rows):=by
 obtain⟨a,b,h1,h2,h3⟩:=h;exact .tup (SqT.of h1) (.cons (qOc h2) (.cons (qSm h3) .nil))
theorem qIs{names:List Str}{z:Nat}{n:Str}:n∈rowM names z↔∃i,i<names.length/\names[i]?=some n/\z.testBit (names.length - 1 - i)=true:=by
 unfold rowM;rw[hCr];constructor
 ·rintro⟨i,hi,e⟩;split at e
  ·rename_i b;exact⟨i,hB6.mp hi,e,b⟩
  ·cases e
 ·rintro⟨i,hi,e,b⟩;exact⟨i,hB6.mpr hi,by rw[if_pos b];exact e⟩
theorem rowM_sub{names:List Str}{z:Nat}{n:Str}(h:n∈rowM names z):n∈names:=by
 obtain⟨i,_,e,_⟩:=qIs.mp h;exact hAc e
theorem qG2{names:List Str}(nd:names.Nodup){i j:Nat}{n:Str}(hi:names[i]?=some n)(hj:names[j]?=some n):i=j :=
 (List.getElem?_inj (hAk.mp hi).1 nd).mp (hi.trans hj.symm)
abbrev chi(names:List Str)(z:Nat):Str->Bool:=fun n=>decide (n∈rowM names z)
theorem zBs{names:List Str}(nd:names.Nodup){z i:Nat}{n:Str}(hi:names[i]?=some n):chi names z n=z.testBit (names.length - 1 - i):=by
 have il:=(hAk.mp hi).1;cases q:z.testBit (names.length - 1 - i) with
 |true=>exact decide_eq_true (qIs.mpr ⟨i,il,hi,q⟩)
 |false =>
  refine decide_eq_false fun m=>?_
  obtain⟨j,_,ej,bj⟩:=qIs.mp m;rw[qG2 nd ej hi,q]at bj;cases bj
theorem qRo{names:List Str}(nd:names.Nodup){z:Nat}(hz:z<2^names.length):qBu names (rowM names z)=z:=by
 refine hAt fun j=>?_
 rw[qGv];by_cases hj:j<names.length
 ·rw[decide_eq_true hj,hCn];have hi:names.length - 1 - j<names.length:=by omega
  have e:=hA2 hi;have c:=zBs nd (z:=z) e;rw[show names.length - 1 - (names.length - 1 - j)=j by omega]at c;rw[<-c];refine decide_eq_decide.mpr ⟨fun ⟨n,h1,h2⟩=>?_,fun h=>⟨_,e,h⟩⟩;rw[e]at h1;cases h1;exact h2
 ·rw[decide_eq_false hj,qJb hz (by omega)];rfl
structure Tb(net:List Tr)(ps:List Str)(S M:List Nat):Prop where
 rs:qDu (nmS net)
 pk:qPd net ps
 pS:S.Perm (red (ps.map fun x=>qBu (nmS net) (zC6 net x)))
 pM:M.Perm (red (zBr S net.length))
 dM:M.Pairwise fun a b=>b<=a
theorem qG4:∀ {a b:List Nat},a.Pairwise (fun x y=>y<=x)->b.Pairwise (fun x y=>y<=x)->a.Perm b->a=b
 |[],b,_,_,p=>(List.nil_perm.mp p).symm▸rfl
 |x :: a,[],_,_,p=>by have:=p.length_eq;simp at this
 |x :: a,y :: b,ha,hb,p=>by
  obtain⟨a1,a2⟩:=hB3.mp ha;obtain⟨b1,b2⟩:=hB3.mp hb;have e:x=y:=by
   rcases hAf.mp (p.mem_iff.mp hA6) with z|z
   ·exact z
   ·rcases hAf.mp (p.mem_iff.mpr hA6) with w'|w'
    ·exact w'.symm
    ·have h1:=b1 x z;have h2:=a1 y w';omega
  subst e;rw[qG4 a2 b2 ((List.perm_cons _).mp p)]
section
variable{P:Program}{w:World}{K:PySem.W.Frag}{mg:Str->Option Value}{base:Heap}{f f1 f2 f3 f4 f5:Addr}{fd fd1 fd2 fd3 fd4 fd5:FuncData}
theorem qBc{ms:List Nat}{Q:List V->Hp->Prop}{H1:Hp}{σ0:St}{g:TG}{tt:TT}{te:TE}{p:Addr}(pr:Nat->Bool)(h:Nat->Nat)(hp:LsN H1 p ms)(ln:ms.length<=900)
  (hs:∀z∈ms,∀(C:V->Hp->Prop) (B:Hp->Prop),(pr z=true->C (iV (h z)) H1)->(pr z=false->B H1)->g (iV z) σ0 H1 fun σ2 H2=>Sle σ0 σ2/\tt σ2 H2 fun b H3=>if b=true then te σ2 H3 C else B H3)
  (hd:Q (((ms.filter pr).map h).map iV) H1):qDj (Itl K p) σ0 g tt te Q H1:=by
 refine qAr (xs:=ms.map iV) (fun j ys H2=>H2=H1/\ys=(((ms.take j).filter pr).map h).map iV) ⟨rfl,rfl⟩ (fun j ys H2 _ h=>by rw[h.1];exact SqL.of hp) ?_ ?_
 ·rintro j x ys H2 hx ⟨rfl,rfl⟩;obtain⟨z,rfl,hz⟩:=qBz hx;have hj:=qAy hz;have sz:=hAx pr (ms.take j);rw[hAh]at sz;refine hs z (hAc hz) _ _ (fun b=>⟨?_,nxt (qAy hx) ⟨rfl,?_⟩⟩) (fun b=>nxt (qAy hx) ⟨rfl,?_⟩)
  ·rw[hA1,hA1];exact qAi (by omega)
  ·rw[qAm hz,hCg,hA3,hA3];simp[b]
  ·rw[qAm hz,hCg];simp[b]
 ·rintro ys H2 ⟨rfl,rfl⟩;rw[hA1,hA5 (hA7 _)];exact hd
end
end My
namespace L2
open PySem PySem.Spec PyProof.Rows
section
variable{σ0:St}{g:TG}{tt:TT}{te:TE}{Q:List V->Hp->Prop}{H1:Hp}
theorem qKu{K:PySem.W.Frag}{a:Addr}{xs:List V}(Pv:Nat->List V->Hp->Prop)(h0:Pv 0 [] H1)(hl:∀i ys H,i<=xs.length->Pv i ys H->SqT K H a xs)
  (hs:∀i x ys H,xs[i]?=some x->Pv i ys H->g x σ0 H fun σ2 H2=>Sle σ0 σ2/\tt σ2 H2 fun b H3=>if b=true then te σ2 H3 (fun v H4=>ys.length<sizeLine/\Nxt xs.length i Pv (ys++[v]) H4) else Nxt xs.length i Pv ys H3)
  (hd:∀ys H,Pv xs.length ys H->Q ys H):qDj (Itt K a) σ0 g tt te Q H1:=by
 refine⟨fun i m ys H=>m=xs.length - i/\i<=xs.length/\Pv i ys H,⟨xs.length,by simp,hAo _,h0⟩,?_⟩;rintro i m ys H ⟨rfl,hi,p⟩;have q:=hl i ys H hi p;by_cases hlt:i<xs.length
 ·refine .inr ⟨⟨xs,xs[i],q,by simp[hlt]⟩,fun x H' y=>?_⟩;obtain⟨e,y⟩:=y;subst e;exact hs i x ys _ (y xs q) p
 ·have e:i=xs.length:=by omega
  subst e;exact .inl ⟨⟨xs,q,hA7 _⟩,hd ys H p⟩
end
end L2
namespace My
open PySem L2
theorem qL7(ms:List Nat):∃m,∀x∈ms,x<2^m:=by
 induction ms with
 |nil=>exact⟨0,fun x h=>(by cases h)⟩
 |cons a l ih =>
  obtain⟨m,h⟩:=ih;refine⟨m+a,fun x hx=>?_⟩;rcases hAf.mp hx with z|z
  ·rw[z];exact hAi Nat.lt_two_pow_self (hBj (by decide) (by omega))
  ·exact hAi (h x z) (hBj (by decide) (by omega))
def qFv(names row:List Str):Nat:=(row.map fun n=>2^ixF names n).sum
theorem qWo{names:List Str}(nd:names.Nodup){i:Nat}{n:Str}(h:names[i]?=some n):ixF names n=i:=qG2 nd (qD0 (hAc h)).1 h
theorem qBh{names:List Str}{z:Nat}{n:Str}:n∈rowL names z↔∃i,i<names.length/\names[i]?=some n/\z.testBit i=true:=by
 unfold rowL;rw[hCr];constructor
 ·rintro⟨i,hi,e⟩;split at e
  ·rename_i b;exact⟨i,hB6.mp hi,e,b⟩
  ·cases e
 ·rintro⟨i,hi,e,b⟩;exact⟨i,hB6.mpr hi,by rw[if_pos b];exact e⟩
theorem qLf{names:List Str}(nd:names.Nodup)(x:Nat):(rowL names x).Nodup:=by
 rw[<-qQx];have:(rowM names (rv names.length x)).Nodup:=by
  unfold rowM;have h:∀l:List Nat,l.Nodup->(l.filterMap fun i=>if (rv names.length x).testBit (names.length - 1 - i)=true then names[i]? else none).Nodup:=fun l=>by
   induction l with
   |nil=>intro _;exact List.nodup_nil
   |cons a l ih =>
    intro hn;obtain⟨h1,h2⟩:=hBg.mp hn;rw[hBf];split
    ·exact ih h2
    ·rename_i b e;refine hBg.mpr ⟨fun m=>?_,ih h2⟩;obtain⟨c,hc,ec⟩:=hCr.mp m;split at e
     ·split at ec
      ·have:=qG2 nd e ec;subst this;exact h1 hc
      ·cases ec
     ·cases e
  exact h _ List.nodup_range
 exact this
theorem qGu{names:List Str}(nd:names.Nodup){row:List Str}(rn:row.Nodup)(sub:∀n∈row,n∈names)(j:Nat):(qFv names row).testBit j=decide (∃n∈row,ixF names n=j):=by
 unfold qFv;have e:(row.map fun n=>2^ixF names n)=(row.map (ixF names)).map fun l=>2^l:=by rw[hB5];rfl
 have nd2:(row.map (ixF names)).Nodup:=by
  rw[List.Nodup,hC4];refine hCu (fun {a b} ha hb ne q=>ne ?_) rn;have h1:=(qD0 (sub a ha)).1;have h2:=(qD0 (sub b hb)).1;rw[q,h2]at h1;exact(hAm h1).symm
 rw[e,qKw _ nd2];refine decide_eq_decide.mpr ?_;rw[hAg]
theorem qNn{names:List Str}(nd:names.Nodup){row:List Str}(rn:row.Nodup)(sub:∀n∈row,n∈names):qFv names row<2^names.length/\rv names.length (qFv names row)=qBu names row:=by
 refine⟨hC5 _ fun i hi=>?_,hAt fun j=>?_⟩
 ·rw[qGu nd rn sub];refine decide_eq_false ?_;rintro⟨n,hn,e⟩;have:=(qD0 (sub n hn)).2.2;omega
 ·rw[qCs,qGv,qGu nd rn sub];by_cases hj:j<names.length
  ·rw[decide_eq_true hj,hCn,hCn];refine decide_eq_decide.mpr ⟨fun ⟨n,hn,e⟩=>⟨n,by rw[<-e];exact(qD0 (sub n hn)).1,hn⟩,fun ⟨n,h1,h2⟩=>⟨n,h2,qWo nd h1⟩⟩
  ·rw[decide_eq_false hj];rfl
theorem qDn{m:Nat}{F:List Nat}(hF:∀x∈F,x<2^m){z:Nat}(hz:z<2^m):Spn (F.map (rv m)) (rv m z)↔Spn F z:=by
 rw[qZ2 hF,qQq hz];exact⟨fun h=>h.2,fun h=>⟨qT9 _ _,h⟩⟩
structure TabOk(names:List Str)(rows:List (List Str)):Prop where
 rn:qDu names
 ok:SOk names
 ln:names.length<=12
 lr:rows.length<=16
 rw:∀r∈rows,∃x,r=rowL names x
section
variable{names:List Str}{rows:List (List Str)}
theorem TabOk.masks(h:TabOk names rows):(∀x∈rows.map (qFv names),x<2^names.length)/\(rows.map (qFv names)).map (rv names.length)=rows.map (qBu names):=by
 have nd:=qDy h.rn;refine⟨fun x hx=>?_,?_⟩
 ·obtain⟨r,hr,rfl⟩:=hAg.mp hx;obtain⟨x,rfl⟩:=h.rw r hr;exact(qNn nd (qLf nd x) fun n hn=>by obtain⟨i,_,e,_⟩:=qBh.mp hn;exact hAc e).1
 ·rw[hB5];refine hBi fun r hr=>?_
  obtain⟨x,rfl⟩:=h.rw r hr;exact(qNn nd (qLf nd x) fun n hn=>by obtain⟨i,_,e,_⟩:=qBh.mp hn;exact hAc e).2
end
end My
namespace L2
open PySem PySem.Spec PyProof.Rows
section
variable{X:Cx}
def qXw:V->List V->Hp->VK->Prop:=fun x vs H Q=>∃(l:Addr) (xs:List V) (i:Nat) (y:V),x = .ref l/\vs=[.int (i:Int),y]/\H l=some (.lst xs)/\i<=xs.length/\xs.length<1000/\Q .non (upd H l (.lst (xs.take i++y :: xs.drop i)))
theorem qBa.takeL:∀ {xs:List V} {us:List Value} (i:Nat),qBa xs us->qBa (xs.take i) (us.take i)
 |_,_,0,_=>.nil
 |_,_,_+1,.nil=>.nil
 |_,_,i+1,.cons r t=>.cons r (qBa.takeL i t)
theorem qBa.dropL:∀ {xs:List V} {us:List Value} (i:Nat),qBa xs us->qBa (xs.drop i) (us.drop i)
 |_,_,0,h=>h
 |_,_,_+1,.nil=>.nil
 |_,_,i+1,.cons _ t=>qBa.dropL i t
theorem qRk:MtM X "list.insert" qXw:=by
 intro pins s σ H x vs v us Q I rx rv h;obtain⟨l,xs,i,y,rfl,rfl,hH,hi,hz,q⟩:=h;cases rx;obtain⟨u,w',rfl,r1,r2⟩:=qPl rv;obtain⟨t,rfl⟩:=r1;obtain⟨z,its,n,r,hl,e⟩:=I.lstM hH;have fi:¬(!Builtin.List.listFitsIndex (i:Int))=true:=by
  rw[fitsIndex_both (by omega) (by omega)];exact hAu
 have zz:its.toArray.size<=sizeLine:=by rw[hAb,<-hl];exact z
 obtain⟨k,hk⟩:∃k:Int,k=(i:Int):=⟨_,rfl⟩;rw[<-hk]at fi ⊢;have M:=AutoListH.list_insert_list_int_val_1 l its.toArray n k t w' fi zz;refine call_meets F.slot_list_insert ⟨_,e,rfl⟩ F.entry_list_insert (F.args_list_insert_3 _ _ _) M ⟨e,?_⟩;refine⟨.non,_,I.lset (its':=its.take i++w' :: its.drop i) hH e ?_ (qBa.append (qBa.takeL i r) (.cons r2 (qBa.dropL i r))) ?_,rfl,q⟩
 ·have k':(if k<0 then (k+((its.toArray.size:Nat):Int)).toNat else min k.toNat its.toArray.size)=i:=by
   rw[hk,if_neg (by omega),hAz,hAb];omega
  dsimp only;rw[k'];apply Array.ext';simp;rw[hA5 (by rw[hD3];exact hA7 _)]
 ·rw[hAa,hBu,hAh,hD3];exact hB1 (qAi (by omega))
end
end L2
namespace My
open PySem L2
theorem qS3(a b:Nat):Builtin.bitOr (a:Int) (b:Int)=((a ||| b:Nat):Int):=by
 have x:∀x:Int,Builtin.bitNot (Builtin.bitNot x)=x:=fun x=>by unfold Builtin.bitNot;omega
 unfold Builtin.bitOr;have na:¬(0:Int)<=Builtin.bitNot (a:Int):=by unfold Builtin.bitNot;omega
 have nb:¬(0:Int)<=Builtin.bitNot (b:Int):=by unfold Builtin.bitNot;omega
 have o:Builtin.bitAnd (Builtin.bitNot (a:Int)) (Builtin.bitNot (b:Int))=Builtin.bitNot ((a ||| b:Nat):Int):=by
  unfold Builtin.bitAnd;rw[decide_eq_false na,decide_eq_false nb];show Builtin.bitNot _=_;rw[x,x];simp
 rw[o,x]
theorem qTr(z k:Nat):(z:Int)*2^((k:Int)).toNat=((z <<< k:Nat):Int):=by
 rw[hAz,Nat.shiftLeft_eq,Int.natCast_mul,Int.natCast_pow];rfl
theorem qWh(m:Nat):(0:Int)<1*2^((m:Int)).toNat:=by
 rw[qBt];have:0<2^m:=Nat.pow_pos (by decide);omega
theorem zAs(a:Int)(m:Nat):∃x:Nat,a % (1*2^((m:Int)).toNat)=(x:Int):=by
 have:=qWh m;exact⟨(a % (1*2^((m:Int)).toNat)).toNat,(hD0 (hB8 _ (by omega))).symm⟩
theorem qSt(xs:List V)(p:Nat):qVc xs none (some (p:Int))=xs.take p:=by
 unfold qVc;rw[HT.sIx_nat,HT.sIx_none,List.drop_zero,Nat.sub_zero];rcases Nat.le_total p xs.length with h|h
 ·rw[Nat.min_eq_left h]
 ·rw[Nat.min_eq_right h,hA5 (hA7 _),hA5 h]
def qVv:Sp:=fun vs H Q _=>∃(pn pr:Addr) (names row:List Str),vs=[.ref pn,.ref pr]/\LsS H pn names/\LsS H pr row/\(∀n∈row,n∈names)/\names.length<=12/\row.length<=12/\∀H',Ext H H'->Q (iV (qFv names row)) H'
def qVy:Sp:=fun vs H Q _=>∃(b:Int) (m:Nat),vs=[.int b,iV m]/\m<=12/\∀(r:Addr) (ns:List Nat) (H':Hp),Ext H H'->H r=none->LsN H' r ns->ns.length<=9->Q (.ref r) H'
section
variable{P:Program}{w:World}{K:PySem.W.Frag}{mg:Str->Option Value}{base:Heap}{f f1 f2 f3 f4 f5:Addr}{fd fd1 fd2 fd3 fd4 fd5:FuncData}
theorem zAa:FnScope ["_law_names_here","_law_row_here"] ["_law_names_here","_law_row_here"] (qAe qT5):=⟨rfl,rfl,rfl,by decide +kernel,rfl,by decide +kernel,by decide +kernel⟩
theorem qYj(F:Fun K "_law_mask" "_law_mask" qT5 f fd)(msu:mg "sum" = none):FnOk P w K mg base CX0 1 f fd ["_law_names_here","_law_row_here"] qVv:=by
 refine F.ok zAa (fun vs H Q E h=>?_) (fun cdv A outer s H vs Q E hr h=>?_)
 ·obtain⟨pn,pr,names,row,rfl,_⟩:=h;rfl
 obtain⟨pn,pr,names,row,rfl,hn,hw,sub,ln,lw,q⟩:=h;refine⟨_,qAf (qAt (qAk (qCm rfl) rfl msu qCo (qAa (qBf (N:=["_law_names_here","_law_row_here"]) (sc:=qAe qT5) (N':=["_law_name","_law_names_here"]) (sub:=[none,some 0]) rfl rfl (CmpOk.of (by decide +kernel)) rfl (qAq (pv 1))
   (fun C s H fp=>⟨qAg (i:=0) (by show(["_law_name","_law_names_here"]:List Str).Nodup;decide) rfl (Or.inl rfl),qAz,qAh qCa qAd (show PE _ _ (tBM K _ (qWc K) _ _) from qC7 hAr hDe hDf qIr (pv 1) (qAa (pv 0) qAb))⟩)) qAb))),?_⟩
 refine⟨_,rfl,pr,rfl,⟨_,SqL.of hw⟩,?_⟩;refine qAr (xs:=row.map V.str) (fun j ys H2=>H2=H/\ys=((row.take j).map fun n=>2^ixF names n).map iV) ⟨rfl,rfl⟩ (fun j ys H2 _ h=>by rw[h.1];exact SqL.of hw) ?_ ?_
 ·rintro j v ys H2 hx ⟨rfl,rfl⟩;obtain⟨n,rfl,hn'⟩:=qPy hx;have hj:=qAy hn';obtain⟨a1,a2,a3⟩:=qD0 (sub n (hAc hn'));refine⟨Sle.set _ (Sle.refl _) (fun u z=>by cases z),iteT (B:=False) ⟨_,rfl,.inl ⟨rfl,_,SqL.of hn⟩,_,rfl,pn,names,n,ixF names n,rfl,rfl,hn,a1,a2,by omega,_,_,rfl,rfl,⟨by omega,by omega,by decide⟩,?_⟩⟩;refine⟨by rw[hA1,hA1,hAh];exact qAi (by omega),nxt (qAy hx) ⟨rfl,?_⟩⟩;rw[qAm hn',hA3,hA3];show _++[V.int (1*2^(((ixF names n:Nat):Int)).toNat)]=_;rw[qBt];rfl
 ·rintro ys H2 ⟨rfl,rfl⟩ l hl;rw[hA1,hA5 (hA7 _)];refine⟨l,(row.map fun n=>2^ixF names n).map (fun n:Nat=>(n:Int)),rfl,SqL.of (by rw[upd_same,qB6]),?_⟩;rw[qCq];exact q _ (Ext.new hl _)
abbrev frN:List Str:=["_law_big_here","_law_many","_law_found","_law_k"]
theorem qMy:FnScope frN ["_law_big_here","_law_many"] (qAe qXl):=⟨rfl,rfl,rfl,by decide +kernel,rfl,by decide +kernel,by decide +kernel⟩
theorem qYn(F:Fun K "_law_free" "_law_free" qXl f fd)(mr:mg "range" = none):FnOk P w K mg base CX0 1 f fd ["_law_big_here","_law_many"] qVy:=by
 refine F.ok qMy (fun vs H Q E h=>?_) (fun cdv A outer s H vs Q E hr h=>?_)
 ·obtain⟨b,m,rfl,_⟩:=h;rfl
 obtain⟨b,m,rfl,m12,q⟩:=h;refine⟨_,qAc (qAj (i:=2) qMy.nd rfl (Or.inl rfl) (qA4 qAb))
  (qAc (qBb PassesOwn.never rfl (qA8 rfl mr (qAa (qAh qA7 (pv 0) qAd) qAb)) (qAg (i:=3) qMy.nd rfl (Or.inl rfl))
   (qAc (qB4 (qC7 hAr hBd hBe qBo (pv 2) (qAa (qAh qA7 (qAh qA3 (pv 0) qAd) (qAh qCa qAd (pv 1))) qAb)))
   (qAf (qAj (i:=0) qMy.nd rfl (Or.inl rfl) (qAh qFq (qAh qA3 (pv 0) qAd) (pv 1))))))
  (qAf (qAt (pv 2)))),?_⟩
 refine⟨hAo _,fun fo fo0=>?_⟩;have h1:=hB8 b (show(10:Int)≠0 by decide);have h2:=hB4 b (show(0:Int)<10 by decide);refine⟨_,rfl,_,_,rfl,rfl,(by show(0:Int)<_;decide),b % 10,rfl,by omega,by omega,?_⟩;refine qBp (lo:=0) (n:=(b % 10).toNat) (fun i σ H'=>∃(b':Int) (x3:Option V) (ns:List Nat),σ=[some (.int b'),some (iV m),some (.ref fo),x3]/\Ext H H'/\LsN H' fo ns/\ns.length<=i) ⟨b,none,[],rfl,Ext.new fo0 _,upd_same,hA7 _⟩ ?_ ?_
 ·rintro i σ H' hi ⟨b',x3,ns,rfl,e,hf,ln⟩;obtain⟨x,hx⟩:=zAs (b' / 10) m;refine⟨_,rfl,.inl ⟨rfl,_,SqL.of hf⟩,_,rfl,_,_,rfl,rfl,⟨by decide,by decide⟩,_,rfl,_,_,rfl,rfl,⟨by omega,by omega,by decide⟩,_,_,rfl,rfl,qWh m,fo,_,_,rfl,rfl,hf,by rw[hA1];exact qAi (by omega),?_⟩;refine⟨_,rfl,_,_,rfl,rfl,⟨by decide,by decide⟩,_,rfl,_,_,rfl,rfl,(by show(0:Int)<=_;omega),?_⟩;refine⟨_,_,ns++[x],rfl,e.over fo0 _,?_,by rw[hAa];exact hC7 ln⟩;unfold LsN;rw[upd_same,hA3];show some (HO.lst (_++[V.int (b' / 10 % (1*2^((m:Int)).toNat))]))=_;rw[hx];rfl
 ·rintro σ H' ⟨b',x3,ns,rfl,e,hf,ln⟩;exact⟨_,rfl,q fo ns _ e fo0 hf (by omega)⟩
end
def qVz:Sp:=fun vs H Q _=>∃(p:Addr) (ms:List Nat) (m:Nat),vs=[.ref p,iV m]/\LsN H p ms/\ms.length<=24/\m<=12/\∀(r:Addr) (ns:List Nat) (H':Hp),Ext H H'->H r=none->LsN H' r ns->ns.length<=12->Q (.ref r) H'
def qVr:Sp:=fun vs H Q _=>∃k:Int,vs=[.int k]/\0<=k/\k<4/\∀(T b:Addr) (m:Nat) (ns:List Nat) (H':Hp),Ext H H'->H' T=some (.tup [iV m,.ref b])->LsN H' b ns->ns.length<=12->0<m->m<=36->Q (.ref T) H'
def qVu:Sp:=fun vs H Q _=>∃(p:Addr) (ms:List Nat) (m M:Nat) (b:Int),vs=[.ref p,iV m,.int b,iV M]/\LsN H p ms/\ms.length<=12/\0<m/\M<=12/\∀(r:Addr) (ns:List Nat) (H':Hp),Ext H H'->LsN H' r ns->ns.length<=24->Q (.ref r) H'
section
variable{P:Program}{w:World}{K:PySem.W.Frag}{mg:Str->Option Value}{base:Heap}{f f1 f2 f3 f4 f5:Addr}{fd fd1 fd2 fd3 fd4 fd5:FuncData}
abbrev coN:List Str:=["_law_numbers","_law_many","_law_rows","_law_fronts","_law_found","_law_place"]
theorem qJi:FnScope coN ["_law_numbers","_law_many"] (qAe qQm):=⟨rfl,rfl,rfl,by decide +kernel,rfl,by decide +kernel,by decide +kernel⟩
theorem qYp(F:Fun K "_law_crossing" "_law_crossing" qQm f fd)(G:Cl P w K mg base CX0 1 f1 fd1 ["_law_numbers"] qHl "_law_reduced")(msu:mg "sum" = none)(mr:mg "range" = none):FnOk P w K mg base CX0 2 f fd ["_law_numbers","_law_many"] qVz:=by
 refine F.ok qJi (fun vs H Q E h=>?_) (fun cdv A outer s H vs Q E hr h=>?_)
 ·obtain⟨p,ms,m,rfl,_⟩:=h;rfl
 obtain⟨p,ms,m,rfl,hp,lm,m12,q⟩:=h;refine⟨_,qAc (qAj (i:=2) qJi.nd rfl (Or.inl rfl) (qAx G hr rfl .nil qAv (qAa (pv 0) qAb)))
  (qAc (qAj (i:=3) qJi.nd rfl (Or.inl rfl) (qAk (qCm rfl) rfl msu qCo (qAa (qBf (N:=coN) (sc:=qAe qQm) (N':=["_law_row_here"]) (sub:=[none]) rfl rfl (CmpOk.of (by decide +kernel)) rfl (qAq (pv 2))
   (fun C s H fp=>⟨qAg (i:=0) (by show(["_law_row_here"]:List Str).Nodup;decide) rfl (Or.inl rfl),qAz,qAh qBr (pv 0) (qLk qHh (pv 0))⟩)) qAb)))
  (qAc (qAj (i:=4) qJi.nd rfl (Or.inl rfl) (qA4 qAb))
  (qAc (qBb PassesOwn.never rfl (qA8 rfl mr (qAa (pv 1) qAb)) (qAg (i:=5) qJi.nd rfl (Or.inr rfl))
   (qAf (qBi (qAp qB1 (qAh qBr (qAh qFq (pv 3) (pv 5)) qAd) qAd (qAu _))
    (qAf (qB4 (qC7 hAr hBd hBe qBo (pv 4) (qAa
     (qAh qA6 (qAh qCa qAd (pv 5)) (qAk (qCm rfl) rfl msu qCo (qAa (qBf (N:=coN) (sc:=qAe qQm) (N':=["_law_row_here","_law_place"]) (sub:=[none,some 5]) rfl rfl (CmpOk.of (by decide +kernel)) rfl (qAq (pv 2))
      (fun C s H fp=>⟨qAg (i:=0) (by show(["_law_row_here","_law_place"]:List Str).Nodup;decide) rfl (Or.inl rfl),qBl (qAp qB1 (qAh qBr (qAh qFq (pv 0) (pv 1)) qAd) qAd (qAu _)),qAh qBr (pv 0) (qLk qHh (pv 0))⟩)) qAb))) qAb))))
    qA1)))
  (qAf (qAt (pv 4)))))),?_⟩
 obtain⟨m0,lt0⟩:=qL7 ms;refine⟨_,rfl,p,ms,m0,rfl,hp,by omega,lt0,fun ro H1 e1 ro0 hro=>?_⟩;obtain⟨gm,_⟩:=qE5 (m:=m0) ms lt0;have lR:=qD3 ms;refine⟨_,rfl,ro,rfl,⟨_,SqL.of hro⟩,?_⟩;refine qBc (fun _=>true) (fun z=>2^lo z) hro (by omega) (fun z hz C B c b=>⟨Sle.set _ (Sle.refl _) (fun u z=>by cases z),?_⟩) ?_
 ·refine iteT (B:=B H1) ⟨_,rfl,_,rfl,_,rfl,_,_,rfl,rfl,?_⟩;have:=c rfl;rw[show iV (2^lo z)=V.int (Builtin.bitAnd (z:Int) (-(z:Int))) by rw[qLu (gm z hz).2]]at this;exact this
 intro l1 hl1;have n1:=e1.trans (Ext.new hl1 (.lst ((((redL ms).filter fun _=>true).map fun z=>2^lo z).map iV)));refine⟨l1,(((redL ms).filter fun _=>true).map fun z=>2^lo z).map (fun n:Nat=>(n:Int)),rfl,SqL.of (by rw[upd_same,qB6]),?_⟩;rw[qCq];have hro1:=(Ext.new hl1 (.lst ((((redL ms).filter fun _=>true).map fun z=>2^lo z).map iV))) _ _ hro;refine⟨hAo _,fun fo fo1=>?_⟩;have fo0:=n1.none fo1;have n2:=n1.trans (Ext.new fo1 (.lst []));have hro2:=(Ext.new fo1 (.lst [])) _ _ hro1;revert n2 hro2;have hfo2:upd (upd H1 l1 (.lst ((((redL ms).filter fun _=>true).map fun z=>2^lo z).map iV))) fo (.lst []) fo=some (.lst []):=upd_same;revert hfo2;generalize upd (upd H1 l1 (.lst ((((redL ms).filter fun _=>true).map fun z=>2^lo z).map iV))) fo (.lst [])=H2;intro hfo2 n2 hro2;have rofo:ro≠fo:=qAo hro1 fo1;generalize (((redL ms).filter fun _=>true).map fun z=>2^lo z).sum=fr;refine⟨_,rfl,(m:Int),rfl,by omega,by omega,?_⟩;refine qBp (lo:=0) (n:=((m:Int)).toNat) (fun i σ H'=>∃(x5:Option V) (ns:List Nat),σ=[some (.ref p),some (iV m),some (.ref ro),some (iV fr),some (.ref fo),x5]/\Ext H H'/\LsN H' ro (redL ms)/\LsN H' fo ns/\ns.length<=i) ⟨none,[],rfl,n2,hro2,hfo2,hA7 _⟩ ?_ ?_
 ·rintro i σ H' hi ⟨x5,ns,rfl,e,hr',hf,ln⟩;have hi':i<m:=by omega
  refine⟨_,rfl,_,rfl,_,_,rfl,rfl,(by show(0:Int)<=_;omega),_,_,rfl,rfl,rfl,_,rfl,?_⟩;refine ite2 (fun c=>?_) (fun c=>?_)
  ·refine⟨_,rfl,.inl ⟨rfl,_,SqL.of hf⟩,_,rfl,_,_,rfl,rfl,⟨by omega,by omega,by decide⟩,?_⟩;refine⟨_,rfl,ro,rfl,⟨_,SqL.of hr'⟩,?_⟩;refine qBc (fun z=>z.testBit i) (fun z=>2^lo z) hr' (by omega) (fun z hz C B c2 b2=>⟨Sle.set _ (Sle.refl _) (fun u z=>by cases z),?_⟩) ?_
   ·refine⟨_,rfl,_,rfl,_,_,rfl,rfl,(by show(0:Int)<=_;omega),_,_,rfl,rfl,rfl,_,rfl,?_⟩;have key:(decide (V.int (Builtin.bitAnd ((z:Int) / 2^(0+(i:Int)).toNat) 1)=V.int 1)=true)↔z.testBit i=true:=by
     rw[decide_eq_true_iff,V.int.injEq,show(0+(i:Int))=((i:Nat):Int) by omega,hAz,qE3];by_cases b:z.testBit i=true
     ·simp[b]
     ·simp[b]
    refine ite2 (fun cc=>⟨_,rfl,_,rfl,_,rfl,_,_,rfl,rfl,?_⟩) (fun cc=>b2 ?_)
    ·have:=c2 (key.mp cc);rw[show iV (2^lo z)=V.int (Builtin.bitAnd (z:Int) (-(z:Int))) by rw[qLu (gm z hz).2]]at this;exact this
    ·cases q2:z.testBit i with
     |false=>rfl
     |true=>exact absurd (key.mpr q2) cc
   ·intro l2 hl2;have n3:=Ext.new hl2 (.lst ((((redL ms).filter fun z=>z.testBit i).map fun z=>2^lo z).map iV));refine⟨l2,(((redL ms).filter fun z=>z.testBit i).map fun z=>2^lo z).map (fun n:Nat=>(n:Int)),rfl,SqL.of (by rw[upd_same,qB6]),?_⟩;rw[qCq];refine⟨_,_,rfl,rfl,fo,_,_,rfl,rfl,n3 _ _ hf,by rw[hA1];exact qAi (by omega),?_⟩;have ev:(fun i j:Int=>V.int (i+j)) (1*2^(0+(i:Int)).toNat) (((((redL ms).filter fun z=>z.testBit i).map fun z=>2^lo z).sum:Nat):Int)=iV (2^i+((((redL ms).filter fun z=>z.testBit i).map fun z=>2^lo z).sum)):=by
     show V.int (_+_)=V.int _;rw[show(0+(i:Int))=((i:Nat):Int) by omega,qBt,Int.natCast_add]
    rw[ev];refine⟨_,ns++[2^i+((((redL ms).filter fun z=>z.testBit i).map fun z=>2^lo z).sum)],rfl,(e.trans n3).over fo0 _,?_,?_,by rw[hAa];exact hC7 ln⟩
    ·unfold LsN;rw[qAl rofo];exact n3 _ _ hr'
    ·unfold LsN;rw[upd_same,hA3];rfl
  ·exact⟨_,ns,rfl,e,hr',hf,by omega⟩
 ·rintro σ H' ⟨x5,ns,rfl,e,hr',hf,ln⟩;exact⟨_,rfl,q fo ns _ e fo0 hf (by omega)⟩
abbrev mrN:List Str:=["_law_base","_law_many","_law_big_here","_law_most","_law_way","_law_mate"]
theorem qFm:FnScope mrN ["_law_base","_law_many","_law_big_here","_law_most"] (qAe qT4):=⟨rfl,rfl,rfl,by decide +kernel,rfl,by decide +kernel,by decide +kernel⟩
abbrev mrC:List Str:=["_law_step","_law_mate","_law_many"]
theorem qYi(F:Fun K "_law_with_more" "_law_with_more" qT4 f fd)(ml:mg "len" = none):FnOk P w K mg base CX0 1 f fd ["_law_base","_law_many","_law_big_here","_law_most"] qVu:=by
 refine F.ok qFm (fun vs H Q E h=>?_) (fun cdv A outer s H vs Q E hr h=>?_)
 ·obtain⟨p,ms,m,M,b,rfl,_⟩:=h;rfl
 obtain⟨p,ms,m,M,b,rfl,hp,lm,m0,M12,q⟩:=h;refine⟨_,qAc (qIl PassesOwn.never (qAp qEk (pv 1) (pv 3) (qAu _))
   (qAc (qAj (i:=4) qFm.nd rfl (Or.inl rfl) (qAh qA7 (pv 2) qAd))
   (qAc (qAj (i:=5) qFm.nd rfl (Or.inr rfl) (qAh qA7 (qAh qA3 (pv 2) qAd) (pv 1)))
   (qAc (qAj (i:=2) qFm.nd rfl (Or.inl rfl) (qAh qA3 (qAh qA3 (pv 2) qAd) (pv 1)))
   (qAc (qBi (PW.pt (qJo (qAp qB1 (pv 4) qAd (qAu _)) (qGk (qAp qEk (qAk qAn rfl ml hAv (qAa (pv 0) qAb)) qAd (qAu _)))))
     (qAf (qAj (i:=0) qFm.nd rfl (Or.inl rfl) (qAh qB5 (pv 0) (qA4 (qAa (qAh qCa qAd (pv 1)) qAb)))))
     (qAf (qBi (PW.pt (qJo (qAp qB1 (pv 4) qAd (qAu _)) (qGk (qAp qEk (qAk qAn rfl ml hAv (qAa (pv 0) qAb)) qAd (qAu _)))))
      (qAf (qAj (i:=0) qFm.nd rfl (Or.inl rfl) (qAh qB5 (pv 0) (qA4 (qAa (qAh zAt (qAh qCa qAd (pv 1)) (qAh qCa qAd (pv 5))) qAb)))))
      (qAf (qBi (qAp qB1 (pv 4) qAd (qAu _))
       (qAf (qEi (i:=0) (N:=mrN) (sc:=qAe qT4) (N':=mrC) (sub:=[none,some 5,some 1]) rfl rfl (CmpOk.of (by decide +kernel)) rfl (qAq (pv 0))
        (fun C s H fp=>⟨qAg (i:=0) (by show mrC.Nodup;decide) rfl (Or.inl rfl),qAz,qAh zAt (pv 0) (qAh qCa (qAh qBr (qAh qFq (pv 0) (pv 1)) qAd) (pv 2))⟩) qFm.nd rfl (Or.inl rfl)))
       qA1)))))
   (qAf (qJp (i:=1) qFm.nd rfl (Or.inr rfl) qAd qNy)))))))
  (qAf (qAt (pv 0))),?_⟩
 refine⟨fun k σ H'=>∃(p:Addr) (ms:List Nat) (m:Nat) (b:Int) (x4 x5:Option V),k=M - m/\σ=[some (.ref p),some (iV m),some (.int b),some (iV M),x4,x5]/\Ext H H'/\LsN H' p ms/\ms.length<=12/\0<m,⟨_,p,ms,m,b,none,none,rfl,rfl,Ext.refl _,hp,lm,m0⟩,?_⟩;clear hp lm m0;rintro k σ H' ⟨p,ms,m,b,x4,x5,rfl,rfl,e,hp,lm,m0⟩;refine⟨_,rfl,_,rfl,_,_,rfl,rfl,_,rfl,?_⟩;refine ite2 (fun c=>?_) (fun c=>?_)
 ·have c':m<M:=by
   have:(m:Int)<(M:Int):=of_decide_eq_true c;omega
  refine⟨fun σ' H'=>∃k',k'<M - m/\∃(p:Addr) (ms:List Nat) (m:Nat) (b:Int) (x4 x5:Option V),k'=M - m/\σ'=[some (.ref p),some (iV m),some (.int b),some (iV M),x4,x5]/\Ext H H'/\LsN H' p ms/\ms.length<=12/\0<m,fun _ _ h=>h,?_⟩;have mm0:(0:Int)<(m:Int):=by omega
  obtain⟨mt,hmt,mtl⟩:∃mt:Nat,b / 4 % (m:Int)=(mt:Int)/\mt<m:=by
   have h1:=hB8 (b / 4) (show(m:Int)≠0 by omega);have h2:=hB4 (b / 4) mm0;exact⟨(b / 4 % (m:Int)).toNat,by omega,by omega⟩
  refine⟨_,rfl,_,_,rfl,rfl,(by show(0:Int)<_;decide),?_⟩;refine⟨_,rfl,_,_,rfl,rfl,⟨by decide,by decide⟩,_,rfl,_,_,rfl,rfl,mm0,?_⟩;refine⟨_,rfl,_,_,rfl,rfl,⟨by decide,by decide⟩,_,rfl,_,_,rfl,rfl,⟨mm0,by omega⟩,?_⟩;have mte:(fun i j:Int=>V.int (i % j)) (b / 4) (m:Int)=iV mt:=by show V.int _=V.int _;rw[hmt]
  rw[mte];have fin:∀(p':Addr) (ns:List Nat) (b':Int) (x4' x5':Option V) (H2:Hp),Ext H H2->LsN H2 p' ns->ns.length<=12->∃k',k'<M - m/\∃(p:Addr) (ms:List Nat) (m2:Nat) (b:Int) (x4 x5:Option V),k'=M - m2/\[some (V.ref p'),some (V.int ((m:Int)+1)),some (.int b'),some (iV M),x4',x5']=[some (.ref p),some (iV m2),some (.int b),some (iV M),x4,x5]/\Ext H H2/\LsN H2 p ms/\ms.length<=12/\0<m2:=fun p' ns b' x4' x5' H2 h1 h2 h3=>⟨M - (m+1),by omega,p',ns,m+1,b',x4',x5',rfl,rfl,h1,h2,h3,by omega⟩
  have nope:∀(k k':Int),k≠k'->decide (V.int (b % 4)=V.int k)=true->¬decide (V.int (b % 4)=V.int k')=true:=fun k k' ne h1 h2=>by
   rw[decide_eq_true_iff,V.int.injEq]at h1 h2;exact ne (h1.symm.trans h2)
  have bc:∀z:Nat,Builtin.bitAnd ((z:Int) / 2^((mt:Int)).toNat) 1=(((if z.testBit mt=true then 1 else 0:Nat):Nat):Int):=fun z=>by
   rw[hAz,qE3];split <;> rfl
  refine⟨_,rfl,rfl,_,rfl,?_⟩;refine ite2 (fun c1=>?_) (fun c1=>?_)
  ·refine⟨_,rfl,p,_,rfl,.inl (SqL.of hp),_,_,rfl,rfl,_,rfl,?_⟩;refine ite2 (fun c2=>?_) (fun c2=>?_)
   ·have l8:ms.length<8:=by
     have:(((ms.map iV).length:Nat):Int)<8:=of_decide_eq_true c2;rw[hA1]at this;omega
    refine⟨_,rfl,_,rfl,_,_,rfl,rfl,⟨by omega,by omega,by decide⟩,(by show 1<=sizeLine;decide),fun l hl=>?_⟩;have X1:=Ext.new hl (.lst [V.int (1*2^((m:Int)).toNat)]);refine⟨p,l,_,_,rfl,rfl,X1 _ _ hp,upd_same,?_,fun l2 hl2=>?_⟩
    ·rw[hA1];show _+1<=sizeLine;exact hB1 (qAi (by omega))
    ·refine⟨_,rfl,_,_,rfl,rfl,fin l2 (ms++[2^m]) _ _ _ _ (e.trans (X1.trans (Ext.new hl2 _))) ?_ (by rw[hAa];show _+1<=12;omega)⟩;unfold LsN;rw[upd_same,hA3];show some (HO.lst (_++[V.int (1*2^((m:Int)).toNat)]))=_;rw[qBt];rfl
   ·refine⟨_,rfl,rfl,_,rfl,?_⟩;refine ite2 (fun c3=>absurd c3 (nope 0 1 (by decide) c1)) (fun c3=>qHa ?_);refine⟨_,rfl,rfl,_,rfl,?_⟩;refine ite2 (fun c4=>absurd c4 (nope 0 2 (by decide) c1)) (fun c4=>?_);exact⟨_,rfl,_,_,rfl,rfl,fin p ms _ _ _ _ e hp lm⟩
  ·refine qHa ⟨_,rfl,rfl,_,rfl,?_⟩;have thr:∀(h:¬False),True:=fun _=>trivial
   refine ite2 (fun c3=>?_) (fun c3=>?_)
   ·refine⟨_,rfl,p,_,rfl,.inl (SqL.of hp),_,_,rfl,rfl,_,rfl,?_⟩;refine ite2 (fun c2=>?_) (fun c2=>?_)
    ·have l8:ms.length<8:=by
      have:(((ms.map iV).length:Nat):Int)<8:=of_decide_eq_true c2;rw[hA1]at this;omega
     refine⟨_,rfl,_,rfl,_,_,rfl,rfl,⟨by omega,by omega,by decide⟩,_,rfl,_,_,rfl,rfl,⟨by omega,by omega,by decide⟩,_,_,rfl,rfl,(by show 1<=sizeLine;decide),fun l hl=>?_⟩;have X1:=Ext.new hl (.lst [V.int (Builtin.bitOr (1*2^((m:Int)).toNat) (1*2^((mt:Int)).toNat))]);refine⟨p,l,_,_,rfl,rfl,X1 _ _ hp,upd_same,?_,fun l2 hl2=>?_⟩
     ·rw[hA1];show _+1<=sizeLine;exact hB1 (qAi (by omega))
     ·refine⟨_,rfl,_,_,rfl,rfl,fin l2 (ms++[2^m ||| 2^mt]) _ _ _ _ (e.trans (X1.trans (Ext.new hl2 _))) ?_ (by rw[hAa];show _+1<=12;omega)⟩;unfold LsN;rw[upd_same,hA3];show some (HO.lst (_++[V.int (Builtin.bitOr (1*2^((m:Int)).toNat) (1*2^((mt:Int)).toNat))]))=_;rw[qBt,qBt,qS3];rfl
    ·refine⟨_,rfl,rfl,_,rfl,?_⟩;refine ite2 (fun c4=>absurd c4 (nope 1 2 (by decide) c3)) (fun c4=>?_);exact⟨_,rfl,_,_,rfl,rfl,fin p ms _ _ _ _ e hp lm⟩
   ·refine qHa ⟨_,rfl,rfl,_,rfl,?_⟩;refine ite2 (fun c4=>?_) (fun c4=>?_)
    ·refine⟨_,rfl,p,rfl,⟨_,SqL.of hp⟩,?_⟩;refine qBc (fun _=>true) (fun z=>z ||| (if z.testBit mt=true then 1 else 0) <<< m) hp (by omega) (fun z hz C B cc bb=>⟨Sle.set _ (Sle.refl _) (fun u z=>by cases z),?_⟩) ?_
     ·refine iteT (B:=B H') ⟨_,rfl,_,rfl,_,rfl,_,_,rfl,rfl,(by show(0:Int)<=_;omega),_,_,rfl,rfl,_,rfl,_,_,rfl,rfl,⟨by omega,by omega,?_⟩,_,_,rfl,rfl,?_⟩
      ·rw[bc];split <;> decide
      ·have:=cc rfl;rw[show iV (z ||| (if z.testBit mt=true then 1 else 0) <<< m)=V.int (Builtin.bitOr (z:Int) (Builtin.bitAnd ((z:Int) / 2^((mt:Int)).toNat) 1*2^((m:Int)).toNat)) by rw[bc,qTr,qS3]]at this;exact this
     ·intro l hl;refine⟨_,rfl,_,_,rfl,rfl,fin l _ _ _ _ _ (e.trans (Ext.new hl _)) upd_same ?_⟩;rw[hA1];exact hAq (hAx _ _) lm
    ·exact⟨_,rfl,_,_,rfl,rfl,fin p ms _ _ _ _ e hp lm⟩
 ·exact⟨_,rfl,q p ms _ e hp (by omega)⟩
end
theorem qVh(z p:Nat):Builtin.bitAnd (z:Int) (1*2^((p:Int)).toNat - 1)=((z&&&(2^p - 1):Nat):Int):=by
 rw[qBt];have:0<2^p:=Nat.pow_pos (by decide);rw[show((2^p:Nat):Int) - 1=((2^p - 1:Nat):Int) by omega,qCb]
theorem qDv{α β:Type}{R:α->β->Prop}:∀ {as:List α} {bs:List β} {cs:List α} {ds:List β},Paired R as bs->Paired R cs ds->Paired R (as++cs) (bs++ds)
 |_,_,_,_,.nil,h=>h
 |_,_,_,_,.cons a r,h=>.cons a (qDv r h)
def rwE(x:Nat)(n:Nat):List (Int×Int):=(List.range n).map fun (y:Nat)=>((0+(x:Int)),(0+(y:Int)))
def prs:Nat->List (Int×Int)
 |0=>[]
 |i+1=>prs i++rwE i 6
def pr2(t:Int×Int):Bool:=decide (t.1<t.2) && decide (t.2<5)
def pr3(t:Int×Int):Bool:=decide (t.1<3) && decide (3<=t.2)
theorem qLe(x n:Nat):(rwE x n).length=n:=by unfold rwE;rw[hA1,hB0]
theorem qE6:∀i,(prs i).length=6*i
 |0=>rfl
 |i+1=>by
  show(prs i++rwE i 6).length=_;rw[hAa,qE6 i,qLe];omega
theorem qX1:0<((prs 6).filter pr2).length:=by decide +kernel
theorem qX0:0<((prs 6).filter pr3).length:=by decide +kernel
theorem qHi{K:PySem.W.Frag}{as:List Addr}{es:List (Int×Int)}{Q:List V->Hp->Prop}{H1:Hp}{σ0:St}{g:TG}{tt:TT}{te:TE}{p:Addr}(pr:Int×Int->Bool)(hp:H1 p=some (.lst (as.map V.ref)))(pe:Paired (fun a t=>H1 a=some (.tup (enV t))) as es)(ln:es.length<=36)
  (hs:∀a t,H1 a=some (.tup (enV t))->∀(C:V->Hp->Prop) (B:Hp->Prop),(pr t=true->C (.ref a) H1)->(pr t=false->B H1)->g (.ref a) σ0 H1 fun σ2 H2=>Sle σ0 σ2/\tt σ2 H2 fun b H3=>if b=true then te σ2 H3 C else B H3)
  (hd:∀bs,Paired (fun a t=>H1 a=some (.tup (enV t))) bs (es.filter pr)->Q (bs.map V.ref) H1):qDj (Itl K p) σ0 g tt te Q H1:=by
 have la:as.length=es.length:=pe.length;refine qAr (xs:=as.map V.ref) (fun j ys H2=>H2=H1/\∃bs:List Addr,ys=bs.map V.ref/\Paired (fun a t=>H1 a=some (.tup (enV t))) bs ((es.take j).filter pr)) ⟨rfl,[],rfl,.nil⟩ (fun j ys H2 _ h=>by rw[h.1];exact SqL.of hp) ?_ ?_
 ·rintro j x ys H2 hx ⟨rfl,bs,rfl,pb⟩;obtain⟨a,rfl,ha⟩:=qBk hx;obtain⟨t,ht,h1⟩:=qAw pe ha;have hj:=qAy ht;have lb:bs.length=_:=pb.length;have sz:=hAx pr (es.take j);rw[hAh]at sz;refine hs a t h1 _ _ (fun b=>⟨by rw[hA1];exact qAi (by omega),nxt (qAy hx) ⟨rfl,bs++[a],by rw[hA3];rfl,?_⟩⟩) (fun b=>nxt (qAy hx) ⟨rfl,bs,rfl,?_⟩)
  ·rw[zBi ht b];exact pb.snoc h1
  ·rw[zBj ht b];exact pb
 ·rintro ys H2 ⟨rfl,bs,rfl,pb⟩;rw[hA1,la,hA5 (hA7 _)]at pb;exact hd bs pb
section
variable{P:Program}{w:World}{K:PySem.W.Frag}{mg:Str->Option Value}{base:Heap}{f f1 f2 f3 f4 f5:Addr}{fd fd1 fd2 fd3 fd4 fd5:FuncData}
abbrev smN:List Str:=["_law_kind","_law_base","_law_pairs","_law_one","_law_lights","_law_point"]
theorem qEe:FnScope smN ["_law_kind"] (qAe qLc):=⟨rfl,rfl,rfl,by decide +kernel,rfl,by decide +kernel,by decide +kernel⟩
abbrev smC:List Str:=["_law_k","_law_pair","_law_point"]
theorem qYd(F:Fun K "_law_small" "_law_small" qLc f fd)(G1:Cl P w K mg base CX0 2 f1 fd1 ["_law_numbers","_law_many"] qVz "_law_crossing")
  (G2:Cl P w K mg base CX0 1 f2 fd2 ["_law_numbers"] qHl "_law_reduced") (msu:mg "sum" = none) (mr:mg "range" = none) (me:mg "enumerate" = none) (ml:mg "len" = none):FnOk P w K mg base CX0 3 f fd ["_law_kind"] qVr:=by
 refine F.ok qEe (fun vs H Q E h=>?_) (fun cdv A outer s H vs Q E hr h=>?_)
 ·obtain⟨k,rfl,_⟩:=h;rfl
 obtain⟨k,rfl,k0,k4,q⟩:=h;have hr1:=hr.mono (j:=1) (by decide);refine⟨_,qAc (qBi (qAp qEk (pv 0) qAd (qAu _))
   (qAc (qAj (i:=1) qEe.nd rfl (Or.inl rfl) (qA4 (qAa qAd (qAa qAd (qAa qAd (qAa qAd qAb))))))
   (qAf (qAt (qA5 (qAa qAd (qAa (qBg qBv (qA4 (qAa (pv 1) (qAa (qAx G1 hr rfl .nil qAv (qAa (pv 1) (qAa qAd qAb))) qAb))) (pv 0) (fun _ _=>rfl)) qAb))))))
   qA1)
  (qAc (qAj (i:=2) qEe.nd rfl (Or.inl rfl) (qA4 qAb))
  (qAc (qBb PassesOwn.never rfl (qA8 rfl mr (qAa qAd qAb)) (qAg (i:=3) qEe.nd rfl (Or.inr rfl))
   (qAf (qAj (i:=2) qEe.nd rfl (Or.inl rfl) (qAh qB5 (pv 2) (qBf (N:=smN) (sc:=qAe qLc) (N':=["_law_other","_law_one"]) (sub:=[none,some 3]) rfl rfl (CmpOk.of (by decide +kernel)) rfl (qA8 rfl mr (qAa qAd qAb))
    (fun C s H fp=>⟨qAg (i:=0) (by show(["_law_other","_law_one"]:List Str).Nodup;decide) rfl (Or.inl rfl),qAz,qA5 (qAa (pv 1) (qAa (pv 0) qAb))⟩))))))
  (qAc (qHr (fun σ H2=>∃(pa:Addr) (x3:Option V) (es:List (Int×Int)),σ=[some (.int k),none,some (.ref pa),x3,none,none]/\Ext H H2/\qBd H2 pa es/\0<es.length/\es.length<=36) (qBi (qAp qB1 (pv 0) qAd (qAu _))
   (qAf (qEi (i:=2) (N:=smN) (sc:=qAe qLc) (N':=["_law_pair"]) (sub:=[none]) rfl rfl (CmpOk.of (by decide +kernel)) rfl (qAq (pv 2))
    (fun C s H fp=>⟨qAg (i:=0) (by show(["_law_pair"]:List Str).Nodup;decide) rfl (Or.inl rfl),qBl (qNf qEk qEk (qBg (show IxR _ (qO0 K) from qBs) (pv 0) qAd (fun _ _=>rfl)) (qBg (show IxR _ (qO0 K) from qBs) (pv 0) qAd (fun _ _=>rfl)) qAd),pv 0⟩) qEe.nd rfl (Or.inl rfl)))
   (qAf (qEi (i:=2) (N:=smN) (sc:=qAe qLc) (N':=["_law_pair"]) (sub:=[none]) rfl rfl (CmpOk.of (by decide +kernel)) rfl (qAq (pv 2))
    (fun C s H fp=>⟨qAg (i:=0) (by show(["_law_pair"]:List Str).Nodup;decide) rfl (Or.inl rfl),qBl (qNf qEk zCo (qBg (show IxR _ (qO0 K) from qBs) (pv 0) qAd (fun _ _=>rfl)) qAd (qBg (show IxR _ (qO0 K) from qBs) (pv 0) qAd (fun _ _=>rfl))),pv 0⟩) qEe.nd rfl (Or.inl rfl)))))
  (qAc (qAj (i:=4) qEe.nd rfl (Or.inl rfl) (qA4 qAb))
  (qAc (qBb PassesOwn.never rfl (qA8 rfl mr (qAa qAd qAb)) (qAg (i:=5) qEe.nd rfl (Or.inr rfl))
   (qAf (qB4 (qC7 hAr hBd hBe qBo (pv 4) (qAa (qAk (qCm rfl) rfl msu qCo (qAa (qBf (N:=smN) (sc:=qAe qLc) (N':=smC) (sub:=[none,none,some 5]) rfl rfl (CmpOk.of (by decide +kernel)) rfl (qD4 rfl me (qAa (pv 2) qAb))
    (fun C s H fp=>⟨(show PG _ _ (qZb K 2 _) from qB0 rfl (qAs (qAg (i:=0) (by show smC.Nodup;decide) rfl (Or.inl rfl)) (qAs (qAg (i:=1) (by show smC.Nodup;decide) rfl (Or.inl rfl)) qBe))),
     qBl (qAp (show OpR _ (compareOp .In) (rIn K false) from qDg) (pv 2) (pv 1) (by with_unfolding_all rfl)),qAh qCa qAd (pv 0)⟩)) qAb)) qAb)))))
  (qAf (qAt (qA5 (qAa (qAk qAn rfl ml hAv (qAa (pv 2) qAb)) (qAa (qAx G2 hr1 rfl .nil qAv (qAa (pv 4) qAb)) qAb)))))))))),?_⟩
 refine⟨_,rfl,_,_,rfl,rfl,_,rfl,?_⟩;refine ite2 (fun c=>?_) (fun c=>?_)
 ·have k2:k<2:=of_decide_eq_true c;refine⟨(by show 4<=sizeLine;decide),fun l0 h0=>?_⟩;have X0:=Ext.new h0 (.lst ([7,25,42,75].map iV));have hl0:LsN (upd H l0 (.lst ([7,25,42,75].map iV))) l0 [7,25,42,75]:=upd_same;refine⟨_,rfl,_,rfl,l0,[7,25,42,75],7,rfl,hl0,by decide,by decide,fun r ns H1 e1 r0 hr1' ln=>?_⟩;refine⟨(by show 2<=sizeLine;decide),fun l1 hl1=>?_⟩;have X1:=Ext.new hl1 (.lst [V.ref l0,V.ref r]);obtain rfl|rfl:k=0\/k=1:=by omega
  ·refine⟨_,rfl,l1,_,_,_,rfl,rfl,SqL.of upd_same,(by exact qA0 (j:=0) rfl),(by show 2<=sizeLine;decide),fun T hT=>?_⟩;have XT:=X1.trans (Ext.new hT (.tup [iV 7,V.ref l0]));exact q T l0 7 [7,25,42,75] _ (X0.trans (e1.trans XT)) upd_same (XT _ _ (e1 _ _ hl0)) (by decide) (by decide) (by decide)
  ·refine⟨_,rfl,l1,_,_,_,rfl,rfl,SqL.of upd_same,(by exact qA0 (j:=1) rfl),(by show 2<=sizeLine;decide),fun T hT=>?_⟩;have XT:=X1.trans (Ext.new hT (.tup [iV 7,V.ref r]));exact q T r 7 ns _ (X0.trans (e1.trans XT)) upd_same (XT _ _ hr1') ln (by decide) (by decide)
 refine⟨hAo _,fun p0 hp0=>?_⟩;refine⟨6,rfl,by decide,by decide,qBp (lo:=0) (n:=6) (fun i σ H'=>∃(pa:Addr) (x3:Option V),σ=[some (.int k),none,some (.ref pa),x3,none,none]/\Ext H H'/\qBd H' pa (prs i)) ⟨p0,none,rfl,Ext.new hp0 _,[],upd_same,.nil⟩ ?_ ?_⟩
 ·rintro i σ H' hi ⟨pa,x3,rfl,e,⟨as,hpa,pae⟩⟩;have la:as.length=6*i:=by rw[pae.length,qE6]
  refine⟨_,rfl,6,rfl,by decide,by decide,?_⟩;refine qD2 (lo:=0) (n:=6) (fun j ys H2=>Ext H' H2/\∃bs:List Addr,ys=bs.map V.ref/\Paired (fun a t=>H2 a=some (.tup (enV t))) bs (rwE i j)) ⟨Ext.refl _,[],rfl,.nil⟩ ?_ ?_
  ·rintro j ys H2 hj ⟨e2,bs,rfl,pb⟩;have lb:bs.length=j:=by rw[pb.length,qLe]
   refine⟨Sle.set _ (Sle.refl _) (fun u z=>by cases z),iteT (B:=False) ⟨_,rfl,_,rfl,(by show 2<=sizeLine;decide),fun T hT=>⟨by rw[hA1];exact qAi (by omega),nxt hj ⟨e2.trans (Ext.new hT _),bs++[T],by rw[hA3];rfl,?_⟩⟩⟩⟩;have er:rwE i (j+1)=rwE i j++[((0+(i:Int)),(0+(j:Int)))]:=by
    unfold rwE;rw[hCq,hA3];rfl
   rw[er];exact Paired.snoc (Paired.mapP pb fun a t z=>(Ext.new hT _) _ _ z) upd_same
  ·rintro ys H2 ⟨e2,bs,rfl,pb⟩ l hl;have lb:bs.length=6:=by rw[pb.length,qLe]
   have Xl:=e2.trans (Ext.new hl (.lst (bs.map V.ref)));refine⟨pa,l,_,_,rfl,rfl,Xl _ _ hpa,upd_same,by rw[hA1,hA1];exact hB1 (qAi (by omega)),fun l3 hl3=>?_⟩;have X3:=Ext.new hl3 (.lst (as.map V.ref++bs.map V.ref));refine⟨l3,_,rfl,(e.trans Xl).trans X3,as++bs,by rw[upd_same,hA3],qDv (Paired.mapP pae fun a t z=>(Xl.trans X3) _ _ z) (Paired.mapP pb fun a t z=>((Ext.new hl _).trans X3) _ _ z)⟩
 rintro σ H' ⟨pa,x3,rfl,e,⟨as,hpa,pae⟩⟩;refine⟨?_,?_⟩
 ·refine⟨_,rfl,rfl,_,rfl,?_⟩;refine ite2 (fun ck=>?_) (fun ck=>?_)
  ·refine⟨_,rfl,pa,rfl,⟨_,SqL.of hpa⟩,?_⟩;refine qHi pr2 hpa pae (by rw[qE6];decide) (fun a t ha C B c b=>⟨Sle.set _ (Sle.refl _) (fun u z=>by cases z),?_⟩) ?_
   ·refine⟨_,rfl,a,_,_,_,rfl,rfl,SqT.of ha,(by exact qA0 (j:=0) rfl),_,rfl,a,_,_,_,rfl,rfl,SqT.of ha,(by exact qA0 (j:=1) rfl),_,_,rfl,rfl,_,rfl,?_⟩;refine ite2 (fun c1=>?_) (fun c1=>?_)
    ·refine⟨_,_,rfl,rfl,_,rfl,?_⟩;refine ite2 (fun c2=>⟨_,rfl,c ?_⟩) (fun c2=>b ?_)
     ·show(decide _ && decide _)=true;rw[c1,c2];rfl
     ·show(decide _ && decide _)=false;rw[c1,hCn];simpa using c2
    ·refine⟨_,rfl,qHa (b ?_)⟩;show(decide _ && decide _)=false;rw[show decide _=false by simpa using c1];rfl
   ·intro bs pb l hl;have Xl:=Ext.new hl (.lst (bs.map V.ref));exact⟨l,_,_,rfl,e.trans Xl,⟨bs,upd_same,Paired.mapP pb fun a t z=>Xl _ _ z⟩,qX1,hAq (hAx _ _) (by rw[qE6];decide)⟩
  ·refine⟨_,rfl,pa,rfl,⟨_,SqL.of hpa⟩,?_⟩;refine qHi pr3 hpa pae (by rw[qE6];decide) (fun a t ha C B c b=>⟨Sle.set _ (Sle.refl _) (fun u z=>by cases z),?_⟩) ?_
   ·refine⟨_,rfl,a,_,_,_,rfl,rfl,SqT.of ha,(by exact qA0 (j:=0) rfl),_,_,rfl,rfl,_,rfl,?_⟩;refine ite2 (fun c1=>?_) (fun c1=>?_)
    ·refine⟨_,rfl,a,_,_,_,rfl,rfl,SqT.of ha,(by exact qA0 (j:=1) rfl),_,_,rfl,rfl,_,rfl,?_⟩;refine ite2 (fun c2=>⟨_,rfl,c ?_⟩) (fun c2=>b ?_)
     ·show(decide _ && decide _)=true;rw[c1,c2];rfl
     ·show(decide _ && decide _)=false;rw[c1,hCn];simpa using c2
    ·refine⟨_,rfl,qHa (b ?_)⟩;show(decide _ && decide _)=false;rw[show decide _=false by simpa using c1];rfl
   ·intro bs pb l hl;have Xl:=Ext.new hl (.lst (bs.map V.ref));exact⟨l,_,_,rfl,e.trans Xl,⟨bs,upd_same,Paired.mapP pb fun a t z=>Xl _ _ z⟩,qX0,hAq (hAx _ _) (by rw[qE6];decide)⟩
 ·rintro σ H2 ⟨pa,x3,es,rfl,e,en,pos,le36⟩;obtain⟨bs,hpa,pae⟩:=id en;have lb:bs.length=es.length:=pae.length;refine⟨hAo _,fun li li0=>?_⟩;refine⟨6,rfl,by decide,by decide,qBp (lo:=0) (n:=6) (fun i σ H'=>∃(x5:Option V) (ns:List Nat),σ=[some (.int k),none,some (.ref pa),x3,some (.ref li),x5]/\Ext H2 H'/\LsN H' li ns/\ns.length<=i) ⟨none,[],rfl,Ext.new li0 _,upd_same,hA7 _⟩ ?_ ?_⟩
  ·rintro i σ H' hi ⟨x5,ns,rfl,e2,hli,ln⟩;refine⟨_,rfl,.inl ⟨rfl,_,SqL.of hli⟩,_,rfl,pa,_,rfl,SqL.of (e2 _ _ hpa),?_⟩;rw[hA1];refine qDa (fun j ys H3=>Ext H' H3/\∃ms:List Nat,ys=ms.map iV/\ms.length<=j) ⟨Ext.refl _,[],rfl,hA7 _⟩ (fun j ys H3 _ p=>SqL.of (p.1 _ _ (e2 _ _ hpa))) ?_ ?_
   ·rintro j ys H3 T hj ⟨e3,ms,rfl,lm⟩ hT;have gd:(bs.map V.ref).getD j .non = .ref bs[j]:=by rw[hA8,hAe,hA2 hj];rfl
    obtain⟨t,ht,h1⟩:=qAw pae (hA2 hj);have e4:=e3.trans (Ext.new hT (.tup [V.int (j:Nat),(bs.map V.ref).getD j .non]));refine⟨T,_,rfl,SqT.of upd_same,rfl,_,_,rfl,_,_,rfl,rfl,?_⟩;refine⟨Sle.set _ (Sle.set _ (Sle.refl _) (fun u z=>by cases z)) (fun u z=>by cases z),?_⟩;refine⟨_,rfl,_,rfl,bs[j],_,gd,.inr (SqT.of ((e2.trans e4) _ _ h1)),rfl,rfl,_,rfl,?_⟩;refine ite2 (fun c3=>?_) (fun c3=>?_)
    ·refine⟨_,rfl,_,_,rfl,rfl,⟨by omega,by omega,by decide⟩,by rw[hA1];exact qAi (by omega),nxt hj ⟨e4,ms++[2^j],?_,by rw[hAa];exact hC7 lm⟩⟩;rw[hA3];show _++[V.int (1*2^(((j:Nat):Int)).toNat)]=_;rw[qBt];rfl
    ·exact nxt hj ⟨e4,ms,rfl,Nat.le_succ_of_le lm⟩
   ·rintro ys H3 ⟨e3,ms,rfl,lm⟩ l hl;have e4:=e3.trans (Ext.new hl (.lst (ms.map iV)));refine⟨l,ms.map (fun n:Nat=>(n:Int)),rfl,SqL.of (by rw[upd_same,qB6]),?_⟩;rw[qCq];refine⟨li,_,_,rfl,rfl,e4 _ _ hli,by rw[hA1];exact qAi (by omega),?_⟩;refine⟨_,ns++[ms.sum],rfl,(e2.trans e4).over li0 _,?_,by rw[hAa];exact hC7 ln⟩;unfold LsN;rw[upd_same,hA3];rfl
  ·rintro σ H' ⟨x5,ns,rfl,e2,hli,ln⟩;obtain⟨m0,lt0⟩:=qL7 ns;refine⟨_,rfl,pa,_,rfl,.inl (SqL.of (e2 _ _ hpa)),_,rfl,li,ns,m0,rfl,hli,by omega,lt0,fun r H5 e5 r0 hr5=>⟨(by show 2<=sizeLine;decide),fun T hT=>?_⟩⟩;have lR:=qD3 ns;have XT:=Ext.new hT (.tup [V.int (((bs.map V.ref).length:Nat):Int),V.ref r]);refine q T r es.length (redL ns) _ ((e.trans e2).trans (e5.trans XT)) ?_ (XT _ _ hr5) (by omega) pos le36;rw[upd_same,hA1,lb]
end
def Lrr(k:List Nat):Prop:=∃m,Gm m k/\RR (k.map (rv m))
theorem qM8(xs:List Nat):Lrr (redL xs):=by
 obtain⟨m,h⟩:=qL7 xs;obtain⟨g,e⟩:=qE5 xs h;exact⟨m,g,by rw[e];exact qEg _⟩
theorem Lrr.take{k:List Nat}(h:Lrr k)(n:Nat):Lrr (k.take n):=by
 obtain⟨m,g,r⟩:=h;refine⟨m,fun s hs=>g s (hDc hs),⟨fun s hs=>?_,?_⟩⟩
 ·obtain⟨t,ht,rfl⟩:=hAg.mp hs;exact r.nz _ (hBb (hDc ht))
 ·rw[List.map_take];exact r.ap.sublist (List.take_sublist _ _)
theorem qWa{m j:Nat}(hj:j<m):rv m (2^j)=2^(m - 1 - j):=hAt fun i=>by
 rw[qCs,hAw,hAw];by_cases h:i<m
 ·rw[decide_eq_true h,hCn];exact decide_eq_decide.mpr (by omega)
 ·rw[decide_eq_false h,Bool.false_and];exact(decide_eq_false (by omega)).symm
theorem rr_single{K:List Nat}(r:RR K){i:Nat}(h:Spn K (2^i)):∀T∈K,T=2^i\/T.testBit i=false:=by
 have nz:(2:Nat)^i≠0:=hBx (Nat.pow_pos (by decide));obtain⟨S,hS,e⟩:=qH7 r h nz;rw[Nat.log2_two_pow]at e;have z:2^i^^^S=0:=by
  refine qMj r (h.xor (.mem hS)) fun T hT=>?_
  rw[hAs,hAw];by_cases q:T=S
  ·subst q;rw[e,decide_eq_true rfl];have:=r.self hT;rw[e]at this;rw[this];rfl
  ·have h1:=r.ne hS hT (fun w=>q w.symm);rw[h1];by_cases w:i=T.log2
   ·have h2:=r.self hS;rw[e,w,h1]at h2;cases h2
   ·rw[decide_eq_false w];rfl
 have eS:S=2^i:=by
  have:=congrArg (fun x=>2^i^^^x) z;simp only[<-hC0,hCy,hDo,Nat.xor_zero]at this;exact this
 intro T hT;by_cases q:T=S
 ·exact .inl (q.trans eS)
 ·refine .inr ?_;have:=r.ne hT hS q;rw[e]at this;exact this
theorem Lrr.single{k:List Nat}(h:Lrr k){j:Nat}(hs:Spn k (2^j)):∀t∈k,t=2^j\/t.testBit j=false:=by
 obtain⟨m,g,r⟩:=h;have lt:∀x∈k,x<2^m:=fun x hx=>(g x hx).1
 have hj2:2^j<2^m:=hs.lt lt;have hj:j<m:=(Nat.pow_lt_pow_iff_right (by decide)).mp hj2;have h1:=(qDn lt hj2).mpr hs;rw[qWa hj]at h1;intro t ht;rcases rr_single r h1 (rv m t) (hBb ht) with z|z
 ·left
  have:=congrArg (rv m) z;rw[qQq (lt t ht),qWa (by omega)]at this;rw[this];congr 1;omega
 ·right
  rw[qCs,decide_eq_true (by omega),hCn]at z;rw[<-z];congr 1;omega
theorem qMa:∀(n a b:Nat),a<=n->a&&&b=0->a+b=a ||| b
 |0,a,b,ha,_=>by
  have:a=0:=by omega
  subst this;simp
 |n+1,a,b,ha,h=>by
  by_cases z:a=0
  ·subst z;simp
  have h2:a / 2&&&b / 2=0:=by rw[<-Nat.and_div_two,h]
  have ih:=qMa n (a / 2) (b / 2) (by omega) h2;have h0:(a&&&b).testBit 0=false:=by rw[h];exact hBv 0
  rw[hBt,hAy,hAy]at h0;have e0:(a ||| b).testBit 0=(decide (a % 2=1) || decide (b % 2=1)):=by rw[hCz,hAy,hAy]
  rw[hAy]at e0;have e1:(a ||| b) / 2=a / 2+b / 2:=by rw[Nat.or_div_two,ih]
  rw[show a+b=a ||| b↔a ||| b=a+b from eq_comm];generalize (a ||| b)=q at e0 e1 ⊢;have ma:a % 2=0\/a % 2=1:=by omega
  have mb:b % 2=0\/b % 2=1:=by omega
  rcases ma with ma|ma <;> rcases mb with mb|mb <;> rw[ma,mb]at h0 e0 <;> simp at h0 e0 <;> omega
theorem qZn{a b:Nat}(h:a&&&b=0)(i:Nat):(a+b).testBit i=(a.testBit i || b.testBit i):=by
 rw[qMa a a b (hA7 _) h,hCz]
abbrev Dis(hs:List Nat):Prop:=hs.Pairwise fun a b=>a&&&b=0
theorem qC4:∀ {hs:List Nat},Dis hs->∀i,hs.sum.testBit i=true↔∃h∈hs,h.testBit i=true
 |[],_,i=>by
  rw[List.sum_nil,hBv];exact⟨fun h=>(by cases h),fun ⟨_,h,_⟩=>(by cases h)⟩
 |a :: l,d,i=>by
  obtain⟨d1,d2⟩:=hB3.mp d;have ih:=qC4 d2;have z:a&&&l.sum=0:=hAt fun j=>by
   rw[hBt,hBv];by_cases w:l.sum.testBit j=true
   ·obtain⟨h,hh,hb⟩:=(ih j).mp w;have:=congrArg (fun x=>Nat.testBit x j) (d1 h hh);simp only[hBt,hBv,hb,Bool.and_true]at this;rw[this];rfl
   ·rw[hCx]at w;rw[w,Bool.and_false]
  rw[hD6,qZn z,hDl,ih i];constructor
  ·rintro(h|⟨u,hu,h⟩)
   ·exact⟨a,hA6,h⟩
   ·exact⟨u,hA4 _ hu,h⟩
  ·rintro⟨u,hu,h⟩;rcases hAf.mp hu with rfl|hu
   ·exact .inl h
   ·exact .inr ⟨u,hu,h⟩
def blS(hs:List Nat)(n:Nat):List Nat:=(hs.filter fun h=>decide (h&&&n=0))++[(hs.filter fun h=>!decide (h&&&n=0)).sum]
def blF(base:List Nat)(m:Nat):List Nat:=(base.filter fun z=>!decide (z=0)).foldl blS ((List.range m).map fun k=>2^k)
structure BlI(m:Nat)(hs:List Nat):Prop where
 dis:Dis hs
 lt:∀h∈hs,∀i,h.testBit i=true->i<m
theorem qDh{a b:Nat}(h:∀i,a.testBit i=true->b.testBit i=true->False):a&&&b=0:=hAt fun i=>by
 rw[hBt,hBv];cases ha:a.testBit i with
 |false=>rfl
 |true =>
  cases hb:b.testBit i with
  |false=>rfl
  |true=>exact(h i ha hb).elim
theorem qCf{a b:Nat}(h:a&&&b=0){i:Nat}(ha:a.testBit i=true)(hb:b.testBit i=true):False:=by
 have:=congrArg (fun x=>Nat.testBit x i) h;simp only[hBt,ha,hb,hBv]at this;cases this
theorem qEq:∀ {hs:List Nat},Dis hs->∀ {a c:Nat},a∈hs->c∈hs->a≠c->a&&&c=0
 |h :: hs,d,a,c,ha,hc,ne=>by
  obtain⟨d1,d2⟩:=hB3.mp d;rcases hAf.mp ha with z1|z1
  ·rcases hAf.mp hc with z2|z2
   ·exact(ne (z1.trans z2.symm)).elim
   ·rw[z1];exact d1 c z2
  ·rcases hAf.mp hc with z2|z2
   ·rw[Nat.and_comm,z2];exact d1 a z1
   ·exact qEq d2 z1 z2 ne
theorem BlI.step{m:Nat}{hs:List Nat}(I:BlI m hs)(n:Nat):BlI m (blS hs n):=by
 have df:Dis (hs.filter fun h=>!decide (h&&&n=0)):=I.dis.sublist hD1;have sb:=qC4 df;refine⟨hBl.mpr ⟨I.dis.sublist hD1,hCf _ _,fun a ha b hb=>?_⟩,fun h hh i hi=>?_⟩
 ·rw[hAd]at hb;subst hb;obtain⟨a1,a2⟩:=hAn.mp ha;refine qDh fun i h1 h2=>?_
  obtain⟨c,hc,hi⟩:=(sb i).mp h2;obtain⟨c1,c2⟩:=hAn.mp hc;have ne:a≠c:=fun z=>by
   subst z;rw[a2]at c2;cases c2
  have:=qEq I.dis a1 c1 ne;exact qCf this h1 hi
 ·rcases hAj.mp hh with z|z
  ·exact I.lt h (hAn.mp z).1 i hi
  ·rw[hAd]at z;subst z;obtain⟨c,hc,hci⟩:=(sb i).mp hi;exact I.lt c (hAn.mp hc).1 i hci
theorem BlI.first(m:Nat):BlI m ((List.range m).map fun k=>2^k):=by
 refine⟨?_,fun h hh i hi=>?_⟩
 ·refine hC4.mpr ((List.nodup_range (n:=m)).imp fun {a b} ne=>qDh fun i h1 h2=>?_);rw[hAw,decide_eq_true_iff]at h1 h2;exact ne (h1.trans h2.symm)
 ·obtain⟨k,hk,rfl⟩:=hAg.mp hh;rw[hAw,decide_eq_true_iff]at hi;rw[hB6]at hk;omega
theorem qS8{m j:Nat}:∀ {L hs:List Nat},BlI m hs->(∀h∈hs,h.testBit j=true->h=2^j)->(∀t∈L,t=2^j\/t.testBit j=false)->BlI m (L.foldl blS hs)/\∀h∈L.foldl blS hs,h.testBit j=true->h=2^j
 |[],hs,I,k,_=>⟨I,k⟩
 |t :: L,hs,I,k,hL=>by
  refine qS8 (hs:=blS hs t) (L:=L) (I.step t) (fun h hh hj=>?_) fun u hu=>hL u (hA4 _ hu)
  have df:Dis (hs.filter fun h=>!decide (h&&&t=0)):=I.dis.sublist hD1;rcases hAj.mp hh with z|z
  ·exact k h (hAn.mp z).1 hj
  ·rw[hAd]at z;rw[z]at hj ⊢;obtain⟨c,hc,hci⟩:=(qC4 df j).mp hj;obtain⟨c1,c2⟩:=hAn.mp hc;have e:=k c c1 hci;subst e;rcases hL t hA6 with rfl|z2
   ·refine hAt fun i=>?_
    rw[hAw];by_cases w:j=i
    ·subst w;rw[hj,decide_eq_true rfl]
    ·rw[decide_eq_false w];cases hb:(hs.filter fun h=>!decide (h&&&2^j=0)).sum.testBit i with
     |false=>rfl
     |true =>
      exfalso;obtain⟨d,hd,hdi⟩:=(qC4 df i).mp hb;obtain⟨d1,d2⟩:=hAn.mp hd;have dj:d.testBit j=true:=by
       cases q:d.testBit j with
       |true=>rfl
       |false =>
        have:d&&&2^j=0:=qDh fun i h1 h2=>by
         rw[hAw,decide_eq_true_iff]at h2;subst h2;rw[q]at h1;cases h1
        rw[decide_eq_true this]at d2;cases d2
      have:=k d d1 dj;rw[this,hAw,decide_eq_true_iff]at hdi;exact w hdi
   ·exfalso;have:2^j&&&t=0:=qDh fun i h1 h2=>by
     rw[hAw,decide_eq_true_iff]at h1;subst h1;rw[z2]at h2;cases h2
    rw[decide_eq_true this]at c2;cases c2
theorem BlI.all{m:Nat}:∀ {L hs:List Nat},BlI m hs->BlI m (L.foldl blS hs)
 |[],_,I=>I
 |t :: L,hs,I=>BlI.all (L:=L) (hs:=blS hs t) (I.step t)
theorem qWz{base:List Nat}{m h:Nat}(hh:h∈blF base m):∀i,h.testBit i=true->i<m:=(BlI.all (BlI.first m)).lt h hh
theorem qPc{base:List Nat}(r:Lrr base){m j h:Nat}(hs:Spn base (2^j))(hh:h∈blF base m)(hj:h.testBit j=true):h=2^j:=by
 refine(qS8 (BlI.first m) (fun h hh hj=>?_) (fun t ht=>r.single hs t (hAn.mp ht).1)).2 h hh hj;obtain⟨k,hk,rfl⟩:=hAg.mp hh;rw[hAw,decide_eq_true_iff]at hj;rw[hj]
theorem qFo(j:Nat):2^j&&&(2^j - 1)=0:=qDh fun i h1 h2=>by
 rw[hAw,decide_eq_true_iff]at h1;subst h1;rw[Nat.testBit_two_pow_sub_one]at h2;simp at h2
def qVq(K:PySem.W.Frag):Sp:=fun vs H Q _=>∃(a:Addr) (ns:List Int),vs=[.ref a,.int 1]/\SqL K H a (ns.map V.int)/\∀(T b:Addr) (m:Nat) (ms:List Nat) (H':Hp),Ext H H'->H' T=some (.tup [iV m,.ref b])->LsN H' b ms->m<=12->ms.length<=8->Lrr ms->Q (.ref T) H'
section
variable{P:Program}{w:World}{K:PySem.W.Frag}{mg:Str->Option Value}{base:Heap}{f f1 f2 f3 f4 f5 f6 f7:Addr}{fd fd1 fd2 fd3 fd4 fd5 fd6 fd7:FuncData}
abbrev stN:List Str:=["_law_script","_law_at","_law_big_here","_law_net_here","_law_many","_law_base","_law_most"]
theorem qCg:FnScope stN ["_law_script","_law_at"] (qAe qT1):=⟨rfl,rfl,rfl,by decide +kernel,rfl,by decide +kernel,by decide +kernel⟩
theorem qYc(F:Fun K "_law_steps_of" "_law_steps_of" qT1 f fd)
  (G1:Cl P w K mg base CX0 2 f1 fd1 ["_law_script","_law_k"] (qK0 K) "_law_big")
  (G2:Cl P w K mg base CX0 3 f2 fd2 ["_law_script","_law_at"] (qZ4 K) "_law_net")
  (G3:Cl P w K mg base CX0 1 f3 fd3 ["_law_net_here"] qKz "_law_even")
  (G4:Cl P w K mg base CX0 1 f4 fd4 ["_law_big_here","_law_many"] qVy "_law_free")
  (G5:Cl P w K mg base CX0 3 f5 fd5 ["_law_kind"] qVr "_law_small")
  (G6:Cl P w K mg base CX0 1 f6 fd6 ["_law_base","_law_many","_law_big_here","_law_most"] qVu "_law_with_more")
  (G7:Cl P w K mg base CX0 1 f7 fd7 ["_law_numbers"] qHl "_law_reduced")
  (ml:mg "len" = none) (mmi:mg "min" = none):FnOk P w K mg base CX0 4 f fd ["_law_script","_law_at"] (qVq K):=by
 refine F.ok qCg (fun vs H Q E h=>?_) (fun cdv A outer s H vs Q E hr h=>?_)
 ·obtain⟨a,ns,rfl,_⟩:=h;rfl
 obtain⟨a,ns,rfl,hS,q⟩:=h;have hr1:=hr.mono (j:=1) (by decide);have hr2:=hr.mono (j:=2) (by decide)
 let PB:Nat->St->Hp->Prop:=fun bd σ H'=>∃(B:Int) (r:Addr) (m:Nat) (b:Addr) (ms:List Nat) (x6:Option V),σ=[some (.ref a),some (.int 1),some (.int B),some (.ref r),some (iV m),some (.ref b),x6]/\Ext H H'/\LsN H' b ms/\m<=12/\ms.length<=bd
 refine⟨_,qAc (qAj (i:=2) qCg.nd rfl (Or.inl rfl) (qAx G1 hr2 rfl .nil qAv (qAa (pv 0) (qAa (qAh qA6 (pv 1) qAd) qAb))))
  (qAc (qAj (i:=3) qCg.nd rfl (Or.inl rfl) (qAx G2 hr rfl .nil qAv (qAa (pv 0) (qAa (pv 1) qAb))))
  (qAc (qHr (PB 12) (qFn (qA5 (qAa (qAk qAn rfl ml hAv (qAa (pv 3) qAb)) (qAa (qAx G3 hr1 rfl .nil qAv (qAa (pv 3) qAb)) qAb))) (qB0 rfl (qAs (qAg (i:=4) qCg.nd rfl (Or.inr rfl)) (qAs (qAg (i:=5) qCg.nd rfl (Or.inl rfl)) qBe)))))
  (qAc (qHr (PB 24) (qBi (qAp qEk (qAh qA7 (pv 2) qAd) qAd (qAu _))
   (qAf (qAj (i:=5) qCg.nd rfl (Or.inl rfl) (qAh qB5 (pv 5) (qEj qK3 (qAx G4 hr1 rfl .nil qAv (qAa (qAh qA3 (pv 2) qAd) (qAa (pv 4) qAb))) qGn (qGm (qAh qA6 qAd (qAh qA7 (pv 2) qAd)))))))
   qA1))
  (qAc (qHr (PB 24) (qBi (qAp qB1 (qAh qA7 (pv 2) qAd) qAd (qAu _))
   (qAc (qAj (i:=4) qCg.nd rfl (Or.inr rfl) (qAh qA6 qAd (qAh qA7 (qAh qA3 (pv 2) qAd) qAd)))
   (qAf (qAj (i:=5) qCg.nd rfl (Or.inl rfl) (qAx G4 hr1 rfl .nil qAv (qAa (qAh qA3 (pv 2) qAd) (qAa (pv 4) qAb))))))
   qA1))
  (qAc (qHr (PB 24) (qBi (qAp qX7 (qAh qA7 (pv 2) qAd) qAd (qAu _))
   (qAc (qFn (qAx G5 hr rfl .nil qAv (qAa (qAh qA7 (qAh qA3 (pv 2) qAd) qAd) qAb)) (qB0 rfl (qAs (qAg (i:=4) qCg.nd rfl (Or.inr rfl)) (qAs (qAg (i:=5) qCg.nd rfl (Or.inl rfl)) qBe))))
   (qAc (qAj (i:=6) qCg.nd rfl (Or.inl rfl) (qAk (qEv rfl) rfl mmi qEx (qAa qAd (qAa (qAh qA6 (pv 4) (qAh qA7 (qAh qA3 (pv 2) qAd) qAd)) qAb))))
   (qAc (qAj (i:=5) qCg.nd rfl (Or.inl rfl) (qAx G6 hr1 rfl .nil qAv (qAa (pv 5) (qAa (pv 4) (qAa (qAh qA3 (pv 2) qAd) (qAa (pv 6) qAb))))))
   (qAf (qAj (i:=4) qCg.nd rfl (Or.inr rfl) (pv 6))))))
   qA1))
  (qAc (qAj (i:=5) qCg.nd rfl (Or.inl rfl) (qEj qK3 (qAx G7 hr1 rfl .nil qAv (qAa (pv 5) qAb)) qGn (qGm qAd)))
  (qAc (qIl PassesOwn.never (qAp qX7 (qAh qCu (pv 4) (qAk qAn rfl ml hAv (qAa (pv 5) qAb))) qAd (qAu _))
   (qAc (qJp (i:=4) qCg.nd rfl (Or.inr rfl) qAd zBd)
   (qAf (qAj (i:=5) qCg.nd rfl (Or.inl rfl) (qAx G7 hr1 rfl .nil qAv (qAa (qBf (N:=stN) (sc:=qAe qT1) (N':=["_law_step","_law_many"]) (sub:=[none,some 4]) rfl rfl (CmpOk.of (by decide +kernel)) rfl (qAq (pv 5))
    (fun C s H fp=>⟨qAg (i:=0) (by show(["_law_step","_law_many"]:List Str).Nodup;decide) rfl (Or.inl rfl),qAz,qAh qBr (pv 0) (qAh qCu (qAh qCa qAd (pv 1)) qAd)⟩)) qAb))))))
  (qAf (qAt (qA5 (qAa (pv 4) (qAa (pv 5) qAb)))))))))))),?_⟩
 refine⟨_,rfl,_,rfl,_,_,rfl,rfl,a,ns,_,rfl,hS,by decide,by decide,fun B=>?_⟩;refine⟨_,rfl,_,rfl,a,ns,rfl,hS,fun r net H1 e1 r0 nt ln tx rs=>?_⟩;refine⟨?_,?_⟩
 ·obtain⟨as,hn1,pr⟩:=id nt;have lA:as.length=net.length:=pr.length;refine⟨_,rfl,r,_,rfl,.inl (SqL.of hn1),_,rfl,r,net,rfl,nt,ln,fun ev F Kp ps' H2 e2 ev0 hev pok' ei kw=>?_⟩;have lF:F.length<=12:=by have:=ei.len;omega
  refine⟨(by show 2<=sizeLine;decide),fun T hT=>⟨T,_,rfl,SqT.of upd_same,rfl,_,_,rfl,_,_,rfl,rfl,?_⟩⟩;have XT:=Ext.new hT (.tup [V.int (((as.map V.ref).length:Nat):Int),V.ref ev]);exact⟨B,r,(as.map V.ref).length,ev,F,none,rfl,e1.trans (e2.trans XT),XT _ _ hev,by rw[hA1];omega,by omega⟩
 rintro σ H2 ⟨B,r,m,b,ms,x6,rfl,e,hb,m12,lm⟩;refine⟨?_,?_⟩
 ·refine⟨_,rfl,_,_,rfl,rfl,(by show(0:Int)<_;decide),_,_,rfl,rfl,_,rfl,?_⟩;refine ite2 (fun c=>?_) (fun c=>?_)
  ·have c':B % 8<2:=of_decide_eq_true c;have b0:=hB8 B (show(8:Int)≠0 by decide);obtain⟨t,ht⟩:∃t:Nat,1+B % 8=(t:Int):=⟨(1+B % 8).toNat,by omega⟩;refine⟨_,rfl,_,rfl,_,_,rfl,rfl,⟨by decide,by decide⟩,_,rfl,_,m,rfl,m12,fun r2 ns2 H3 e3 r20 hr2' l2=>?_⟩;refine⟨_,rfl,_,_,rfl,rfl,(by show(0:Int)<_;decide),_,_,rfl,rfl,_,rfl,r2,_,rfl,SqL.of hr2',fun l hl=>?_⟩;rw[show qVc (ns2.map iV) none (some (1+B % 8))=(ns2.take t).map iV by rw[ht,qSt,List.map_take]];have Xl:=Ext.new hl (.lst ((ns2.take t).map iV));have lt:=List.length_take_le t ns2;have lt2:(ns2.take t).length<=ns2.length:=by rw[hAh];omega
   refine⟨b,l,_,_,rfl,rfl,(e3.trans Xl) _ _ hb,upd_same,by rw[hA1,hA1];exact hB1 (qAi (by omega)),fun l3 hl3=>?_⟩;exact⟨B,r,m,l3,ms++ns2.take t,x6,rfl,((e.trans e3).trans Xl).trans (Ext.new hl3 _),by unfold LsN;rw[upd_same,hA3],m12,by rw[hAa];omega⟩
  ·exact⟨B,r,m,b,ms,x6,rfl,e,hb,m12,by omega⟩
 clear e hb m12 lm;rintro σ H2 ⟨B,r,m,b,ms,x6,rfl,e,hb,m12,lm⟩;refine⟨?_,?_⟩
 ·refine⟨_,rfl,_,_,rfl,rfl,(by show(0:Int)<_;decide),rfl,_,rfl,?_⟩;refine ite2 (fun c=>?_) (fun c=>?_)
  ·have b0:=hB8 (B / 8) (show(12:Int)≠0 by decide);have b1:=hB4 (B / 8) (show(0:Int)<12 by decide);obtain⟨m',hm'⟩:∃m':Nat,1+B / 8 % 12=(m':Int):=⟨(1+B / 8 % 12).toNat,by omega⟩;have ev:(fun i j:Int=>V.int (i+j)) 1 (B / 8 % 12)=iV m':=congrArg V.int hm';refine⟨_,rfl,_,_,rfl,rfl,⟨by decide,by decide⟩,_,_,rfl,rfl,(by show(0:Int)<_;decide),_,_,rfl,rfl,?_⟩;rw[ev];exact⟨_,rfl,_,_,rfl,rfl,⟨by decide,by decide⟩,_,rfl,_,m',rfl,by omega,fun r2 ns2 H3 e3 r20 hr2' l2=>⟨B,r,m',r2,ns2,x6,rfl,e.trans e3,hr2',by omega,by omega⟩⟩
  ·exact⟨B,r,m,b,ms,x6,rfl,e,hb,m12,lm⟩
 clear e hb m12 lm;rintro σ H2 ⟨B,r,m,b,ms,x6,rfl,e,hb,m12,lm⟩;refine⟨?_,?_⟩
 ·refine⟨_,rfl,_,_,rfl,rfl,(by show(0:Int)<_;decide),_,_,rfl,rfl,_,rfl,?_⟩;refine ite2 (fun c=>?_) (fun c=>?_)
  ·have b0:=hB8 (B / 8) (show(4:Int)≠0 by decide);have b1:=hB4 (B / 8) (show(0:Int)<4 by decide);have d0:=hB8 (B / 32) (show(4:Int)≠0 by decide);have d1:=hB4 (B / 32) (show(0:Int)<4 by decide);refine⟨_,rfl,_,_,rfl,rfl,⟨by decide,by decide⟩,_,_,rfl,rfl,(by show(0:Int)<_;decide),B / 8 % 4,rfl,b0,b1,fun T b2 m2 ns2 H3 e3 hT hb2 l2 mp m36=>?_⟩;refine⟨T,_,rfl,SqT.of hT,rfl,_,_,rfl,_,_,rfl,rfl,?_⟩;obtain⟨M,hM,M12⟩:∃M:Nat,(if (m2:Int)+B / 32 % 4<12 then (m2:Int)+B / 32 % 4 else 12)=(M:Int)/\M<=12:=by
    split
    ·exact⟨((m2:Int)+B / 32 % 4).toNat,by omega,by omega⟩
    ·exact⟨12,rfl,by decide⟩
   refine⟨_,rfl,_,rfl,_,_,rfl,rfl,⟨by decide,by decide⟩,_,_,rfl,rfl,(by show(0:Int)<_;decide),_,_,rfl,rfl,12,(m2:Int)+B / 32 % 4,rfl,?_⟩;rw[hM];refine⟨_,rfl,_,rfl,_,rfl,_,_,rfl,rfl,⟨by decide,by decide⟩,_,rfl,b2,ns2,m2,M,_,rfl,hb2,l2,mp,M12,fun r3 ns3 H4 e4 hr3 l3=>?_⟩;exact⟨_,rfl,B,r,M,r3,ns3,_,rfl,e.trans (e3.trans e4),hr3,M12,l3⟩
  ·exact⟨B,r,m,b,ms,x6,rfl,e,hb,m12,lm⟩
 clear e hb m12 lm;rintro σ H2 ⟨B,r,m,b,ms,x6,rfl,e,hb,m12,lm⟩;obtain⟨m0,lt0⟩:=qL7 ms;refine⟨_,rfl,b,ms,m0,rfl,hb,by omega,lt0,fun r2 H3 e3 r20 hr2'=>⟨_,rfl,r2,_,rfl,SqL.of hr2',fun l hl=>?_⟩⟩;rw[show qVc ((redL ms).map iV) none (some 8)=((redL ms).take 8).map iV by rw[show(8:Int)=((8:Nat):Int) from rfl,qSt,List.map_take]];have Xl:=Ext.new hl (.lst (((redL ms).take 8).map iV));refine⟨fun k σ H'=>∃(m:Nat) (b:Addr) (ms:List Nat),k=m/\σ=[some (.ref a),some (.int 1),some (.int B),some (.ref r),some (iV m),some (.ref b),x6]/\Ext H H'/\LsN H' b ms/\m<=12/\ms.length<=8/\Lrr ms,⟨_,m,l,_,rfl,rfl,(e.trans e3).trans Xl,upd_same,m12,(by rw[hAh];omega),(qM8 _).take 8⟩,?_⟩;clear e hb m12 lm lt0 hr2' hl Xl;rintro k σ H' ⟨m,b,ms,rfl,rfl,e,hb,m12,lm,lrr⟩;refine⟨_,rfl,_,rfl,b,_,rfl,.inl (SqL.of hb),_,_,rfl,rfl,_,_,rfl,rfl,_,rfl,?_⟩;refine ite2 (fun c=>?_) (fun c=>?_)
 ·have c':8<k:=by
   have:(8:Int)<(k:Int) - (((ms.map iV).length:Nat):Int):=of_decide_eq_true c;omega
  refine⟨fun σ' H'=>∃k',k'<k/\∃(m:Nat) (b:Addr) (ms:List Nat),k'=m/\σ'=[some (.ref a),some (.int 1),some (.int B),some (.ref r),some (iV m),some (.ref b),x6]/\Ext H H'/\LsN H' b ms/\m<=12/\ms.length<=8/\Lrr ms,fun _ _ h=>h,?_⟩;refine⟨_,rfl,_,_,rfl,rfl,?_⟩;have ev:V.int ((k:Int) - 1)=iV (k - 1):=congrArg V.int (by omega);show(fun z H2=>_) (V.int ((k:Int) - 1)) H';rw[ev];refine⟨_,rfl,b,rfl,⟨_,SqL.of hb⟩,?_⟩;refine qBc (fun _=>true) (fun z=>z&&&(2^(k - 1) - 1)) hb (by omega) (fun z hz C B' cc bb=>⟨Sle.set _ (Sle.refl _) (fun u z=>by cases z),?_⟩) ?_
  ·refine iteT (B:=B' H') ⟨_,rfl,_,rfl,_,_,rfl,rfl,⟨by omega,by omega,by decide⟩,_,_,rfl,rfl,_,_,rfl,rfl,?_⟩;have:=cc rfl;rw[show iV (z&&&(2^(k - 1) - 1))=V.int (Builtin.bitAnd (z:Int) (1*2^(((k - 1:Nat):Int)).toNat - 1)) by rw[qVh]]at this;exact this
  ·intro l2 hl2;have X2:=Ext.new hl2 (.lst (((ms.filter fun _=>true).map fun z=>z&&&(2^(k - 1) - 1)).map iV));have l2l:((ms.filter fun _=>true).map fun z=>z&&&(2^(k - 1) - 1)).length<=8:=by
    rw[hA1];exact hAq (hAx _ _) lm
   obtain⟨m1,lt1⟩:=qL7 ((ms.filter fun _=>true).map fun z=>z&&&(2^(k - 1) - 1));refine⟨l2,_,m1,rfl,upd_same,by omega,lt1,fun r3 H4 e4 r30 hr3=>?_⟩;exact⟨k - 1,by omega,k - 1,r3,_,rfl,rfl,e.trans (X2.trans e4),hr3,by omega,hAq (qD3 _) l2l,qM8 _⟩
 ·refine⟨_,rfl,_,rfl,(by show 2<=sizeLine;decide),fun T hT=>?_⟩;have XT:=Ext.new hT (.tup [iV k,V.ref b]);exact q T b k ms _ (e.trans XT) upd_same (XT _ _ hb) m12 lm lrr
end
end My
namespace L2
open PySem PySem.Spec PyProof.Rows PySem.SeqAt PySem.MeetsSeq
section
variable{X:Cx}{k:Nat}{f:Addr}{fd:FuncData}{ps:List Str}{sp:Sp}{E:XK}
structure Aw(X:Cx)(pins:List (Addr×Obj))(a:Addr):Prop where
 loc:a≠X.env.locals
 ab:X.s₀.heap.objs.size<=a
 cel:∀x c,X.env.cells.lookup x=some c->c≠a
 pin:∀p∈X.pn++pins,p.1≠a
 fs:a∉X.fs
theorem Inv.aw(I:Inv X pins σ H s)(h:s.heap.objs.size<=a):Aw X pins a:=by
 refine⟨hBx (hAi I.lt h),hAq I.sz h,fun x c e=>?_,fun p hp=>?_,I.nofs h⟩
 ·obtain⟨v,o,ho,_⟩:=I.cell x c e;exact hAp (hAi (Heap.lt_size ho) h)
 ·exact hAp (hAi (Heap.lt_size (I.pin p hp).1) h)
theorem Inv.adoptL(I:Inv X pins σ H s)(w:Aw X pins a)(hn:H a=none)(hv:qBa ys its)(hz:ys.length<=sizeLine)
  (e:s.heap.get? a=some { cls:=.type "list",data:=.seq its.toArray n }):Inv X pins σ (upd H a (.lst ys)) s:=by
 refine⟨I.ok,I.os,I.bare,⟨I.base.keep,I.base.slot,fun b o q n' hx=>?_,I.base.there,fun b xs q=>?_,fun b o u q=>?_,fun b ps q=>?_⟩,I.loc,I.cell,?_,fun x c q=>?_,fun p hp=>?_,fun b u q=>?_,I.len⟩
 ·rw[qAl (hAp (hAi (Heap.lt_size q) w.ab))];exact I.base.free b o q n' hx
 ·have:=I.base.tups b xs q;rw[qAl (qAo this hn)];exact this
 ·have:=I.base.frzs b o u q;rw[qAl (qAo this hn)];exact this
 ·obtain⟨m,this⟩:=I.base.tbls b ps q;exact⟨m,by rw[qAl (qAo this hn)];exact this⟩
 ·rw[qAl (Ne.symm w.loc)];exact I.free
 ·rw[qAl (w.cel x c q)];exact I.freeC x c q
 ·obtain⟨h1,h2,h3⟩:=I.pin p hp;exact⟨h1,by rw[qAl (w.pin p hp)];exact h2,h3⟩
 ·by_cases hb:b=a
  ·subst hb;rw[upd_same]at q;cases q;exact⟨hz,its,n,hv,e⟩
  ·rw[qAl hb]at q;exact(I.hok b u q).stay (fun c v _ r=>r) (fun c r=>by rw[qAl (qAo r hn)];exact r) fun c xs r=>by rw[qAl (qAo r hn)];exact r
theorem Inv.repinL(f:Array Value->Array Value)(I:Inv X pins σ H s)(w:Aw X pins a)(hn:H a=none)(e:s.heap.get? a=some (seqObj "list" its n)) :
  ∃n',Inv X pins σ H { s with heap:=s.heap.update a (Obj.mapSeq f) }/\(s.heap.update a (Obj.mapSeq f)).get? a=some (seqObj "list" (f its) n'):=by
 obtain⟨c,hc⟩:∃c,(s.heap.update a (Obj.mapSeq f)).get? a=some (seqObj "list" (f its) c):=⟨_,get?_update_seq e f⟩;refine⟨c,?_,hc⟩;exact I.turned (t':=s.toks) (it:=a) (fun b o hb q=>(Heap.get?_update_other s.heap _ (Ne.symm hb)).trans q) hn w.loc (.inr w.ab) w.cel w.pin
theorem Inv.pinL(I:Inv X pins σ H s)(w:Aw X pins a)(hn:H a=none)(e:s.heap.get? a=some (seqObj "list" its n)) :
  Inv X ((a,seqObj "list" its n) :: pins) σ H s:=I.pins_of fun p hp=>by
 rcases hAf.mp hp with rfl|hp
 ·exact⟨e,hn,w.loc,w.fs,fun v q=>by cases q⟩
 ·exact I.pin p (hA9 _ hp)
theorem Inv.unpin(I:Inv X (q :: pins) σ H s):Inv X pins σ H s:=I.pins_of fun p hp=>I.pin p (hA9 _ (hA4 _ hp))
theorem Aw.cons{pins:List (Addr×Obj)}{a b:Addr}{o:Obj}(w:Aw X pins a)(h:b≠a):Aw X ((b,o) :: pins) a:=⟨w.loc,w.ab,w.cel,fun p hp=>by
 rcases hAj.mp hp with q|q
 ·exact w.pin p (hAl _ q)
 ·rcases hAf.mp q with rfl|q
  ·exact h
  ·exact w.pin p (hA9 _ q),w.fs⟩
theorem qZ6
  (I:Inv X ((kS,seqObj "list" keys.toArray en) :: (a,seqObj "list" #[] e1) :: pins) σ H s) (hk:kS≠a) (Hk:H kS=none) (Ha:H a=none) (wa:Aw X pins a) (wk:Aw X pins kS)
  (hz:IntsAre keys kz) (hv:IntsAre vs ns) (hg:kz=ns.map g) (h64:ns.length<64)
  (h:∀(s':Shared) (ns':List Int),ns'.Perm ns->ns'.Pairwise (fun x y=>g x<=g y)->Inv X pins σ (upd H a (.lst (ns'.map V.int))) s'->P (.done (.ret .none)) s') :
  wpAny (model X.prog X.w) A (ksk_end a false vs.toArray e1 (.ref kS) keys.toArray) P E' s:=by
 have lv:=hv.length;have lk:=hz.length;have lg:kz.length=ns.length:=by rw[hg,hA1]
 have hsz:keys.toArray.size=vs.length:=by rw[hAb];omega
 have hzs:(keys.toArray.zip vs.toArray).size=vs.length:=by rw[Array.size_zip,hsz,hAb,Nat.min_self]
 have hz':IntsAre keys.toArray.toList kz:=by simpa using hz
 have ok:s.heap.get? kS=some (seqObj "list" keys.toArray en):=(I.pin (kS,_) (hA9 _ (.head _))).1;have fin:∀st:SortSt,(arrOf st).Perm (keys.toArray.zip vs.toArray)->SortedTo (arrOf st) (arrOf st).size->failedOf st=none->wpAny (model X.prog X.w) A (ksk_tail a false e1 (.ref kS) st) P E' s:=by
  intro st hp hs hf;have hsz2:(arrOf st).size=vs.length:=by rw[hp.size_eq,hzs]
  obtain⟨ps,h1,h2,h3⟩:=ksk_out (b:=false) hz' hp hs;obtain⟨n1,I1,_⟩:=Inv.repinL (fun _=>(#[]:Array Value)) I.unpin (wk.cons (Ne.symm hk)) Hk ok;have oa1:(s.heap.update kS (Obj.mapSeq fun _=>(#[]:Array Value))).get? a=some (seqObj "list" #[] e1):=(I1.pin (a,_) (hA9 _ (.head _))).1;obtain⟨n2,I2,oa2⟩:=Inv.repinL (s:={ s with heap:=s.heap.update kS (Obj.mapSeq fun _=>(#[]:Array Value)) }) (fun _=>(arrOf st).map (·.2)) I1.unpin wa Ha oa1;unfold ksk_tail;try dsimp only
  refine wpAny_bind (listUpdate_at ok rfl ?_ (by rw[hsz,sizeLine_eq];omega) (hAo _));refine wpAny_bind (wpAny_letGo ?_);refine wpAny_bind (seqEpoch_at oa1 rfl ?_);refine wpAny_bind (listUpdate_at oa1 rfl ?_ (hAo _) (by simp only[hBn,if_false,Array.size_map];rw[hsz2,sizeLine_eq];omega));rw[hf];simp only[bne_self_eq_false,hBn,if_false];have hrel:∀p,p∈kz.zip vs->p.1=g (numOf p.2)/\p.2∈vs:=by
   rw[hg,<-hv.nums,hB5,List.zip_map_left];intro p hp;obtain⟨⟨u,v⟩,hq,rfl⟩:=hAg.mp hp;have h1:u=v/\u∈vs:=mem_zip_self hq;refine⟨?_,?_⟩
   ·show g (numOf u)=g (numOf v);rw[h1.1]
   ·show v∈vs;rw[<-h1.1];exact h1.2
  have hI:IntsAre (ps.map Prod.snd) ((ps.map Prod.snd).map numOf):=intsAre_map _ fun v hv'=>by
   obtain⟨p,hp',rfl⟩:=hAg.mp hv';exact hv.all _ (hrel p (h1.mem_iff.mp hp')).2
  have hP:((ps.map Prod.snd).map numOf).Perm ns:=by
   have h1':=(h1.map Prod.snd).map numOf;rw[List.map_snd_zip (by omega),hv.nums]at h1';exact h1'
  have hO:((ps.map Prod.snd).map numOf).Pairwise (fun x y=>g x<=g y):=by
   rw[hC4,hC4];refine h3.imp_of_mem fun {p q} hp' hq' hr=>?_
   have hr':p.1<=q.1:=hr;rw[(hrel p (h1.mem_iff.mp hp')).1,(hrel q (h1.mem_iff.mp hq')).1]at hr';exact hr'
  rw[<-h2]at hI hP hO;simp only[hBn,if_false]at hI hP hO;refine wpAny_pure (h _ _ hP hO ?_);exact I2.adoptL (its:=((arrOf st).map (·.2)).toList) (n:=n2) wa Ha (qHv hI) (by rw[hA1,hP.length_eq,sizeLine_eq];omega) (by rw[Array.toArray_toList];exact oa2)
 unfold ksk_end;try dsimp only
 simp only[hBn,if_false];by_cases h2:vs.toArray.size<2
 ·rw[if_pos h2,if_pos h2];refine wpAny_bind (wpAny_pure ?_);rw[StateT.run_pure];refine wpAny_bind (wpAny_pure ?_);try dsimp only
  refine fin (SortSt.mk' general' (keys.toArray.zip vs.toArray) #[] 7 none) (hDm _) ?_ rfl;intro i j hij hj;have hj2:j<(keys.toArray.zip vs.toArray).size:=hj;rw[hzs]at hj2;rw[hAb]at h2;have:i=j:=by omega
  subst this;exact Int.le_refl _
 ·rw[if_neg h2,if_neg h2];rw[hAb]at h2;rw[ksk_kind hz' (by rw[hsz];omega)];refine wpAny_bind (wpAny_pure ?_);refine wpAny_bind (wpAny_mono (wpS_sortRuns (a₀:=keys.toArray.zip vs.toArray) (st:=SortSt.mk' oneType' (keys.toArray.zip vs.toArray) #[] 7 none)
   (Q:=fun _ st'=>(arrOf st').Perm (keys.toArray.zip vs.toArray)/\failedOf st'=none/\SortedTo (arrOf st') (keys.toArray.zip vs.toArray).size)
   (ksk_intKeys hz') ⟨hDm _,rfl,rfl,rfl⟩ (by rw[hzs];omega) (by rw[hzs];omega) fun st' a1 a2 a3=>⟨a1,a2,a3⟩) ?_ fun _ _ e=>e)
  rintro⟨⟨⟩,st'⟩ s' ⟨rfl,hp,hf,hs⟩;try dsimp only
  exact fin _ hp (by rw[hp.size_eq];exact hs) hf
end
theorem qQs{P:Program}{w:World}{K:PySem.W.Frag}{mg:Str->Option Value}{base:Heap}{A:Around}{outer:List Env}{s:Shared}{H:Hp}{Q:VK}{f c':Addr}{scope:Scope}{name qual:Str}{params:Arguments}{body:Expr}{x:Str}{pm ctv:Value}{v:V}{u:Value}{t:TE}{k:Nat}
  (hr:Room k A) (e0:Env0 P w K mg base A outer s H) (ho:s.heap.get? f=some (PySem.W.kla_obj name qual params body scope [] pm c' ctv)) (hcd:s.heap.CodeRec (.ref c') qual) (S:FnScope [x] [x] scope)
  (hb:bindArgs (PySem.W.kla_fn name qual params body scope [] pm (.ref c') ctv) ⟨[u],[]⟩=pure [(x,u)]) (r:qCi v u)
  (ht:PE (qO9 CX0 P w K mg base [x] qual scope f (.ref c') A outer s H E0) body t) (hq:t (start [x] [v]) H Q) :
  codeAny (model P w) A (.call (.ref f) ⟨[u],[]⟩) (CR CX0 outer P w H s Q E0) s:=by
 have lim:s.heap.NoLimit:=e0.mod.nolimit.keeps fun b o e=>(e0.bs b o e).1
 refine PySem.W.kla_callFunE hr.depth ho rfl S.co S.gen rfl hcd ?_;rw[hb];have hkind:∀y∈[(x,u)],scope.names.lookup y.1=some .local\/(scope.names.lookup y.1=some .cell/\((cellsFrom (s.heap.objs.size+1) scope.names []).lookup y.1).isSome=true):=fun y hy=>by
  rw[hAd]at hy;subst hy;rcases S.par x hA6 with q|q
  ·exact .inl q
  ·exact .inr ⟨q,hDh _ _ _ (.inl q)⟩
 refine wpAny_pure (wpAny_newFunctionEnv_cells S.kind hkind fun env he s1 y=>?_);subst he;refine⟨lim.keeps y.toInCall.keep,PySem.W.kla_codeExpr ?_⟩;have I:Inv (qO9 CX0 P w K mg base [x] qual scope f (.ref c') A outer s H E0) [] (start [x] [v]) H s1:=qJ4 S hr.hd e0 rfl (.cons r .nil) y;refine wpAny_mono (ht [] s1 (start [x] [v]) H Q I hq) (fun u' s' ⟨v',H',J,rv,q⟩=>⟨v',H',J.os,J.bare,J.base,J.hok,rv,q⟩) fun e s' hs=>hs
section
variable{X:Cx}
theorem qJd{pins:List (Addr×Obj)}{σ:St}{H1:Hp}{s1:Shared}{l f:Addr}{ns:List Int}{g:Int->Int}{Q:VK}(I1:Inv X pins σ H1 s1)(hq:SqL X.K H1 l (ns.map V.int))(h64:ns.length<64)
  (hcall:∀n∈ns,∀(t:Tok) (pins':List (Addr×Obj)) (s':Shared),(∀p∈pins,p∈pins')->Inv X pins' σ H1 s'->wpAny (model X.prog X.w) X.A.in1.in1 (call (.ref f) [.int n t]) (EP X pins' σ (fun v H=>v = .int (g n)/\H=H1)) (fun _ _=>False) s')
  (q:∀(r:Addr) (ns':List Int),H1 r=none->ns'.Perm ns->ns'.Pairwise (fun x y=>g x<=g y)->Q (.ref r) (upd H1 r (.lst (ns'.map V.int)))) :
  wpAny (model X.prog X.w) X.A (call (.builtin "sorted") [.ref l] [(Str.ofString "key",.ref f)]) (EP X pins σ Q) X.xe s1:=by
 obtain⟨its,rv,pl,hz⟩:=I1.list hq;have hi:=qG0 rv;have hl:=hi.length;refine call_function_entry_kw kind_sorted plain_sorted entry_sorted (ksk_s1 _ _) ?_;unfold Builtin.«sorted»;refine wpAny_bind (m:=checkCount "sorted" 1 1 _) (wpAny_pure ?_);refine wpAny_bind (collect_list pl.isList ?_ (by rw[sizeLine_eq];omega));refine wpAny_bind (wpAny_newList ?_ (by rw[sizeLine_eq];omega));have hsz:((s1.heap.push (seqObj "list" #[] 0)).update s1.heap.objs.size (Obj.mapSeq (·++its.toArray))).objs.size=s1.heap.objs.size+1:=by
  rw[Heap.size_update,size_push']
 have keep:∀b o,s1.heap.get? b=some o->((s1.heap.push (seqObj "list" #[] 0)).update s1.heap.objs.size (Obj.mapSeq (·++its.toArray))).get? b=some o:=fun b o q=>by
  have hlt:b<s1.heap.objs.size:=Heap.lt_size q;rw[Heap.get?_update_ne _ _ _ _ (hAp hlt),Heap.get?_push_ne _ _ _ (hAp hlt)];exact q
 have hoL:(((s1.heap.push (seqObj "list" #[] 0)).update s1.heap.objs.size (Obj.mapSeq (·++its.toArray))).push (seqObj "list" its.toArray 0)).get? (s1.heap.objs.size+1)=some (seqObj "list" its.toArray 0):=by
  rw[<-hsz];exact Heap.get?_push_size _ rfl
 have I2:Inv X pins σ H1 { s1 with heap:=((s1.heap.push (seqObj "list" #[] 0)).update s1.heap.objs.size (Obj.mapSeq (·++its.toArray))).push (seqObj "list" its.toArray 0) } :=
  I1.kept (t':=s1.toks) fun b o q=>Heap.get?_push_of_some _ (keep b o q)
 show wpAny _ _ _ _ _ { s1 with heap:=((s1.heap.push (seqObj "list" #[] 0)).update s1.heap.objs.size (Obj.mapSeq (·++its.toArray))).push (seqObj "list" its.toArray 0) };rw[hsz];have nA:H1 (s1.heap.objs.size+1)=none:=I1.hok.fresh (hBh _);have wA:Aw X pins (s1.heap.objs.size+1):=I1.aw (hBh _);generalize s1.heap.objs.size+1=a at hoL nA wA;generalize hS:({ s1 with heap:=((s1.heap.push (seqObj "list" #[] 0)).update s1.heap.objs.size (Obj.mapSeq (·++its.toArray))).push (seqObj "list" its.toArray 0) }:Shared)=s2 at I2;have ho2:s2.heap.get? a=some (seqObj "list" its.toArray 0):=by rw[<-hS];exact hoL
 clear hoL hS;refine wpAny_bind (wpAny_holding (wpAny_call_entry_kw slot_list_sort ⟨_,ho2,rfl⟩ entry_list_sort ?body (ksk_l1 _ _)));show wpAny (model X.prog X.w) X.A.in1.in1 (Builtin.«list.sort» ⟨[.ref a],[(Str.ofString "key",.ref f)]⟩) _ _ _;rw[ksk_t1];unfold ksk_tree;have hi0:its.length<64:=by omega
 refine wpAny_bind (listItems_at ho2 rfl ?_);refine wpAny_bind (listUpdate_at ho2 rfl ?_ (by rw[hAb,sizeLine_eq];omega) (hAo _));obtain⟨e1,I3,ho3⟩:=I2.repinL (fun _=>#[]) wA nA ho2;refine wpAny_bind (seqEpoch_at ho3 rfl ?_);refine wpAny_bind (wpAny_newTuple ?_ (by show its.length<=_;rw[sizeLine_eq];omega));refine wpAny_bind (wpAny_newList ?_ (hAo _));refine wpAny_holding ?_;have I4:Inv X pins σ H1 { s2 with heap:=((s2.heap.update a (Obj.mapSeq fun _=>(#[]:Array Value))).push (seqObj "tuple" its.toArray 0)) }:=I3.kept (t':=s2.toks) fun b o q=>Heap.get?_push_of_some _ q
 have nK:=I4.fresh;have wK:=I4.aw (hA7 _);have ho4:((s2.heap.update a (Obj.mapSeq fun _=>(#[]:Array Value))).push (seqObj "tuple" its.toArray 0)).get? a=some (seqObj "list" #[] e1):=Heap.get?_push_of_some _ ho3;have nka:((s2.heap.update a (Obj.mapSeq fun _=>(#[]:Array Value))).push (seqObj "tuple" its.toArray 0)).objs.size≠a:=hBx (Heap.lt_size ho4);have I5:Inv X pins σ H1 { s2 with heap:=((s2.heap.update a (Obj.mapSeq fun _=>(#[]:Array Value))).push (seqObj "tuple" its.toArray 0)).push (seqObj "list" #[] 0) }:=I4.kept (t':=s2.toks) fun b o q=>Heap.get?_push_of_some _ q
 have ho5:(((s2.heap.update a (Obj.mapSeq fun _=>(#[]:Array Value))).push (seqObj "tuple" its.toArray 0)).push (seqObj "list" #[] 0)).get? a=some (seqObj "list" #[] e1):=Heap.get?_push_of_some _ ho4;have hk5:(((s2.heap.update a (Obj.mapSeq fun _=>(#[]:Array Value))).push (seqObj "tuple" its.toArray 0)).push (seqObj "list" #[] 0)).get? ((s2.heap.update a (Obj.mapSeq fun _=>(#[]:Array Value))).push (seqObj "tuple" its.toArray 0)).objs.size=some (seqObj "list" #[] 0):=Heap.get?_push_size _ rfl;show wpAny _ _ (ksk_rest a (.ref f) false its.toArray e1 (.ref ((s2.heap.update a (Obj.mapSeq fun _=>(#[]:Array Value))).push (seqObj "tuple" its.toArray 0)).objs.size)) _ _ { s2 with heap:=((s2.heap.update a (Obj.mapSeq fun _=>(#[]:Array Value))).push (seqObj "tuple" its.toArray 0)).push (seqObj "list" #[] 0) }
 change H1 ((s2.heap.update a (Obj.mapSeq fun _=>(#[]:Array Value))).push (seqObj "tuple" its.toArray 0)).objs.size=none at nK
 change Aw X pins ((s2.heap.update a (Obj.mapSeq fun _=>(#[]:Array Value))).push (seqObj "tuple" its.toArray 0)).objs.size at wK
 have I6:=(I5.pinL wA nA ho5).pinL (wK.cons (Ne.symm nka)) nK hk5;generalize ((s2.heap.update a (Obj.mapSeq fun _=>(#[]:Array Value))).push (seqObj "tuple" its.toArray 0)).objs.size=kS at nK wK nka I6 ⊢;generalize ({ s2 with heap:=((s2.heap.update a (Obj.mapSeq fun _=>(#[]:Array Value))).push (seqObj "tuple" its.toArray 0)).push (seqObj "list" #[] 0) }:Shared)=s6 at I6 ⊢;unfold ksk_rest;refine wpAny_bind (wpAny_rule ?_)
 first
  |rw[List.forIn_toArray]
  |(rw[<-Array.forIn_toList];simp only[List.toList_toArray])
  |rw[<-Array.forIn_toList]
 refine wpAny_bind (ksk_fold (fun i s'=>∃(kA:List Value) (e:Nat),Inv X ((kS,seqObj "list" kA.toArray e) :: (a,seqObj "list" #[] e1) :: pins) σ H1 s'/\IntsAre kA ((ns.map g).take i)) its 0 s6 ⟨[],0,I6,by simpa using IntsAre.nil⟩ ?step ?done)
 case step =>
  rintro j x s' hx ⟨kA,e,I',hk⟩;simp only[Nat.zero_add]at hk ⊢;have hj:j<its.length:=(hAk.mp hx).1;have hjn:j<ns.length:=by omega
  obtain⟨t,ht⟩:=hi.get j ns[j] (hA2 hjn);rw[hx]at ht;cases ht;have hz:kA.length<=its.length:=by
   have h1:=hk.length;rw[hAh,hA1]at h1;omega
  refine wpAny_bind (wpAny_attempt (wpAny_mono (hcall ns[j] (hBs hjn) t _ s' (fun p hp=>hA4 _ (hA4 _ hp)) I') (fun v s'' he=>?_) fun _ _ (hF:False)=>hF.elim));obtain⟨w,H',I8,rw',rfl,e8⟩:=he;rw[e8]at I8;obtain⟨t2,rfl⟩:=rw';try dsimp only
  have ok2:s''.heap.get? kS=some (seqObj "list" kA.toArray e):=(I8.pin (kS,_) (hA9 _ (.head _))).1;obtain⟨n3,I3,ok3⟩:=I8.unpin.repinL (·.push (.int (g ns[j]) t2)) (wK.cons (Ne.symm nka)) nK ok2;have ek:(ns.map g).take (j+1)=(ns.map g).take j++[g ns[j]]:=by rw[List.take_add_one,hAe,hA2 hjn];simp
  refine wpAny_bind (listUpdate_at ok2 rfl ?_ (by rw[hAb,sizeLine_eq];omega) (hAq (Nat.le_of_eq (Array.size_push ..)) (by rw[hAb,sizeLine_eq];omega)));have ea:kA.toArray.push (Value.int (g ns[j]) t2)=(kA++[Value.int (g ns[j]) t2]).toArray:=by simp
  rw[ea]at ok3;exact wpAny_pure ⟨rfl,kA++[.int (g ns[j]) t2],n3,I3.pinL (wK.cons (Ne.symm nka)) nK ok3,by rw[ek];exact ksk_snoc hk⟩
 case done =>
  rintro s' ⟨kA,e,I',hk⟩;have hk':IntsAre kA (ns.map g):=by
   have e3:(ns.map g).take (0+its.length)=ns.map g:=hA5 (by rw[hA1];omega);rw[e3]at hk;exact hk
  have ok2:s'.heap.get? kS=some (seqObj "list" kA.toArray e):=(I'.pin (kS,_) (hA9 _ (.head _))).1;try dsimp only
  refine wpAny_bind (listItems_at ok2 rfl ?_);refine qZ6 (g:=g) I' nka nK nA wA wK hk' hi rfl h64 fun s7 ns' hp ho I7=>⟨_,rfl,?_⟩
  exact wpAny_pure ⟨_,rfl,⟨.ref a,_,I7,rfl,q a ns' nA hp ho⟩⟩
end
def ExtB(P:Addr)(H H':Hp):Prop:=∀b o,b≠P->H b=some o->H' b=some o
section
variable{X:Cx}{pins:List (Addr×Obj)}{σ:St}{H:Hp}{s:Shared}
theorem Inv.grown(I:Inv X pins σ H s)(hP:H P=some (.tbl ps))(hx:Heap.ExtBut P s.heap h')(hg:h'.get? P=some { cls:=.none,data:=.fields (ps++more) }) :
  Inv X pins σ (upd H P (.tbl (ps++more))) { s with heap:=h',toks:=tk }:=by
 have ne:∀b,H b=none->b≠P:=fun b n z=>by rw[z,hP]at n;cases n
 refine I.step (g':=s.gens) (d':=s.drawn) (ch:=[]) (fun _ z=>nomatch z) (fun b o _ _ _ e n=>hx b o (ne b n) e) (fun b o _ _ _ e n=>⟨o.slots,hx b o (ne b n) e⟩) (fun b o _ e n=>by rw[qAl (ne b n)];exact n) (fun b o _ e=>?_)
  (fun b xs q=>?_) (fun b o u q=>?_) (fun b qs q=>?_) (fun m hm=>hm.extBut hx (ne _ I.free)) (fun b u q=>?_) I.bare
 ·by_cases hb:b=P
  ·rw[hb];exact⟨_,hg⟩
  ·exact⟨o,hx b o hb e⟩
 ·have:b≠P:=fun z=>by rw[z,hP]at q;cases q
  rw[qAl this];exact q
 ·have:b≠P:=fun z=>by rw[z,hP]at q;cases q
  rw[qAl this];exact q
 ·by_cases hb:b=P
  ·subst hb;rw[hP]at q;cases q;exact⟨more,upd_same⟩
  ·exact⟨#[],by rw[qAl hb,q];simp⟩
 ·by_cases hb:b=P
  ·subst hb;rw[upd_same]at q;cases q;exact hg
  ·rw[qAl hb]at q;refine(I.hok b u q).stay (fun c v hc r=>hx c v ?_ r) (fun c r=>?_) fun c xs r=>?_
   ·rcases hc with rfl|hc
    ·exact hb
    ·intro z;rw[z,hP]at hc;cases hc
   ·have:c≠P:=fun z=>by rw[z,hP]at r;cases r
    rw[qAl this];exact r
   ·have:c≠P:=fun z=>by rw[z,hP]at r;cases r
    rw[qAl this];exact r
end
structure LamAt(X:Cx)(c P:Addr):Prop where
 code:X.env.code = .ref c
 hd:PySem.W.CodeHd X.base c P
 bl:X.base.BuiltinsAt X.mg P
theorem qWj:∀ {l:List (Addr×β)} {a:Addr} {b:β},l.lookup a=some b->(a,b)∈l
 |[],_,_,h=>by cases h
 |(k,v) :: l,a,b,h=>by
  rw[hCv]at h;by_cases e:(a == k)=true
  ·rw[e]at h;cases h;rw[beq_iff_eq.mp e];exact hA6
  ·rw[hCx]at e;rw[e]at h;exact hA4 _ (qWj h)
theorem zAz{K:PySem.W.Frag}{h:Heap}{T:Addr}{ps:Array Value}(X:K.In h)(n:PySem.W.noTabs K=true)(e:h.get? T=some (PySem.W.tabObj ps)):K.lookup T=none:=by
 cases q:K.lookup T with
 |none=>rfl
 |some o =>
  have e2:=X T o q;rw[e]at e2;cases e2;have m:=qWj q;have:=hCw.mp n _ m;cases this
section
variable{P:Program}{w:World}{K:PySem.W.Frag}{mg:Str->Option Value}{base:Heap}
theorem Fun.okC{x qual:Str}{st:Stmt}{f:Addr}{fd:FuncData}{N ps:List Str}{k:Nat}{sp:Sp}(F:Fun K x qual st f fd)(S:FnScope N ps (qAe st))(len:∀vs H Q E,sp vs H Q E->vs.length=ps.length)
  (hbody:∀(A:Around) (outer:List Env) (s:Shared) (H:Hp) (vs:List V) (Q:VK) (E:XK),Room k (A.deeper (envOfC qual (qAe st) s.heap.objs.size f fd.code))->sp vs H Q E ->
   ∃t,PSs (qO9 CX0 P w K mg base N qual (qAe st) f fd.code A outer s H E).nox (qB7 st) t/\t { nx:=fun _ H'=>Q .non H',rt:=Q } (start N vs) H):FnOk P w K mg base CX0 (k+1) f fd ps sp:=by
 obtain⟨oc,od,kV,doc,pm,an,cdv,ct,osl,rfl,lk,hcd⟩:=F.ex;refine zBh lk hcd S len fun A outer s H vs Q E hr hsp=>?_
 obtain⟨t,h,q⟩:=hbody A outer s H vs Q E hr hsp;exact⟨t,h.nox,q⟩
theorem qSw{x qual:Str}{st:Stmt}{f c T:Addr}{fd:FuncData}(F:Fun K x qual st f fd)(a:PySem.W.nsIn K mainGlobals x=some (some (.ref f)))(h:PySem.W.tabIn K x=some (c,T)):fd.code = .ref c:=by
 obtain⟨oc,od,kV,doc,pm,an,cdv,ct,osl,rfl,lk,hcd⟩:=F.ex;unfold PySem.W.tabIn at h;rw[a]at h;dsimp only at h;rw[lk]at h;dsimp only at h;show cdv=_;cases cdv with
 |ref c2 =>
  dsimp only at h;split at h
  ·split at h
   ·cases h;rfl
   ·cases h
  ·cases h
 |_=>cases h
end
theorem qF5:isSubtype (.type "range_iterator") (.type "reversed")=pure false:=by rw[isSubtype_type];kernel_rfl
def qM7(n:Nat):Obj:={ cls:=.type "range_iterator",data:=.fields #[rawInt ((n:Int) - 1),rawInt n,rawInt (-1)] }
def Itd(hi:Int)(n:Nat):It:=⟨fun i _=>i<n,fun i H x H'=>H'=H/\x = .int (hi - i),fun i _=>n<=i⟩
theorem qKv{P:Program}{w:World}{K:PySem.W.Frag}{tg:Expr}(it:Addr)(hi:Int)(n:Nat):Turn P w K tg (Itd hi n) [it] it (fun i h=>IsRangeIter h it (hi+(i:Nat)*(-1)) ((n:Int) - (i:Nat)) (-1)) where
 mem:=by simp
 obj:=fun i h st b hb=>by
  have e:b=it:=by simpa using hb
  subst e;exact⟨_,st,fun v z=>by
   have z':Data.fields _=Data.cell v:=z;cases z'⟩
 keep:=fun i h h' st k=>k it (by simp) _ st
 item:=by
  intro X hP hw hK hc i pins s σ H E I hf st hg;subst hP hw hK;obtain⟨f0,f1,f2,f3,f4,f5⟩:=hf it (by simp);have W:=Walks.range (prog:=X.prog) (w:=X.w) (I.ok.hd hc) it hi (-1) n;refine W.item i s _ _ hg st fun v h' tk hv st' kk=>?_
  obtain⟨t,rfl⟩:=hv;have I1:Inv X pins σ H { s with heap:=h',toks:=tk }:=I.turned (fun b o hb e=>kk b o (by simpa using hb) e) f0 f1 f3 f4 f5;refine⟨_,rfl,qU4 (s:={ s with heap:=h',toks:=tk }) (n:="range_iterator") st' rfl rfl (by decide) ⟨.int (hi - i),H,I1,⟨t,?_⟩,⟨rfl,rfl⟩,st',fun b hb=>(hf b hb).1⟩⟩;congr 1;omega
 done:=by
  intro X hP hw hK hc i pins s σ H E I hf st hg;subst hP hw hK;obtain⟨f0,f1,f2,f3,f4,f5⟩:=hf it (by simp);exact wpAny_pyNext_range_end (I.ok.hd hc) st (by have:n<=i:=hg;omega) fun h' eb=>⟨rfl,I.turned (t':=s.toks) (fun b o hb e=>eb b o hb e) f0 f1 f3 f4 f5⟩
 self:=fun _ _ _ _ _ st h=>wpAny_pyIter_rangeiter st h
section
variable{X:Cx}{pins:List (Addr×Obj)}{σ:St}{H:Hp}{s:Shared}
theorem Inv.adoptX(I:Inv X pins σ H s)(w:Aw X pins a)(hn:H a=none)(hφ:qB8 X.prog X.w (upd H a (.ext φ)) s.heap a (.ext φ)):Inv X pins σ (upd H a (.ext φ)) s:=by
 refine⟨I.ok,I.os,I.bare,⟨I.base.keep,I.base.slot,fun b o q n' hx=>?_,I.base.there,fun b xs q=>?_,fun b o u q=>?_,fun b ps q=>?_⟩,I.loc,I.cell,?_,fun x c q=>?_,fun p hp=>?_,fun b u q=>?_,I.len⟩
 ·rw[qAl (hAp (hAi (Heap.lt_size q) w.ab))];exact I.base.free b o q n' hx
 ·have:=I.base.tups b xs q;rw[qAl (qAo this hn)];exact this
 ·have:=I.base.frzs b o u q;rw[qAl (qAo this hn)];exact this
 ·obtain⟨m,this⟩:=I.base.tbls b ps q;exact⟨m,by rw[qAl (qAo this hn)];exact this⟩
 ·rw[qAl (Ne.symm w.loc)];exact I.free
 ·rw[qAl (w.cel x c q)];exact I.freeC x c q
 ·obtain⟨h1,h2,h3⟩:=I.pin p hp;exact⟨h1,by rw[qAl (w.pin p hp)];exact h2,h3⟩
 ·by_cases hb:b=a
  ·subst hb;rw[upd_same]at q;cases q;exact hφ
  ·rw[qAl hb]at q;exact(I.hok b u q).stay (fun c v _ r=>r) (fun c r=>by rw[qAl (qAo r hn)];exact r) fun c xs r=>by rw[qAl (qAo r hn)];exact r
end
def qVd(c:Addr)(q:Str):HO:=.ext fun h=>h.CodeRec (.ref c) q
theorem qOd(r:h.CodeRec (.ref c) q):qB8 P w H h c (qVd c q):=by
 obtain⟨c2,oc,vs,t,e,ho,hd,hv⟩:=id r;cases e;refine⟨r,⟨oc,ho⟩,fun h1 h2 r1 k=>?_⟩;obtain⟨c3,oc',vs',t',e',ho',hd',hv'⟩:=r1;cases e';exact⟨c,oc',vs',t',rfl,k _ ho',hd',hv'⟩
def TabW(H:Hp)(P:Addr)(lpos:Pos)(q:Str):Prop:=H P=some (.tbl #[])\/∃c',H P=some (.tbl #[rawInt lpos.line,rawInt lpos.col,.ref c'])/\H c'=some (qVd c' q)
theorem qW5(lpos:Pos)(v:Value):codeAmong lpos (#[rawInt lpos.line,rawInt lpos.col,v]:Array Value).toList=some v:=by
 show(if _ then _ else _)=_;simp
theorem TabW.ext(h:TabW H P lpos q)(e:∀b o,H b=some o->H' b=some o):TabW H' P lpos q:=by
 rcases h with h|⟨c,h1,h2⟩
 ·exact .inl (e _ _ h)
 ·exact .inr ⟨c,e _ _ h1,e _ _ h2⟩
section
variable{X:Cx}{k:Nat}
theorem zBv{K:PySem.W.Frag}{H H':Hp}{P l:Addr}{xs:List V}{ps:Array Value}(hP:H P=some (.tbl ps))(e:ExtB P H H')(hq:SqL K H l xs):SqL K H' l xs:=by
 rcases hq with (hq|⟨o,hq⟩)|hq
 ·exact .inl (.inl (e _ _ (fun z=>by rw[z,hP]at hq;cases hq) hq))
 ·exact .inl (.inr ⟨o,e _ _ (fun z=>by rw[z,hP]at hq;cases hq) hq⟩)
 ·exact .inr hq
end
section
variable{X:Cx}
def zB0(D:PyData):Prop:=D.showable=true/\D.hasDict=false/\D.shown.length<=sizeLine/\D.depth<=16
def zCj(K:PySem.W.Frag):List V->Hp->VK->Prop:=fun xs H Q=>∃x D,xs=[x]/\DR K H x D/\zB0 D/\Q (.str D.shown) H
theorem qEu(hr:Room k X.A):qB9 X (.builtin "repr") (zCj X.K):=by
 intro pins s σ H xs us Q I r h;obtain⟨x,D,rfl,hD,⟨h1,h2,h3,h4⟩,q⟩:=h;obtain⟨u,rfl,rx⟩:=qCl r;have hu:=hr.un;have key:∀ {a:Addr} {as:List Addr},Reads s.heap (.ref a) D as->wpAny (model X.prog X.w) X.A (call (.builtin "repr") [.ref a]) (EP X pins σ Q) X.xe s:=fun rd =>
  repr_of_reads' rd h1 (PyData.noDict_hsm h2) hr.gd (by omega) (fun _ _ e=>e) (fun h' u tk hk=>⟨.str D.shown,H,I.kept hk,⟨_,rfl⟩,q⟩) h3
 cases hD with
 |non=>cases rx;exact PySem.P.repr_of_none ⟨.str _,H,I.tok _,⟨_,rfl⟩,q⟩
 |bl b=>cases rx;exact PySem.P.repr_of_bool ⟨.str _,H,I.tok _,⟨_,rfl⟩,q⟩
 |int i =>
  obtain⟨t,rfl⟩:=rx;exact PySem.P.repr_of_int (of_decide_eq_true h1) ⟨.str _,H,I.tok _,⟨_,rfl⟩,q⟩
 |str z =>
  obtain⟨t,rfl⟩:=rx;exact PySem.P.repr_of_str ⟨.str _,H,I.tok _,⟨_,rfl⟩,q⟩ h3
 |lst hq hd =>
  obtain⟨as,rd⟩:=DR.reads I (.lst hq hd) rx;cases rx;exact key rd
 |tup hq hd =>
  obtain⟨as,rd⟩:=DR.reads I (.tup hq hd) rx;cases rx;exact key rd
end
def Rb(n:Nat)(D:PyData):Prop:=D.showable=true/\D.hasDict=false/\D.leavesShort 8=true/\D.bulk<=n
def RbA(n:Nat)(Ds:List PyData):Prop:=PyData.showableAll Ds=true/\PyData.hasDictAll Ds=false/\PyData.leavesShortAll 8 Ds=true/\PyData.bulkAll Ds<=n
theorem RbA.nil:RbA n []:=⟨rfl,rfl,rfl,hAo _⟩
theorem RbA.cons{m n:Nat}{d:PyData}{ds:List PyData}(h:Rb m d)(t:RbA n ds):RbA (m+1+n) (d :: ds):=by
 obtain⟨a1,a2,a3,a4⟩:=h;obtain⟨b1,b2,b3,b4⟩:=t;refine⟨?_,?_,?_,?_⟩
 ·show(d.showable && _)=true;rw[a1,b1];rfl
 ·show(d.hasDict || _)=false;rw[a2,b2];rfl
 ·show(d.leavesShort 8 && _)=true;rw[a3,b3];rfl
 ·show d.bulk+1+_<=_;omega
theorem RbA.lst{n:Nat}{ds:List PyData}(h:RbA n ds):Rb n (.list ds):=h
theorem RbA.tup{n:Nat}{ds:List PyData}(h:RbA n ds):Rb n (.tuple ds):=h
theorem RbA.all:∀ {ds:List PyData},(∀d∈ds,Rb m d)->RbA ((m+1)*ds.length) ds
 |[],_=>RbA.nil
 |d :: ds,h=>by
  have:=RbA.cons (h d hA6) (RbA.all fun x hx=>h x (hA4 _ hx));rw[hBu,Nat.mul_succ,Nat.add_comm ((m+1)*ds.length)];exact this
theorem Rb.mono(h:Rb m d)(le:m<=n):Rb n d:=⟨h.1,h.2.1,h.2.2.1,hAq h.2.2.2 le⟩
section
variable{X:Cx}
theorem qS1(hc:X.calm=true):qB9 X (.builtin "max") (fun xs H Q=>∃(p:Addr) (ns:List Int),xs=[.ref p]/\SqL X.K H p (ns.map V.int)/\ns≠[]/\∀M,M∈ns->(∀a,a∈ns->a<=M)->Q (.int M) H):=by
 intro pins s σ H xs us Q I r h;obtain⟨p,ns,rfl,hq,ne,q⟩:=h;obtain⟨u,rfl,rx⟩:=qCl r;cases rx;obtain⟨its,rv,pl,hz⟩:=I.list hq;obtain⟨ys,rfl,rfl⟩:=qR6 rv;have e:(ys.map (fun p=>Value.int p.1 p.2)).toArray=intItems ys.toArray:=by unfold intItems;simp
 have pl':=pl.isList;rw[e]at pl';have hsz:0<ys.toArray.size:=by
  rw[hAb];cases ys with
  |nil=>exact absurd rfl ne
  |cons _ _=>exact Nat.succ_pos _
 refine max_intList (I.ok.hd hc) pl' hsz fun v h' tk hv hk=>?_
 obtain⟨t,rfl⟩:=intItems_at hv;obtain⟨h1,h2⟩:=argBest_gt (numAt ys.toArray) (ys.toArray.size - 1);refine⟨.int _,H,I.kept (t':=tk) hk,⟨t,rfl⟩,q _ ?_ fun a ha=>?_⟩
 ·rw[numAt_eq];exact getD_mem (by rw[hA1,hBo];exact hD5 h1 (Nat.sub_lt hsz Nat.one_pos))
 ·obtain⟨j,hj,rfl⟩:=mem_getD (by simpa using ha:a∈ys.toArray.toList.map (·.1));rw[hA1,hBo]at hj;rw[<-numAt_eq];exact h2 j (Nat.le_sub_one_of_lt hj)
def qXx(K:PySem.W.Frag):V->List V->Hp->VK->Prop:=fun x vs H Q=>∃(l:Addr) (ns:List Int) (z:Int),x = .ref l/\vs=[.int z]/\H l=some (.lst (ns.map V.int))/\z∈ns/\ns.length<1000/\∀j:Nat,ns[j]?=some z->Q (.int (j:Nat)) H
theorem qU8{ns:List Int}{z:Int}(h:z∈ns):∃j:Nat,ns[j]?=some z/\∀k,k<j->ns[k]?≠some z:=by
 induction ns with
 |nil=>cases h
 |cons a l ih =>
  by_cases e:a=z
  ·exact⟨0,by rw[e];rfl,fun k hk=>by omega⟩
  ·obtain⟨j,h1,h2⟩:=ih ((hAf.mp h).resolve_left fun w=>e w.symm);refine⟨j+1,h1,fun k hk=>?_⟩;cases k with
   |zero=>intro w;exact e (hAm w)
   |succ k=>exact h2 k (by omega)
theorem qRl:MtR X "list.index" (qXx X.K):=by
 intro pins s σ H x vs v us Q I rx rv h;obtain⟨l,ss,z,rfl,rfl,hH,hmem,hsm,q⟩:=h;obtain⟨j,hj,hno⟩:=qU8 hmem;have q:=q j hj;cases rx;obtain⟨u,rfl,ru⟩:=rv.one;obtain⟨t,rfl⟩:=ru;obtain⟨zz,its,n,r,hl,e⟩:=I.lstM hH;have at_:∀k (hk:k<its.length),∃y t',ss[k]?=some y/\its[k]=Value.int y t':=fun k hk=>by
  have hk':k<ss.length:=by rw[hA1]at hl;omega
  obtain⟨w,hw,rw'⟩:=r.get (i:=k) (x:=V.int ss[k]) (by rw[hAe,hA2 hk'];rfl);obtain⟨t',rfl⟩:=rw';rw[hA2 hk]at hw;exact⟨ss[k],t',hA2 hk',hAm hw⟩
 have jl:j<its.length:=by
  have:=(hAk.mp hj).1;rw[hA1]at hl;omega
 refine call_meets F.slot_list_index ⟨_,e,rfl⟩ F.entry_list_index (F.args_list_index_2 _ _)
  (MeetsSeq.list_index l its.toArray n (.int z t) (fun y=>match y with | .int y _=>y == z|_=>false) (fun y hy=>?_) j (by rw[hAb];exact jl) (by have:=(hAk.mp hj).1;omega) ?_ (fun m hm hmj=>?_)) ⟨e,⟨.int _,H,I.tok _,⟨_,rfl⟩,q⟩⟩
 ·have hy':y∈its:=by simpa using hy
  obtain⟨k,hk,rfl⟩:=List.getElem_of_mem hy';obtain⟨y,t',_,e2⟩:=at_ k hk;rw[e2];exact MeetsSeq.EqGives.int y z t' t
 ·obtain⟨y,t',h1,e2⟩:=at_ j jl;have:its.toArray[j]=Value.int y t':=by simpa using e2
  rw[this];rw[hj]at h1;cases h1;exact beq_self_eq_true _
 ·have hm':m<its.length:=by simpa using hm
  obtain⟨y,t',h1,e2⟩:=at_ m hm';have:its.toArray[m]=Value.int y t':=by simpa using e2
  rw[this];show(y == z)=false;rw[beq_eq_false_iff_ne];intro w;exact hno m hmj (by rw[h1,w])
end
end L2
namespace L2
open PySem PySem.Spec PyProof.Rows PySem.W
def qPs(K:PySem.W.Frag)(P:Addr)(lpos:Pos)(q:Str)(t:TA):TE:=fun σ H Q=>t σ H fun vs H1=>∃(p:Addr) (ns:List Int),vs=[.ref p]/\SqL K H1 p (ns.map V.int)/\ns.length<64/\TabW H1 P lpos q /\
 ∀(r:Addr) (ns':List Int) (H2:Hp),H1 r=none->ExtB P H1 H2->H2 r=some (.lst (ns'.map V.int))->ns'.Perm ns->TabW H2 P lpos q->Q (.ref r) H2
section
variable{X:Cx}{k:Nat}
theorem qLl{e body:Expr}{params:Arguments}{scope:Scope}{t:TA}{te:TE}{g:Int->Int}{p pos kp lpos:Pos}{x:Str}{c P:Addr}(L:LamAt X c P)(hr:Room (k+2) X.A)(hg:Gl X "sorted")(hm:X.mg "sorted" = none)(ha:PA X [e] t)
  (S:FnScope [x] [x] scope) (hcl:closureFor scope X.env=pure []) (hdef:defaultsOf params X.env=([],[]))
  (hb:∀(nm ql:Str) (pm cd ct u:Value),bindArgs { name:=nm,qualname:=ql,params,body:=.expr body,scope,globals:=mainGlobals,closure:=[],defaults:=.none,kwdefaults:=.none,doc:=.none,pyModule:=pm,annotations:=none,code:=cd,closureTuple:=ct,builtins:=builtinsNs } ⟨[u],[]⟩=pure [(x,u)])
  (hbody:∀(A:Around) (s:Shared) (H:Hp) (f:Addr) (cd:Value) (qual:Str),PE (qO9 CX0 X.prog X.w X.K X.mg X.base [x] qual scope f cd A X.stack s H E0) body te)
  (hte:∀(n:Int) (H:Hp) (Q:VK),Q (.int (g n)) H->te [some (.int n)] H Q)
  (he:backTo pos (starEach [e] X.env)=(false,eval e X.env) :: backTo pos (starEach [] X.env):=by rfl)
  (hplain:(backTo pos (starEach [e] X.env)).any (·.1)=false:=by rfl):PE X (.Call (.Name "sorted" p) [e] [⟨some "key",.Lambda params body scope lpos,kp⟩] pos) (qPs X.K P lpos (X.env.qual++"<lambda>") t):=by
 intro pins s σ H Q I h;refine wpAny_Call_Name_kw (qC9 I hg hm (by decide +kernel:bootBuiltins "sorted" = some (.builtin "sorted")) ?_ (by decide) (by decide));refine PyProof.Rows.callWith_kw (thn (ha pos pins s σ H _ I h) fun us s1 ⟨vs,H1,I1,r1,q1⟩=>?_) he hplain;obtain⟨l,ns,rfl,hq,h64,tw,q⟩:=q1;obtain⟨u,rfl,rx⟩:=qCl r1;cases rx;have hgs:s1.heap.Ns mainGlobals X.mg:=I1.ok.mod.glob.keeps I1.bk;obtain⟨bm,ob,b1,b2,b3,b4,b5,b6⟩:=L.bl;have rest:∀(c':Addr) (ctv:Value) (h':Heap) (tk:Nat) (H2:Hp),Inv X pins σ H2 { s1 with heap:=h'.push (PySem.W.kla_obj "<lambda>" (X.env.qual++"<lambda>") params body scope [] ((X.mg "__name__").getD .none) c' ctv),toks:=tk }->H2 c'=some (qVd c' (X.env.qual++"<lambda>"))->H2 h'.objs.size=none->Aw X pins h'.objs.size->(∃ps,H1 P=some (.tbl ps))->ExtB P H1 H2->TabW H2 P lpos (X.env.qual++"<lambda>")->(∀r,H2 r=none->H1 r=none) ->
   wpAny (model X.prog X.w) X.A (call (.builtin "sorted") [.ref l] [(Str.ofString "key",.ref h'.objs.size)]) (EP X pins σ Q) X.xe { s1 with heap:=h'.push (PySem.W.kla_obj "<lambda>" (X.env.qual++"<lambda>") params body scope [] ((X.mg "__name__").getD .none) c' ctv),toks:=tk }:=by
  intro c' ctv h' tk H2 I2 hc' nF wF ⟨ps,hP⟩ eB tw2 back;have I3:Inv X ((h'.objs.size,PySem.W.kla_obj "<lambda>" (X.env.qual++"<lambda>") params body scope [] ((X.mg "__name__").getD .none) c' ctv) :: pins) σ H2
    { s1 with heap:=h'.push (PySem.W.kla_obj "<lambda>" (X.env.qual++"<lambda>") params body scope [] ((X.mg "__name__").getD .none) c' ctv),toks:=tk }:=I2.pins_of fun p hp=>by
   rcases hAf.mp hp with rfl|hp
   ·exact⟨Heap.get?_push_size _ rfl,nF,wF.loc,wF.fs,fun v z=>by cases z⟩
   ·exact I2.pin p (hA9 _ hp)
  refine wpAny_mono (qJd (g:=g) (Q:=Q) I3 (zBv hP eB hq) h64 (fun n hn t pins' s' sub I'=>?_) (fun r ns' nr pm _=>?_)) (fun v s' ⟨y,H',J,ry,qq⟩=>⟨y,H',J.unpin,ry,qq⟩) fun _ _ z=>z
  ·have ho:=(I'.pin _ (hA9 _ (sub _ (.head _)))).1;have hcr:s'.heap.CodeRec (.ref c') (X.env.qual++"<lambda>"):=(I'.hok c' _ hc').1;refine wpAny_call (codeAny_mono (qQs (v:=.int n) (t:=te) (Q:=fun v H=>v = .int (g n)/\H=H2) (Room.in1 (Room.in1 hr)) I'.env0.in1.in1 ho hcr S (hb _ _ _ _ _ _) ⟨t,rfl⟩ (hbody _ _ _ _ _ _) (hte n H2 _ ⟨rfl,rfl⟩)) fun r s'' hq=>?_);cases r with
   |error e=>exact False.elim hq
   |ok fl =>
    cases fl with
    |ret u=>exact I'.after hq
    |next=>exact False.elim hq
    |brk=>exact False.elim hq
    |cont=>exact False.elim hq
  ·refine q r ns' _ (back r nr) (fun b o hb e=>?_) upd_same pm (tw2.ext fun b o e=>by rw[qAl (qAo e nr)];exact e);have:=eB b o hb e;rw[qAl (qAo this nr)];exact this
 rcases tw with hP|⟨c',hP,hc'⟩
 ·have hPh:s1.heap.get? P=some (PySem.W.tabObj #[]):=I1.hok P _ hP;have hgP:mainGlobals≠P:=fun z=>by
   obtain⟨o,es,ep,e1,hd,_⟩:=hgs;rw[z,hPh]at e1;cases e1;cases hd
  refine hD7 (PySem.W.kla_eval hdef (PySem.W.kla_makeFunction (mg:=X.mg) hcl I1.ok.glob hgs L.code (L.hd.keeps I1.bk) hPh trivial rfl hgP ⟨bm,ob,b1,b2,b3,b4,I1.bk _ _ b5,b6⟩ fun c' ctv h' tk hx hge hlt hrec htb=>hDb ?_));have hsz:s1.heap.objs.size<=h'.objs.size:=hB1 (hD5 hge hlt);have I2:=I1.grown (more:=#[rawInt lpos.line,rawInt lpos.col,.ref c']) (tk:=tk) (h':=h'.push (PySem.W.kla_obj "<lambda>" (X.env.qual++"<lambda>") params body scope [] ((X.mg "__name__").getD .none) c' ctv)) hP (fun b o hb e=>Heap.get?_push_of_some _ (hx b o hb e)) (Heap.get?_push_of_some _ htb);have hPlt:P<s1.heap.objs.size:=Heap.lt_size hPh;have nC1:H1 c'=none:=I1.hok.fresh hge;have nC:upd H1 P (.tbl (#[]++#[rawInt lpos.line,rawInt lpos.col,.ref c'])) c'=none:=by
   rw[qAl (hBx (hAi hPlt hge))];exact nC1
  have wC:Aw X pins c':=I1.aw hge;have I3:=I2.adoptX wC nC (qOd (hrec.keeps fun b o e=>Heap.get?_push_of_some _ e));have nF1:H1 h'.objs.size=none:=I1.hok.fresh hsz;refine rest c' ctv h' tk _ I3 upd_same ?_ (I1.aw hsz) ⟨_,hP⟩ (fun b o hb e=>?_) (.inr ⟨c',?_,upd_same⟩) fun r hr0=>?_
  ·rw[qAl (hBx hlt),qAl (hBx (hAi hPlt hsz))];exact nF1
  ·rw[qAl (qAo e nC1),qAl hb];exact e
  ·rw[qAl (hAp (hAi hPlt hge)),upd_same];simp
  ·by_cases h1:r=c'
   ·rw[h1];exact nC1
   ·rw[qAl h1]at hr0;by_cases h2:r=P
    ·rw[h2,upd_same]at hr0;cases hr0
    ·rw[qAl h2]at hr0;exact hr0
 ·have hPh:s1.heap.get? P=some (PySem.W.tabObj #[rawInt lpos.line,rawInt lpos.col,.ref c']):=I1.hok P _ hP;refine hD7 (PySem.W.kla_eval hdef (PySem.W.kla_makeFunctionHit (mg:=X.mg) hcl I1.ok.glob hgs L.code (L.hd.keeps I1.bk) hPh ?tri (qW5 lpos _) ⟨bm,ob,b1,b2,b3,b4,I1.bk _ _ b5,b6⟩ fun ctv h' tk hk hsz=>hDb ?_))
  case tri=>trivial
  have I2:Inv X pins σ H1 { s1 with heap:=h'.push (PySem.W.kla_obj "<lambda>" (X.env.qual++"<lambda>") params body scope [] ((X.mg "__name__").getD .none) c' ctv),toks:=tk }:=I1.kept (t':=tk) fun b o e=>Heap.get?_push_of_some _ (hk b o e)
  exact rest c' ctv h' tk H1 I2 hc' (I1.hok.fresh hsz) (I1.aw hsz) ⟨_,hP⟩ (fun b o _ e=>e) (.inr ⟨c',hP,hc'⟩) fun r z=>z
end
end L2
namespace My
open PySem L2
theorem qEc{n:Nat}(h:n<=5000):n<sizeLine:=hD5 h (by decide)
def sumF(N:List Nat):List Nat:=N.foldl (fun S x=>S++S.map fun z=>z^^^x) [0]
theorem qEa(N:List Nat)(x:Nat):sumF (N++[x])=sumF N++(sumF N).map fun z=>z^^^x:=by unfold sumF;rw[hBk];rfl
theorem qTn{l:List Nat}{x z:Nat}:Spn (l++[x]) z↔Spn l z\/Spn l (z^^^x):=by
 constructor
 ·intro h
  induction h with
  |zero=>exact .inl .zero
  |add hm _ ih =>
   rename_i m y _;rcases hAj.mp hm with w|w
   ·rcases ih with i|i
    ·exact .inl (.add w i)
    ·refine .inr ?_;have:=Spn.add w i;rw[<-hC0]at this;exact this
   ·rw[hAd]at w;subst w;rcases ih with i|i
    ·refine .inr ?_;rw[hDp m y,qA9];exact i
    ·refine .inl ?_;rw[hDp m y];exact i
 ·have up:∀ {y},Spn l y->Spn (l++[x]) y:=fun hy=>hy.mono fun u hu=>.mem (hAl _ hu)
  rintro(h|h)
  ·exact up h
  ·have:=(up h).xor (Spn.mem (by simp:x∈l++[x]));rw[qA9]at this;exact this
theorem qD9(N:List Nat):∀z,z∈sumF N↔Spn N z:=by
 refine qJe (P:=fun N=>∀z,z∈sumF N↔Spn N z) (fun z=>?_) (fun l x ih z=>?_) N
 ·constructor
  ·intro h;have:z=0:=by simpa [sumF] using h
   rw[this];exact .zero
  ·intro h;have:z=0:=by
    cases h with
    |zero=>rfl
    |add hm _=>cases hm
   rw[this];simp[sumF]
 ·rw[qEa,hAj,qTn,ih,hAg];refine or_congr Iff.rfl ⟨fun ⟨y,hy,e⟩=>?_,fun h=>⟨z^^^x,(ih _).mpr h,qA9 z x⟩⟩;rw[<-e,qA9];exact(ih y).mp hy
theorem qFy(N:List Nat):(sumF N).length=2^N.length:=by
 refine qJe (P:=fun N=>(sumF N).length=2^N.length) rfl (fun l x ih=>?_) N;rw[qEa,hAa,hA1,ih,hAa];show _=2^(l.length+1);rw[hDu];omega
theorem qZl(z k:Nat):(decide (V.int (Builtin.bitAnd (z:Int) (Builtin.bitNot (k:Int)))=V.int 0))=decide (z&&&k=z):=by
 have nn:¬(0:Int)<=Builtin.bitNot (k:Int):=by unfold Builtin.bitNot;omega
 have e:Builtin.bitAnd (z:Int) (Builtin.bitNot (k:Int))=(z:Int) - ((z&&&k:Nat):Int):=by
  unfold Builtin.bitAnd;rw[decide_eq_true (show(0:Int)<=(z:Int) by omega),decide_eq_false nn];have x:∀x:Int,Builtin.bitNot (Builtin.bitNot x)=x:=fun x=>by unfold Builtin.bitNot;omega
  show(z:Int) - (((z:Int).toNat&&&(Builtin.bitNot (Builtin.bitNot (k:Int))).toNat:Nat):Int)=_;rw[x,hAz,hAz]
 rw[e];refine decide_eq_decide.mpr ?_;rw[V.int.injEq];have:=Nat.and_le_left (n:=z) (m:=k);omega
def qVp:Sp:=fun vs H Q _=>∃(p:Addr) (N:List Nat),vs=[.ref p]/\LsN H p N/\N.length<=12/\∀r H',Ext H H'->H r=none->LsN H' r (sumF N)->Q (.ref r) H'
noncomputable def insF(N:List Nat)(k:Nat):List Nat:=redL ((sumF N).filter fun z=>decide (z&&&k=z))
def qVw:Sp:=fun vs H Q _=>∃(p:Addr) (N:List Nat) (k:Nat),vs=[.ref p,iV k]/\LsN H p N/\N.length<=8/\∀r H',Ext H H'->H r=none->LsN H' r (insF N k)->Q (.ref r) H'
def lpB:Pos:=match (qB7 qFu).getD 2 (.Pass ⟨0,0,0,0⟩) with
 |.Return (some (.Call _ _ [⟨_,.Lambda _ _ _ p,_⟩] _)) _=>p
 |_=>⟨0,0,0,0⟩
abbrev qB:Str:=("_law_blocks" : Str)++".<locals>."++"<lambda>"
theorem Ext.toB{P:Addr}{H H':Hp}(e:Ext H H'):ExtB P H H':=fun b o _ h=>e b o h
theorem _root_.L2.ExtB.trans{P:Addr}{H H1 H2:Hp}(a:ExtB P H H1)(b:ExtB P H1 H2):ExtB P H H2:=fun c o n h=>b c o n (a c o n h)
theorem TabW.extE{H H':Hp}{P:Addr}{lpos:Pos}{q:Str}(h:TabW H P lpos q)(e:Ext H H'):TabW H' P lpos q:=h.ext e
theorem TabW.tb{H:Hp}{P:Addr}{lpos:Pos}{q:Str}(h:TabW H P lpos q):∃ps,H P=some (.tbl ps):=by
 rcases h with h|⟨c,h,_⟩
 ·exact⟨_,h⟩
 ·exact⟨_,h⟩
def qP8(Pt:Addr):Sp:=fun vs H Q _=>∃(p:Addr) (N:List Nat) (m:Nat),vs=[.ref p,iV m]/\LsN H p N/\N.length<=12/\m<=12/\TabW H Pt lpB qB/\∀(r:Addr) (hs:List Nat) (H':Hp),ExtB Pt H H'->H r=none->LsN H' r hs->hs.Perm (blF N m)->TabW H' Pt lpB qB->Q (.ref r) H'
def zCm:V->V->Hp->VK->Prop:=rI0 fun i j=>.int (Builtin.bitAnd i j)
def zCk:V->Hp->VK->Prop:=rU fun i=>.int (-i)
def zC7(n:Int):Int:=Builtin.bitAnd n (-n)
theorem qY3(n:Int)(H:Hp)(Q:VK)(q:Q (.int (zC7 n)) H):tOp zCm (qPe 0) (tUn zCk (qPe 0)) [some (.int n)] H Q:=⟨_,rfl,_,rfl,n,rfl,_,_,rfl,rfl,q⟩
theorem qUt{ns:List Int}{ms:List Nat}(p:ns.Perm (ms.map fun n:Nat=>(n:Int))):∃hs:List Nat,ns=hs.map (fun n:Nat=>(n:Int))/\hs.Perm ms:=by
 refine⟨ns.map Int.toNat,?_,?_⟩
 ·rw[hB5];refine(hD8 ns).symm.trans (hBi fun x hx=>?_);obtain⟨n,_,rfl⟩:=hAg.mp (p.mem_iff.mp hx);rfl
 ·have:=p.map Int.toNat;rw[hB5]at this;refine this.trans (List.Perm.of_eq ?_);exact(hBi fun x _=>(hAz x)).trans (hD8 ms)
theorem zCw(z n:Nat):(V.int (Builtin.bitAnd (z:Int) (n:Int))=V.int 0)↔z&&&n=0:=by
 rw[qCb];exact⟨fun h=>by have:=V.int.inj h;omega,fun h=>by rw[h];rfl⟩
theorem qW2{z n:Nat}{c:Bool}(h:(!decide (V.int (Builtin.bitAnd (z:Int) (n:Int))=V.int 0))=c):(!decide (z&&&n=0))=c:=by
 rw[<-h,decide_eq_decide.mpr (zCw z n)]
theorem qW3{z n:Nat}{c:Bool}(h:decide (V.int (Builtin.bitAnd (z:Int) (n:Int))=V.int 0)=c):decide (z&&&n=0)=c:=by
 rw[<-h,decide_eq_decide.mpr (zCw z n)]
theorem qS9(hs:List Nat)(n:Nat):(blS hs n).length<=hs.length+1:=by
 unfold blS;rw[hAa];exact Nat.add_le_add_right (hAx _ _) 1
section
variable{P:Program}{w:World}{K:PySem.W.Frag}{mg:Str->Option Value}{base:Heap}{f f1 f2 c Pt:Addr}{fd fd1 fd2:FuncData}
abbrev lsN:List Str:=["_law_base","_law_found","_law_row_here"]
theorem qMx:FnScope lsN ["_law_base"] (qAe qT0):=⟨rfl,rfl,rfl,by decide +kernel,rfl,by decide +kernel,by decide +kernel⟩
theorem qYb(F:Fun K "_law_sums" "_law_sums" qT0 f fd):FnOk P w K mg base CX0 1 f fd ["_law_base"] qVp:=by
 refine F.ok qMx (fun vs H Q E h=>?_) (fun cdv A outer s H vs Q E hr h=>?_)
 ·obtain⟨p,N,rfl,_⟩:=h;rfl
 obtain⟨p,N,rfl,hN,lN,q⟩:=h;refine⟨_,qAc (qAj (i:=1) qMx.nd rfl (Or.inl rfl) (qA4 (qAa qAd qAb))) (qAc (qBb PassesOwn.never rfl (qAq (pv 0)) (qAg (i:=2) qMx.nd rfl (Or.inr rfl)) (qAf (qAj (i:=1) qMx.nd rfl (Or.inl rfl) (qAh qB5 (pv 1) (qBf (N:=lsN) (sc:=qAe qT0) (N':=["_law_number","_law_row_here"]) (sub:=[none,some 2]) rfl rfl (CmpOk.of (by decide +kernel)) rfl (qAq (pv 1)) (fun C s H fp=>⟨qAg (i:=0) (by show(["_law_number","_law_row_here"]:List Str).Nodup;decide) rfl (Or.inl rfl),qAz,(qAh qCt (pv 0) (pv 1))⟩)))))) (qAf (qAt (pv 1)))),?_⟩;refine⟨(by show 1<=sizeLine;decide),fun s0 hs0=>?_⟩;have X3:=Ext.new hs0 (.lst [V.int 0]);refine⟨_,rfl,p,rfl,⟨_,SqL.of (X3 _ _ hN)⟩,?_⟩;refine qBm (xs:=N.map iV) (fun i σ H'=>∃(ps:Addr) (x2:Option V),σ=[some (.ref p),some (.ref ps),x2]/\Ext H H'/\H ps=none/\LsN H' ps (sumF (N.take i))) ⟨s0,none,rfl,X3,hs0,upd_same⟩ (fun i σ H' _ h=>by obtain⟨_,_,_,e,_⟩:=h;exact SqL.of (e _ _ hN)) ?_ ?_
 ·rintro i v σ H' hx ⟨ps,x2,rfl,e,ps0,hps⟩;obtain⟨y,rfl,hy⟩:=qBz hx;have hi:=qAy hy;have lS:(sumF (N.take i)).length<=2048:=by
   rw[qFy,hAh];exact hAq (hBj (by decide) (show min i N.length<=11 by omega)) (by decide)
  refine⟨_,rfl,_,rfl,ps,rfl,⟨_,SqL.of hps⟩,?_⟩;refine qAr (xs:=(sumF (N.take i)).map iV) (fun j ys H2=>H2=H'/\ys=(((sumF (N.take i)).take j).map fun z=>z^^^y).map iV) ⟨rfl,rfl⟩ (fun j ys H2 _ h=>by rw[h.1];exact SqL.of hps) ?_ ?_
  ·rintro j v ys H3 hx3 ⟨rfl,rfl⟩;obtain⟨z,rfl,hz⟩:=qBz hx3;have hj:=qAy hz;refine⟨Sle.set _ (Sle.refl _) (fun u z=>by cases z),iteT (B:=False) ⟨_,rfl,_,rfl,_,_,rfl,rfl,?_⟩⟩;refine⟨by rw[hA1,hA1,hAh];exact qEc (by omega),nxt (qAy hx3) ⟨rfl,?_⟩⟩;rw[qAm hz,hA3,hA3];show _++[V.int (Builtin.bitXor (z:Int) (y:Int))]=_;rw[qBx];rfl
  ·rintro ys H3 ⟨rfl,rfl⟩ l hl;rw[hA1,hA5 (hA7 _)];have Xl:=Ext.new hl (.lst (((sumF (N.take i)).map fun z=>z^^^y).map iV));refine⟨ps,l,_,_,rfl,rfl,Xl _ _ hps,upd_same,by rw[hA1,hA1,hA1];exact hB1 (qEc (by omega)),fun l3 hl3=>?_⟩;have X4:=Ext.new hl3 (.lst ((sumF (N.take i)).map iV++((sumF (N.take i)).map fun z=>z^^^y).map iV));refine⟨l3,_,rfl,(e.trans Xl).trans X4,(e.trans Xl).none hl3,?_⟩;unfold LsN;rw[upd_same,qAm hy,qEa,hA3]
 rintro σ H3 ⟨ps,x2,rfl,e3,ps0,hps⟩;rw[hA1,hA5 (hA7 _)]at hps;exact⟨_,rfl,q ps H3 e3 ps0 hps⟩
abbrev liN:List Str:=["_law_base","_law_mask_here"]
theorem zAb:FnScope liN ["_law_base","_law_mask_here"] (qAe qT6):=⟨rfl,rfl,rfl,by decide +kernel,rfl,by decide +kernel,by decide +kernel⟩
theorem qYk(F:Fun K "_law_inside" "_law_inside" qT6 f fd)(G1:Cl P w K mg base CX0 1 f1 fd1 ["_law_numbers"] qHl "_law_reduced")
  (G2:Cl P w K mg base CX0 1 f2 fd2 ["_law_base"] qVp "_law_sums"):FnOk P w K mg base CX0 2 f fd ["_law_base","_law_mask_here"] qVw:=by
 refine F.ok zAb (fun vs H Q E h=>?_) (fun cdv A outer s H vs Q E hr1 h=>?_)
 ·obtain⟨p,N,k,rfl,_⟩:=h;rfl
 obtain⟨p,N,k,rfl,hN,lN,q⟩:=h;refine⟨_,qAf (qAt (qAx G1 hr1 rfl .nil qAv (qAa (qBf (N:=liN) (sc:=qAe qT6) (N':=["_law_number","_law_mask_here"]) (sub:=[none,some 1]) rfl rfl (CmpOk.of (by decide +kernel)) rfl (qAq (qAx G2 hr1 rfl .nil qAv (qAa (pv 0) qAb))) (fun C s H fp=>⟨qAg (i:=0) (by show(["_law_number","_law_mask_here"]:List Str).Nodup;decide) rfl (Or.inl rfl),(qBl (qAp qB1 (qAh qBr (pv 0) (qLk qZt (pv 1))) qAd (qAu _))),(pv 0)⟩)) qAb))),?_⟩;refine⟨_,rfl,p,N,rfl,hN,by omega,fun s1 H1 e1 _ hs1=>?_⟩;have lS:(sumF N).length<=256:=by
  rw[qFy];exact hAq (hBj (by decide) lN) (by decide)
 refine⟨s1,rfl,⟨_,SqL.of hs1⟩,?_⟩;refine qBc (fun z=>decide (z&&&k=z)) (fun z=>z) hs1 (by omega) (fun z hz C B cc bb=>⟨Sle.set _ (Sle.refl _) (fun u z=>by cases z),?_⟩) ?_
 ·refine⟨_,rfl,_,rfl,_,rfl,_,_,rfl,rfl,rfl,_,rfl,?_⟩;rw[qZl];cases hp:decide (z&&&k=z) with
  |true=>exact⟨_,rfl,cc hp⟩
  |false=>exact bb hp
 ·intro l hl;rw[hD8 ];have X2:=Ext.new hl (.lst (((sumF N).filter fun z=>decide (z&&&k=z)).map iV));obtain⟨m1,lt1⟩:=qL7 ((sumF N).filter fun z=>decide (z&&&k=z));refine⟨l,_,m1,rfl,upd_same,hAq (hAx _ _) (by omega),lt1,fun r H3 e3 r0 hr=>q r H3 (e1.trans (X2.trans e3)) ((e1.trans X2).none r0) hr⟩
abbrev lbN:List Str:=["_law_base","_law_many","_law_heaps","_law_number","_law_mine"]
theorem qJj:FnScope lbN ["_law_base","_law_many"] (qAe qFu):=⟨rfl,rfl,rfl,by decide +kernel,rfl,by decide +kernel,by decide +kernel⟩
theorem qYq(F:Fun K "_law_blocks" "_law_blocks" qFu f fd)(hcode:fd.code = .ref c)(hC:PySem.W.CodeHd base c Pt)(hB:base.BuiltinsAt mg Pt)(mr:mg "range" = none)(msu:mg "sum" = none)(mso:mg "sorted" = none):FnOk P w K mg base CX0 3 f fd ["_law_base","_law_many"] (qP8 Pt):=by
 refine F.okC qJj (fun vs H Q E h=>?_) (fun A outer s H vs Q E hr2 h=>?_)
 ·obtain⟨p,N,m,rfl,_⟩:=h;rfl
 obtain⟨p,N,m,rfl,hN,lN,m12,tw,q⟩:=h;have L:LamAt ((qO9 CX0 P w K mg base lbN "_law_blocks" (qAe qFu) f fd.code A outer s H E).nox) c Pt:=⟨hcode,hC,hB⟩;refine⟨_,qAc (qEi (i:=2) (N:=lbN) (sc:=qAe qFu) (N':=["_law_k"]) (sub:=[none]) rfl rfl (CmpOk.of (by decide +kernel)) rfl (qA8 rfl mr (qAa (pv 1) qAb)) (fun C s H fp=>⟨qAg (i:=0) (by show(["_law_k"]:List Str).Nodup;decide) rfl (Or.inl rfl),qAz,(qAh qCa qAd (pv 0))⟩) qJj.nd rfl (Or.inl rfl)) (qAc (qBb PassesOwn.never rfl (qAq (qBf (N:=lbN) (sc:=qAe qFu) (N':=["_law_row_here"]) (sub:=[none]) rfl rfl (CmpOk.of (by decide +kernel)) rfl (qAq (pv 0)) (fun C s H fp=>⟨qAg (i:=0) (by show(["_law_row_here"]:List Str).Nodup;decide) rfl (Or.inl rfl),(qBl (qAp qE9 (pv 0) qAd (qAu _))),(pv 0)⟩))) (qAg (i:=3) qJj.nd rfl (Or.inr rfl)) (qAc (qEi (i:=4) (N:=lbN) (sc:=qAe qFu) (N':=["_law_heap","_law_number"]) (sub:=[none,some 3]) rfl rfl (CmpOk.of (by decide +kernel)) rfl (qAq (pv 2)) (fun C s H fp=>⟨qAg (i:=0) (by show(["_law_heap","_law_number"]:List Str).Nodup;decide) rfl (Or.inl rfl),(qBl (qAp qE9 (qAh qBr (pv 0) (pv 1)) qAd (qAu _))),(pv 0)⟩) qJj.nd rfl (Or.inl rfl)) (qAf (qAj (i:=2) qJj.nd rfl (Or.inl rfl) (qAh qB5 (qBf (N:=lbN) (sc:=qAe qFu) (N':=["_law_heap","_law_number"]) (sub:=[none,some 3]) rfl rfl (CmpOk.of (by decide +kernel)) rfl (qAq (pv 2)) (fun C s H fp=>⟨qAg (i:=0) (by show(["_law_heap","_law_number"]:List Str).Nodup;decide) rfl (Or.inl rfl),(qBl (qAp qB1 (qAh qBr (pv 0) (pv 1)) qAd (qAu _))),(pv 0)⟩)) (qA4 (qAa (qAk (qCm rfl) rfl msu qCo (qAa (pv 4) qAb)) qAb))))))) (qAf (qAt (qLl (k:=0) (x:="_law_heap") (g:=zC7) (te:=tOp zCm (qPe 0) (tUn zCk (qPe 0))) L hr2 rfl mso (qAa (pv 2) qAb) ⟨rfl,rfl,rfl,by decide +kernel,rfl,by decide +kernel,by decide +kernel⟩ rfl rfl (fun _ _ _ _ _ _=>rfl) (fun _ _ _ _ _ _=>(show PE _ _ (tOp zCm (qPe 0) (tUn zCk (qPe 0))) from qAh qBr (pv 0) (qLk qHh (pv 0)))) qY3)))),?_⟩;refine⟨_,rfl,(m:Int),rfl,by omega,by omega,?_⟩;refine qD2 (lo:=0) (n:=m) (fun i ys H2=>H2=H/\ys=((List.range i).map fun k=>2^k).map iV) ⟨rfl,rfl⟩ ?_ ?_
 ·rintro i ys H2 hi ⟨rfl,rfl⟩;refine⟨Sle.set _ (Sle.refl _) (fun u z=>by cases z),iteT (B:=False) ⟨_,rfl,_,_,rfl,rfl,⟨by omega,by omega,by decide⟩,?_⟩⟩;refine⟨by rw[hA1,hA1,hB0];exact qAi (by omega),nxt hi ⟨rfl,?_⟩⟩;rw[hCq,hA3,hA3];show _++[V.int (1*2^(0+(i:Int)).toNat)]=_;rw[show(0+(i:Int))=((i:Nat):Int) by omega,qBt];rfl
 rintro ys H2 ⟨rfl,rfl⟩ h0 hh0;have X0:=Ext.new hh0 (.lst (((List.range m).map fun k=>2^k).map iV));refine⟨_,rfl,p,rfl,⟨_,SqL.of (X0 _ _ hN)⟩,?_⟩;refine qBc (fun z=>!decide (z=0)) (fun z=>z) (X0 _ _ hN) (by omega) (fun z hz C B cc bb=>⟨Sle.set _ (Sle.refl _) (fun u z=>by cases z),?_⟩) ?_
 ·refine⟨_,rfl,rfl,_,rfl,?_⟩;cases hp:(!decide (z=0)) with
  |true =>
   have:(!decide (V.int (z:Int)=V.int 0))=true:=by simp at hp ⊢;exact hp
   rw[if_pos this];exact⟨_,rfl,cc hp⟩
  |false =>
   have:¬(!decide (V.int (z:Int)=V.int 0))=true:=by simp at hp ⊢;exact hp
   rw[if_neg this];exact bb hp
 intro l0 hl0;rw[hD8];have X1:=Ext.new hl0 (.lst ((N.filter fun z=>!decide (z=0)).map iV));refine⟨l0,rfl,⟨_,SqL.of upd_same⟩,?_⟩;have hL:LsN (upd (upd H2 h0 (.lst (((List.range m).map fun k=>2^k).map iV))) l0 (.lst ((N.filter fun z=>!decide (z=0)).map iV))) l0 (N.filter fun z=>!decide (z=0)):=upd_same;have lf:(N.filter fun z=>!decide (z=0)).length<=12:=hAq (hAx _ _) lN;have hh:LsN (upd (upd H2 h0 (.lst (((List.range m).map fun k=>2^k).map iV))) l0 (.lst ((N.filter fun z=>!decide (z=0)).map iV))) h0 ((List.range m).map fun k=>2^k):=X1 _ _ upd_same;have E1:=X0.trans X1;revert hL hh E1;generalize upd (upd H2 h0 (.lst (((List.range m).map fun k=>2^k).map iV))) l0 (.lst ((N.filter fun z=>!decide (z=0)).map iV))=H1;intro hL hh E1;refine qBm (xs:=(N.filter fun z=>!decide (z=0)).map iV) (fun i σ H'=>∃(ph:Addr) (x3 x4:Option V),σ=[some (.ref p),some (iV m),some (.ref ph),x3,x4]/\Ext H1 H'/\H2 ph=none/\LsN H' ph (((N.filter fun z=>!decide (z=0)).take i).foldl blS ((List.range m).map fun k=>2^k))/\(((N.filter fun z=>!decide (z=0)).take i).foldl blS ((List.range m).map fun k=>2^k)).length<=12+i) ⟨h0,none,none,rfl,Ext.refl _,hh0,hh,by rw[List.take_zero];show((List.range m).map _).length<=_;rw[hA1,hB0];omega⟩ (fun i σ H' _ h=>by obtain⟨_,_,_,_,e,_⟩:=h;exact SqL.of (e _ _ hL)) ?_ ?_
 ·rintro i v σ H' hx ⟨ph,x3,x4,rfl,e,ph0,hph,lh⟩;obtain⟨n,rfl,hn⟩:=qBz hx;have hi:=qAy hn;have hsn:((N.filter fun z=>!decide (z=0)).take (i+1)).foldl blS ((List.range m).map fun k=>2^k)=blS (((N.filter fun z=>!decide (z=0)).take i).foldl blS ((List.range m).map fun k=>2^k)) n:=by
   rw[qAm hn,hBk];rfl
  rw[hsn];have ls:=qS9 (((N.filter fun z=>!decide (z=0)).take i).foldl blS ((List.range m).map fun k=>2^k)) n;revert hph lh ls;generalize ((N.filter fun z=>!decide (z=0)).take i).foldl blS ((List.range m).map fun k=>2^k)=hs;intro hph lh ls;refine⟨_,rfl,ph,rfl,⟨_,SqL.of hph⟩,?_⟩;refine qBc (fun h=>!decide (h&&&n=0)) (fun z=>z) hph (by omega) (fun z hz C B cc bb=>⟨Sle.set _ (Sle.refl _) (fun u z=>by cases z),?_⟩) ?_
  ·refine⟨_,rfl,_,rfl,_,_,rfl,rfl,rfl,_,rfl,?_⟩;exact ite2 (fun c=>⟨_,rfl,cc (qW2 c)⟩) (fun c=>bb (qW2 (hCx _▸c)))
  intro l1 hl1;rw[hD8];have n1:=Ext.new hl1 (.lst ((hs.filter fun h=>!decide (h&&&n=0)).map iV));refine⟨_,rfl,ph,rfl,⟨_,SqL.of (n1 _ _ hph)⟩,?_⟩;refine qBc (fun h=>decide (h&&&n=0)) (fun z=>z) (n1 _ _ hph) (by omega) (fun z hz C B cc bb=>⟨Sle.set _ (Sle.refl _) (fun u z=>by cases z),?_⟩) ?_
  ·refine⟨_,rfl,_,rfl,_,_,rfl,rfl,rfl,_,rfl,?_⟩;exact ite2 (fun c=>⟨_,rfl,cc (qW3 c)⟩) (fun c=>bb (qW3 (hCx _▸c)))
  intro l2 hl2;rw[hD8];have n2:=Ext.new hl2 (.lst ((hs.filter fun h=>decide (h&&&n=0)).map iV));have sumE:((hs.filter fun h=>!decide (h&&&n=0)).map fun n:Nat=>(n:Int)).sum=(((hs.filter fun h=>!decide (h&&&n=0)).sum:Nat):Int):=qCq _;refine⟨_,rfl,l1,(hs.filter fun h=>!decide (h&&&n=0)).map (fun n:Nat=>(n:Int)),rfl,SqL.of (by rw[n2 _ _ upd_same,qB6]),(by show 1<=sizeLine;decide),fun l3 hl3=>?_⟩;have n3:=Ext.new hl3 (.lst [V.int ((hs.filter fun h=>!decide (h&&&n=0)).map fun n:Nat=>(n:Int)).sum]);refine⟨l2,l3,_,_,rfl,rfl,n3 _ _ upd_same,upd_same,by rw[hA1];have:=hAx (fun h=>decide (h&&&n=0)) hs;exact hB1 (qAi (by show _+1<=_;omega)),fun l4 hl4=>?_⟩;refine⟨l4,_,_,rfl,e.trans (n1.trans (n2.trans (n3.trans (Ext.new hl4 _)))),E1.none (e.none (n1.none (n2.none (n3.none hl4)))),?_,by omega⟩;unfold LsN blS;rw[upd_same,hA3,sumE];rfl
 rintro σ H3 ⟨ph,x3,x4,rfl,e3,ph0,hph,lh⟩;rw[hA1,hA5 (hA7 _)]at hph lh;have tw3:=My.TabW.extE tw (E1.trans e3);refine⟨_,rfl,ph,(blF N m).map (fun n:Nat=>(n:Int)),rfl,SqL.of (by rw[<-qB6];exact hph),by rw[hA1];show(blF N m).length<64;have:(blF N m).length<=12+(N.filter fun z=>!decide (z=0)).length:=lh;omega,tw3,fun r ns' H4 r0 eB hr pm tw4=>?_⟩;obtain⟨hs,rfl,ph2⟩:=qUt pm;exact q r hs H4 (fun b o n h=>eB b o n ((E1.trans e3) b o h)) ((E1.trans e3).none r0) (by unfold LsN;rw[hr,qB6]) ph2 tw4
end
theorem qRy{l:List Nat}(nd:l.Nodup){m:Nat}(h:∀x∈l,x<m):l.length<=m:=by
 have p:l.Perm ((List.range m).filter fun x=>decide (x∈l)):=(hCi nd (List.nodup_range.sublist hD1)).mpr fun a=>by
  rw[hAn,hB6,decide_eq_true_iff];exact⟨fun ha=>⟨h a ha,ha⟩,fun ha=>ha.2⟩
 rw[p.length_eq];exact hAq (hAx _ _) (by rw[hB0];exact hA7 _)
def Inn(z k:Nat):Prop:=∀i,z.testBit i=true->k.testBit i=true
theorem qWp{z k:Nat}(h:z&&&k=z):Inn z k:=fun i hi=>by
 rw[<-h,hBt,hCa]at hi;exact hi.2
theorem qLi{xs:List Nat}:∀s∈redL xs,Spn xs s:=by
 obtain⟨m,h⟩:=qL7 xs;obtain⟨g,e⟩:=qE5 xs h;intro s hs;have h1:Spn (red (xs.map (rv m))) (rv m s):=by rw[<-e];exact .mem (hBb hs)
 exact(qDn h (g s hs).1).mp ((qIk _ _).mp h1)
theorem qR7{N:List Nat}{k:Nat}:∀y∈insF N k,Spn N y/\Inn y k:=by
 intro y hy;have h1:=qLi y hy;refine⟨Spn.mono (fun x hx=>(qD9 N x).mp (hAn.mp hx).1) h1,?_⟩;intro i hi;cases hk:k.testBit i with
 |true=>rfl
 |false =>
  have:=qKx (j:=i) (fun x hx=>by
   have h2:=qWp (of_decide_eq_true (hAn.mp hx).2);cases q:x.testBit i with
   |false=>rfl
   |true=>rw[h2 i q]at hk;cases hk) h1
  rw[this]at hi;cases hi
theorem qR8{N:List Nat}{k m:Nat}(h:∀i,k.testBit i=true->i<m):(insF N k).length<=m:=by
 have lt:∀x∈(sumF N).filter (fun z=>decide (z&&&k=z)),x<2^m:=fun x hx=>by
  have h2:=qWp (of_decide_eq_true (hAn.mp hx).2);refine hC5 _ fun i hi=>?_
  cases q:x.testBit i with
  |false=>rfl
  |true=>have:=h i (h2 i q);omega
 obtain⟨g,e⟩:=qE5 _ lt;have rr:=qEg (((sumF N).filter (fun z=>decide (z&&&k=z))).map (rv m));rw[<-e]at rr;have l1:=qY4 rr;have:=qRy l1 (m:=m) fun x hx=>by
  obtain⟨s,hs,rfl⟩:=hAg.mp hx;obtain⟨u,hu,rfl⟩:=hAg.mp hs;exact(Nat.log2_lt (qXp (g u hu).1 (g u hu).2)).mpr (qT9 _ _)
 rw[hA1,hA1]at this;exact this
theorem qPv(S:List Nat):RR S->(sumF S).Nodup:=by
 refine qJe (P:=fun S=>RR S->(sumF S).Nodup) (fun _=>by show [0].Nodup;simp) (fun l x ih r=>?_) S;have rl:RR l:=⟨fun s hs=>r.nz s (hAl _ hs),r.ap.sublist (List.sublist_append_left l [x])⟩;have hx:x∈l++[x]:=hA9 _ (hAd.mpr rfl);have hap:=hBl.mp r.ap;have bit:∀s∈l,s.testBit x.log2=false:=fun s hs=>(hap.2.2 s hs x (hAd.mpr rfl)).2
 have sb:∀z∈sumF l,z.testBit x.log2=false:=fun z hz=>qKx bit ((qD9 l z).mp hz)
 rw[qEa,List.nodup_append];refine⟨ih rl,?_,fun a ha b hb e=>?_⟩
 ·refine hC4.mpr ((ih rl).imp fun {a b} ne e=>ne ?_);have:=congrArg (fun z=>z^^^x) e;simp only[qA9]at this;exact this
 ·obtain⟨c,hc,rfl⟩:=hAg.mp hb;have h1:=sb a ha;rw[e,hAs,sb c hc,r.self hx]at h1;cases h1
theorem zCg{a b:List Nat}(ha:RR a)(hb:RR b)(h:∀z∈a,Spn b z):a.length<=b.length:=by
 have na:=qPv a ha;have nb:=qPv b hb;have sub:∀z∈sumF a,z∈sumF b:=fun z hz=>(qD9 b z).mpr (Spn.mono h ((qD9 a z).mp hz))
 have p:(sumF a).Perm ((sumF b).filter fun z=>decide (z∈sumF a)):=(hCi na (nb.sublist hD1)).mpr fun z=>by
  rw[hAn,decide_eq_true_iff];exact⟨fun hz=>⟨sub z hz,hz⟩,fun hz=>hz.2⟩
 have:=p.length_eq;have h2:=hAx (fun z=>decide (z∈sumF a)) (sumF b);rw[<-this,qFy,qFy]at h2;exact(Nat.pow_le_pow_iff_right (by decide)).mp h2
theorem zBe{N:List Nat}(r:Lrr N)(k:Nat):(insF N k).length<=N.length:=by
 obtain⟨m,g,rr⟩:=r;have gl:∀x∈N,x<2^m:=fun x hx=>(g x hx).1
 have lt:∀x∈(sumF N).filter (fun z=>decide (z&&&k=z)),x<2^m:=fun x hx=>Spn.lt gl ((qD9 N x).mp (hAn.mp hx).1)
 obtain⟨_,e⟩:=qE5 _ lt;have r2:=qEg (((sumF N).filter (fun z=>decide (z&&&k=z))).map (rv m));rw[<-e]at r2;have:=zCg r2 rr fun z hz=>by
  obtain⟨s,hs,rfl⟩:=hAg.mp hz;have h1:=(qR7 (N:=N) (k:=k) s hs).1;exact(qDn gl (h1.lt gl)).mpr h1
 rw[hA1,hA1]at this;exact this
section
variable{names:List Str}{k:Nat}
theorem qDd(rn:qDu names)(x:Nat):qDu (rowL names x):=by
 unfold rowL;have:∀L:List Nat,L.Pairwise (· < ·)->qDu (L.filterMap fun i=>if x.testBit i=true then names[i]? else none):=fun L=>by
  intro hL;refine List.Pairwise.filterMap _ (fun a a' hlt b hb b' hb'=>?_) hL;split at hb
  ·split at hb'
   ·exact qIi rn hlt hb hb'
   ·cases hb'
  ·cases hb
 exact this _ List.pairwise_lt_range
abbrev cmp(names:List Str)(k:Nat)(y:Nat):Nat:=qFv (rowL names k) (rowL names y)
theorem qG7(rn:qDu names){y:Nat}(hy:Inn y k)(j:Nat):(cmp names k y).testBit j=true↔∃i n,(rowL names k)[j]?=some n/\names[i]?=some n/\y.testBit i=true:=by
 have nd:=qDy rn;have nd':=qDy (qDd rn k);have sub:∀n∈rowL names y,n∈rowL names k:=fun n hn=>by
  obtain⟨i,h1,h2,h3⟩:=qBh.mp hn;exact qBh.mpr ⟨i,h1,h2,hy i h3⟩
 unfold cmp;rw[qGu nd' (qLf nd y) sub,decide_eq_true_iff];constructor
 ·rintro⟨n,hn,e⟩;obtain⟨i,h1,h2,h3⟩:=qBh.mp hn;refine⟨i,n,?_,h2,h3⟩;rw[<-e];exact(qD0 (sub n hn)).1
 ·rintro⟨i,n,h1,h2,h3⟩;exact⟨n,qBh.mpr ⟨i,(hAk.mp h2).1,h2,h3⟩,qWo nd' h1⟩
theorem qHy(rn:qDu names){y:Nat}(hy:Inn y k){i j:Nat}{n:Str}(hj:(rowL names k)[j]?=some n)(hi:names[i]?=some n):(cmp names k y).testBit j=y.testBit i:=by
 cases h:y.testBit i with
 |true=>exact(qG7 rn hy j).mpr ⟨i,n,hj,hi,h⟩
 |false =>
  cases q:(cmp names k y).testBit j with
  |false=>rfl
  |true =>
   obtain⟨i',n',h1,h2,h3⟩:=(qG7 rn hy j).mp q;rw[hj]at h1;cases h1;have:=qG2 (qDy rn) hi h2;subst this;rw[h]at h3;cases h3
theorem qOf(rn:qDu names){y:Nat}(hy:Inn y k){j:Nat}(hj:(rowL names k)[j]?=none):(cmp names k y).testBit j=false:=by
 cases q:(cmp names k y).testBit j with
 |false=>rfl
 |true =>
  obtain⟨i',n',h1,_⟩:=(qG7 rn hy j).mp q;rw[hj]at h1;cases h1
theorem qLx{x y:Nat}(hx:Inn x k)(hy:Inn y k):Inn (x^^^y) k:=fun i hi=>by
 rw[hAs]at hi;cases h1:x.testBit i with
 |true=>exact hx i h1
 |false=>rw[h1,Bool.false_xor]at hi;exact hy i hi
theorem qZf(rn:qDu names){x y:Nat}(hx:Inn x k)(hy:Inn y k):cmp names k (x^^^y)=cmp names k x^^^cmp names k y:=hAt fun j=>by
 rw[hAs];cases hj:(rowL names k)[j]? with
 |none=>rw[qOf rn (qLx hx hy) hj,qOf rn hx hj,qOf rn hy hj];rfl
 |some n =>
  obtain⟨i,_,hi,_⟩:=qBh.mp (hAc hj);rw[qHy rn (qLx hx hy) hj hi,qHy rn hx hj hi,qHy rn hy hj hi,hAs]
theorem qIz:Inn 0 k:=fun i hi=>by rw[hBv]at hi;cases hi
theorem qVe(rn:qDu names):cmp names k 0=0:=hAt fun j=>by
 rw[hBv];cases hj:(rowL names k)[j]? with
 |none=>exact qOf rn qIz hj
 |some n =>
  obtain⟨i,_,hi,_⟩:=qBh.mp (hAc hj);rw[qHy rn qIz hj hi,hBv]
theorem qZg(rn:qDu names){L:List Nat}(hL:∀y∈L,Inn y k){z:Nat}(h:Spn (L.map (cmp names k)) z):∃y,Spn L y/\Inn y k/\z=cmp names k y:=by
 induction h with
 |zero=>exact⟨0,.zero,qIz,(qVe rn).symm⟩
 |add hm _ ih =>
  obtain⟨y,h1,h2,h3⟩:=ih;obtain⟨x,hx,rfl⟩:=hAg.mp hm;refine⟨x^^^y,.add hx h1,qLx (hL x hx) h2,?_⟩;rw[h3,qZf rn (hL x hx) h2]
theorem qZh(rn:qDu names)(lt:∀i,k.testBit i=true->i<names.length){y j:Nat}(hy:Inn y k)(e:cmp names k y=2^j):∃i,y=2^i/\k.testBit i=true:=by
 have b:(cmp names k y).testBit j=true:=by rw[e,hAw,decide_eq_true rfl]
 obtain⟨i,n,h1,h2,h3⟩:=(qG7 rn hy j).mp b;refine⟨i,hAt fun i'=>?_,hy i h3⟩;rw[hAw];by_cases w:i=i'
 ·subst w;rw[h3,decide_eq_true rfl]
 ·rw[decide_eq_false w];cases q:y.testBit i' with
  |false=>rfl
  |true =>
   exfalso;have hk:=hy i' q;have hl:=lt i' hk;have hn:=hA2 hl;have hm:names[i']∈rowL names k:=qBh.mpr ⟨i',hl,hn,hk⟩;obtain⟨j',hj'⟩:=List.getElem?_of_mem hm;have h4:=qHy rn hy hj' hn;rw[q,e,hAw,decide_eq_true_iff]at h4;subst h4;rw[h1]at hj';have:=hAm hj';subst this;exact w (qG2 (qDy rn) h2 hn)
theorem qXr(rn:qDu names){y:Nat}(hy:Inn y k):rowL names y=rowL (rowL names k) (cmp names k y):=by
 refine qM5 (qDd rn y) (qDd (qDd rn k) _) fun n=>?_
 rw[qBh,qBh];constructor
 ·rintro⟨i,h1,h2,h3⟩;have hm:n∈rowL names k:=qBh.mpr ⟨i,h1,h2,hy i h3⟩;obtain⟨j,hj⟩:=List.getElem?_of_mem hm;exact⟨j,(hAk.mp hj).1,hj,by rw[qHy rn hy hj h2];exact h3⟩
 ·rintro⟨j,h1,h2,h3⟩;obtain⟨i,n',g1,g2,g3⟩:=(qG7 rn hy j).mp h3;rw[h2]at g1;cases g1;exact⟨i,(hAk.mp g2).1,g2,g3⟩
structure Blk(names:List Str)(rows:List (List Str)):Prop where
 tok:TabOk names rows
 no1:∀j,¬Spn (rows.map (qFv names)) (2^j)
 l8:rows.length<=8
theorem zBt(rn:qDu names)(ok:SOk names)(ln:names.length<=12){N:List Nat}(r:Lrr N)(lN:N.length<=8)(hk:k=0\/(k∈blF N names.length/\k&&&(k - 1)≠0)){rows:List (List Str)}(pr:rows.Perm ((insF N k).map (rowL names))):Blk (rowL names k) rows:=by
 have lt:∀i,k.testBit i=true->i<names.length:=by
  rcases hk with rfl|⟨hk,_⟩
  ·intro i hi;rw[hBv]at hi;cases hi
  ·exact qWz hk
 have inn:∀y∈insF N k,Inn y k:=fun y hy=>(qR7 y hy).2
 have ln':(rowL names k).length<=names.length:=by
  unfold rowL;refine hAq (hBp _ _) ?_;rw[hB0];exact hA7 _
 refine⟨⟨qDd rn k,fun x hx=>?_,by omega,?_,fun r' hr=>?_⟩,fun j hj=>?_,by rw[pr.length_eq,hA1];exact hAq (zBe r k) lN⟩
 ·obtain⟨i,_,h2,_⟩:=qBh.mp hx;exact ok x (hAc h2)
 ·rw[pr.length_eq,hA1];have:=qR8 (N:=N) lt;omega
 ·obtain⟨y,hy,rfl⟩:=hAg.mp (pr.mem_iff.mp hr);exact⟨_,qXr rn (inn y hy)⟩
 ·have h1:Spn ((insF N k).map (cmp names k)) (2^j):=by
   refine Spn.mono (fun x hx=>?_) hj;obtain⟨r',hr,rfl⟩:=hAg.mp hx;obtain⟨y,hy,rfl⟩:=hAg.mp (pr.mem_iff.mp hr);exact .mem (hBb (f:=cmp names k) hy)
  obtain⟨y,s1,s2,s3⟩:=qZg rn inn h1;obtain⟨i,rfl,hki⟩:=qZh rn lt s2 s3.symm;have s4:Spn N (2^i):=Spn.mono (fun x hx=>(qR7 x hx).1) s1;rcases hk with rfl|⟨hk,hne⟩
  ·rw[hBv]at hki;cases hki
  ·have:=qPc r s4 hk hki;rw[this]at hne;exact hne (qFo i)
end
end My
namespace L2
open PySem PySem.Spec PyProof.Rows
def zB9(t:TS):TS:=fun D σ H=>∃Pm:St->Hp->Prop,t { D with nx:=Pm } σ H/\∀σ' H',Pm σ' H'->D.nx σ' H'
theorem qQ4{X:Cx}{st:Stmt}{t:TS}(h:PS X st t):PS X st (zB9 t):=by
 intro pins s σ H D I hw;obtain⟨Pm,h1,h2⟩:=hw;refine thn (h pins s σ H { D with nx:=Pm } I h1) fun fl s' q=>?_
 cases fl with
 |next=>obtain⟨σ',H',I',q⟩:=q;exact⟨σ',H',I',h2 σ' H' q⟩
 |brk=>exact q
 |cont=>exact q
 |ret _=>exact q
end L2
namespace My
open PySem L2
def qV0(K:PySem.W.Frag)(Pt:Addr):Sp:=fun vs H Q _=>∃(a:Addr) (ns:List Int),vs=[.ref a,.int 1]/\SqL K H a (ns.map V.int)/\TabW H Pt lpB qB/\∀(T:Addr) (names:List Str) (rows:List (List Str)) (H':Hp),ExtB Pt H H'->qFi H' T names rows->Blk names rows->Tx names->TabW H' Pt lpB qB->Q (.ref T) H'
theorem lsB{H H':Hp}{Pt:Addr}{ps:Array Value}(hP:H Pt=some (.tbl ps))(e:ExtB Pt H H'){p:Addr}{xs:List V}(h:H p=some (.lst xs)):H' p=some (.lst xs):=e _ _ (fun z=>by rw[z,hP]at h;cases h) h
theorem qN3:∀(L hs:List Nat),(L.foldl blS hs).length<=hs.length+L.length
 |[],hs=>hA7 _
 |t :: L,hs=>by
  have h1:=qN3 L (blS hs t);have h2:=qS9 hs t;show(L.foldl blS (blS hs t)).length<=hs.length+(L.length+1);omega
theorem qZi(N:List Nat)(m:Nat):(blF N m).length<=m+N.length:=by
 have h1:=qN3 (N.filter fun z=>!decide (z=0)) ((List.range m).map fun k=>2^k);have h2:=hAx (fun z=>!decide (z=0)) N;rw[hA1,hB0]at h1;unfold blF;omega
theorem zDt(h:Nat):(V.int (Builtin.bitAnd (h:Int) ((h:Int) - 1))=V.int 0)↔h&&&(h - 1)=0:=by
 cases h with
 |zero=>exact⟨fun _=>rfl,fun _=>by decide +kernel⟩
 |succ k =>
  rw[show(((k+1:Nat):Int) - 1)=((k+1 - 1:Nat):Int) by omega];exact zCw (k+1) (k+1 - 1)
theorem qWd{h:Nat}{c:Bool}(e:(!decide (V.int (Builtin.bitAnd (h:Int) ((h:Int) - 1))=V.int 0))=c):(!decide (h&&&(h - 1)=0))=c:=by
 rw[<-e,decide_eq_decide.mpr (zDt h)]
theorem qF1:∀xs:List Nat,PyData.canLayAll0 (xs.map fun n:Nat=>PyData.int (n:Int))=true/\PyData.depthAll (xs.map fun n:Nat=>PyData.int (n:Int))=0
 |[]=>⟨rfl,rfl⟩
 |x :: r=>by
  obtain⟨h1,h2⟩:=qF1 r;refine⟨?_,?_⟩
  ·show(true && PyData.canLayAll0 (r.map fun n:Nat=>PyData.int (n:Int)))=true;rw[h1];rfl
  ·show max 0 (PyData.depthAll (r.map fun n:Nat=>PyData.int (n:Int)))=0;rw[h2];rfl
theorem qK5(xs:List Nat):SeqAt.shaped (.list (xs.map fun n:Nat=>PyData.int (n:Int)))=true:=by
 obtain⟨h3,h4⟩:=qF1 xs;show(PyData.canLayAll0 (xs.map fun n:Nat=>PyData.int (n:Int)) && decide (PyData.depthAll (xs.map fun n:Nat=>PyData.int (n:Int))+1<=64))=true;rw[h3,h4];rfl
theorem qL1{K:PySem.W.Frag}{H:Hp}:∀xs:List Nat,DRs K H (xs.map iV) (xs.map fun n:Nat=>PyData.int (n:Int))
 |[]=>.nil
 |_ :: r=>.cons (.int _) (qL1 r)
theorem qS5:bootBuiltins "max" = some (.builtin "max"):=by decide +kernel
section
variable{P:Program}{w:World}{K:PySem.W.Frag}{mg:Str->Option Value}{base:Heap}{f f1 f2 f3 f4 f5 f6 Pt:Addr}{fd fd1 fd2 fd3 fd4 fd5 fd6:FuncData}
abbrev bkN:List Str:=["_law_script","_law_at","_law_many","_law_base","_law_names_here","_law_heaps","_law_heap","_law_sizes","_law_rows"]
theorem qDx:FnScope bkN ["_law_script","_law_at"] (qAe qOx):=⟨rfl,rfl,rfl,by decide +kernel,rfl,by decide +kernel,by decide +kernel⟩
theorem qYr(F:Fun K "_law_block" "_law_block" qOx f fd)
  (G1:Cl P w K mg base CX0 4 f1 fd1 ["_law_script","_law_at"] (qVq K) "_law_steps_of")
  (G2:Cl P w K mg base CX0 1 f2 fd2 ["_law_big_here","_law_many"] qF6 "_law_names")
  (G3:Cl P w K mg base CX0 2 f3 fd3 ["_law_script","_law_k"] (qK0 K) "_law_big")
  (G4:Cl P w K mg base CX0 1 f4 fd4 ["_law_names_here","_law_number"] qP7 "_law_row")
  (G5:Cl P w K mg base CX0 3 f5 fd5 ["_law_base","_law_many"] (qP8 Pt) "_law_blocks")
  (G6:Cl P w K mg base CX0 2 f6 fd6 ["_law_base","_law_mask_here"] qVw "_law_inside")
  (ml:mg "len" = none) (mso:mg "sorted" = none) (mma:mg "max" = none):FnOk P w K mg base CX0 5 f fd ["_law_script","_law_at"] (qV0 K Pt):=by
 refine F.ok qDx (fun vs H Q E h=>?_) (fun cdv A outer s H vs Q E hr4 h=>?_)
 ·obtain⟨a,ns,rfl,_⟩:=h;rfl
 obtain⟨a,ns,rfl,hS,tw,q⟩:=h;have hr1:=hr4.mono (j:=1) (by decide);have hr2:=hr4.mono (j:=2) (by decide);have hr3:=hr4.mono (j:=3) (by decide);refine⟨_,qAc (qFn (qAx G1 hr4 rfl .nil qAv (qAa (pv 0) (qAa (pv 1) qAb))) (qB0 rfl (qAs (qAg (i:=2) qDx.nd rfl (Or.inl rfl)) (qAs (qAg (i:=3) qDx.nd rfl (Or.inl rfl)) qBe)))) (qAc (qAj (i:=4) qDx.nd rfl (Or.inr rfl) (qAk qCc rfl mso qBj (qAa (qAx G2 hr1 rfl .nil qAv (qAa (qAx G3 hr2 rfl .nil qAv (qAa (pv 0) (qAa (qAh qA6 (pv 1) qAd) qAb))) (qAa (pv 2) qAb))) qAb))) (qAc (qEi (i:=5) (N:=bkN) (sc:=qAe qOx) (N':=["_law_heap"]) (sub:=[none]) rfl rfl (CmpOk.of (by decide +kernel)) rfl (qAq (qAx G5 hr3 rfl .nil qAv (qAa (pv 3) (qAa (pv 2) qAb)))) (fun C s H fp=>⟨qAg (i:=0) (by show(["_law_heap"]:List Str).Nodup;decide) rfl (Or.inl rfl),(qBl (qAp qE9 (qAh qBr (pv 0) (qAh qCu (pv 0) qAd)) qAd (qAu _))),(pv 0)⟩) qDx.nd rfl (Or.inl rfl)) (qAc (qAj (i:=6) qDx.nd rfl (Or.inl rfl) qAd) (qAc (qQ4 (qBi (qAp (qJu (qJn hr4)) (pv 5) (qA4 qAb) (qAu _)) (qAc (qAj (i:=6) qDx.nd rfl (Or.inl rfl) (qBg qBv (pv 5) (qAh qA7 (qAx G3 hr2 rfl .nil qAv (qAa (pv 0) (qAa (qAh qA6 (pv 1) qAd) qAb))) (qAk qAn rfl ml hAv (qAa (pv 5) qAb))) (fun _ _=>rfl))) (qAf (qBi (qAp qX7 (qAh qA7 (qAh qA3 (qAx G3 hr2 rfl .nil qAv (qAa (pv 0) (qAa (qAh qA6 (pv 1) qAd) qAb))) qAd) qAd) qAd (qAu _)) (qAc (qEi (i:=7) (N:=bkN) (sc:=qAe qOx) (N':=["_law_one","_law_names_here"]) (sub:=[none,some 4]) rfl rfl (CmpOk.of (by decide +kernel)) rfl (qAq (pv 5)) (fun C s H fp=>⟨qAg (i:=0) (by show(["_law_one","_law_names_here"]:List Str).Nodup;decide) rfl (Or.inl rfl),qAz,(qAk (show qB9 _ _ (fun xs H Q=>∃p ys,xs=[V.ref p]/\(SqL K H p ys\/SqT K H p ys)/\Q (.int ys.length) H) from qAn) rfl ml hAv (qAa (qAx G4 hr1 rfl .nil qAv (qAa (pv 1) (qAa (pv 0) qAb))) qAb))⟩) qDx.nd rfl (Or.inl rfl)) (qAf (qAj (i:=6) qDx.nd rfl (Or.inl rfl) (qBg qBv (pv 5) (qC7 hAr hDe hDf qRl (pv 7) (qAa (qAk (qS1 rfl) rfl mma qS5 (qAa (pv 7) qAb)) qAb)) (fun _ _=>rfl))))) qA1))) qA1)) (qAc (qEi (i:=8) (N:=bkN) (sc:=qAe qOx) (N':=["_law_number","_law_names_here"]) (sub:=[none,some 4]) rfl rfl (CmpOk.of (by decide +kernel)) rfl (qAq (qAx G6 hr2 rfl .nil qAv (qAa (pv 3) (qAa (pv 6) qAb)))) (fun C s H fp=>⟨qAg (i:=0) (by show(["_law_number","_law_names_here"]:List Str).Nodup;decide) rfl (Or.inl rfl),qAz,(qAx G4 hr1 rfl .nil qAv (qAa (pv 1) (qAa (pv 0) qAb)))⟩) qDx.nd rfl (Or.inl rfl)) (qAf (qAt (qA5 (qAa (qAx G4 hr1 rfl .nil qAv (qAa (pv 4) (qAa (pv 6) qAb))) (qAa (qAk (qI2 (zCh hr4)) rfl mso qBj (qAa (pv 8) qAb)) qAb)))))))))),?_⟩;refine⟨_,rfl,_,rfl,a,ns,rfl,hS,fun T0 b m ms H1 e1 hT0 hb m12 lm lrr=>?_⟩;refine⟨T0,_,rfl,SqT.of hT0,rfl,_,_,rfl,_,_,rfl,rfl,?_⟩;refine⟨_,rfl,_,rfl,_,_,rfl,rfl,a,ns,_,rfl,Ext.sqL e1 hS,by decide,by decide,fun B1=>?_⟩;refine⟨_,rfl,B1,(m:Int),rfl,by omega,by omega,fun nr ss H2 e2 nr0 hss lss tx ndc=>?_⟩;have nd0:ss.Nodup:=ndc (by omega);refine⟨nr,ss,rfl,SqL.of hss,by omega,fun nm names hnm pm srt=>?_⟩;have nd:names.Nodup:=pm.symm.nodup nd0;have rn:qDu names:=qLg srt nd;have txn:Tx names:=fun x hx=>tx x (pm.mem_iff.mp hx)
 have ok:SOk names:=fun x hx=>(tx x (pm.mem_iff.mp hx)).1.sm.ok
 have lnm:names.length=m:=by rw[pm.length_eq,lss];omega
 have X2:=Ext.new hnm (.lst (names.map V.str));have E2:=e1.trans (e2.trans X2);have hb2:=(e2.trans X2) _ _ hb;have hn2:LsS (upd H2 nm (.lst (names.map V.str))) nm names:=upd_same;revert E2 hb2 hn2;generalize upd H2 nm (.lst (names.map V.str))=Hb;intro E2 hb2 hn2;have tw2:=My.TabW.extE tw E2;obtain⟨ps2,hP2⟩:=My.TabW.tb tw2;refine⟨_,rfl,_,rfl,b,ms,m,rfl,hb2,by omega,m12,tw2,fun hp hs H3 eB hp0 hhp pmh tw3=>?_⟩;have lhs:hs.length<=20:=by rw[pmh.length_eq];have:=qZi ms m;omega
 have hS3:SqL K H3 a (ns.map V.int):=zBv hP2 eB (Ext.sqL E2 hS);have hb3:LsN H3 b ms:=lsB hP2 eB hb2;have hn3:LsS H3 nm names:=lsB hP2 eB hn2;have EB3:ExtB Pt H H3:=fun c o n h=>eB c o n (E2 c o h)
 clear eB hP2 hb2 hn2 E2 hss;refine⟨hp,rfl,⟨_,SqL.of hhp⟩,?_⟩;refine qBc (fun h=>!decide (h&&&(h - 1)=0)) (fun z=>z) hhp (by omega) (fun z hz C B cc bb=>⟨Sle.set _ (Sle.refl _) (fun u z=>by cases z),?_⟩) ?_
 ·refine⟨_,rfl,_,rfl,_,_,rfl,rfl,_,_,rfl,rfl,rfl,_,rfl,?_⟩;exact ite2 (fun c=>⟨_,rfl,cc (qWd c)⟩) (fun c=>bb (qWd (hCx _▸c)))
 intro fh hfh;rw[hD8];have X4:=Ext.new hfh (.lst ((hs.filter fun h=>!decide (h&&&(h - 1)=0)).map iV));have lfs:(hs.filter fun h=>!decide (h&&&(h - 1)=0)).length<=20:=hAq (hAx _ _) lhs;have hfs:∀k∈hs.filter (fun h=>!decide (h&&&(h - 1)=0)),k∈blF ms m/\k&&&(k - 1)≠0:=fun k hk=>by
  obtain⟨k1,k2⟩:=hAn.mp hk;refine⟨pmh.mem_iff.mp k1,fun z=>?_⟩;rw[z]at k2;revert k2
  decide
 have hF4:LsN (upd H3 fh (.lst ((hs.filter fun h=>!decide (h&&&(h - 1)=0)).map iV))) fh (hs.filter fun h=>!decide (h&&&(h - 1)=0)):=upd_same;have hS4:=Ext.sqL X4 hS3;have hb4:=X4 _ _ hb3;have hn4:=X4 _ _ hn3;have tw4:=My.TabW.extE tw3 X4;have EB4:ExtB Pt H (upd H3 fh (.lst ((hs.filter fun h=>!decide (h&&&(h - 1)=0)).map iV))):=fun c o n h=>X4 c o (EB3 c o n h)
 revert lfs hfs hF4 hS4 hb4 hn4 EB4 tw4;generalize upd H3 fh (.lst ((hs.filter fun h=>!decide (h&&&(h - 1)=0)).map iV))=H4;generalize (hs.filter fun h=>!decide (h&&&(h - 1)=0))=fs;intro lfs hfs hF4 hS4 hb4 hn4 tw4 EB4;clear X4 hS3 hb3 hn3 EB3;refine⟨fun σ' H'=>∃(k:Nat) (x7:Option V),σ'=[some (.ref a),some (.int 1),some (iV m),some (.ref b),some (.ref nm),some (.ref fh),some (iV k),x7,none]/\Ext H4 H'/\(k=0\/k∈fs),?_,?_⟩
 ·refine⟨_,rfl,hAo _,fun l0 hl0=>?_⟩;have X0:=Ext.new hl0 (.lst []);refine⟨_,_,.lst (SqL.of (X0 _ _ hF4)) (qL1 fs),.lst (SqL.of upd_same) .nil,qK5 fs,(by decide +kernel),_,rfl,?_⟩;refine ite2 (fun c=>?_) (fun c=>⟨0,none,rfl,X0,.inl rfl⟩);have ne:fs≠[]:=fun z=>by
   rw[z]at c;revert c
   decide +kernel
  have lp:0<fs.length:=List.length_pos_iff.mpr ne;have hF5:=X0 _ _ hF4;have hS5:=Ext.sqL X0 hS4;have hn5:=X0 _ _ hn4;revert hF5 hS5 hn5 X0;generalize upd H4 l0 (.lst [])=H5;intro X0 hF5 hS5 hn5;refine⟨_,rfl,_,rfl,_,rfl,_,_,rfl,rfl,a,ns,_,rfl,hS5,by decide,by decide,fun B2=>?_⟩;refine⟨_,rfl,fh,_,rfl,.inl (SqL.of hF5),_,_,rfl,rfl,(by rw[hA1];show(0:Int)<_;omega),?_⟩;obtain⟨j2,hj2,ej2⟩:∃j:Nat,j<fs.length/\B2 % (((fs.map iV).length:Nat):Int)=(j:Int):=by
   have h1:=hB8 B2 (show(((fs.map iV).length:Nat):Int)≠0 by rw[hA1];omega);have h2:=hB4 B2 (show(0:Int)<(((fs.map iV).length:Nat):Int) by rw[hA1];omega);have h3:(fs.map iV).length=fs.length:=hA1 _;exact⟨(B2 % (((fs.map iV).length:Nat):Int)).toNat,by omega,by omega⟩
  have hg2:(fs.map iV)[j2]?=some (iV fs[j2]):=by rw[hAe,hA2 hj2];rfl
  refine⟨fh,_,_,_,rfl,rfl,SqL.of hF5,(by rw[ej2];exact qA0 hg2),?_⟩;refine⟨_,rfl,_,rfl,_,_,rfl,rfl,a,ns,_,rfl,hS5,by decide,by decide,fun B3=>?_⟩;refine⟨_,_,rfl,rfl,⟨by decide,by decide⟩,_,_,rfl,rfl,(by show(0:Int)<_;decide),_,_,rfl,rfl,_,rfl,?_⟩;refine ite2 (fun c=>?_) (fun c=>⟨_,none,rfl,X0,.inr (hBs hj2)⟩);refine⟨_,rfl,fh,rfl,⟨_,SqL.of hF5⟩,?_⟩;refine qAr (xs:=fs.map iV) (fun j ys H6=>Ext H5 H6/\ys=(((fs.take j).map fun h=>(rowL names h).length).map fun n:Nat=>(n:Int)).map V.int) ⟨Ext.refl _,rfl⟩ (fun j ys H6 _ h=>SqL.of (h.1 _ _ hF5)) ?_ ?_
  ·rintro j v ys H6 hx ⟨e6,rfl⟩;obtain⟨x,rfl,hx'⟩:=qBz hx;have hj:=qAy hx';refine⟨Sle.set _ (Sle.refl _) (fun u z=>by cases z),iteT (B:=False) ⟨_,rfl,_,rfl,nm,names,x,rfl,e6 _ _ hn5,by omega,fun r3 H7 e7 r30 h3=>⟨r3,_,rfl,.inl (SqL.of h3),?_⟩⟩⟩;refine⟨by rw[hA1,hA1,hA1,hAh];exact qAi (by omega),nxt (qAy hx) ⟨e6.trans e7,?_⟩⟩;rw[qAm hx',hA3,hA3,hA3,hA1];rfl
  rintro ys H6 ⟨e6,rfl⟩ sz hsz;rw[hA1,hA5 (hA7 _)];obtain⟨zs,ezs⟩:∃zs:List Int,zs=((fs.map fun h=>(rowL names h).length).map fun n:Nat=>(n:Int)):=⟨_,rfl⟩;have lzs:zs.length=fs.length:=by rw[ezs,hA1,hA1]
  rw[<-ezs];have X7:=Ext.new hsz (.lst (zs.map V.int));refine⟨_,rfl,_,rfl,(show tyV _ _ (.ref sz) _ from Or.inl ⟨rfl,_,SqL.of upd_same⟩),_,rfl,sz,zs,rfl,SqL.of upd_same,(fun z=>by rw[z]at lzs;simp at lzs;omega),fun M hM _=>?_⟩;refine⟨sz,zs,M,rfl,rfl,upd_same,hM,by omega,fun j3 hj3=>?_⟩;have l3:j3<fs.length:=by rw[<-lzs];exact(hAk.mp hj3).1
  have hg3:(fs.map iV)[j3]?=some (iV fs[j3]):=by rw[hAe,hA2 l3];rfl
  refine⟨fh,_,_,_,rfl,rfl,SqL.of ((e6.trans X7) _ _ hF5),qA0 hg3,?_⟩;exact⟨_,_,rfl,X0.trans (e6.trans X7),.inr (hBs l3)⟩
 ·rintro σ' H5 ⟨k,x7,rfl,e5,hk⟩;have hb5:=e5 _ _ hb4;have hn5:=e5 _ _ hn4;have hk':k=0\/(k∈blF ms names.length/\k&&&(k - 1)≠0):=hk.imp id fun z=>by rw[lnm];exact hfs k z
  have lk:∀i,k.testBit i=true->i<names.length:=by
   rcases hk' with z|⟨z,_⟩
   ·intro i hi;rw[z,hBv]at hi;cases hi
   ·exact qWz z
  have ln:names.length<=12:=by omega
  refine⟨_,rfl,_,rfl,b,ms,k,rfl,hb5,lm,fun r H6 e6 r0 hR=>?_⟩;have lR:=qR8 (N:=ms) lk;refine⟨r,rfl,⟨_,SqL.of hR⟩,?_⟩;refine qAr (xs:=(insF ms k).map iV) (fun j ys H2=>Ext H6 H2/\∃as,ys=as.map V.ref/\Paired (LsS H2) as (((insF ms k).take j).map (rowL names))) ⟨Ext.refl _,[],rfl,.nil⟩ (fun j ys H2 _ h=>SqL.of (h.1 _ _ hR)) ?_ ?_
  ·rintro j v ys H2 hx ⟨e2,as,rfl,pr⟩;obtain⟨x,rfl,hx'⟩:=qBz hx;have hj:=qAy hx';have la:as.length=_:=pr.length;rw[hA1,hAh]at la;refine⟨Sle.set _ (Sle.refl _) (fun u z=>by cases z),iteT (B:=False) ⟨_,rfl,_,rfl,nm,names,x,rfl,(e6.trans e2) _ _ hn5,ln,fun r3 H3 e3 r30 h3=>⟨?_,nxt (qAy hx) ⟨e2.trans e3,as++[r3],by rw[hA3];rfl,?_⟩⟩⟩⟩
   ·rw[hA1];exact qAi (by omega)
   ·rw[qAm hx',hA3];exact Paired.snoc (Paired.mapP pr fun a t z=>e3 _ _ z) h3
  ·rintro ys H7 ⟨e7,as,rfl,pr⟩ rb hrb;rw[hA1,hA5 (hA7 _)]at pr;have la:as.length=((insF ms k).map (rowL names)).length:=pr.length;have la':as.length=(insF ms k).length:=by rw[la,hA1]
   have Xb:=Ext.new hrb (.lst (as.map V.ref));refine⟨_,rfl,_,rfl,nm,names,k,rfl,((e6.trans e7).trans Xb) _ _ hn5,ln,fun l1 H8 e8 l10 hl1=>?_⟩;have X1:=Xb.trans e8;refine⟨_,rfl,rb,as,(insF ms k).map (rowL names),rfl,SqL.of (e8 _ _ upd_same),Paired.mapP pr fun a t z=>SqL.of (X1 _ _ z),by omega,fun r2 o hr2 g sp=>?_⟩;have X2:=X1.trans (Ext.new hr2 (.lst ((o.toList.map fun i=>as.getD i 0).map V.ref)));have gm:∀i∈o.toList,i<as.length:=fun i hi=>qN0 g hi
   rw[la]at g sp;obtain⟨s1,s2⟩:=qHt g sp;refine⟨(by show 2<=sizeLine;decide),fun T hT=>?_⟩;have XT:=X2.trans (Ext.new hT (.tup [V.ref l1,V.ref r2]));refine q T (rowL names k) _ _ (fun c o' n h=>((e5.trans (e6.trans e7)).trans XT) c o' (EB4 c o' n h)) ⟨l1,r2,upd_same,?_,⟨_,(Ext.new hT _) _ _ upd_same,Paired.mapP (qGr pr gm) fun a t z=>XT _ _ z⟩⟩ (zBt rn ok ln lrr lm hk' s2) (fun x hx=>by obtain⟨i,_,h,_⟩:=qBh.mp hx;exact txn x (hAc h)) (My.TabW.extE tw4 ((e5.trans (e6.trans e7)).trans XT));exact(Ext.new hT _) _ _ ((Ext.new hr2 _) _ _ hl1)
end
end My
namespace L2
open PySem PySem.Spec PyProof.Rows
section
variable{X:Cx}{es:List Expr}{ta:TE}{t:TA}
theorem qO2{es':List Expr}{c:Nat}{p:Pos}(ha:PE X (.Tuple es' c p) ta)(hr:PA X es t):PA X (.Tuple es' c p :: es) (qPu ta t):=qAa ha hr rfl
theorem qZp{c:Const}{j}{p:Pos}(ha:PE X (.Constant c j p) ta)(hr:PA X es t):PA X (.Constant c j p :: es) (qPu ta t):=qAa ha hr rfl
theorem qJs{x:Str}{p:Pos}(ha:PE X (.Name x p) ta)(hr:PA X es t):PA X (.Name x p :: es) (qPu ta t):=qAa ha hr rfl
theorem zCn{a b:Expr}{o}{p:Pos}(ha:PE X (.BinOp a o b p) ta)(hr:PA X es t):PA X (.BinOp a o b p :: es) (qPu ta t):=qAa ha hr rfl
end
end L2
namespace My
open PySem L2
abbrev Pr2:=Int×Int
theorem qFp{α β:Type}{R:α->β->Prop}:∀ {as:List α} {bs:List β} (k:Nat),Paired R as bs->Paired R (as.eraseIdx k) (bs.eraseIdx k)
 |_,_,_,.nil=>.nil
 |_,_,0,.cons _ t=>t
 |_,_,k+1,.cons h t=>.cons h (qFp k t)
theorem qGq{α β:Type}{R:α->β->Prop}:∀ {as:List α} {bs:List β} (k:Nat),Paired R as bs->Paired R (as.take k) (bs.take k)
 |_,_,0,_=>.nil
 |_,_,_+1,.nil=>.nil
 |_,_,k+1,.cons h t=>.cons h (qGq k t)
theorem qJ9{α β:Type}(f:α->β):∀(l:List α) (k:Nat),(l.map f).eraseIdx k=(l.eraseIdx k).map f
 |[],_=>rfl
 |_ :: _,0=>rfl
 |a :: l,k+1=>congrArg (f a :: ·) (qJ9 f l k)
theorem qD7.oth{H:Hp}{p o:Addr}{net:List Tr}{xs:List V}{u:HO}(h:qD7 H p net)(ho:H o=some (.lst xs))(ne:p≠o):qD7 (upd H o u) p net:=by
 obtain⟨as,h1,h2⟩:=h;exact⟨as,by rw[qAl ne];exact h1,Paired.mapP h2 fun a t z=>by rw[qAl (fun e=>by rw[e,ho]at z;cases z)];exact z⟩
theorem qBd.oth{H:Hp}{p o:Addr}{es:List Pr2}{xs:List V}{u:HO}(h:qBd H p es)(ho:H o=some (.lst xs))(ne:p≠o):qBd (upd H o u) p es:=by
 obtain⟨as,h1,h2⟩:=h;exact⟨as,by rw[qAl ne];exact h1,Paired.mapP h2 fun a t z=>by rw[qAl (fun e=>by rw[e,ho]at z;cases z)];exact z⟩
theorem qBd.pop{H:Hp}{p:Addr}{es:List Pr2}{as:List Addr}(k:Nat)(h1:H p=some (.lst (as.map V.ref)))(h2:Paired (fun a e=>H a=some (.tup (enV e))) as es):qBd (upd H p (.lst ((as.map V.ref).eraseIdx k))) p (es.eraseIdx k):=by
 refine⟨as.eraseIdx k,by rw[upd_same,qJ9],Paired.mapP (qFp k h2) fun a t z=>by rw[qAl (fun e=>by rw[e,h1]at z;cases z)];exact z⟩
theorem qBd.cat{H:Hp}{p l r:Addr}{es fs:List Pr2}(h1:qBd H p es)(h2:qBd H l fs):∃xs ys,H p=some (.lst xs)/\H l=some (.lst ys)/\xs.length=es.length/\ys.length=fs.length/\(H r=none->qBd (upd H r (.lst (xs++ys))) r (es++fs)):=by
 obtain⟨as,a1,a2⟩:=h1;obtain⟨bs,b1,b2⟩:=h2;refine⟨_,_,a1,b1,by rw[hA1];exact a2.length,by rw[hA1];exact b2.length,fun r0=>⟨as++bs,by rw[upd_same,hA3],?_⟩⟩;have:∀ {a:Addr} {o:HO},H a=some o->upd H r (.lst (as.map V.ref++bs.map V.ref)) a=some o:=fun h=>Ext.new r0 _ _ _ h
 exact qDv (Paired.mapP a2 fun a t z=>this z) (Paired.mapP b2 fun a t z=>this z)
theorem qV9{j n:Nat}(h:j<n):seqIndex? (j:Int) n=some j:=by
 have:=PySem.StrLaws.seqIndex_nonneg (i:=(j:Int)) (n:=n) (by omega) (by omega);rw[hAz]at this;exact this
theorem qLq(x:Int){n:Nat}(h:0<n):∃j:Nat,j<n/\x % (n:Int)=(j:Int):=by
 have h1:=hB8 x (show(n:Int)≠0 by omega);have h2:=hB4 x (show(0:Int)<(n:Int) by omega);exact⟨(x % (n:Int)).toNat,by omega,by omega⟩
def dEn(e:Pr2):PyData:=.tuple [.int e.1,.int e.2]
theorem qNu:∀xs:List Pr2,PyData.canLayAll0 (xs.map dEn)=true/\PyData.depthAll (xs.map dEn)<=1
 |[]=>⟨rfl,by decide⟩
 |x :: r=>by
  obtain⟨h1,h2⟩:=qNu r;refine⟨?_,?_⟩
  ·show(true && PyData.canLayAll0 (r.map dEn))=true;rw[h1];rfl
  ·show max 1 (PyData.depthAll (r.map dEn))<=1;omega
theorem qK6(xs:List Pr2):SeqAt.shaped (.list (xs.map dEn))=true:=by
 obtain⟨h3,h4⟩:=qNu xs;show(PyData.canLayAll0 (xs.map dEn) && decide (PyData.depthAll (xs.map dEn)+1<=64))=true;rw[h3,decide_eq_true (by omega)];rfl
theorem qSn{K:PySem.W.Frag}{H:Hp}:∀ {as:List Addr} {es:List Pr2},Paired (fun a e=>H a=some (.tup (enV e))) as es->DRs K H (as.map V.ref) (es.map dEn)
 |_,_,.nil=>.nil
 |_,_,.cons h t=>.cons (.tup (SqT.of h) (.cons (.int _) (.cons (.int _) .nil))) (qSn t)
theorem qPx:∀n,n<20->((toString ((n:Nat):Int):String):Str).length<=4/\((n:Nat):Int).natAbs.log2<1920:=by decide +kernel
def qVx(K:PySem.W.Frag):Sp:=fun vs H Q _=>∃(a:Addr) (ns:List Int),vs=[.ref a,.int 1]/\SqL K H a (ns.map V.int)/\∀r net H',Ext H H'->H r=none->qD7 H' r net->net.length<=12->Tx (net.map (·.1))->qDu (net.map (·.1))->Q (.ref r) H'
structure GI(H:Hp)(a:Addr)(i:Nat)(σ:St)(H':Hp)(B m:Int)(np:Addr)(es:List Pr2):Prop where
 st:∃x5 x6 x7 x8 x9:Option V,σ=[some (.ref a),some (.int 1),some (.int B),some (.ref np),some (.int m),x5,x6,x7,x8,x9,none,none,none,none]
 ext:Ext H H'
 np0:H np=none
 es0:qBd H' np es
 l3:3<=es.length
 le:es.length<=3+4*i
 m3:3<=m
 me:m<=3+2*i
 ins:∀e∈es,qPg m e
structure GW(H:Hp)(a:Addr)(names:List Str)(k:Nat)(σ:St)(H':Hp)(B m:Int)(od fo nm:Addr)(es:List Pr2)(net:List Tr):Prop where
 st:∃(np:Addr) (x5 x6 x7 x8 x9 x13:Option V),σ=[some (.ref a),some (.int 1),some (.int B),some (.ref np),some (.int m),x5,x6,x7,x8,x9,some (.ref nm),some (.ref od),some (.ref fo),x13]
 ext:Ext H H'
 od0:H od=none
 fo0:H fo=none
 ne:od≠fo
 no:nm≠od
 nf:nm≠fo
 hn:LsS H' nm names
 es0:qBd H' od es
 nt:qD7 H' fo net
 lk:es.length=k
 ln:net.length+k=names.length
 fst:net.map (·.1)=names.take net.length
 ins:∀e∈es,qPg m e
theorem qPg.mono{m m':Int}{e:Pr2}(h:qPg m e)(l:m<=m'):qPg m' e:=⟨⟨h.1.1,by have:=h.1.2;omega⟩,h.2.1,by have:=h.2.2;omega⟩
section
variable{P:Program}{w:World}{K:PySem.W.Frag}{mg:Str->Option Value}{base:Heap}{f f1 f2 f3:Addr}{fd fd1 fd2 fd3:FuncData}
abbrev glN:List Str:=["_law_script","_law_at","_law_big_here","_law_net_here","_law_most","_law_k","_law_way","_law_spot","_law_one","_law_other","_law_names_here","_law_order","_law_found","_law_two"]
theorem qCx:FnScope glN ["_law_script","_law_at"] (qAe qT7):=⟨rfl,rfl,rfl,by decide +kernel,rfl,by decide +kernel,by decide +kernel⟩
theorem qYm(F:Fun K "_law_glued" "_law_glued" qT7 f fd)
  (G1:Cl P w K mg base CX0 2 f1 fd1 ["_law_script","_law_k"] (qK0 K) "_law_big")
  (G2:Cl P w K mg base CX0 1 f2 fd2 ["_law_big_here","_law_many"] qF6 "_law_names")
  (ml:mg "len" = none) (mr:mg "range" = none) (mso:mg "sorted" = none) (mmi:mg "min" = none) (mL:mg "list" = none) (mtu:mg "tuple" = none) (mst:mg "str" = none):FnOk P w K mg base CX0 3 f fd ["_law_script","_law_at"] (qVx K):=by
 refine F.ok qCx (fun vs H Q E h=>?_) (fun cdv A outer s H vs Q E hr2 h=>?_)
 ·obtain⟨a,ns,rfl,_⟩:=h;rfl
 obtain⟨a,ns,rfl,hS,q⟩:=h;have hr1:=hr2.mono (j:=1) (by decide);refine⟨_,(qAc (qAj (i:=2) qCx.nd rfl (Or.inl rfl) (qAx G1 hr2 rfl .nil qAv (qAa (pv 0) (qAa (qAh qA6 (pv 1) qAd) qAb)))) (qAc (qAj (i:=3) qCx.nd rfl (Or.inl rfl) (qA4 (qO2 (qA5 (qZp qAd (qZp qAd qAb))) (qO2 (qA5 (qZp qAd (qZp qAd qAb))) (qO2 (qA5 (qZp qAd (qZp qAd qAb))) qAb))))) (qAc (qAj (i:=4) qCx.nd rfl (Or.inl rfl) qAd) (qAc (qBb PassesOwn.never rfl (qA8 rfl mr (qAa (qAh qA6 qAd (qAh qA7 (pv 2) qAd)) qAb)) (qAg (i:=5) qCx.nd rfl (Or.inl rfl)) (qAc (qAj (i:=6) qCx.nd rfl (Or.inl rfl) (qAh qA7 (qAh qA3 (pv 2) qAd) qAd)) (qAc (qAj (i:=7) qCx.nd rfl (Or.inl rfl) (qAh qA7 (qAh qA3 (pv 2) qAd) (qAk qAn rfl ml hAv (qAa (pv 3) qAb)))) (qAc (qAj (i:=2) qCx.nd rfl (Or.inl rfl) (qAh qA3 (qAh qA3 (pv 2) qAd) (qAk qAn rfl ml hAv (qAa (pv 3) qAb)))) (qAc (qFn (qC7 hAr PySem.F.slot_list_pop PySem.F.type_list_pop qNm (pv 3) (qAa (pv 7) qAb)) (qB0 rfl (qAs (qAg (i:=8) qCx.nd rfl (Or.inl rfl)) (qAs (qAg (i:=9) qCx.nd rfl (Or.inl rfl)) qBe)))) (qAf (qBi (PW.pt (qJo (qAp qB1 (pv 6) qAd (qAu _)) (qGk (qAp qEk (qAk qAn rfl ml hAv (qAa (pv 3) qAb)) qAd (qAu _))))) (qAc (qAj (i:=3) qCx.nd rfl (Or.inl rfl) (qAh qB5 (pv 3) (qA4 (qO2 (qA5 (qJs (pv 8) (qJs (pv 4) qAb))) (qO2 (qA5 (qJs (pv 8) (zCn (qAh qA6 (pv 4) qAd) qAb))) (qO2 (qA5 (qJs (pv 4) (zCn (qAh qA6 (pv 4) qAd) qAb))) (qO2 (qA5 (qJs (pv 4) (qJs (pv 9) qAb))) (qO2 (qA5 (zCn (qAh qA6 (pv 4) qAd) (qJs (pv 9) qAb))) qAb)))))))) (qAf (qJp (i:=4) qCx.nd rfl (Or.inl rfl) qAd qNy))) (qAf (qBi (qAp qB1 (pv 6) qAd (qAu _)) (qAc (qAj (i:=3) qCx.nd rfl (Or.inl rfl) (qAh qB5 (pv 3) (qA4 (qO2 (qA5 (qJs (pv 8) (qJs (pv 4) qAb))) (qO2 (qA5 (qJs (pv 4) (qJs (pv 9) qAb))) qAb))))) (qAf (qJp (i:=4) qCx.nd rfl (Or.inl rfl) qAd qNy))) (qAf (qBi (qAp qB1 (pv 6) qAd (qAu _)) (qAf (qAj (i:=3) qCx.nd rfl (Or.inl rfl) (qAh qB5 (pv 3) (qA4 (qO2 (qA5 (qJs (pv 8) (qJs (pv 9) qAb))) (qO2 (qA5 (qJs (pv 8) (qJs (pv 9) qAb))) qAb)))))) (qAf (qAj (i:=3) qCx.nd rfl (Or.inl rfl) (qAh qB5 (pv 3) (qA4 (qO2 (qA5 (qJs (pv 8) (qJs (pv 9) qAb))) qAb)))))))))))))))) (qAc (qAj (i:=10) qCx.nd rfl (Or.inl rfl) (qAk qCc rfl mso qBj (qAa (qAx G2 hr1 rfl .nil qAv (qAa (qAx G1 hr2 rfl .nil qAv (qAa (pv 0) (qAa (qAh qA6 (pv 1) qAd) qAb))) (qAa (qAk (qEv rfl) rfl mmi qEx (qAa qAd (qAa (qAk qAn rfl ml hAv (qAa (pv 3) qAb)) qAb))) qAb))) qAb))) (qAc (qAj (i:=11) qCx.nd rfl (Or.inl rfl) (qBn qCd rfl mL qBy (qAa (qEj qK3 (pv 3) qGn (qGm qAd)) qAb))) (qAc (qAj (i:=12) qCx.nd rfl (Or.inl rfl) (qA4 qAb)) (qAc (qIl PassesOwn.never (qAp (qJu (qJn hr2)) (pv 11) (qA4 qAb) (qAu _)) (qAc (qAj (i:=13) qCx.nd rfl (Or.inl rfl) (qC7 hAr PySem.F.slot_list_pop PySem.F.type_list_pop qNm (pv 11) (qAa (qAh qA7 (pv 2) (qAk qAn rfl ml hAv (qAa (pv 11) qAb))) qAb))) (qAc (qAj (i:=2) qCx.nd rfl (Or.inl rfl) (qAh qA3 (pv 2) (qAh qA6 (qAk qAn rfl ml hAv (qAa (pv 11) qAb)) qAd))) (qAf (qB4 (qC7 hAr hBd hBe qBo (pv 12) (qAa (qAh qRb (qA5 (qAa (qBg qBv (pv 10) (qAk qAn rfl ml hAv (qAa (pv 12) qAb)) (fun _ _=>rfl)) qAb)) (qBn qEs rfl mtu qD6 (qAa (qAk qCc rfl mso qBj (qAa (qBf (N:=glN) (sc:=qAe qT7) (N':=["_law_point"]) (sub:=[none]) rfl rfl (CmpOk.of (by decide +kernel)) rfl (zAn (pv 13)) (fun C s H fp=>⟨qAg (i:=0) (by show(["_law_point"]:List Str).Nodup;decide) rfl (Or.inl rfl),qAz,(qAh qDr qDz (qBn qKf rfl mst qKh (qAa (pv 0) qAb)))⟩)) qAb)) qAb))) qAb))))))) (qAf (qAt (pv 12))))))))))),?_⟩;refine⟨_,rfl,_,rfl,_,_,rfl,rfl,a,ns,_,rfl,hS,by decide,by decide,fun B0=>?_⟩;refine⟨(by show 2<=sizeLine;decide),fun T1 hT1=>⟨(by show 2<=sizeLine;decide),fun T2 hT2=>⟨(by show 2<=sizeLine;decide),fun T3 hT3=>⟨(by show 3<=sizeLine;decide),fun np hnp=>?_⟩⟩⟩⟩;have X1:=Ext.new hT1 (.tup (enV (0,1)));have X2:=Ext.new hT2 (.tup (enV (1,2)));have X3:=Ext.new hT3 (.tup (enV (0,2)));have X4:=Ext.new hnp (.lst [V.ref T1,V.ref T2,V.ref T3]);have E4:=X1.trans (X2.trans (X3.trans X4));have np0:H np=none:=(X1.trans (X2.trans X3)).none hnp;have en0:qBd (upd (upd (upd (upd H T1 (.tup (enV (0,1)))) T2 (.tup (enV (1,2)))) T3 (.tup (enV (0,2)))) np (.lst [V.ref T1,V.ref T2,V.ref T3])) np [(0,1),(1,2),(0,2)] :=
  ⟨[T1,T2,T3],upd_same,.cons ((X2.trans (X3.trans X4)) _ _ upd_same) (.cons ((X3.trans X4) _ _ upd_same) (.cons (X4 _ _ upd_same) .nil))⟩
 have i0:=hB8 B0 (show(3:Int)≠0 by decide);have i1:=hB4 B0 (show(0:Int)<3 by decide);refine⟨_,rfl,_,_,rfl,rfl,(by show(0:Int)<_;decide),_,_,rfl,rfl,2+B0 % 3,rfl,by omega,by omega,qBp (lo:=0) (n:=(2+B0 % 3).toNat) (fun i σ H'=>∃B m np es,GI H a i σ H' B m np es)
  ⟨B0,3,np,_,⟨none,none,none,none,none,rfl⟩,E4,np0,en0,by decide,by decide,by decide,by decide,fun e he=>?_⟩ ?_ ?_⟩
 ·have:∀e∈[((0:Int),(1:Int)),(1,2),(0,2)],(0<=e.1/\e.1<3)/\0<=e.2/\e.2<3:=by decide
  exact this e he
 ·clear en0 E4 np0 X4 X3 X2 X1 hnp hT3 hT2 hT1;rintro i σ H' hi ⟨B,m,np,es,⟨x5,x6,x7,x8,x9,rfl⟩,ext,np0,es0,l3,le,m3,me,ins⟩;obtain⟨as,ea1,ea2⟩:=id es0;have la:as.length=es.length:=ea2.length;have lm:(as.map V.ref).length=es.length:=by rw[hA1];exact la
  refine⟨_,rfl,_,_,rfl,rfl,⟨by decide,by decide⟩,_,_,rfl,rfl,(by show(0:Int)<_;decide),?_⟩;refine⟨_,rfl,_,_,rfl,rfl,⟨by decide,by decide⟩,_,rfl,np,_,rfl,.inl (SqL.of ea1),_,_,rfl,rfl,(by rw[lm];omega),?_⟩;refine⟨_,rfl,_,_,rfl,rfl,⟨by decide,by decide⟩,_,rfl,np,_,rfl,.inl (SqL.of ea1),_,_,rfl,rfl,⟨by rw[lm];omega,by rw[lm];omega⟩,?_⟩;obtain⟨j,hj,ej⟩:=qLq (B / 12) (n:=(as.map V.ref).length) (by omega);have hja:j<as.length:=by omega
  have gj:(as.map V.ref)[j]?=some (V.ref as[j]):=by rw[hAe,hA2 hja];rfl
  obtain⟨e,he,hbe⟩:=qAw ea2 (hA2 hja);have hin:=ins e (hAc he);refine⟨_,rfl,.inl ⟨rfl,_,SqL.of ea1⟩,_,rfl,np,_,(j:Int),j,_,rfl,(by show [V.int (B / 12 % (((as.map V.ref).length:Nat):Int))]=_;rw[ej]),ea1,by omega,by omega,qV9 hj,gj,?_⟩;have P1:=qBd.pop j ea1 ea2;have E1:=ext.over np0 (.lst ((as.map V.ref).eraseIdx j));have hb1:upd H' np (.lst ((as.map V.ref).eraseIdx j)) as[j]=some (.tup (enV e)):=by
   rw[qAl (fun z=>by rw[z,ea1]at hbe;cases hbe)];exact hbe
  have lj:j<es.length:=by omega
  have le1:(es.eraseIdx j).length=es.length - 1:=List.length_eraseIdx_of_lt lj;have in1:∀x∈es.eraseIdx j,qPg m x:=fun x hx=>ins x (List.mem_of_mem_eraseIdx hx)
  refine⟨as[j],_,rfl,SqT.of hb1,rfl,_,_,rfl,_,_,rfl,rfl,?_⟩;revert P1 E1 hb1;generalize upd H' np (.lst ((as.map V.ref).eraseIdx j))=H1;generalize es.eraseIdx j=fs at le1 in1 ⊢;intro P1 E1 hb1;obtain⟨xs1,ys1,hx1,_,lx1,_⟩:=qBd.cat (r:=np) P1 P1;obtain⟨h11,h12⟩:=hin.1;obtain⟨h21,h22⟩:=hin.2;have fin:∀(gs:List Pr2) (m':Int) (L:Addr) (H2:Hp) (w5 w6 w7 w8 w9:Option V),Ext H1 H2->qBd H2 L gs->1<=gs.length->gs.length<=5->m<=m'->m'<=m+2->(∀e∈gs,qPg m' e)->∃xs ys,H2 np=some (.lst xs)/\H2 L=some (.lst ys)/\xs.length+ys.length<=sizeLine/\∀r,H2 r=none->GI H a (i+1) [some (.ref a),some (.int 1),some (.int (B / 12 / (((as.map V.ref).length:Nat):Int))),some (.ref r),some (.int m'),w5,w6,w7,w8,w9,none,none,none,none] (upd H2 r (.lst (xs++ys))) (B / 12 / (((as.map V.ref).length:Nat):Int)) m' r (fs++gs):=by
   intro gs m' L H2 w5 w6 w7 w8 w9 e2 hg g1 g5 mm mm2 gi;obtain⟨xs,ys,h1,h2,l1,l2,_⟩:=qBd.cat (r:=np) (P1.ext e2) hg;refine⟨xs,ys,h1,h2,hB1 (qAi (by omega)),fun r r0=>?_⟩;obtain⟨xs',ys',h1',h2',_,_,k⟩:=qBd.cat (r:=r) (P1.ext e2) hg;rw[h1]at h1';rw[h2]at h2';cases h1';cases h2';exact⟨⟨_,_,_,_,_,rfl⟩,E1.trans (e2.trans (Ext.new r0 _)),(E1.trans e2).none r0,k r0,by rw[hAa];omega,by rw[hAa];omega,by omega,by omega,fun x hx=>(hAj.mp hx).elim (fun z=>(in1 x z).mono mm) (fun z=>gi x z)⟩
  have two:2<=sizeLine:=by decide
  have inP:∀ {x y m':Int},0<=x->x<m'->0<=y->y<m'->qPg m' (x,y):=fun a b c d=>⟨⟨a,b⟩,c,d⟩
  refine⟨_,rfl,rfl,_,rfl,?_⟩;refine ite2 (fun c=>?c1) (fun c=>?c2)
  case' c1 =>
   refine⟨_,rfl,np,_,rfl,.inl (SqL.of hx1),_,_,rfl,rfl,_,rfl,?_⟩;refine ite2 (fun c2=>?c3) (fun c2=>?c4)
  case' c2=>refine qHa ?_
  case c3 =>
   refine⟨_,rfl,_,rfl,_,rfl,two,fun T1 hT1=>⟨_,rfl,_,rfl,_,_,rfl,rfl,two,fun T2 hT2=>⟨_,rfl,_,rfl,_,_,rfl,rfl,two,fun T3 hT3=>⟨_,rfl,_,rfl,two,fun T4 hT4=>⟨_,rfl,_,_,rfl,rfl,_,rfl,two,fun T5 hT5=>⟨(by show 5<=sizeLine;decide),fun L hL=>?_⟩⟩⟩⟩⟩⟩;have Y1:=Ext.new hT1 (.tup (enV (e.1,m)));have Y2:=Ext.new hT2 (.tup (enV (e.1,m+1)));have Y3:=Ext.new hT3 (.tup (enV (m,m+1)));have Y4:=Ext.new hT4 (.tup (enV (m,e.2)));have Y5:=Ext.new hT5 (.tup (enV (m+1,e.2)));have Y6:=Ext.new hL (.lst [V.ref T1,V.ref T2,V.ref T3,V.ref T4,V.ref T5]);obtain⟨xs,ys,k1,k2,k3,k4⟩:=fin [(e.1,m),(e.1,m+1),(m,m+1),(m,e.2),(m+1,e.2)] (m+2) L _ (some (.int (0+(i:Int)))) (some (.int (B / 3 % 4))) (some (.int (B / 12 % (((as.map V.ref).length:Nat):Int)))) (some (.int e.1)) (some (.int e.2)) (Y1.trans (Y2.trans (Y3.trans (Y4.trans (Y5.trans Y6)))))
    ⟨[T1,T2,T3,T4,T5],upd_same,.cons ((Y2.trans (Y3.trans (Y4.trans (Y5.trans Y6)))) _ _ upd_same) (.cons ((Y3.trans (Y4.trans (Y5.trans Y6))) _ _ upd_same) (.cons ((Y4.trans (Y5.trans Y6)) _ _ upd_same) (.cons ((Y5.trans Y6) _ _ upd_same) (.cons (Y6 _ _ upd_same) .nil))))⟩ (by show 1<=5;decide) (by show 5<=5;decide) (by omega) (by omega) (fun x hx=>by
     simp only[hAf,List.mem_nil_iff,or_false]at hx;rcases hx with z|z|z|z|z <;> (rw[z];exact inP (by omega) (by omega) (by omega) (by omega)))
   refine⟨np,L,xs,ys,rfl,rfl,k1,k2,k3,fun r r0=>⟨_,rfl,_,_,rfl,rfl,_,_,_,_,k4 r r0⟩⟩
  all_goals
   refine⟨_,rfl,rfl,_,rfl,?_⟩;refine ite2 (fun d=>?_) (fun d=>?_)
   ·refine⟨_,rfl,_,rfl,_,rfl,two,fun T1 hT1=>⟨_,rfl,_,rfl,two,fun T2 hT2=>⟨two,fun L hL=>?_⟩⟩⟩;have Y1:=Ext.new hT1 (.tup (enV (e.1,m)));have Y2:=Ext.new hT2 (.tup (enV (m,e.2)));have Y3:=Ext.new hL (.lst [V.ref T1,V.ref T2]);obtain⟨xs,ys,k1,k2,k3,k4⟩:=fin [(e.1,m),(m,e.2)] (m+1) L _ (some (.int (0+(i:Int)))) (some (.int (B / 3 % 4))) (some (.int (B / 12 % (((as.map V.ref).length:Nat):Int)))) (some (.int e.1)) (some (.int e.2)) (Y1.trans (Y2.trans Y3))
     ⟨[T1,T2],upd_same,.cons ((Y2.trans Y3) _ _ upd_same) (.cons (Y3 _ _ upd_same) .nil)⟩ (by show 1<=2;decide) (by show 2<=5;decide) (by omega) (by omega) (fun x hx=>by
      simp only[hAf,List.mem_nil_iff,or_false]at hx;rcases hx with z|z <;> (rw[z];exact inP (by omega) (by omega) (by omega) (by omega)))
    exact⟨np,L,xs,ys,rfl,rfl,k1,k2,k3,fun r r0=>⟨_,rfl,_,_,rfl,rfl,_,_,_,_,k4 r r0⟩⟩
   refine⟨_,rfl,rfl,_,rfl,?_⟩;refine ite2 (fun d2=>?_) (fun d2=>?_)
   ·refine⟨_,rfl,_,rfl,_,rfl,two,fun T1 hT1=>⟨_,rfl,_,rfl,two,fun T2 hT2=>⟨two,fun L hL=>?_⟩⟩⟩;have Y1:=Ext.new hT1 (.tup (enV (e.1,e.2)));have Y2:=Ext.new hT2 (.tup (enV (e.1,e.2)));have Y3:=Ext.new hL (.lst [V.ref T1,V.ref T2]);obtain⟨xs,ys,k1,k2,k3,k4⟩:=fin [(e.1,e.2),(e.1,e.2)] m L _ (some (.int (0+(i:Int)))) (some (.int (B / 3 % 4))) (some (.int (B / 12 % (((as.map V.ref).length:Nat):Int)))) (some (.int e.1)) (some (.int e.2)) (Y1.trans (Y2.trans Y3))
     ⟨[T1,T2],upd_same,.cons ((Y2.trans Y3) _ _ upd_same) (.cons (Y3 _ _ upd_same) .nil)⟩ (by show 1<=2;decide) (by show 2<=5;decide) (by omega) (by omega) (fun x hx=>by
      simp only[hAf,List.mem_nil_iff,or_false]at hx;rcases hx with z|z <;> (rw[z];exact inP (by omega) (by omega) (by omega) (by omega)))
    exact⟨np,L,xs,ys,rfl,rfl,k1,k2,k3,fun r r0=>⟨_,_,_,_,k4 r r0⟩⟩
   ·refine⟨_,rfl,_,rfl,_,rfl,two,fun T1 hT1=>⟨(by show 1<=sizeLine;decide),fun L hL=>?_⟩⟩;have Y1:=Ext.new hT1 (.tup (enV (e.1,e.2)));have Y3:=Ext.new hL (.lst [V.ref T1]);obtain⟨xs,ys,k1,k2,k3,k4⟩:=fin [(e.1,e.2)] m L _ (some (.int (0+(i:Int)))) (some (.int (B / 3 % 4))) (some (.int (B / 12 % (((as.map V.ref).length:Nat):Int)))) (some (.int e.1)) (some (.int e.2)) (Y1.trans Y3)
     ⟨[T1],upd_same,.cons (Y3 _ _ upd_same) .nil⟩ (by show 1<=1;decide) (by show 1<=5;decide) (by omega) (by omega) (fun x hx=>by
      rw[hAd.mp hx];exact inP (by omega) (by omega) (by omega) (by omega))
    exact⟨np,L,xs,ys,rfl,rfl,k1,k2,k3,fun r r0=>⟨_,_,_,_,k4 r r0⟩⟩
 ·clear en0 E4 np0 X4 X3 X2 X1 hnp hT3 hT2 hT1;rintro σ H' ⟨B,m,np,es,⟨x5,x6,x7,x8,x9,rfl⟩,ext,np0,es0,l3,le,m3,me,ins⟩;obtain⟨as,ea1,ea2⟩:=id es0;have la:as.length=es.length:=ea2.length;have lm:(as.map V.ref).length=es.length:=by rw[hA1];exact la
  have n4:(2+B0 % 3).toNat<=4:=by omega
  refine⟨_,rfl,_,rfl,_,_,rfl,rfl,a,ns,_,rfl,ext.sqL hS,by decide,by decide,fun B1=>?_⟩;refine⟨_,rfl,np,_,rfl,.inl (SqL.of ea1),_,_,rfl,?_⟩;obtain⟨n,en,n12,n3,ne12⟩:∃n:Nat,(if (((as.map V.ref).length:Nat):Int)<12 then (((as.map V.ref).length:Nat):Int) else 12)=(n:Int)/\n<=12/\3<=n/\n=(es.take 12).length:=by
   rw[hAh];by_cases c:(((as.map V.ref).length:Nat):Int)<12
   ·rw[if_pos c];exact⟨_,rfl,by omega,by omega,by omega⟩
   ·rw[if_neg c];exact⟨12,rfl,by omega,by omega,by omega⟩
  rw[en];refine⟨B1,(n:Int),rfl,by omega,by omega,fun nr ss H2 e2 nr0 hss lss tx ndc=>?_⟩;have nd0:ss.Nodup:=ndc (by omega);refine⟨nr,ss,rfl,SqL.of hss,by omega,fun nm names hnm pm srt=>?_⟩;have nd:names.Nodup:=pm.symm.nodup nd0;have rn:qDu names:=qLg srt nd;have txn:Tx names:=fun x hx=>tx x (pm.mem_iff.mp hx)
  have lnm:names.length=n:=by rw[pm.length_eq,lss];omega
  have Z2:=Ext.new hnm (.lst (names.map V.str));have E2:=ext.trans (e2.trans Z2);have hn2:LsS (upd H2 nm (.lst (names.map V.str))) nm names:=upd_same;have ea2':=Paired.mapP ea2 fun a t z=>(e2.trans Z2) _ _ z
  have ea1':=(e2.trans Z2) _ _ ea1;revert E2 hn2 ea2' ea1';generalize upd H2 nm (.lst (names.map V.str))=H3;intro E2 hn2 ea2' ea1';refine⟨_,rfl,_,rfl,np,_,rfl,SqL.of ea1',fun l1 hl1=>?_⟩;rw[show qVc (as.map V.ref) none (some 12)=(as.take 12).map V.ref by rw[List.map_take];exact qSt (as.map V.ref) 12];have Z3:=Ext.new hl1 (.lst ((as.take 12).map V.ref));refine⟨l1,_,rfl,.inl (SqL.of upd_same),fun od hod=>?_⟩;have Z4:=Ext.new hod (.lst ((as.take 12).map V.ref));refine⟨hAo _,fun fo hfo=>?_⟩;have Z5:=Ext.new hfo (.lst []);have Z35:=Z3.trans (Z4.trans Z5);refine⟨fun k σ H6=>∃B od fo nm es net,GW H a names k σ H6 B m od fo nm es net,⟨n,B,od,fo,nm,es.take 12,[],⟨np,x5,x6,x7,x8,x9,none,rfl⟩,E2.trans Z35,(E2.trans Z3).none hod,(E2.trans (Z3.trans Z4)).none hfo,?_,?_,?_,Z35 _ _ hn2,⟨as.take 12,Z5 _ _ upd_same,?_⟩,⟨[],upd_same,.nil⟩,ne12.symm,by rw[lnm];exact Nat.zero_add _,rfl,fun e he=>ins e (hDc he)⟩,?_⟩
  ·intro z;rw[<-z,upd_same]at hfo;cases hfo
  ·intro z;rw[<-z,Z3 _ _ hn2]at hod;cases hod
  ·intro z;rw[<-z,(Z3.trans Z4) _ _ hn2]at hfo;cases hfo
  ·exact qGq 12 (Paired.mapP ea2' fun a t z=>Z35 _ _ z)
  clear Z35 Z5 Z4 Z3 hfo hod hl1 ea1' ea2' hn2 E2 es0 ea1 ea2 la lm en e2 hss Z2 hnm ext l3 le ne12;rintro k σ H6 ⟨B,od,fo,nm,es,net,⟨np,x5,x6,x7,x8,x9,x13,rfl⟩,ext,od0,fo0,ne,no,nf,hn,es0,nt,lk,ln,fst,ins⟩;obtain⟨as,ea1,ea2⟩:=id es0;have la:as.length=es.length:=ea2.length;refine⟨_,rfl,hAo _,fun l0 hl0=>?_⟩;have X0:=Ext.new hl0 (.lst []);have pr0:=Paired.mapP ea2 fun a t z=>X0 _ _ z
  have od1:=X0 _ _ ea1;refine⟨_,_,.lst (SqL.of od1) (qSn pr0),.lst (SqL.of upd_same) .nil,qK6 es,(by decide +kernel),_,rfl,?_⟩;have hn0:=X0 _ _ hn;have nt0:=nt.ext X0;have E0:=ext.trans X0;revert pr0 od1 hn0 nt0 E0;generalize upd H6 l0 (.lst [])=H7;intro pr0 od1 hn0 nt0 E0;refine ite2 (fun c=>⟨fun σ' H'=>∃m',m'<k/\∃B od fo nm es net,GW H a names m' σ' H' B m od fo nm es net,fun _ _ h=>h,?_⟩) (fun c=>?_)
  ·have lp:0<es.length:=List.length_pos_iff.mpr fun z=>by
    rw[z]at c;revert c
    decide +kernel
   have lm:(as.map V.ref).length=es.length:=by rw[hA1];exact la
   obtain⟨j,hj,ej⟩:=qLq B (n:=(as.map V.ref).length) (by omega);have hja:j<as.length:=by omega
   have gj:(as.map V.ref)[j]?=some (V.ref as[j]):=by rw[hAe,hA2 hja];rfl
   obtain⟨e,he,hbe⟩:=qAw pr0 (hA2 hja);have hin:=ins e (hAc he);refine⟨_,rfl,.inl ⟨rfl,_,SqL.of od1⟩,_,rfl,_,rfl,od,_,rfl,.inl (SqL.of od1),_,_,rfl,rfl,(by rw[lm];omega),od,_,(j:Int),j,_,rfl,(by show [V.int (B % (((as.map V.ref).length:Nat):Int))]=_;rw[ej]),od1,by omega,by omega,qV9 hj,gj,?_⟩;have P1:=qBd.pop j od1 pr0;have E1:=E0.over od0 (.lst ((as.map V.ref).eraseIdx j));have hb1:upd H7 od (.lst ((as.map V.ref).eraseIdx j)) as[j]=some (.tup (enV e)):=by
    rw[qAl (fun z=>by rw[z,od1]at hbe;cases hbe)];exact hbe
   have hn1:LsS (upd H7 od (.lst ((as.map V.ref).eraseIdx j))) nm names:=by unfold LsS;rw[qAl no];exact hn0
   have nt1:=nt0.oth (u:=.lst ((as.map V.ref).eraseIdx j)) od1 (Ne.symm ne);have lj:j<es.length:=by omega
   have le1:(es.eraseIdx j).length=es.length - 1:=List.length_eraseIdx_of_lt lj;have in1:∀x∈es.eraseIdx j,qPg m x:=fun x hx=>ins x (List.mem_of_mem_eraseIdx hx)
   revert P1 E1 hb1 hn1 nt1;generalize upd H7 od (.lst ((as.map V.ref).eraseIdx j))=H8;generalize es.eraseIdx j=fs at le1 in1 ⊢;intro P1 E1 hb1 hn1 nt1;obtain⟨bs,eb1,eb2⟩:=id P1;have lb:bs.length=fs.length:=eb2.length;obtain⟨ds,ed1,ed2⟩:=id nt1;have ld:ds.length=net.length:=ed2.length;refine⟨_,rfl,_,rfl,od,_,rfl,.inl (SqL.of eb1),_,_,rfl,rfl,_,_,rfl,rfl,⟨by rw[hA1];omega,by rw[hA1];omega⟩,?_⟩;have lnn:net.length<names.length:=by omega
   have gn:atI (names.map V.str) (((ds.map V.ref).length:Nat):Int)=some (.str names[net.length]):=by
    rw[hA1,ld];exact qA0 (by rw[hAe,hA2 lnn];rfl)
   refine⟨_,rfl,.inl ⟨rfl,_,SqL.of ed1⟩,_,rfl,_,rfl,fo,_,rfl,.inl (SqL.of ed1),nm,_,_,_,rfl,rfl,SqL.of hn1,gn,(by show 1<=sizeLine;decide),fun T1 hT1=>?_⟩;have Y1:=Ext.new hT1 (.tup [V.str names[net.length]]);refine⟨_,rfl,as[j],rfl,⟨_,SqT.of (Y1 _ _ hb1)⟩,?_⟩;refine qKu (xs:=enV e) (fun i ys H9=>upd H8 T1 (.tup [V.str names[net.length]])=H9/\∃l:List Str,ys=l.map V.str/\l.length=i) ⟨rfl,[],rfl,rfl⟩ (fun i ys H9 _ h=>by rw[<-h.1];exact SqT.of (Y1 _ _ hb1)) ?_ ?_
   ·rintro i x ys H9 hx ⟨rfl,l,rfl,ll⟩;have hi:i<2:=(hAk.mp hx).1;obtain⟨v,rfl,v0,v1⟩:∃v:Int,x = .int v/\0<=v/\v<m:=by
     match i,hi,hx with
     |0,_,hx=>cases hx;exact⟨_,rfl,hin.1.1,hin.1.2⟩
     |1,_,hx=>cases hx;exact⟨_,rfl,hin.2.1,hin.2.2⟩
    obtain⟨u,rfl⟩:=Int.eq_ofNat_of_zero_le v0;obtain⟨s1,s2⟩:=qPx u (by omega);have s3:(1:Nat)+4<=sizeLine:=by decide
    refine⟨Sle.set _ (Sle.refl _) (fun u z=>by cases z),iteT (B:=False) ⟨_,rfl,_,rfl,s2,_,_,rfl,rfl,hAq (Nat.add_le_add_left s1 _) s3,⟨by rw[hA1];exact qAi (by omega),nxt hi ⟨rfl,l++[_],by rw[hA3];rfl,by rw[hAa,ll];rfl⟩⟩⟩⟩
   rintro ys H9 ⟨rfl,l,rfl,ll⟩ L2 hL2;have Y2:=Y1.trans (Ext.new hL2 (.lst (l.map V.str)));have ll2:l.length=2:=ll;refine⟨L2,l,rfl,SqL.of upd_same,by omega,fun S ss hS' perm srt=>?_⟩;have Y4:=Y2.trans (Ext.new hS' (.lst (ss.map V.str)));refine⟨S,_,rfl,.inl ⟨SqL.of upd_same,fun T2 hT2=>?_⟩⟩;have lss:ss.length=2:=by rw[perm.length_eq];exact ll2
   obtain⟨x,y,rfl⟩:∃x y,ss=[x,y]:=by
    match ss,lss with
    |[x,y],_=>exact⟨x,y,rfl⟩
   have Y5:=Y4.trans (Ext.new hT2 (.tup ([x,y].map V.str)));have t1:upd H8 T1 (.tup [V.str names[net.length]]) T1=some (.tup [V.str names[net.length]]):=upd_same;have t15:=Ext.new hT2 (.tup ([x,y].map V.str)) _ _ (Ext.new hS' (.lst ([x,y].map V.str)) _ _ (Ext.new hL2 (.lst (l.map V.str)) _ _ t1));refine⟨T1,T2,_,_,rfl,rfl,SqT.of t15,SqT.of upd_same,(by simp),(by show 3<=sizeLine;decide),(fun z=>by cases z),fun _ T3 hT3=>?_⟩;have Y6:=Y5.trans (Ext.new hT3 (.tup (trV (names[net.length],x,y))));refine⟨fo,_,_,rfl,rfl,Y6 _ _ ed1,?_,?_⟩
   ·rw[hA1];exact qAi (by omega)
   ·refine⟨k - 1,by omega,_,od,fo,nm,fs,net++[(names[net.length],x,y)],⟨_,_,_,_,_,_,_,rfl⟩,(E1.trans Y6).over fo0 _,od0,fo0,ne,no,nf,by unfold LsS;rw[qAl nf];exact Y6 _ _ hn1,(P1.ext Y6).oth (Y6 _ _ ed1) ne,qD7.snoc ed1 ed2 Y6 upd_same,by omega,by rw[hAa];show _+1+_=_;omega,?_,in1⟩;rw[hA3,fst,hAa];show _=names.take (net.length+1);rw[qAm (hA2 lnn)];rfl
  ·have e0:es=[]:=by
    cases es with
    |nil=>rfl
    |cons x r=>exact absurd rfl c
   subst e0;have k0:k=0:=lk.symm;subst k0;have fn:net.map (·.1)=names:=by rw[fst];exact hA5 (by omega)
   exact⟨_,rfl,q fo net _ E0 fo0 nt0 (by omega) (by rw[fn];exact txn) (by rw[fn];exact rn)⟩
end
def qP6(K:PySem.W.Frag)(Pb:Addr):Sp:=fun vs H Q _=>∃(a:Addr) (ns:List Int),vs=[.ref a,.int 1]/\SqL K H a (ns.map V.int)/\TabW H Pb lpB qB/\∀(T na ba:Addr) (names:List Str) (N:List Nat) (H':Hp),ExtB Pb H H'->H' T=some (.tup [.ref na,.ref ba])->LsS H' na names->LsN H' ba N->qDu names->Tx names->names.length<=12->N.length<=12->(∀x∈N,x<2^names.length)->TabW H' Pb lpB qB->Q (.ref T) H'
section
variable{P:Program}{w:World}{K:PySem.W.Frag}{mg:Str->Option Value}{base:Heap}{f f1 f2 f3 f4 f5 f6 f7 Pb:Addr}{fd fd1 fd2 fd3 fd4 fd5 fd6 fd7:FuncData}
abbrev trN:List Str:=["_law_script","_law_at","_law_net_here","_law_heaps","_law_table"]
theorem qTt:FnScope trN ["_law_script","_law_at"] (qAe qJk):=⟨rfl,rfl,rfl,by decide +kernel,rfl,by decide +kernel,by decide +kernel⟩
theorem qUn(F:Fun K "_law_tree" "_law_tree" qJk f fd)
  (G1:Cl P w K mg base CX0 2 f1 fd1 ["_law_script","_law_k"] (qK0 K) "_law_big")
  (G2:Cl P w K mg base CX0 3 f2 fd2 ["_law_script","_law_at"] (qVx K) "_law_glued")
  (G3:Cl P w K mg base CX0 3 f3 fd3 ["_law_base","_law_many"] (qP8 Pb) "_law_blocks")
  (G4:Cl P w K mg base CX0 1 f4 fd4 ["_law_numbers"] qHl "_law_reduced")
  (G5:Cl P w K mg base CX0 1 f5 fd5 ["_law_net_here"] qKz "_law_even")
  (G6:Cl P w K mg base CX0 5 f6 fd6 ["_law_script","_law_at"] (qV0 K Pb) "_law_block")
  (G7:Cl P w K mg base CX0 1 f7 fd7 ["_law_names_here","_law_row_here"] qVv "_law_mask")
  (ml:mg "len" = none):FnOk P w K mg base CX0 6 f fd ["_law_script","_law_at"] (qP6 K Pb):=by
 refine F.ok qTt (fun vs H Q E h=>?_) (fun cdv A outer s H vs Q E hr h=>?_)
 ·obtain⟨a,ns,rfl,_⟩:=h;rfl
 obtain⟨a,ns,rfl,hS,tw,q⟩:=h;have hr1:=hr.mono (j:=1) (by decide);have hr2:=hr.mono (j:=2) (by decide);have hr3:=hr.mono (j:=3) (by decide);refine⟨_,(qAc (qQ4 (qBi (qAp qB1 (qAh qA7 (qAh qA3 (qAx G1 hr2 rfl .nil qAv (qAa (pv 0) (qAa (qAh qA6 (pv 1) qAd) qAb))) qAd) qAd) qAd (qAu _)) (qAc (qAj (i:=2) qTt.nd rfl (Or.inl rfl) (qAx G2 hr3 rfl .nil qAv (qAa (pv 0) (qAa (pv 1) qAb)))) (qAc (qAj (i:=3) qTt.nd rfl (Or.inl rfl) (qAx G3 hr3 rfl .nil qAv (qAa (qAx G4 hr1 rfl .nil qAv (qAa (qAx G5 hr1 rfl .nil qAv (qAa (pv 2) qAb)) qAb)) (qAa (qAk qAn rfl ml hAv (qAa (pv 2) qAb)) qAb)))) (qAf (qBi (qAp qB1 (qAk qAn rfl ml hAv (qAa (pv 3) qAb)) qAd (qAu _)) (qAf (qAt (qA5 (qAa (qBf (N:=trN) (sc:=qAe qJk) (N':=["_law_tie"]) (sub:=[none]) rfl rfl (CmpOk.of (by decide +kernel)) rfl (qAq (pv 2)) (fun C s H fp=>⟨qAg (i:=0) (by show(["_law_tie"]:List Str).Nodup;decide) rfl (Or.inl rfl),qAz,(qBg (show IxR _ (qO0 K) from qBs) (pv 0) qAd (fun _ _=>rfl))⟩)) (qAa (qAx G4 hr1 rfl .nil qAv (qAa (qAx G5 hr1 rfl .nil qAv (qAa (pv 2) qAb)) qAb)) qAb))))) qA1)))) qA1)) (qAc (qAj (i:=4) qTt.nd rfl (Or.inr rfl) (qAx G6 hr rfl .nil qAv (qAa (pv 0) (qAa (pv 1) qAb)))) (qAf (qAt (qA5 (qAa (qBg qBs (pv 4) qAd (fun _ _=>rfl)) (qAa (qAx G4 hr1 rfl .nil qAv (qAa (qBf (N:=trN) (sc:=qAe qJk) (N':=["_law_row_here","_law_table"]) (sub:=[none,some 4]) rfl rfl (CmpOk.of (by decide +kernel)) rfl (qAq (qBg qBs (pv 4) qAd (fun _ _=>rfl))) (fun C s H fp=>⟨qAg (i:=0) (by show(["_law_row_here","_law_table"]:List Str).Nodup;decide) rfl (Or.inl rfl),qAz,(qAx G7 hr1 rfl .nil qAv (qAa (qBg (show IxR _ (qO0 K) from qBs) (pv 1) qAd (fun _ _=>rfl)) (qAa (pv 0) qAb)))⟩)) qAb)) qAb))))))),?_⟩;refine⟨fun σ' H'=>∃x2 x3:Option V,σ'=[some (.ref a),some (.int 1),x2,x3,none]/\ExtB Pb H H'/\SqL K H' a (ns.map V.int)/\TabW H' Pb lpB qB,?_,?_⟩
 ·refine⟨_,rfl,_,rfl,_,_,rfl,rfl,a,ns,_,rfl,hS,by decide,by decide,fun B=>?_⟩;refine⟨_,_,rfl,rfl,⟨by decide,by decide⟩,_,_,rfl,rfl,(by show(0:Int)<_;decide),rfl,_,rfl,?_⟩;refine ite2 (fun c=>?_) (fun c=>⟨none,none,rfl,fun _ _ _ h=>h,hS,tw⟩);refine⟨_,rfl,_,rfl,a,ns,rfl,hS,fun np net H1 e1 np0 nt ln tx rs=>?_⟩;refine⟨_,rfl,np,net,rfl,nt,ln,fun ev F0 Kp ps' H2 e2 ev0 hev pok ei kw=>?_⟩;have lF:F0.length<=12:=by have:=ei.len;omega
  refine⟨ev,F0,net.length,rfl,hev,by omega,fun x hx=>(ei.f1 x hx).1,fun rd H3 e3 rd0 hrd=>?_⟩;have E23:=e2.trans e3;obtain⟨as,hn,pr⟩:=id (nt.ext E23);have la:as.length=net.length:=pr.length;have E3:=e1.trans E23;have tw3:=My.TabW.extE tw E3;refine⟨_,rfl,np,_,rfl,.inl (SqL.of hn),rd,redL F0,_,rfl,hrd,hAq (qD3 _) lF,by rw[hA1];omega,tw3,fun hp hs H4 eB hp0 hhp pm tw4=>?_⟩;obtain⟨ps3,hP3⟩:=My.TabW.tb tw3;have EB4:ExtB Pb H H4:=fun c o n h=>eB c o n (E3 c o h)
  have hS4:SqL K H4 a (ns.map V.int):=zBv hP3 eB (Ext.sqL E3 hS);have ne4:∀ {a:Addr} {o:HO},H3 a=some o->(∀ps,o≠.tbl ps)->H4 a=some o:=fun {a o} h n=>eB _ _ (fun z=>by
   rw[z,hP3]at h;exact n _ (hAm h).symm) h
  refine⟨_,rfl,hp,_,rfl,.inl (SqL.of hhp),rfl,_,rfl,?_⟩;refine ite2 (fun c2=>?_) (fun c2=>⟨_,_,rfl,EB4,hS4,tw4⟩);have hn4:=ne4 hn (fun _ z=>by cases z);have pr4:Paired (fun a t=>H4 a=some (.tup (trV t))) as net:=Paired.mapP pr fun a t z=>ne4 z (fun _ z=>by cases z)
  refine⟨_,rfl,np,rfl,⟨_,SqL.of hn4⟩,?_⟩;refine qF3 (fun t=>t.1) hn4 pr4 ln (fun a t ha C B c=>⟨Sle.set _ (Sle.refl _) (fun u z=>by cases z),?_⟩) ?_
  ·exact iteT (B:=B H4) ⟨_,rfl,a,_,_,_,rfl,rfl,SqT.of ha,(by exact qA0 (j:=0) rfl),c⟩
  intro na hna;have n5:=Ext.new hna (.lst ((net.map fun t=>t.1).map V.str));refine⟨_,rfl,np,net,rfl,⟨as,n5 _ _ hn4,Paired.mapP pr4 fun a t z=>n5 _ _ z⟩,ln,fun ev2 F2 Kp2 ps2 H6 e6 ev20 hev2 pok2 ei2 kw2=>?_⟩;have lF2:F2.length<=12:=by have:=ei2.len;omega
  refine⟨ev2,F2,net.length,rfl,hev2,by omega,fun x hx=>(ei2.f1 x hx).1,fun rd2 H7 e7 rd20 hrd2=>?_⟩;refine⟨(by show 2<=sizeLine;decide),fun T hT=>?_⟩;have n8:=Ext.new hT (.tup [V.ref na,V.ref rd2]);have X:=n5.trans (e6.trans (e7.trans n8));refine q T na rd2 (net.map (·.1)) (redL F2) _ (EB4.trans X.toB) upd_same ((e6.trans (e7.trans n8)) _ _ upd_same) (n8 _ _ hrd2) rs tx (by rw[hA1];exact ln) (hAq (qD3 _) lF2) (fun x hx=>?_) (My.TabW.extE tw4 X);rw[hA1];exact Spn.lt (fun x hx=>(ei2.f1 x hx).1) (qLi x hx)
 ·rintro σ' H1 ⟨x2,x3,rfl,EB1,hS1,tw1⟩;refine⟨_,rfl,_,rfl,a,ns,rfl,hS1,tw1,fun T0 names rows H2 eB ti bl tx tw2=>?_⟩;obtain⟨ta,tb,hT,hn,hb⟩:=id ti;have tok:=bl.tok;have nd:names.Nodup:=qDy tok.rn;obtain⟨bs,hb1,hb2⟩:=id hb;have lb:bs.length=rows.length:=hb2.length;have l16:=tok.lr;refine⟨_,rfl,T0,_,_,_,rfl,rfl,SqT.of hT,(by exact qA0 (j:=0) rfl),?_⟩;refine⟨_,rfl,T0,_,_,_,rfl,rfl,SqT.of hT,(by exact qA0 (j:=1) rfl),tb,rfl,⟨_,SqL.of hb1⟩,?_⟩;refine qAr (xs:=bs.map V.ref) (fun i ys H3=>Ext H2 H3/\ys=((rows.take i).map (qFv names)).map iV) ⟨Ext.refl _,rfl⟩ (fun i ys H3 _ h=>SqL.of (h.1 _ _ hb1)) ?_ ?_
  ·rintro i x ys H3 hx ⟨e3,rfl⟩;obtain⟨b,rfl,hb'⟩:=qBk hx;obtain⟨r,hr',hbr⟩:=qAw hb2 hb';have hi:=qAy hr';obtain⟨z,rfl⟩:=tok.rw r (hAc hr');have sub:∀n∈rowL names z,n∈names:=fun n hn=>by obtain⟨i,_,h,_⟩:=qBh.mp hn;exact hAc h
   have lr12:(rowL names z).length<=12:=by
    unfold rowL;have:=hBp (fun i=>if z.testBit i=true then names[i]? else none) (List.range names.length);rw[hB0]at this;have:=tok.ln;omega
   refine⟨Sle.set _ (Sle.refl _) (fun u z=>by cases z),iteT (B:=False) ⟨_,rfl,T0,_,_,_,rfl,rfl,SqT.of (e3 _ _ hT),(by exact qA0 (j:=0) rfl),_,rfl,ta,b,names,rowL names z,rfl,e3 _ _ hn,e3 _ _ hbr,sub,tok.ln,lr12,fun H4 e4=>⟨by rw[hA1,hA1,hAh];exact qAi (by omega),nxt (qAy hx) ⟨e3.trans e4,?_⟩⟩⟩⟩;rw[qAm hr',hA3,hA3];rfl
  ·rintro ys H3 ⟨e3,rfl⟩ ml' hml;rw[hA1,lb,hA5 (hA7 _)];have n4:=Ext.new hml (.lst ((rows.map (qFv names)).map iV));have lt:=tok.masks.1;refine⟨ml',rows.map (qFv names),names.length,rfl,upd_same,by rw[hA1];omega,lt,fun rd H5 e5 rd0 hrd=>?_⟩;refine⟨(by show 2<=sizeLine;decide),fun T hT'=>?_⟩;have n8:=Ext.new hT' (.tup [V.ref ta,V.ref rd]);have X:=e3.trans (n4.trans (e5.trans n8));have l8:=bl.l8;refine q T ta rd names _ _ ((EB1.trans eB).trans X.toB) upd_same (X _ _ hn) (n8 _ _ hrd) tok.rn tx tok.ln (hAq (qD3 _) (by rw[hA1];omega)) (fun x hx=>Spn.lt lt (qLi x hx)) (My.TabW.extE tw2 X)
end
end My
namespace L2
open PySem PySem.Spec PyProof.Rows
theorem qI6:typeLookup (.type "zip") "__getattr__" = pure none:=by rw[typeLookup_type,builtinLookup_eq_fast];kernel_rfl
theorem qOn:entryFor table "zip.__getattribute__" = some Builtin.«object.__getattribute__» :=
 entryFor_alias (id':="object.__getattribute__") (by kernel_rfl) (by decide +kernel) (by decide +kernel) (by kernel_rfl)
theorem qPi:typeLookup (.type "zip") "keys" = pure none:=by rw[typeLookup_type,builtinLookup_eq_fast];kernel_rfl
theorem qHc(a:Addr)(fs:Array Value)(sl:Array (Option Value))(u:Tok) :
  Meets (Builtin.«object.__getattribute__» ⟨[.ref a,.str "keys" u],[]⟩) (fun A R s=>s.heap.get? a=some { cls:=.type "zip",dict:=none,data:=.fields fs,slots:=sl }/\raisesAttr (.ref a) "keys" A R s) :=
 Meets.of_wp fun prog w A R s hs=>by
  obtain⟨hp,g,d,tk,os⟩:=s;obtain⟨hx,hs⟩:=hs;have hT:(⟨hp,g,d,tk,os⟩:Shared).TypeIs (.ref a) "zip":=⟨_,hx,rfl⟩;have hmiss:=qPi;unfold Builtin.«object.__getattribute__»
  repeat (any_goals (first|assumption|wp_step))
  try simp only[show(["__module__","__name__","__qualname__","__doc__","__annotations__"]:List Str).contains "keys" = false by decide +kernel,hBn,if_false]
  repeat (any_goals (first|assumption|wp_step))
  exact wpAny_raiseAttrError hs.1 hs.2 (attrMsg_fits (by decide +kernel) (by size_fits))
theorem qFx{prog:Program}{w:World}{A:Around}{E:Value->Shared->Prop}{s:Shared}{a:Addr}{fs:Array Value}{sl:Array (Option Value)}{Q:Option Value->Shared->Prop}
  (hx:s.heap.get? a=some { cls:=.type "zip",dict:=none,data:=.fields fs,slots:=sl }) (hA:A.handled=none)
  (h:∀h' tk,(∀b o,s.heap.get? b=some o->h'.get? b=some o)->Q none { s with heap:=h',toks:=tk }):wpAny (model prog w) A (getAttr? (.ref a) "keys") Q E s:=by
 obtain⟨hp,g,d,tk,os⟩:=s;have hT:∀tk',(⟨hp,g,d,tk',os⟩:Shared).TypeIs (.ref a) "zip":=fun _=>⟨_,hx,rfl⟩
 have f1:=sub_AttributeError;have f3:=F.slot_zip_getattribute.lookup;have f4:=F.slot_zip_getattribute.bind (.ref a);have f5:=qI6;unfold getAttr? getAttrBy? getAttrBy
 repeat (any_goals (first|assumption|exact hT _|((with_reducible show wpAny _ _ (call (Value.builtin "zip.__getattribute__") _ _) _ _ _);refine call_meets F.slot_zip_getattribute (hT _) qOn (F.args_zip_getattribute_2 _ _) (qHc a fs sl _) ⟨hx,hA,fun h' tk' e hx'=>?_⟩)|wp_step))
 obtain⟨t',u',he⟩:=hx'.there;show wpAny _ _ (getattributeRaised _ _ _ _ _ _ _) _ _ _;unfold getattributeRaised
 repeat (any_goals (first|assumption|wp_step))
 exact h _ _ hx'.keeps
abbrev ZB(h:Heap)(z TI TO:Addr)(f0 f1:Value):Prop:=h.get? z=some { cls:=.type "zip",dict:=none,data:=.fields #[f0,f1,.bool false,.ref TI,.ref TO],slots:=#[] }
section
variable{prog:Program}{w:World}{A:Around}{E:Value->Shared->Prop}{s:Shared}
theorem qE1{a:Addr}{Q:Option Obj->Shared->Prop}(h:Q (s.heap.get? a) s):wpAny (model prog w) A (loadIfAlive a) Q E s:=fun Γ p hΓ=>by
 unfold loadIfAlive;rw[Sem.wp_loadIfAlive];exact wpAny_pure h Γ p hΓ
theorem qMc{z TI TO T:Addr}{f1 a b:Value}{Q:Bool->Shared->Prop}(hf:f1 = .bool true\/f1 = .bool false)(hz:ZB s.heap z TI TO (rawInt (T:Nat)) f1)(hT:IsPair s.heap T a b)
  (hQ:∀h',ZB h' z TI TO (rawInt (T:Nat)) (.bool true)->(∀c o,c≠z->s.heap.get? c=some o->h'.get? c=some o)->h'.objs.size=s.heap.objs.size->Q false { s with heap:=h' }) :
  wpAny (model prog w) A (Builtin.SmallTypes.ownedTupleIsFree (.ref z)) Q E s:=by
 unfold Builtin.SmallTypes.ownedTupleIsFree;refine wpAny_bind (wpAny_field hz rfl (x:=rawInt (T:Nat)) rfl ?_);show wpAny _ _ (loadIfAlive ((T:Nat):Int).toNat >>= _) _ _ _;refine wpAny_bind (qE1 ?_);rw[hAz,hT];simp only[Option.isNone_some,hBn,if_false];refine wpAny_bind (wpAny_field hz rfl (x:=f1) rfl ?_);rcases hf with rfl|rfl
 ·rw[if_neg (by decide)];exact wpAny_pure (hQ _ hz (fun _ _ _ e=>e) rfl)
 ·rw[if_pos (by decide)];exact wpAny_bind (wpAny_setField_rec hz (by simp) fun h₁ hz₁ hs₁=>wpAny_pure (hQ h₁ hz₁ (fun c o n e=>hs₁.extBut _ _ n e) hs₁.1))
theorem qHb{z TI TO i1 i2 l1 l2 T:Addr}{k1 k2:Nat}{xs ys:Array Value}{x y f1 a b:Value}{Q:Value->Shared->Prop}(D:ZipApart z TI TO i1 i2 l1 l2)
  (hf:f1 = .bool true\/f1 = .bool false) (hz:ZB s.heap z TI TO (rawInt (T:Nat)) f1) (hT:IsPair s.heap T a b) (hTI:IsPair s.heap TI (.ref i1) (.ref i2))
  (h1:s.heap.IsListIter i1 l1 k1) (h2:s.heap.IsListIter i2 l2 k2) (hl1:s.heap.IsList l1 xs) (hl2:s.heap.IsList l2 ys) (hx:xs[k1]?=some x) (hy:ys[k2]?=some y)
  (hQ:∀h',ZB h' z TI TO (rawInt (T:Nat)) (.bool true)->h'.IsListIter i1 l1 (k1+1)->h'.IsListIter i2 l2 (k2+1)->IsPair h' s.heap.objs.size x y ->
   (∀c o,c≠z->c≠i1->c≠i2->s.heap.get? c=some o->h'.get? c=some o)->Q (.ref s.heap.objs.size) { s with heap:=h' }) :
  wpAny (model prog w) A (Builtin.«zip.__next__» ⟨[.ref z],[]⟩) (fun fin s'=>∃v,fin = .done (.ret v)/\Q v s') E s:=by
 show wpAny _ _ (field (.ref z) 2 >>= _) _ _ _;refine wpAny_bind (wpAny_field hz rfl (x:=.bool false) rfl ?_);show wpAny _ _ (field (.ref z) 3 >>= _) _ _ _;refine wpAny_bind (wpAny_field hz rfl (x:=.ref TI) rfl ?_);refine wpAny_bind (wpAny_seqItems hTI rfl ?_);show wpAny _ _ (Builtin.SmallTypes.ownedTupleIsFree (.ref z) >>= _) _ _ _;refine wpAny_bind (qMc hf hz hT fun h₁ hz₁ hk₁ sz₁=>?_);simp only[hBn,if_false];refine wpAny_bind ?_;simp only[List.forIn_toArray,List.forIn_cons,List.forIn_nil];refine wpAny_bind (wpAny_bind (wpAny_holding ?_));show wpAny _ _ (Builtin.SmallTypes.nextOf (.ref i1) >>= _) _ _ _;refine wpAny_bind (wpAny_nextOf_list_item (h1.at fun o e=>hk₁ _ o D.i1z e) (hl1.at fun o e=>hk₁ _ o D.l1z e) hx fun h₂ h1₂ hs₂=>wpAny_pure ?_);refine wpAny_pure ?_;refine wpAny_bind (wpAny_bind (wpAny_holding ?_));show wpAny _ _ (Builtin.SmallTypes.nextOf (.ref i2) >>= _) _ _ _;refine wpAny_bind (wpAny_nextOf_list_item ((h2.at fun o e=>hk₁ _ o D.i2z e).extBut hs₂.extBut D.i12.symm) ((hl2.at fun o e=>hk₁ _ o D.l2z e).extBut hs₂.extBut D.l2i1) hy fun h₃ h2₃ hs₃=>wpAny_pure ?_);refine wpAny_pure (wpAny_pure ?_);refine wpAny_bind (wpAny_newTuple (hsz:=by show 2<=sizeLine;decide) ?_);have sz:h₃.objs.size=s.heap.objs.size:=by rw[hs₃.1,hs₂.1,sz₁]
 have keep:∀c o,c≠z->c≠i1->c≠i2->s.heap.get? c=some o->h₃.get? c=some o:=fun c o c1 c2 c3 e=>hs₃.extBut _ _ c3 (hs₂.extBut _ _ c2 (hk₁ c o c1 e))
 have hz₃:ZB h₃ z TI TO (rawInt (T:Nat)) (.bool true):=hs₃.extBut _ _ D.i2z.symm (hs₂.extBut _ _ D.i1z.symm hz₁);refine wpAny_pure ⟨_,rfl,?_⟩;show Q (.ref h₃.objs.size) _;rw[sz];refine hQ _ (Heap.get?_push_of_some _ hz₃) ((h1₂.extBut hs₃.extBut D.i12).at fun o e=>Heap.get?_push_of_some _ e) (h2₃.at fun o e=>Heap.get?_push_of_some _ e) (by rw[<-sz];exact Heap.get?_push_size _ rfl) fun c o c1 c2 c3 e=>Heap.get?_push_of_some _ (keep c o c1 c2 c3 e)
theorem qH0{z TI TO i1 i2 l1 l2 T:Addr}{k1:Nat}{xs:Array Value}{f1 a b:Value}{Q:Fin->Shared->Prop}(hh:A.handled=none)(D:ZipApart z TI TO i1 i2 l1 l2)
  (hf:f1 = .bool true\/f1 = .bool false) (hz:ZB s.heap z TI TO (rawInt (T:Nat)) f1) (hT:IsPair s.heap T a b) (hTI:IsPair s.heap TI (.ref i1) (.ref i2))
  (h1:s.heap.IsListIter i1 l1 k1) (hl1:s.heap.IsList l1 xs) (hend:xs[k1]?=none)
  (hE:∀h' e,(∀c o,c≠z->c≠i1->s.heap.get? c=some o->h'.get? c=some o)->(∃o,h'.get? e=some o/\o.cls = .type "StopIteration")->E (.ref e) { s with heap:=h' }) :
  wpAny (model prog w) A (Builtin.«zip.__next__» ⟨[.ref z],[]⟩) Q E s:=by
 show wpAny _ _ (field (.ref z) 2 >>= _) _ _ _;refine wpAny_bind (wpAny_field hz rfl (x:=.bool false) rfl ?_);show wpAny _ _ (field (.ref z) 3 >>= _) _ _ _;refine wpAny_bind (wpAny_field hz rfl (x:=.ref TI) rfl ?_);refine wpAny_bind (wpAny_seqItems hTI rfl ?_);show wpAny _ _ (Builtin.SmallTypes.ownedTupleIsFree (.ref z) >>= _) _ _ _;refine wpAny_bind (qMc hf hz hT fun h₁ hz₁ hk₁ sz₁=>?_);simp only[hBn,if_false];refine wpAny_bind ?_;simp only[List.forIn_toArray,List.forIn_cons,List.forIn_nil];refine wpAny_bind (wpAny_bind (wpAny_holding ?_));show wpAny _ _ (Builtin.SmallTypes.nextOf (.ref i1) >>= _) _ _ _;refine wpAny_bind (wpAny_nextOf_list_end hh (h1.at fun o e=>hk₁ _ o D.i1z e) (hl1.at fun o e=>hk₁ _ o D.l1z e) hend fun h₂ e hs₂ he=>?_);exact hE h₂ e (fun c o c1 c2 x=>hs₂ _ _ c2 (hk₁ c o c1 x)) he
end
structure ZS(h:Heap)(z TI TO i1 i2 l1 l2:Addr)(k:Nat)(xs ys:Array Value):Prop where
 zz:(IsZip h z TI TO .none/\∃a b,IsPair h TO a b)\/∃(T:Nat) (f1 a b:Value),(f1 = .bool true\/f1 = .bool false)/\ZB h z TI TO (rawInt (T:Nat)) f1/\IsPair h T a b
 ti:IsPair h TI (.ref i1) (.ref i2)
 h1:h.IsListIter i1 l1 k
 h2:h.IsListIter i2 l2 k
 l1:h.IsList l1 xs
 l2:h.IsList l2 ys
theorem ZS.frame{h h':Heap}{z TI TO i1 i2 l1 l2:Addr}{k:Nat}{xs ys:Array Value}(S:ZS h z TI TO i1 i2 l1 l2 k xs ys){d:Addr}{o:Obj}(hd:h.get? d=some o)(ho:o.ExactDict/\∃es ep,o.data = .dict es ep)(hk:∀c u,c≠d->h.get? c=some u->h'.get? c=some u):ZS h' z TI TO i1 i2 l1 l2 k xs ys:=by
 obtain⟨_,es,ep,hdat⟩:=ho;have ne:∀ {c:Addr} {u:Obj},h.get? c=some u->(∀es ep,u.data≠.dict es ep)->h'.get? c=some u:=fun {c u} e n=>hk c u (fun z=>by
  rw[z,hd]at e;exact n es ep (by rw[<-hAm e];exact hdat)) e
 obtain⟨zz,ti,h1,h2,l1,l2⟩:=S;have it:∀ {i l:Addr} {k:Nat},h.IsListIter i l k->h'.IsListIter i l k:=fun {i l k} x=>x.at fun u e=>ne e (by
  obtain⟨u',e',c',d'⟩:=x;rw[e]at e';rw[hAm e',d'];intro _ _ z;cases z)
 have li:∀ {l:Addr} {xs:Array Value},h.IsList l xs->h'.IsList l xs:=fun {l xs} x=>x.at fun u e=>ne e (by
  obtain⟨u',e',c',n,d'⟩:=x;rw[e]at e';rw[hAm e',d'];intro _ _ z;cases z)
 refine⟨?_,ne ti (fun _ _ z=>by cases z),it h1,it h2,li l1,li l2⟩;rcases zz with ⟨a1,a,b,a2⟩|⟨T,f1,a,b,a0,a1,a2⟩
 ·exact .inl ⟨ne a1 (fun _ _ z=>by cases z),a,b,ne a2 (fun _ _ z=>by cases z)⟩
 ·exact .inr ⟨T,f1,a,b,a0,ne a1 (fun _ _ z=>by cases z),ne a2 (fun _ _ z=>by cases z)⟩
section
variable{prog:Program}{w:World}{A:Around}{E:Value->Shared->Prop}{s:Shared}{z TI TO i1 i2 l1 l2:Addr}{k:Nat}{xs ys:Array Value}
theorem ZS.item{x y:Value}{Q:Option Value->Shared->Prop}(D:ZipApart z TI TO i1 i2 l1 l2)(S:ZS s.heap z TI TO i1 i2 l1 l2 k xs ys)(hx:xs[k]?=some x)(hy:ys[k]?=some y)
  (hQ:∀h',ZS h' z TI TO i1 i2 l1 l2 (k+1) xs ys->IsPair h' s.heap.objs.size x y->(∀c o,c≠z->c≠TO->c≠i1->c≠i2->s.heap.get? c=some o->h'.get? c=some o)->Q (some (.ref s.heap.objs.size)) { s with heap:=h' }) :
  wpAny (model prog w) A (pyNext (.ref z)) Q E s:=by
 obtain⟨zz,ti,h1,h2,hl1,hl2⟩:=S;rcases zz with ⟨a1,a,b,a2⟩|⟨T,f1,a,b,a0,a1,a2⟩
 ·exact wpAny_pyNext_zip_item D a1 ti a2 h1 h2 hl1 hl2 hx hy fun h' b1 b2 b3 b4 b5 b6 b7=>hQ h' ⟨.inr ⟨_,_,_,_,.inr rfl,b1,b5⟩,b7 _ _ D.TIz D.TITO D.TIi1 D.TIi2 ti,b3,b4,hl1.at fun o e=>b7 _ o D.l1z D.l1TO D.l1i1 D.l1i2 e,hl2.at fun o e=>b7 _ o D.l2z D.l2TO D.l2i1 D.l2i2 e⟩ b5 b7
 ·have hT:s.TypeIs (.ref z) "zip":=⟨_,a1,rfl⟩;have nz:T≠z:=fun e=>by
   have a2':s.heap.get? z=_:=e▸a2;rw[a1]at a2';simp at a2'
  have n1:T≠i1:=fun e=>by obtain⟨u,e',c',d'⟩:=h1;rw[<-e,a2]at e';rw[<-hAm e']at c';simp at c'
  have n2:T≠i2:=fun e=>by obtain⟨u,e',c',d'⟩:=h2;rw[<-e,a2]at e';rw[<-hAm e']at c';simp at c'
  unfold pyNext;exact wpAny_bind (wpAny_attempt (wpAny_callSpecial?_slot (name:=Str.ofString "__next__") hT F.slot_zip_next
   (wpAny_call_entry F.slot_zip_next hT F.entry_zip_next
    (qHb D a0 a1 a2 ti h1 h2 hl1 hl2 hx hy fun h' b1 b3 b4 b5 b7=>wpAny_pure (hQ h' ⟨.inr ⟨T,_,a,b,.inl rfl,b1,b7 _ _ nz n1 n2 a2⟩,b7 _ _ D.TIz D.TIi1 D.TIi2 ti,b3,b4,hl1.at fun o e=>b7 _ o D.l1z D.l1i1 D.l1i2 e,hl2.at fun o e=>b7 _ o D.l2z D.l2i1 D.l2i2 e⟩ b5 fun c o c1 _ c3 c4 e=>b7 c o c1 c3 c4 e)) (F.args_zip_next_1 _))))
theorem ZS.done{Q:Option Value->Shared->Prop}(hh:A.handled=none)(D:ZipApart z TI TO i1 i2 l1 l2)(S:ZS s.heap z TI TO i1 i2 l1 l2 k xs ys)(hx:xs[k]?=none)
  (hQ:∀h',(∀c o,c≠z->c≠TO->c≠i1->c≠i2->s.heap.get? c=some o->h'.get? c=some o)->Q none { s with heap:=h' }):wpAny (model prog w) A (pyNext (.ref z)) Q E s:=by
 obtain⟨zz,ti,h1,h2,hl1,hl2⟩:=S;rcases zz with ⟨a1,a,b,a2⟩|⟨T,f1,a,b,a0,a1,a2⟩
 ·exact wpAny_pyNext_zip_end hh D a1 ti a2 h1 h2 hl1 hl2 (.inl hx) hQ
 ·have hT:s.TypeIs (.ref z) "zip":=⟨_,a1,rfl⟩;unfold pyNext;refine wpAny_bind (wpAny_attempt (wpAny_callSpecial?_slot (name:=Str.ofString "__next__") hT F.slot_zip_next
   (wpAny_call_entry F.slot_zip_next hT F.entry_zip_next (qH0 hh D a0 a1 a2 ti h1 hl1 hx fun h' e hk he=>?_) (F.args_zip_next_1 _))))
  obtain⟨o,ho,hc⟩:=he;refine wpAny_bind (wpAny_isInstance (T:="StopIteration") (b:=true) ⟨o,ho,hc⟩ isSubtype_stop ?_);exact wpAny_pure (hQ _ fun c o c1 _ c3 _ e=>hk c o c1 c3 e)
theorem qKb:entryFor table "dict.update.loop" = some Builtin.«dict.update.loop»:=entryFor_of_tree (by kernel_rfl)
theorem qEp:plainId "dict.update.loop" = true:=by decide +kernel
theorem qSo{R:Result->Shared->Prop}{d:Addr}{more:List (Key×Value)}(hh:A.in1.handled=none)(D:ZipApart z TI TO i1 i2 l1 l2)(hn:(more.map (·.1)).Nodup)(hsz:more.length<=sizeLine)
  (hxs:xs.size=more.length) (hm:∀(i:Nat) (kv:Key×Value),more[i]?=some kv->∃x,xs[i]?=some x/\(qBq prog w).is kv.1 x=true/\ys[i]?=some kv.2) (hdl:d≠z/\d≠TO/\d≠i1/\d≠i2) :
  ∀(j i:Nat) (s:Shared),more.length - i=j->i<=more.length->ZS s.heap z TI TO i1 i2 l1 l2 i xs ys->s.heap.DictOf (qBq prog w) d (more.take i) ->
  (∀h' tk,h'.DictOf (qBq prog w) d more->(∀c o,c≠d->c≠z->c≠TO->c≠i1->c≠i2->s.heap.get? c=some o->h'.get? c=some o)->R (.ok (.ret .none)) { s with heap:=h',toks:=tk }) ->
  codeAny (model prog w) A (.builtin "dict.update.loop" ⟨[.ref d,.ref z,rawInt i,.none],[]⟩) R s:=by
 intro j
 induction j with
 |zero =>
  intro i s hj hi S dd hR;have e:i=more.length:=by omega
  subst e;refine codeAny_builtin qKb ?_;rw[Around.under_plainId qEp _];show wpAny _ A.in1 (pyNext (.ref z) >>= _) _ _ s;refine wpAny_bind (S.done hh D (by rw[<-hxs];exact Array.getElem?_eq_none (hA7 _)) fun h' hk=>?_);rw[hA5 (hA7 _)]at dd;obtain⟨o,es,ep,ho,r⟩:=dd;refine wpAny_bind (m:=Builtin.Dict.addKeywords d []) (wpAny_pure (wpAny_pure (hR h' s.toks ⟨o,es,ep,hk _ _ hdl.1 hdl.2.1 hdl.2.2.1 hdl.2.2.2 ho,r⟩ fun c o _ c1 c2 c3 c4 e=>hk c o c1 c2 c3 c4 e)))
 |succ j ih =>
  intro i s hj hi S dd hR;have hlt:i<more.length:=by omega
  obtain⟨kv,hkv⟩:∃kv,more[i]?=some kv:=⟨_,hA2 hlt⟩;obtain⟨x,hx,hkey,hy⟩:=hm i kv hkv;refine codeAny_builtin qKb ?_;rw[Around.under_plainId qEp _];show wpAny _ A.in1 (pyNext (.ref z) >>= _) _ _ s;refine wpAny_bind (S.item D hx hy fun h' S' pT hk=>?_);obtain⟨o,es,ep,ho,r⟩:=dd;have dd':h'.DictOf (qBq prog w) d (more.take i):=⟨o,es,ep,hk _ _ hdl.1 hdl.2.1 hdl.2.2.1 hdl.2.2.2 ho,r⟩;refine wpAny_bind (wpAny_holding ?_);refine wpAny_bind (wpAny_tryCatch ?_);unfold Builtin.Dict.pairItems;refine wpAny_bind (wpAny_typeOf (T:="tuple") ⟨_,pT,rfl⟩ ?_);rw[if_pos (by decide)];refine wpAny_bind (wpAny_seqItems pT rfl (wpAny_pure ?_));show wpAny _ _ (holding [x,kv.2] (dictSet d x kv.2)) _ _ _;refine wpAny_holding (wpAny_dictSet_pairs (hsz:=by rw[hAh];omega) hkey dd' fun h2 dd2 sb=>?_);have st:stored (more.take i) kv.1 kv.2=more.take (i+1):=by
   have n1:∀j,((more.take j).map (·.1)).Nodup:=fun j=>by rw[List.map_take];exact hn.sublist (List.take_sublist _ _)
   have:=merged_take_succ [] more i kv hkv;rw[merged_nil_of_nodup _ (n1 _),merged_nil_of_nodup _ (n1 _)]at this;exact this.symm
  rw[st]at dd2;refine wpAny_pure ⟨plainId_quiet qEp _,?_⟩;have S2:=S'.frame (d:=d) (hk _ _ hdl.1 hdl.2.1 hdl.2.2.1 hdl.2.2.2 ho) ⟨r.1,es,ep,r.2.1⟩ (h':=h2) fun c u n e=>sb.extBut _ _ n e
  refine ih (i+1) { s with heap:=h2,toks:=s.toks+1 } (by omega) (by omega) S2 dd2 fun h3 tk dd3 hk3=>hR h3 tk dd3 fun c o c0 c1 c2 c3 c4 e=>hk3 c o c0 c1 c2 c3 c4 (sb.extBut _ _ c0 (hk c o c1 c2 c3 c4 e))
end
section
variable{prog:Program}{w:World}{A:Around}{E:Value->Shared->Prop}{s:Shared}{z TI TO i1 i2 l1 l2:Addr}{xs ys:Array Value}
theorem qI4{Q:Value->Shared->Prop}{more:List (Key×Value)}{a b:Value}(hh:A.handled=none)(D:ZipApart z TI TO i1 i2 l1 l2)(hz:IsZip s.heap z TI TO .none)(hTO:IsPair s.heap TO a b)(hTI:IsPair s.heap TI (.ref i1) (.ref i2))
  (h1:s.heap.IsListIter i1 l1 0) (h2:s.heap.IsListIter i2 l2 0) (hl1:s.heap.IsList l1 xs) (hl2:s.heap.IsList l2 ys) (hn:(more.map (·.1)).Nodup) (hsz:more.length<=sizeLine)
  (hxs:xs.size=more.length) (hm:∀(i:Nat) (kv:Key×Value),more[i]?=some kv->∃x,xs[i]?=some x/\(qBq prog w).is kv.1 x=true/\ys[i]?=some kv.2)
  (h:∀h' tk,h'.DictOf (qBq prog w) s.heap.objs.size more->(∀c o,c≠z->c≠TO->c≠i1->c≠i2->s.heap.get? c=some o->h'.get? c=some o)->Q (.ref s.heap.objs.size) { s with heap:=h',toks:=tk }) :
  wpAny (model prog w) A (call (.type "dict") [.ref z]) Q E s:=by
 refine callType_codes (Q₁:=fun obj s₁=>obj = .ref s.heap.objs.size/\s₁={ s with heap:=s.heap.push { cls:=.type "dict",data:=.dict #[] } }) F.kt_called_dict (F.kt_typeCall_dict_1 _) F.entry_dict_init (kt_code_dict_new _ ⟨rfl,rfl⟩) ?_;rintro obj s₁ ⟨rfl,rfl⟩;have hnew:(s.heap.push { cls:=.type "dict",data:=.dict #[] }).DictOf (qBq prog w) s.heap.objs.size []:=Heap.DictOf.new s.heap;have pu:∀c o,s.heap.get? c=some o->(s.heap.push { cls:=.type "dict",data:=.dict #[] }).get? c=some o:=fun c o e=>Heap.get?_push_of_some _ e
 have lt:∀ {c o},s.heap.get? c=some o->s.heap.objs.size≠c:=fun e=>hBx (Heap.lt_size e)
 refine⟨hnew.typeIs,F.args_dict_init_2 _ _,?_⟩;unfold Builtin.«dict.__init__»;refine wpAny_bind ?_;unfold Builtin.Dict.selfAndRest;refine wpAny_bind (wpAny_notOrdered_dict hnew.typeIs ?_);show wpAny _ _ (pure (s.heap.objs.size,[Value.ref z])) _ _ _;refine wpAny_pure ?_;show wpAny _ _ (Builtin.Dict.updateFrom "dict.__init__" s.heap.objs.size (.ref z) [] .none) _ _ _;unfold Builtin.Dict.updateFrom;refine wpAny_bind (wpAny_typeOf (T:="zip") ⟨_,pu _ _ hz,rfl⟩ ?_);rw[if_pos (by decide)];refine wpAny_bind (qFx (pu _ _ hz) hh fun h3 tk hk=>?_);simp only[Option.isNone_none,if_true];refine wpAny_bind (wpAny_rule ?_);have k3:∀c o,s.heap.get? c=some o->h3.get? c=some o:=fun c o e=>hk c o (pu c o e)
 refine wpAny_bind (wpAny_pyIter_zip (k3 _ _ hz) ?_);have dd:h3.DictOf (qBq prog w) s.heap.objs.size []:=by
  obtain⟨o,es,ep,ho,r⟩:=hnew;exact⟨o,es,ep,hk _ _ ho,r⟩
 refine wpAny_pure ⟨plainId_quiet qEp _,show codeAny (model prog w) A.in1 (.builtin "dict.update.loop" ⟨[.ref s.heap.objs.size,.ref z,rawInt ((0:Nat):Int),.none],[]⟩) _ _ from qSo (A:=A.in1) (more:=more) hh D hn hsz hxs hm ⟨lt hz,lt hTO,(by obtain⟨_,e,_⟩:=h1;exact lt e),(by obtain⟨_,e,_⟩:=h2;exact lt e)⟩ more.length 0 { s with heap:=h3,toks:=tk } rfl (hAo _) ⟨.inl ⟨k3 _ _ hz,a,b,k3 _ _ hTO⟩,k3 _ _ hTI,h1.at fun o e=>k3 _ o e,h2.at fun o e=>k3 _ o e,hl1.at fun o e=>k3 _ o e,hl2.at fun o e=>k3 _ o e⟩ dd fun h' tk' dd' hk'=>?_⟩;exact⟨rfl,h h' tk' dd' fun c o c1 c2 c3 c4 e=>hk' c o (Ne.symm (lt e)) c1 c2 c3 c4 (k3 c o e)⟩
end
section
variable{X:Cx}
abbrev dzK(ns os:List Str):List (Key×V):=(ns.zip os).map fun p=>(Sum.inr p.1,V.str p.2)
def qTk(K:PySem.W.Frag)(ta:TA):TE:=fun σ H Q=>ta σ H fun vs H1=>∃(a b:Addr) (ns os:List Str),vs=[.ref a,.ref b]/\SqL K H1 a (ns.map V.str)/\SqL K H1 b (os.map V.str)/\ns.length=os.length/\ns.Nodup/\ns.length<=1000/\∀d,H1 d=none->Q (.ref d) (upd H1 d (.dK (dzK ns os)))
theorem qPb:bootBuiltins "dict" = some (.type "dict"):=by decide +kernel
theorem qO1{a b:Expr}{ta:TA}{p p2 pos pos2:Pos}(hc:X.calm=true)(hg:Gl X "zip")(hm:X.mg "zip" = none)(hgd:Gl X "dict")(hmd:X.mg "dict" = none)(ha:PA X [a,b] ta)
  (hs:starEach [a,b] X.env=[(false,eval a X.env),(false,eval b X.env)]:=by rfl) (hs2:starEach [b] X.env=[(false,eval b X.env)]:=by rfl)
  (hs3:starEach [.Call (.Name "zip" p2) [a,b] [] pos2] X.env=[(false,eval (.Call (.Name "zip" p2) [a,b] [] pos2) X.env)]:=by rfl) :
  PE X (.Call (.Name "dict" p) [.Call (.Name "zip" p2) [a,b] [] pos2] [] pos) (qTk X.K ta):=by
 intro pins s σ H Q I h;refine wpAny_Call_Name_kw (qC9 I hgd hmd qPb ?_ (by decide) (by decide));refine hBw ?_ hs3 rfl;rw[hs3];show wpAny _ _ (spliced ((false,eval (.Call (.Name "zip" p2) [a,b] [] pos2) X.env) :: [])) _ _ s;refine Calls.spliced_cons ?_;refine wpAny_Call_Name_kw (qC9 I hg hm qOj ?_ (by decide) (by decide));refine hBw (thn (ha pos2 pins s σ H _ I h) fun us s1 ⟨vs,H1,I1,r1,q1⟩=>?_) (by rw[hs,hs2]) (by rw[hs2];rfl);obtain⟨l1,l2,ns,os,e,hx,hy,ln,nd,lz,q⟩:=q1;subst e;obtain⟨u1,u2,rfl,r1,r2⟩:=qPl r1;cases r1;cases r2;obtain⟨it1,rv1,pl1,hz1⟩:=I1.list hx;obtain⟨it2,rv2,pl2,hz2⟩:=I1.list hy;have n1:=rv1.length;have n2:=rv2.length;rw[hA1]at n1 n2;have b1:l1<s1.heap.objs.size:=by obtain⟨o,n,e,_⟩:=pl1;exact Heap.lt_size e
 have b2:l2<s1.heap.objs.size:=by obtain⟨o,n,e,_⟩:=pl2;exact Heap.lt_size e
 refine call_zip_2 pl1.isList pl2.isList fun h1 z1 z2 z3 z4 z5 z6 z7=>?_
 refine Calls.spliced_nil ?_;have D:=qI5 s1.heap.objs.size l1 l2 b1 b2;have lm:(ns.zip it2).length=ns.length:=by rw[List.length_zip];omega
 refine qI4 (s:={ s1 with heap:=h1 }) (more:=(ns.zip it2).map fun p=>(Sum.inr p.1,p.2)) (I1.ok.hd hc) D z1 z3 z2 z4 z5 (pl1.isList.at fun o e=>z7 _ o e) (pl2.isList.at fun o e=>z7 _ o e) ?_ ?_ ?_ (fun i kv hi=>?_) fun h' tk dd hk=>?_
 ·rw[hB5,show((fun x:Key×Value=>x.1)∘fun p:Str×Value=>((Sum.inr p.1:Key),p.2))=(Sum.inr:Str->Key)∘Prod.fst from rfl,<-hB5,List.map_fst_zip (by omega)];exact hC4.mpr (hDr (fun {a b} n z=>n (Sum.inr.inj z)) nd)
 ·rw[hA1,lm];exact hAq lz (by decide)
 ·rw[hA1,lm];show it1.length=_;omega
 ·rw[hAe]at hi;have il:i<ns.length:=by
   rw[<-lm];by_cases c:i<(ns.zip it2).length
   ·exact c
   ·rw[hBm (by omega)]at hi;cases hi
  have g2:i<it2.length:=by omega
  rw[hA2 (by rw[lm];exact il),List.getElem_zip]at hi;cases hi;obtain⟨u,hu,ru⟩:=rv1.get (x:=.str ns[i]) (by rw[hAe,hA2 il];rfl);exact⟨u,by simpa using hu,qY7 (k:=Sum.inr ns[i]) ru,by simp[g2]⟩
 ·have le:s1.heap.objs.size<=h1.objs.size:=by rw[z6];exact hCb _ _
  have hf:H1 h1.objs.size=none:=I1.hok.fresh le;refine⟨.ref h1.objs.size,upd H1 h1.objs.size (.dK (dzK ns os)),I1.laid (t':=tk) (fun b u e=>hk b u ?_ ?_ ?_ ?_ (z7 b u e)) le ?_,rfl,q _ hf⟩
  ·exact hAp (hAi (Heap.lt_size e) (hCb _ _))
  ·exact hAp (hAi (Heap.lt_size e) (hCb _ _))
  ·exact hAp (Heap.lt_size e)
  ·exact hAp (hAi (Heap.lt_size e) (hCb _ _))
  ·refine⟨by rw[hA1,List.length_zip];exact hAq (by omega) (show 1000<=sizeLine by decide),?_,_,?_,dd⟩
   ·exact beq_false_of_ne (hBx (hAi I1.big le))
   ·clear dd q h hk;have:∀(ns os:List Str) (it2:List Value),qBa (os.map V.str) it2->KV (dzK ns os) ((ns.zip it2).map fun p=>(Sum.inr p.1,p.2)):=by
     intro ns
     induction ns with
     |nil=>intro os it2 _;exact .nil
     |cons n ns ih =>
      intro os it2 rv;cases os with
      |nil=>cases rv;exact .nil
      |cons o os =>
       cases rv with
       |cons h t=>exact .cons ⟨rfl,h⟩ (ih os _ t)
    exact this ns os it2 rv2
end
end L2
namespace My
open PySem L2
abbrev PaE:=Str×List (List Str)
def PaT(H:Hp)(t:Addr)(e:PaE):Prop:=∃G,H t=some (.tup [.str e.1,.ref G])/\qEz H G e.2
theorem PaT.ext{H H':Hp}{t:Addr}{e:PaE}(h:PaT H t e)(x:Ext H H'):PaT H' t e:=by
 obtain⟨G,h1,h2⟩:=h;exact⟨G,x _ _ h1,h2.ext x⟩
theorem qSd{α:Type}(xs:List (List α))(i:Nat):(xs.take i).flatten.length<=xs.flatten.length:=by
 have:(xs.take i++xs.drop i).flatten.length=xs.flatten.length:=by rw[List.take_append_drop]
 rw[List.flatten_append,hAa]at this;omega
theorem qJ7{α:Type}{xs:List (List α)}{i:Nat}{x:List α}(h:xs[i]?=some x):(xs.take (i+1)).flatten=(xs.take i).flatten++x:=by
 rw[qAm h,List.flatten_append];simp
theorem qJ8{R:List (List Str)}:(R.map fun r=>r.map V.str).flatten=R.flatten.map V.str:=by
 rw[List.map_flatten]
theorem qD5{H:Hp}:∀ {as:List Addr} {R:List (List Str)},Paired (fun a r=>H a=some (.lst (r.map V.str))) as R->Paired (fun a xs=>H a=some (.lst xs)) as (R.map fun r=>r.map V.str)
 |_,_,.nil=>.nil
 |_,_,.cons h t=>.cons h (qD5 t)
theorem qLt{α:Type}{f:α->V}{l:List α}{i:Nat}{v:V}(h:(l.map f)[i]?=some v):∃a,v=f a/\l[i]?=some a:=by
 rw[hAe]at h;cases e:l[i]? with
 |none=>rw[e]at h;cases h
 |some a=>rw[e]at h;exact⟨a,(hAm h).symm,rfl⟩
theorem zCi{k:Nat}{A:Around}(hr:Room k A):A.units+1<cLine:=by have:=hr.un;omega
theorem qF0(i:Nat):(List.replicate (i+1) true).map V.bl=(List.replicate i true).map V.bl++[V.bl true]:=by
 rw[List.replicate_succ',hA3];rfl
theorem qIj(n:Nat):(List.replicate n true).all id=true:=by
 rw[hCw];intro x hx;rw[List.eq_of_mem_replicate hx];rfl
def qKy:Sp:=fun vs H Q _=>∃(p:Addr) (as:List Addr) (xss:List (List V)),vs=[.ref p]/\H p=some (.lst (as.map V.ref))/\Paired (fun a xs=>H a=some (.lst xs)) as xss/\xss.flatten.length<=5000/\∀r H',Ext H H'->H r=none->H' r=some (.lst xss.flatten)->Q (.ref r) H'
structure PaOk(es:List PaE):Prop where
 ln:es.length<=10
 kd:∀e∈es,e.1 = "ring"\/e.1 = "bundle"\/e.1 = "whole"
 l3:∀e∈es,3<=e.2.length
 l12:∀e∈es,e.2.length<=12
 rw:∀e∈es,∀r∈e.2,r≠[]/\r.length<=12/\Tx r
def qV1:Sp:=fun vs H Q _=>∃(L:Addr) (ts:List Addr) (es:List PaE),vs=[.ref L]/\H L=some (.lst (ts.map V.ref))/\Paired (PaT H) ts es/\PaOk es/\∀H',Ext H H'->Q (.bl true) H'
def qVt:Sp:=fun vs H Q _=>∃(p:Addr) (b:Int) (N:List Nat),vs=[.ref p,.int b]/\LsN H p N/\N.length<=12/\∀(r:Addr) (M:List Nat) H',Ext H H'->H r=none->LsN H' r M->M.length<=N.length+6->(∀x∈M,Spn N x)->(∀x∈N,x∈M)->Q (.ref r) H'
def zBw(φ:Str->Str)(e:PaE):PaE:=(e.1,e.2.map fun r=>r.map φ)
def qVs:Sp:=fun vs H Q _=>∃(L d:Addr) (ts:List Addr) (es:List PaE) (kvs:List (Key×V)) (φ:Str->Str),vs=[.ref L,.ref d]/\H L=some (.lst (ts.map V.ref))/\Paired (PaT H) ts es/\PaOk es/\H d=some (.dK kvs)/\(∀e∈es,∀r∈e.2,∀n∈r,qKt kvs (Sum.inr n)=some (.str (φ n))) /\
 ∀(r:Addr) (us:List Addr) H',Ext H H'->H r=none->H' r=some (.lst (us.map V.ref))->Paired (PaT H') us (es.map (zBw φ))->Q (.ref r) H'
section
variable{P:Program}{w:World}{K:PySem.W.Frag}{mg:Str->Option Value}{base:Heap}{f f1 f2 f3:Addr}{fd fd1 fd2 fd3:FuncData}
abbrev flN:List Str:=["_law_rows","_law_found","_law_row_here"]
theorem qMz:FnScope flN ["_law_rows"] (qAe qQl):=⟨rfl,rfl,rfl,by decide +kernel,rfl,by decide +kernel,by decide +kernel⟩
theorem qUo(F:Fun K "_law_flat" "_law_flat" qQl f fd):FnOk P w K mg base CX0 1 f fd ["_law_rows"] qKy:=by
 refine F.ok qMz (fun vs H Q E h=>?_) (fun cdv A outer s H vs Q E hr h=>?_)
 ·obtain⟨p,as,xss,rfl,_⟩:=h;rfl
 obtain⟨p,as,xss,rfl,hp,pr,lz,q⟩:=h;refine⟨_,(qAc (qAj (i:=1) qMz.nd rfl (Or.inl rfl) (qA4 qAb)) (qAc (qBb PassesOwn.never rfl (qAq (pv 0)) (qAg (i:=2) qMz.nd rfl (Or.inl rfl)) (qAf (qAj (i:=1) qMz.nd rfl (Or.inl rfl) (qAh qB5 (pv 1) (pv 2))))) (qAf (qAt (pv 1))))),?_⟩;refine⟨hAo _,fun fo hfo=>?_⟩;have X1:=Ext.new hfo (.lst []);have la:=pr.length;refine⟨_,rfl,p,rfl,⟨_,SqL.of (X1 _ _ hp)⟩,?_⟩;refine qBm (xs:=as.map V.ref) (fun i σ H'=>∃(fo:Addr) (x2:Option V),σ=[some (.ref p),some (.ref fo),x2]/\Ext H H'/\H fo=none/\H' fo=some (.lst (xss.take i).flatten)) ⟨fo,none,rfl,X1,hfo,upd_same⟩ (fun i σ H' _ h=>by obtain⟨_,_,_,e,_⟩:=h;exact SqL.of (e _ _ hp)) ?_ ?_
 ·rintro i v σ H' hx ⟨fo,x2,rfl,e,fo0,hf⟩;obtain⟨a,rfl,ha⟩:=qBk hx;obtain⟨xs,hxs,hax⟩:=qAw pr ha;have l1:=qSd xss (i+1);rw[qJ7 hxs,hAa]at l1;refine⟨_,rfl,_,rfl,fo,a,_,_,rfl,rfl,hf,e _ _ hax,hB1 (qEc (by omega)),fun r hr'=>?_⟩;exact⟨r,_,rfl,e.trans (Ext.new hr' _),e.none hr',by rw[upd_same,qJ7 hxs]⟩
 ·rintro σ H' ⟨fo,x2,rfl,e,fo0,hf⟩;rw[hA1,la,hA5 (hA7 _)]at hf;exact⟨_,rfl,q fo H' e fo0 hf⟩
abbrev arN:List Str:=["_law_found","_law_kind","_law_share"]
theorem qXh:FnScope arN ["_law_found"] (qAe qOy):=⟨rfl,rfl,rfl,by decide +kernel,rfl,by decide +kernel,by decide +kernel⟩
theorem qYs(F:Fun K "_law_are_parts" "_law_are_parts" qOy f fd)(G1:Cl P w K mg base CX0 1 f1 fd1 ["_law_rows"] qKy "_law_flat")
  (mi:mg "isinstance" = none) (mal:mg "all" = none) (mL:mg "list" = none) (mtu:mg "tuple" = none) (mst:mg "str" = none) (ml:mg "len" = none):FnOk P w K mg base CX0 2 f fd ["_law_found"] qV1:=by
 refine F.ok qXh (fun vs H Q E h=>?_) (fun cdv A outer s H vs Q E hr h=>?_)
 ·obtain⟨L,ts,es,rfl,_⟩:=h;rfl
 obtain⟨L,ts,es,rfl,hL,pr,ok,q⟩:=h;have lt:=pr.length;have l10:=ok.ln;refine⟨_,(qAc (qBi (PW.pt (qQ3 (qGl (qDe (qAk qCn rfl mi qCp (qAa (pv 0) (qAa (qGo (v:=.ty "list") rfl mL qBy rfl) qAb))))) (qNe (qGl (qDe (qAk (qEw rfl) rfl mal qEy (qAa (qBf (N:=arN) (sc:=qAe qOy) (N':=["_law_part"]) (sub:=[none]) rfl rfl (CmpOk.of (by decide +kernel)) rfl (qAq (pv 0)) (fun C s H fp=>⟨qAg (i:=0) (by show(["_law_part"]:List Str).Nodup;decide) rfl (Or.inl rfl),qAz,(qNg (qAk (show qB9 _ _ (fun xs H Q=>∃x t c b,xs=[x,V.ty c]/\TyOf K H x t/\PySem.W.kitOne K t (.type c)=some b/\Q (.bl b) H) from qCn) rfl mi qCp (qAa (pv 0) (qAa (qGo (v:=.ty "tuple") rfl mtu qD6 rfl) qAb))) (qQ9 (qC6 qB1 (qAk (show qB9 _ _ (fun xs H Q=>∃p ys,xs=[V.ref p]/\(SqL K H p ys\/SqT K H p ys)/\Q (.int ys.length) H) from qAn) rfl ml hAv (qAa (pv 0) qAb)) qAd (qAu _))))⟩)) qAb))))))) (qAf (qAt qGp)) qA1) (qAc (qBb PassesOwn.never rfl (qAq (pv 0)) (qB0 rfl (qAs (qAg (i:=1) qXh.nd rfl (Or.inl rfl)) (qAs (qAg (i:=2) qXh.nd rfl (Or.inl rfl)) qBe))) (qAc (qBi (PW.pt (qQ3 (qAp qCv (pv 1) (qA4 (qAa qDz (qAa qDz (qAa qDz qAb)))) (by with_unfolding_all rfl)) (qQ3 (qGl (qDe (qAk qCn rfl mi qCp (qAa (pv 2) (qAa (qGo (v:=.ty "list") rfl mL qBy rfl) qAb))))) (qNe (qAp qEk (qAk qAn rfl ml hAv (qAa (pv 2) qAb)) qAd (qAu _)))))) (qAf (qAt qGp)) qA1) (qAc (qBi (qGl (qDe (qAk (qEw rfl) rfl mal qEy (qAa (qBf (N:=arN) (sc:=qAe qOy) (N':=["_law_row_here"]) (sub:=[none]) rfl rfl (CmpOk.of (by decide +kernel)) rfl (qAq (pv 2)) (fun C s H fp=>⟨qAg (i:=0) (by show(["_law_row_here"]:List Str).Nodup;decide) rfl (Or.inl rfl),qAz,(qNg (qAk (show qB9 _ _ (fun xs H Q=>∃x t c b,xs=[x,V.ty c]/\TyOf K H x t/\PySem.W.kitOne K t (.type c)=some b/\Q (.bl b) H) from qCn) rfl mi qCp (qAa (pv 0) (qAa (qGo (v:=.ty "list") rfl mL qBy rfl) qAb))) (qQ9 (qC6 (show OpR _ _ (zC4 K true) from qJu (qJn hr)) (pv 0) (qA4 qAb) (qAu _))))⟩)) qAb)))) (qAf (qAt qGp)) qA1) (qAf (qBi (qGl (qDe (qAk (qEw rfl) rfl mal qEy (qAa (qBf (N:=arN) (sc:=qAe qOy) (N':=["_law_name"]) (sub:=[none]) rfl rfl (CmpOk.of (by decide +kernel)) rfl (qAq (qAx G1 hr rfl .nil qAv (qAa (pv 2) qAb))) (fun C s H fp=>⟨qAg (i:=0) (by show(["_law_name"]:List Str).Nodup;decide) rfl (Or.inl rfl),qAz,(qAk (show qB9 _ _ (fun xs H Q=>∃x t c b,xs=[x,V.ty c]/\TyOf K H x t/\PySem.W.kitOne K t (.type c)=some b/\Q (.bl b) H) from qCn) rfl mi qCp (qAa (pv 0) (qAa (qGo (v:=.ty "str") rfl mst qKh rfl) qAb)))⟩)) qAb)))) (qAf (qAt qGp)) qA1))))) (qAf (qAt qGp)))),?_⟩;refine⟨_,rfl,_,_,_,true,rfl,.lst hL,qEn _ _,true,rfl,qHa ?_⟩;refine⟨_,rfl,L,rfl,⟨_,SqL.of hL⟩,?_⟩;refine qAr (xs:=ts.map V.ref) (fun i ys H'=>H'=H/\ys=(List.replicate i true).map V.bl) ⟨rfl,rfl⟩ (fun i ys H' _ h=>by rw[h.1];exact SqL.of hL) ?_ ?_
 ·rintro i v ys H' hx ⟨rfl,rfl⟩;obtain⟨a,rfl,ha⟩:=qBk hx;obtain⟨e,he,G,h1,h2⟩:=qAw pr ha;have hi:=qAy ha;refine⟨Sle.set _ (Sle.refl _) (fun u z=>by cases z),iteT (B:=False) ⟨_,rfl,_,_,_,true,rfl,.tup h1,qEn _ _,_,rfl,iteT ?_⟩⟩;refine⟨_,rfl,a,_,rfl,.inr (SqT.of h1),rfl,by rw[hA1,hD4];exact qAi (by omega),nxt (qAy hx) ⟨rfl,?_⟩⟩;rw[qF0];rfl
 rintro ys H' ⟨rfl,rfl⟩ r hr1;rw[hA1];have X1:=Ext.new hr1 (.lst ((List.replicate ts.length true).map V.bl));refine⟨r,List.replicate ts.length true,rfl,SqL.of upd_same,_,rfl,?_⟩;rw[qIj];refine qHa ?_;refine⟨_,rfl,L,rfl,⟨_,SqL.of (X1 _ _ hL)⟩,?_⟩;refine qBm (xs:=ts.map V.ref) (fun i σ H2=>∃(x1 x2:Option V),σ=[some (.ref L),x1,x2]/\Ext H' H2) ⟨none,none,rfl,X1⟩ (fun i σ H2 _ h=>by obtain⟨_,_,_,e⟩:=h;exact SqL.of (e _ _ hL)) ?_ ?_
 ·rintro i v σ H2 hx ⟨x1,x2,rfl,e2⟩;obtain⟨a,rfl,ha⟩:=qBk hx;obtain⟨e,he,G,h1,bs,hb1,hb2⟩:=qAw pr ha;have em:=hAc he;have l3:=ok.l3 e em;have l12:=ok.l12 e em;have lb:bs.length=e.2.length:=hb2.length;refine⟨a,_,rfl,SqT.of (e2 _ _ h1),rfl,_,_,rfl,_,_,rfl,rfl,?_⟩;refine⟨_,rfl,(by show 3<=sizeLine;decide),fun kl hkl=>?_⟩;have Y1:=e2.trans (Ext.new hkl (.lst [V.str "ring",V.str "bundle",V.str "whole"]));refine⟨kl,_,rfl,.inl (SqL.of upd_same),rfl,rfl,_,rfl,?_⟩;have kin:inV (.str e.1) [V.str "ring",V.str "bundle",V.str "whole"]=true:=by
   rcases ok.kd e em with z|z|z <;> rw[z] <;> decide +kernel
  rw[if_pos rfl,kin];refine qHa ?_;have hG:=Y1 _ _ hb1;refine⟨_,rfl,_,_,_,true,rfl,.lst hG,qEn _ _,true,rfl,qHa ?_⟩;refine⟨_,rfl,G,_,rfl,.inl (SqL.of hG),_,_,rfl,rfl,_,rfl,?_⟩;rw[show decide ((((bs.map V.ref).length:Nat):Int)<3)=false by rw[hA1];exact decide_eq_false (by omega)];refine qHa ?_;refine⟨_,rfl,G,rfl,⟨_,SqL.of hG⟩,?_⟩;refine qAr (xs:=bs.map V.ref) (fun j ys H3=>Ext H' H3/\ys=(List.replicate j true).map V.bl) ⟨Y1,rfl⟩ (fun j ys H3 _ h=>SqL.of (h.1 _ _ hb1)) ?_ ?_
  ·rintro j v ys H3 hy ⟨e3,rfl⟩;obtain⟨b,rfl,hb⟩:=qBk hy;obtain⟨row,hrow,hbr⟩:=qAw hb2 hb;have hj:=qAy hb;obtain⟨rne,_,rtx⟩:=ok.rw e em row (hAc hrow);refine⟨Sle.set _ (Sle.refl _) (fun u z=>by cases z),iteT (B:=False) ⟨_,rfl,_,_,_,true,rfl,.lst (e3 _ _ hbr),qEn _ _,_,rfl,iteT ?_⟩⟩;refine⟨_,rfl,hAo _,fun l0 hl0=>?_⟩;have Z0:=e3.trans (Ext.new hl0 (.lst []));refine⟨_,_,qOc (Z0 _ _ hbr),qOc (r:=[]) upd_same,qOv fun x hx=>(rtx x hx).1.sm.ok,(by decide +kernel),by rw[hA1,hD4];exact qAi (by omega),nxt (qAy hy) ⟨Z0,?_⟩⟩;rw[qF0,qSh,decide_eq_false rne];rfl
  rintro ys H3 ⟨e3,rfl⟩ r2 hr2;rw[hA1];have Y2:=e3.trans (Ext.new hr2 (.lst ((List.replicate bs.length true).map V.bl)));refine⟨r2,List.replicate bs.length true,rfl,SqL.of upd_same,_,rfl,?_⟩;rw[qIj];refine qHa ?_;have fl:((e.2.map fun r=>r.map V.str).flatten).length<=1000:=by
   rw[List.length_flatten,hB5];have:∀(R:List (List Str)),(∀r∈R,r.length<=12)->(R.map (List.length∘fun r=>r.map V.str)).sum<=12*R.length:=by
    intro R
    induction R with
    |nil=>intro _;exact hAo _
    |cons r R ih =>
     intro h;have h1:=h r hA6;have h2:=ih fun x hx=>h x (hA4 _ hx)
     rw[hB9,hD6,hBu];show(r.map V.str).length+_<=_;rw[hA1];omega
   have:=this e.2 fun r hr=>(ok.rw e em r hr).2.1
   omega
  refine⟨_,rfl,G,bs,e.2.map fun r=>r.map V.str,rfl,Y2 _ _ hb1,?_,hAq fl (by decide),fun fr H4 e4 fr0 hfr=>?_⟩
  ·exact qD5 (Paired.mapP hb2 fun a r z=>Y2 _ _ z)
  rw[qJ8]at hfr fl;rw[hA1]at fl;refine⟨fr,rfl,⟨_,SqL.of hfr⟩,?_⟩;refine qAr (xs:=e.2.flatten.map V.str) (fun j ys H5=>H4=H5/\ys=(List.replicate j true).map V.bl) ⟨rfl,rfl⟩ (fun j ys H5 _ h=>by rw[<-h.1];exact SqL.of hfr) ?_ ?_
  ·rintro j v ys H5 hy ⟨rfl,rfl⟩;obtain⟨x,rfl,hx'⟩:=qLt hy;have hj:=qAy hx';refine⟨Sle.set _ (Sle.refl _) (fun u z=>by cases z),iteT (B:=False) ⟨_,rfl,_,_,_,true,rfl,.str x,qEn _ _,by rw[hA1,hD4];exact qAi (by omega),nxt (qAy hy) ⟨rfl,?_⟩⟩⟩;rw[qF0]
  rintro ys H5 ⟨rfl,rfl⟩ r3 hr3;refine⟨r3,List.replicate _ true,rfl,SqL.of upd_same,_,rfl,?_⟩;rw[qIj];refine qHa ?_;exact⟨_,_,rfl,Y2.trans (e4.trans (Ext.new hr3 _))⟩
 ·rintro σ H2 ⟨x1,x2,rfl,e2⟩;exact q H2 e2
abbrev otN:List Str:=["_law_base","_law_big_here","_law_rows","_law_k","_law_mix","_law_step","_law_made","_law_row_here"]
theorem qGa:FnScope otN ["_law_base","_law_big_here"] (qAe qXk):=⟨rfl,rfl,rfl,by decide +kernel,rfl,by decide +kernel,by decide +kernel⟩
theorem qYh(F:Fun K "_law_other_rows" "_law_other_rows" qXk f fd)(mr:mg "range" = none)(mL:mg "list" = none)(ml:mg "len" = none)(me:mg "enumerate" = none):FnOk P w K mg base CX0 1 f fd ["_law_base","_law_big_here"] qVt:=by
 refine F.ok qGa (fun vs H Q E h=>?_) (fun cdv A outer s H vs Q E hr h=>?_)
 ·obtain⟨p,b,N,rfl,_⟩:=h;rfl
 obtain⟨p,b,N,rfl,hN,lN,q⟩:=h;refine⟨_,(qAc (qAj (i:=2) qGa.nd rfl (Or.inl rfl) (qA4 qAb)) (qAc (qBb PassesOwn.never rfl (qA8 rfl mr (qAa (qAh qA6 qAd (qAh qA7 (pv 1) qAd)) qAb)) (qAg (i:=3) qGa.nd rfl (Or.inl rfl)) (qAc (qAj (i:=4) qGa.nd rfl (Or.inl rfl) qAd) (qAc (qBb PassesOwn.never rfl (qAq (pv 0)) (qAg (i:=5) qGa.nd rfl (Or.inl rfl)) (qAc (qAj (i:=4) qGa.nd rfl (Or.inl rfl) (qAh qCt (pv 4) (qAh qDf (pv 5) (qAh qA7 (qAh qA3 (pv 1) qAd) qAd)))) (qAf (qAj (i:=1) qGa.nd rfl (Or.inl rfl) (qAh qA3 (pv 1) qAd))))) (qAf (qB4 (qC7 hAr hBd hBe qBo (pv 2) (qAa (pv 4) qAb))))))) (qAc (qAj (i:=6) qGa.nd rfl (Or.inl rfl) (qBn qCd rfl mL qBy (qAa (pv 0) qAb))) (qAc (qBb PassesOwn.never rfl (qD4 rfl me (qAa (pv 2) qAb)) (qB0 rfl (qAs (qAg (i:=3) qGa.nd rfl (Or.inl rfl)) (qAs (qAg (i:=7) qGa.nd rfl (Or.inl rfl)) qBe))) (qAc (qB4 (qC7 hAr PySem.F.slot_list_insert PySem.F.type_list_insert qRk (pv 6) (qAa (qAh qA7 (pv 1) (qAh qA6 (qAk qAn rfl ml hAv (qAa (pv 6) qAb)) qAd)) (qAa (pv 7) qAb)))) (qAf (qAj (i:=1) qGa.nd rfl (Or.inl rfl) (qAh qA3 (pv 1) qAd))))) (qAf (qAt (pv 6))))))),?_⟩;refine⟨hAo _,fun ro hro=>?_⟩;have X1:=Ext.new hro (.lst []);have i0:=hB8 b (show(6:Int)≠0 by decide);have i1:=hB4 b (show(0:Int)<6 by decide);refine⟨_,rfl,_,_,rfl,rfl,(by show(0:Int)<_;decide),_,_,rfl,rfl,1+b % 6,rfl,by omega,by omega,qBp (lo:=0) (n:=(1+b % 6).toNat) (fun i σ H'=>∃(b':Int) (M:List Nat) (x3 x4 x5:Option V),σ=[some (.ref p),some (.int b'),some (.ref ro),x3,x4,x5,none,none]/\Ext H H'/\LsN H' ro M/\M.length=i/\∀x∈M,Spn N x)
  ⟨b,[],none,none,none,rfl,X1,upd_same,rfl,fun x h=>by cases h⟩ ?_ ?_⟩
 ·rintro i σ H' hi ⟨b',M,x3,x4,x5,rfl,e,hM,lM,sM⟩;have hN':=e _ _ hN;refine⟨_,rfl,p,rfl,⟨_,SqL.of hN'⟩,?_⟩;refine qBm (xs:=N.map iV) (fun j σ H2=>∃(b2:Int) (mx:Nat) (x5:Option V),σ=[some (.ref p),some (.int b2),some (.ref ro),some (.int (0+(i:Int))),some (iV mx),x5,none,none]/\H2=H'/\Spn N mx) ⟨b',0,x5,rfl,rfl,.zero⟩ (fun j σ H2 _ h=>by obtain⟨_,_,_,_,rfl,_⟩:=h;exact SqL.of hN') ?_ ?_
  ·rintro j v σ H2 hx ⟨b2,mx,x5,rfl,rfl,smx⟩;obtain⟨y,rfl,hy⟩:=qBz hx;obtain⟨d,hd⟩:∃d:Int,b2 / 6 % 2=d:=⟨_,rfl⟩;have d0:=hB8 (b2 / 6) (show(2:Int)≠0 by decide);have d1:=hB4 (b2 / 6) (show(0:Int)<2 by decide);rw[hd]at d0 d1;refine⟨_,rfl,_,rfl,_,rfl,_,_,rfl,rfl,⟨by decide,by decide⟩,_,_,rfl,rfl,(by show(0:Int)<_;decide),_,_,rfl,rfl,.inr (by show(-(2^64):Int)<b2 / 6 % 2/\b2 / 6 % 2<2^64;rw[hd];exact⟨by omega,by omega⟩),_,_,rfl,rfl,?_⟩;refine⟨_,rfl,_,_,rfl,rfl,⟨by decide,by decide⟩,?_⟩;have xe:∃mx':Nat,V.int (Builtin.bitXor (mx:Int) ((y:Int)*(b2 / 6 % 2)))=iV mx'/\Spn N mx':=by
    rw[hd];rcases(show d=0\/d=1 by omega) with z|z
    ·exact⟨mx,by rw[z,Int.mul_zero,show(0:Int)=((0:Nat):Int) from rfl,qBx,Nat.xor_zero],smx⟩
    ·exact⟨mx^^^y,by rw[z,Int.mul_one,qBx],Spn.xor smx (.mem (hAc hy))⟩
   obtain⟨mx',e1,e2⟩:=xe;refine⟨b2 / 2,mx',some (iV y),?_,rfl,e2⟩;rw[<-e1];rfl
  ·rintro σ H2 ⟨b2,mx,x5,rfl,rfl,smx⟩;refine⟨_,rfl,.inl ⟨rfl,_,SqL.of hM⟩,_,rfl,ro,_,_,rfl,rfl,hM,by rw[hA1];exact qAi (by omega),?_⟩;refine⟨b2,M++[mx],_,_,_,rfl,e.over hro _,by unfold LsN;rw[upd_same,hA3];rfl,by rw[hAa,lM];rfl,fun x hx=>?_⟩;rcases hAj.mp hx with z|z
   ·exact sM x z
   ·rw[hAd.mp z];exact smx
 ·rintro σ H' ⟨b',M,x3,x4,x5,rfl,e,hM,lM,sM⟩;have lM6:M.length<=6:=by omega
  refine⟨_,rfl,p,_,rfl,.inl (SqL.of (e _ _ hN)),fun md hmd=>?_⟩;have X2:=Ext.new hmd (.lst (N.map iV));have hM2:=X2 _ _ hM;have mr':ro≠md:=fun z=>by
   have hM':H' ro=_:=hM;rw[z,hmd]at hM';cases hM'
  have md0:H md=none:=e.none hmd;refine⟨_,rfl,ro,_,rfl,SqL.of hM2,?_⟩;rw[hA1];refine qG3 (fun i σ H2=>∃(b2:Int) (M':List Nat) (x3 x4 x5 x7:Option V),σ=[some (.ref p),some (.int b2),some (.ref ro),x3,x4,x5,some (.ref md),x7]/\Ext H H2/\LsN H2 ro M/\LsN H2 md M'/\M'.length=N.length+i/\(∀x∈M',Spn N x)/\∀x∈N,x∈M')
   ⟨b',N,x3,x4,x5,none,rfl,e.trans X2,hM2,upd_same,rfl,fun x hx=>.mem hx,fun x hx=>hx⟩ ?_ ?_ ?_
  ·rintro i σ H2 _ ⟨b2,M',x3,x4,x5,x7,_,_,h,_⟩;exact SqL.of h
  ·rintro i σ H2 T hi ⟨b2,M',x3,x4,x5,x7,rfl,e2,hM',hmd',lm',sm',inc⟩ hT;have gd:(M.map iV).getD i .non=iV M[i]:=by rw[hA8,hAe,hA2 hi];rfl
   dsimp only;rw[gd];have Y1:=Ext.new hT (.tup [V.int (i:Nat),iV M[i]]);refine⟨T,_,rfl,SqT.of upd_same,rfl,_,_,rfl,_,_,rfl,rfl,?_⟩;obtain⟨k,hk,ek⟩:=qLq b2 (n:=M'.length+1) (by omega);have ek':b2 % ((((M'.map iV).length:Nat):Int)+1)=(k:Int):=by rw[hA1];exact ek
   have hmd2:=Y1 _ _ hmd';refine⟨_,rfl,.inl ⟨rfl,_,SqL.of hmd2⟩,_,rfl,_,rfl,md,_,rfl,.inl (SqL.of hmd2),_,_,rfl,rfl,_,_,rfl,rfl,(by rw[hA1];omega),_,rfl,md,_,k,_,rfl,(by show [V.int (b2 % ((((M'.map iV).length:Nat):Int)+1)),iV M[i]]=_;rw[ek']),hmd2,by rw[hA1];omega,by rw[hA1];omega,?_⟩;refine⟨_,rfl,_,_,rfl,rfl,⟨by decide,by decide⟩,?_⟩;have ins:(M'.map iV).take k++iV M[i] :: (M'.map iV).drop k=(M'.take k++M[i] :: M'.drop k).map iV:=by rw[hA3,hB9,List.map_take,List.map_drop]
   refine⟨_,M'.take k++M[i] :: M'.drop k,_,_,_,_,rfl,(e2.trans Y1).over md0 _,by unfold LsN;rw[qAl mr'];exact Y1 _ _ hM',by unfold LsN;rw[upd_same,ins],?_,fun x hx=>?_,fun x hx=>?_⟩
   ·rw[hAa,hBu,hAh,hD3];omega
   ·rcases hAj.mp hx with z|z
    ·exact sm' x (hDc z)
    ·rcases hAf.mp z with z|z
     ·rw[z];exact sM _ (hBs hi)
     ·exact sm' x (List.mem_of_mem_drop z)
   ·have:=inc x hx;rw[<-List.take_append_drop k M']at this;rcases hAj.mp this with z|z
    ·exact hAl _ z
    ·exact hA9 _ (hA4 _ z)
  ·rintro σ H2 ⟨b2,M',x3,x4,x5,x7,rfl,e2,hM',hmd',lm',sm',inc⟩;exact⟨_,rfl,q md M' H2 e2 md0 hmd' (by omega) sm' inc⟩
abbrev reN:List Str:=["_law_found","_law_by","_law_rows","_law_kind","_law_share"]
theorem qTw:FnScope reN ["_law_found","_law_by"] (qAe qQk):=⟨rfl,rfl,rfl,by decide +kernel,rfl,by decide +kernel,by decide +kernel⟩
theorem qYf(F:Fun K "_law_renamed" "_law_renamed" qQk f fd):FnOk P w K mg base CX0 1 f fd ["_law_found","_law_by"] qVs:=by
 refine F.ok qTw (fun vs H Q E h=>?_) (fun cdv A outer s H vs Q E hr h=>?_)
 ·obtain⟨L,d,ts,es,kvs,φ,rfl,_⟩:=h;rfl
 obtain⟨L,d,ts,es,kvs,φ,rfl,hL,pr,ok,hd,hφ,q⟩:=h;have lt:=pr.length;have l10:=ok.ln;refine⟨_,(qAc (qAj (i:=2) qTw.nd rfl (Or.inl rfl) (qA4 qAb)) (qAc (qBb PassesOwn.never rfl (qAq (pv 0)) (qB0 rfl (qAs (qAg (i:=3) qTw.nd rfl (Or.inl rfl)) (qAs (qAg (i:=4) qTw.nd rfl (Or.inl rfl)) qBe))) (qAf (qB4 (qC7 hAr hBd hBe qBo (pv 2) (qAa (qA5 (qAa (pv 3) (qAa (qBf (N:=reN) (sc:=qAe qQk) (N':=["_law_row_here","_law_by"]) (sub:=[none,some 1]) rfl rfl (CmpOk.of (by decide +kernel)) rfl (qAq (pv 4)) (fun C s H fp=>⟨qAg (i:=0) (by show(["_law_row_here","_law_by"]:List Str).Nodup;decide) rfl (Or.inl rfl),qAz,(qBf (N:=(["_law_row_here","_law_by"]:List Str)) (sc:=qXt _ (qAe qQk)) (N':=["_law_name","_law_by"]) (sub:=[none,some 1]) rfl rfl (CmpOk.of (by decide +kernel)) rfl (show PI _ _ _ (qU1 K (qPe 0)) from qAq (pv 0)) (fun C s H fp=>⟨qAg (i:=0) (by show(["_law_name","_law_by"]:List Str).Nodup;decide) rfl (Or.inl rfl),qAz,(qX4 (zCi hr) (pv 1) (pv 0) (fun _ _=>rfl))⟩))⟩)) qAb))) qAb))))) (qAf (qAt (pv 2))))),?_⟩;refine⟨hAo _,fun ro hro=>?_⟩;have X1:=Ext.new hro (.lst []);refine⟨_,rfl,L,rfl,⟨_,SqL.of (X1 _ _ hL)⟩,?_⟩;refine qBm (xs:=ts.map V.ref) (fun i σ H2=>∃(us:List Addr) (x3 x4:Option V),σ=[some (.ref L),some (.ref d),some (.ref ro),x3,x4]/\Ext H H2/\H2 ro=some (.lst (us.map V.ref))/\Paired (fun a e=>∃G,H2 a=some (.tup [.str e.1,.ref G])/\∃bs:List Addr,H2 G=some (.lst (bs.map V.ref))/\G≠ro/\Paired (fun b r=>LsS H2 b r/\b≠ro) bs e.2) us ((es.take i).map (zBw φ))) ⟨[],none,none,rfl,X1,upd_same,.nil⟩ (fun i σ H2 _ h=>by obtain⟨_,_,_,_,e,_⟩:=h;exact SqL.of (e _ _ hL)) ?_ ?_
 ·rintro i v σ H2 hx ⟨us,x3,x4,rfl,e2,hro2,pu⟩;obtain⟨a,rfl,ha⟩:=qBk hx;obtain⟨e,he,G,h1,bs,hb1,hb2⟩:=qAw pr ha;have em:=hAc he;have l12:=ok.l12 e em;have hi:=qAy ha;have lu:=pu.length;rw[hA1,hAh]at lu;have lb:bs.length=e.2.length:=hb2.length;refine⟨a,_,rfl,SqT.of (e2 _ _ h1),rfl,_,_,rfl,_,_,rfl,rfl,?_⟩;refine⟨_,rfl,.inl ⟨rfl,_,SqL.of hro2⟩,_,rfl,?_⟩;refine⟨_,rfl,G,rfl,⟨_,SqL.of (e2 _ _ hb1)⟩,?_⟩;refine qAr (xs:=bs.map V.ref) (fun j ys H3=>Ext H2 H3/\∃gs:List Addr,ys=gs.map V.ref/\Paired (fun b r=>LsS H3 b r/\b≠ro) gs ((e.2.take j).map fun r=>r.map φ)) ⟨Ext.refl _,[],rfl,.nil⟩ (fun j ys H3 _ h=>SqL.of (h.1 _ _ (e2 _ _ hb1))) ?_ ?_
  ·rintro j v ys H3 hy ⟨e3,gs,rfl,pg⟩;obtain⟨b,rfl,hb⟩:=qBk hy;obtain⟨row,hrow,hbr⟩:=qAw hb2 hb;have hj:=qAy hrow;have lg:=pg.length;rw[hA1,hAh]at lg;have rm:=hAc hrow;obtain⟨_,r12,_⟩:=ok.rw e em row rm;have E3:=e2.trans e3;refine⟨Sle.set _ (Sle.refl _) (fun u z=>by cases z),iteT (B:=False) ?_⟩;refine⟨_,rfl,b,rfl,⟨_,SqL.of (E3 _ _ hbr)⟩,?_⟩;refine qAr (xs:=row.map V.str) (fun k ys H4=>H3=H4/\ys=((row.take k).map φ).map V.str) ⟨rfl,rfl⟩ (fun k ys H4 _ h=>by rw[<-h.1];exact SqL.of (E3 _ _ hbr)) ?_ ?_
   ·rintro k v ys H4 hz ⟨rfl,rfl⟩;obtain⟨n,rfl,hn⟩:=qLt hz;have hk:=qAy hn;refine⟨Sle.set _ (Sle.refl _) (fun u z=>by cases z),iteT (B:=False) ⟨_,rfl,_,rfl,d,.str (φ n),rfl,?_,by rw[hA1,hA1,hAh];exact qAi (by omega),nxt (qAy hz) ⟨rfl,?_⟩⟩⟩
    ·have:=qZs.k (k:=Sum.inr n) (E3 _ _ hd);rw[hφ e em row rm n (hAc hn)]at this;exact this
    ·rw[qAm hn,hA3,hA3];rfl
   ·rintro ys H4 ⟨rfl,rfl⟩ g hg;rw[show row.take (row.map V.str).length=row by rw[hA1,hA5 (hA7 _)]];have n5:=Ext.new hg (.lst ((row.map φ).map V.str));refine⟨by rw[hA1];exact qAi (by omega),nxt (qAy hy) ⟨e3.trans n5,gs++[g],by rw[hA3];rfl,?_⟩⟩;rw[qAm hrow,hA3];exact Paired.snoc (Paired.mapP pg fun a t z=>⟨n5 _ _ z.1,z.2⟩) ⟨upd_same,fun z=>by rw[z,e3 _ _ hro2]at hg;cases hg⟩
  ·rintro ys H3 ⟨e3,gs,rfl,pg⟩ G2 hG2;rw[hA1,lb,hA5 (hA7 _)]at pg;have n4:=Ext.new hG2 (.lst (gs.map V.ref));have gro:G2≠ro:=fun z=>by rw[z,e3 _ _ hro2]at hG2;cases hG2
   refine⟨(by show 2<=sizeLine;decide),fun T hT=>?_⟩;have n5:=Ext.new hT (.tup [V.str e.1,V.ref G2]);have X5:=e3.trans (n4.trans n5);refine⟨ro,_,_,rfl,rfl,X5 _ _ hro2,by rw[hA1];exact qAi (by omega),?_⟩;have ne:∀ {b:Addr} {o:HO},upd (upd H3 G2 (.lst (gs.map V.ref))) T (.tup [V.str e.1,V.ref G2]) b=some o->b≠ro->upd (upd (upd H3 G2 (.lst (gs.map V.ref))) T (.tup [V.str e.1,V.ref G2])) ro (.lst (us.map V.ref++[V.ref T])) b=some o:=fun h n=>by rw[qAl n];exact h
   have nt:∀ {b:Addr} {xs:List V},upd (upd H3 G2 (.lst (gs.map V.ref))) T (.tup [V.str e.1,V.ref G2]) b=some (.tup xs)->b≠ro:=fun h z=>by rw[z,X5 _ _ hro2]at h;cases h
   refine⟨us++[T],_,_,rfl,(e2.trans X5).over hro _,by rw[upd_same,hA3];rfl,?_⟩;rw[qAm he,hA3];refine Paired.snoc (Paired.mapP pu fun a t ⟨G',z1,bs',z2,z3,z4⟩=>⟨G',ne (X5 _ _ z1) (nt (X5 _ _ z1)),bs',ne (X5 _ _ z2) z3,z3,Paired.mapP z4 fun b r y=>⟨ne (X5 _ _ y.1) y.2,y.2⟩⟩) ⟨G2,ne upd_same (nt upd_same),gs,ne (n5 _ _ upd_same) gro,gro,Paired.mapP pg fun b r y=>⟨ne ((n4.trans n5) _ _ y.1) y.2,y.2⟩⟩
 ·rintro σ H2 ⟨us,x3,x4,rfl,e2,hro2,pu⟩;rw[hA1,lt,hA5 (hA7 _)]at pu;exact⟨_,rfl,q ro us H2 e2 hro hro2 (Paired.mapP pu fun a t ⟨G',z1,bs',z2,z3,z4⟩=>⟨G',z1,bs',z2,Paired.mapP z4 fun b r y=>y.1⟩)⟩
end
def sgl(x:Nat):Bool:=decide (x&&&(x - 1)=0)
def crB(S:List Nat)(e g:Nat):Bool:=if sgl g=true then !decide (e&&&g=0) else !decide (red1 S (e&&&g)=0)
def qFb(gs some:List Nat):Nat:=gs.foldl (fun m g=>2*m+(if g∈some then 1 else 0)) 0
theorem qHw(names row:List Nat)(n:Nat):qFb (names++[n]) row=2*qFb names row+(if n∈row then 1 else 0):=by unfold qFb;rw[hBk];rfl
def rowI(names:List Nat)(x:Nat):List Nat:=(List.range names.length).filterMap fun i=>if x.testBit (names.length - 1 - i)=true then names[i]? else none
theorem qG1(n:Nat):∀other:List Nat,inV (iV n) (other.map iV)=decide (n∈other)
 |[]=>by simp[inV]
 |x :: r=>by
  have ih:=qG1 n r;unfold inV at ih ⊢;rw[hB9,List.any_cons,ih];show(((x:Int) == (n:Int)) || decide (n∈r))=_;by_cases e:n=x
  ·subst e;simp
  ·have e':¬((x:Int)=(n:Int)):=fun z=>e (by omega)
   have e2:¬x=n:=fun z=>e z.symm
   simp[e,e2];exact fun z=>absurd z e'
theorem qC3:∀l:List Nat,(l.map iV).all qHd=true
 |[]=>rfl
 |x :: r=>by rw[hB9,List.all_cons,qC3 r];rfl
def qH8:Sp:=fun vs H Q _=>∃x:Nat,vs=[iV x]/\Q (.bl (sgl x)) H
def qMm:Sp:=fun vs H Q _=>∃(p:Addr) (S:List Nat) (one rest met:Nat),vs=[.ref p,iV one,iV rest,iV met]/\LsN H p S/\Q (.bl (decide (met=S.length+1) && (!sgl one && !sgl rest))) H
def qVo:Sp:=fun vs H Q _=>∃(p:Addr) (k:List Nat) (x y:Nat),vs=[.ref p,iV x,iV y]/\LsN H p k/\(∀s∈k,s≠0)/\Q (.bl (!decide (red1 k (x&&&y)=0))) H
def qZ5:Sp:=fun vs H Q _=>∃(p:Addr) (S:List Nat) (e g:Nat),vs=[.ref p,iV e,iV g]/\LsN H p S/\(∀s∈S,s≠0)/\Q (.bl (crB S e g)) H
def qP5:Sp:=fun vs H Q _=>∃(pn pr:Addr) (names row:List Nat),vs=[.ref pn,.ref pr]/\LsN H pn names/\LsN H pr row/\Q (iV (qFb names row)) H
def qVm:Sp:=fun vs H Q _=>∃(pn:Addr) (names:List Nat) (x:Nat),vs=[.ref pn,iV x]/\LsN H pn names/\names.length<=12/\∀r H',Ext H H'->H r=none->LsN H' r (rowI names x)->Q (.ref r) H'
theorem iv0(n:Nat):decide (iV n=V.int 0)=decide (n=0):=decide_eq_decide.mpr ⟨fun h=>by have:=V.int.inj h;omega,fun h=>by rw[h];rfl⟩
theorem qXc(x:Nat):decide (V.int (Builtin.bitAnd (x:Int) ((x:Int) - 1))=V.int 0)=sgl x:=by
 cases x with
 |zero=>decide +kernel
 |succ n =>
  rw[show(((n+1:Nat)):Int) - 1=((n:Nat):Int) by omega,qCb];exact iv0 _
section
variable{P:Program}{w:World}{K:PySem.W.Frag}{mg:Str->Option Value}{base:Heap}{f f1 f2 f3 f4:Addr}{fd fd1 fd2 fd3 fd4:FuncData}
theorem qTv:FnScope ["mask"] ["mask"] (qAe qLa):=⟨rfl,rfl,rfl,by decide +kernel,rfl,by decide +kernel,by decide +kernel⟩
theorem qRe(F:Fun K "is_single" "is_single" qLa f fd):FnOk P w K mg base CX0 1 f fd ["mask"] qH8:=by
 refine F.ok qTv (fun vs H Q E h=>?_) (fun cdv A outer s H vs Q E hr h=>?_)
 ·obtain⟨x,rfl,_⟩:=h;rfl
 obtain⟨x,rfl,q⟩:=h;refine⟨_,qAf (qAt (qC6 qB1 (qAh qBr (pv 0) (qAh qCu (pv 0) qAd)) qAd (qAu _))),?_⟩;refine⟨_,rfl,_,rfl,_,_,rfl,rfl,_,_,rfl,rfl,rfl,?_⟩;rw[show decide (V.int (Builtin.bitAnd (x:Int) ((x:Int) - 1))=V.int 0)=sgl x from qXc x];exact q
theorem qTu:FnScope ["steps","one","rest","met"] ["steps","one","rest","met"] (qAe qK9):=⟨rfl,rfl,rfl,by decide +kernel,rfl,by decide +kernel,by decide +kernel⟩
theorem qRd(F:Fun K "splits" "splits" qK9 f fd)(G1:Cl P w K mg base CX0 1 f1 fd1 ["mask"] qH8 "is_single")(ml:mg "len" = none):FnOk P w K mg base CX0 2 f fd ["steps","one","rest","met"] qMm:=by
 refine F.ok qTu (fun vs H Q E h=>?_) (fun cdv A outer s H vs Q E hr h=>?_)
 ·obtain⟨p,S,one,rest,met,rfl,_⟩:=h;rfl
 obtain⟨p,S,one,rest,met,rfl,hS,q⟩:=h;refine⟨_,qAf (qAt (qNg (qC6 qB1 (pv 3) (qAh qA6 (qAk qAn rfl ml hAv (qAa (pv 0) qAb)) qAd) (qAu _)) (qNg (qWf (qAx G1 hr rfl .nil qAv (qAa (pv 1) qAb))) (qQ9 (qWf (qAx G1 hr rfl .nil qAv (qAa (pv 2) qAb))))))),?_⟩;have e:decide (iV met=V.int ((((S.map iV).length:Nat):Int)+1))=decide (met=S.length+1):=decide_eq_decide.mpr ⟨fun h=>by have:=V.int.inj h;rw[hA1]at this;omega,fun h=>by rw[h,hA1];rfl⟩;refine⟨_,rfl,_,rfl,p,_,rfl,.inl (SqL.of hS),_,_,rfl,rfl,rfl,_,rfl,?_⟩;rw[show decide (iV met=V.int ((((S.map iV).length:Nat):Int)+1))=decide (met=S.length+1) from e];refine ite2 (fun c=>?_) (fun c=>?_)
 ·rw[c]at q;refine⟨_,rfl,one,rfl,sgl one,rfl,_,rfl,ite2 (fun d=>?_) (fun d=>?_)⟩
  ·rw[d]at q;exact⟨_,rfl,rest,rfl,sgl rest,rfl,q⟩
  ·have d':(!sgl one)=false:=by cases h:(!sgl one) with|false=>rfl|true=>exact absurd h d
   rw[d']at q;exact q
 ·have c':decide (met=S.length+1)=false:=by cases h:decide (met=S.length+1) with|false=>rfl|true=>exact absurd h c
  rw[c']at q;exact q
theorem qZ8:FnScope ["steps","even","some"] ["steps","even","some"] (qAe qXi):=⟨rfl,rfl,rfl,by decide +kernel,rfl,by decide +kernel,by decide +kernel⟩
theorem qYl(F:Fun K "lies_across" "lies_across" qXi f fd)(G1:Cl P w K mg base CX0 1 f1 fd1 ["mask","kept"] qMp "lessened"):FnOk P w K mg base CX0 2 f fd ["steps","even","some"] qVo:=by
 refine F.ok qZ8 (fun vs H Q E h=>?_) (fun cdv A outer s H vs Q E hr1 h=>?_)
 ·obtain⟨p,k,x,y,rfl,_⟩:=h;rfl
 obtain⟨p,k,x,y,rfl,hk,nz,q⟩:=h;refine⟨_,qAf (qAt (qC6 qE9 (qAx G1 hr1 rfl .nil qAv (qAa (qAh qBr (pv 1) (pv 2)) (qAa (pv 0) qAb))) qAd (qAu _))),?_⟩;refine⟨_,rfl,_,rfl,_,_,rfl,rfl,_,rfl,x&&&y,p,k,(by show [V.int (Builtin.bitAnd (x:Int) (y:Int)),V.ref p]=_;rw[qCb]),hk,nz,rfl,?_⟩;have e:(!decide (iV (red1 k (x&&&y))=V.int 0))=!decide (red1 k (x&&&y)=0):=by
  rw[decide_eq_decide.mpr (show(V.int ((red1 k (x&&&y):Nat):Int)=V.int 0)↔red1 k (x&&&y)=0 from ⟨fun h=>by have:=V.int.inj h;omega,fun h=>by rw[h];rfl⟩)]
 rw[e];exact q
theorem zCc:FnScope ["steps","even","group"] ["steps","even","group"] (qAe qXn):=⟨rfl,rfl,rfl,by decide +kernel,rfl,by decide +kernel,by decide +kernel⟩
theorem zAx(F:Fun K "is_crossed" "is_crossed" qXn f fd)(G1:Cl P w K mg base CX0 1 f1 fd1 ["mask"] qH8 "is_single")
  (G2:Cl P w K mg base CX0 2 f2 fd2 ["steps","even","some"] qVo "lies_across"):FnOk P w K mg base CX0 3 f fd ["steps","even","group"] qZ5:=by
 refine F.ok zCc (fun vs H Q E h=>?_) (fun cdv A outer s H vs Q E hr h=>?_)
 ·obtain⟨p,S,e,g,rfl,_⟩:=h;rfl
 obtain⟨p,S,e,g,rfl,hS,nz,q⟩:=h;have hr1:=hr.mono (j:=1) (by decide);refine⟨_,qAc (qBi (qDe (qAx G1 hr1 rfl .nil qAv (qAa (pv 2) qAb))) (qAf (qAt (qC6 qE9 (qAh qBr (pv 1) (pv 2)) qAd (qAu _)))) qA1) (qAf (qAt (qAx G2 hr rfl .nil qAv (qAa (pv 0) (qAa (pv 1) (qAa (pv 2) qAb)))))),?_⟩;unfold crB at q;refine⟨_,rfl,g,rfl,sgl g,rfl,ite2 (fun c=>?_) (fun c=>?_)⟩
 ·rw[if_pos c]at q;refine⟨_,rfl,_,rfl,_,_,rfl,rfl,rfl,?_⟩;rw[show(!decide (V.int (Builtin.bitAnd (e:Int) (g:Int))=V.int 0))=!decide (e&&&g=0) by rw[qCb];exact congrArg (! ·) (iv0 _)];exact q
 ·rw[if_neg c]at q;exact⟨_,rfl,_,rfl,_,rfl,p,S,e,g,rfl,hS,nz,q⟩
theorem qUm(F:Fun K "mask_of" "mask_of" qTz f fd):FnOk P w K mg base CX0 1 f fd ["names","row"] qP5:=by
 refine F.ok qFl (fun vs H Q E h=>?_) (fun cdv A outer s H vs Q E hr h=>?_)
 ·obtain⟨pn,pr,names,row,rfl,_⟩:=h;rfl
 obtain⟨pn,pr,names,row,rfl,hn,hw,q⟩:=h;refine⟨_,qAc (qAj (i:=2) qFl.nd rfl (Or.inl rfl) qAd)
  (qAc (qBb PassesOwn.never rfl (qAq (pv 0)) (qAg (i:=3) qFl.nd rfl (Or.inl rfl))
   (qAf (qAj (i:=2) qFl.nd rfl (Or.inl rfl) (qAh qA6 (qAh qDf qAd (pv 2)) (qDq (qAp qDg (pv 3) (pv 1) (by with_unfolding_all rfl)) qAd qAd)))))
  (qAf (qAt (pv 2)))),?_⟩
 refine⟨_,rfl,pn,rfl,⟨_,SqL.of hn⟩,?_⟩;refine qBm (xs:=names.map iV) (fun i σ H'=>H'=H/\∃x3:Option V,σ=[some (.ref pn),some (.ref pr),some (iV (qFb (names.take i) row)),x3]) ⟨rfl,none,rfl⟩ (fun i σ H' _ h=>by rw[h.1];exact SqL.of hn) ?_ ?_
 ·rintro i x σ H' hx ⟨rfl,x3,rfl⟩;obtain⟨y,rfl,hy⟩:=qBz hx;refine⟨_,rfl,_,_,rfl,rfl,.inl ⟨by decide,by decide⟩,_,rfl,_,rfl,pr,_,rfl,.inl (SqL.of hw),rfl,qC3 _,_,rfl,?_⟩;rw[if_neg (by decide),qG1];refine ite2 (fun c=>?_) (fun c=>?_)
  ·have c':y∈row:=by simpa using c
   refine⟨_,_,rfl,rfl,rfl,some (iV y),?_⟩;rw[show iV (qFb (names.take (i+1)) row)=V.int (2*((qFb (names.take i) row:Nat):Int)+1) by rw[qAm hy,qHw,if_pos c'];rfl];rfl
  ·have c':¬y∈row:=by simpa using c
   refine⟨_,_,rfl,rfl,rfl,some (iV y),?_⟩;rw[show iV (qFb (names.take (i+1)) row)=V.int (2*((qFb (names.take i) row:Nat):Int)+0) by rw[qAm hy,qHw,if_neg c'];rfl];rfl
 ·rintro σ H' ⟨rfl,x3,rfl⟩;rw[hA1,hA5 (hA7 _)];exact⟨_,rfl,q⟩
theorem qX8(F:Fun K "row_of" "row_of" qHn f fd)(ml:mg "len" = none)(me:mg "enumerate" = none):FnOk P w K mg base CX0 1 f fd ["names","mask"] qVm:=by
 refine F.ok qIe (fun vs H Q E h=>?_) (fun cdv A outer s H vs Q E hr h=>?_)
 ·obtain⟨pn,names,x,rfl,_⟩:=h;rfl
 obtain⟨pn,names,x,rfl,hn,ln,q⟩:=h;refine⟨_,qAc (qAj (i:=2) qIe.nd rfl (Or.inr rfl) (qAh qCu (qAk qAn rfl ml hAv (qAa (pv 0) qAb)) qAd))
  (qAf (qAt (qBf (N:=["names","mask","last"]) (sc:=qAe qHn) (N':=roN) (sub:=[none,none,some 1,some 2]) rfl rfl (CmpOk.of (by decide +kernel)) rfl (qD4 rfl me (qAa (pv 0) qAb))
   (fun C s H fp=>⟨(show PG _ _ (qZb K 2 _) from qB0 rfl (qAs (qAg (i:=0) (by show roN.Nodup;decide) rfl (Or.inl rfl)) (qAs (qAg (i:=1) (by show roN.Nodup;decide) rfl (Or.inl rfl)) qBe))),
    qBl (qAp qB1 (qAh qBr (qAh qFq (pv 2) (qAh qCu (pv 3) (pv 0))) qAd) qAd (qAu _)),pv 1⟩)))),?_⟩
 refine⟨_,rfl,pn,_,rfl,.inl (SqL.of hn),_,_,rfl,rfl,?_⟩;refine⟨_,rfl,pn,_,rfl,SqL.of hn,?_⟩;rw[hA1];refine qDa (fun i ys H'=>Ext H H'/\ys=((List.range i).filterMap fun i=>if x.testBit (names.length - 1 - i)=true then names[i]? else none).map iV) ⟨Ext.refl _,rfl⟩ (fun i ys H' _ p=>SqL.of (p.1 _ _ hn)) ?_ ?_
 ·rintro i ys H' T hi ⟨e,rfl⟩ hT;have gd:(names.map iV).getD i .non=iV names[i]:=by rw[hA8,hAe,hA2 hi];rfl
  have e2:=e.trans (Ext.new hT (.tup [V.int (i:Nat),(names.map iV).getD i .non]));refine⟨T,_,rfl,SqT.of upd_same,rfl,_,_,rfl,_,_,rfl,rfl,?_⟩;refine⟨Sle.set _ (Sle.set _ (Sle.refl _) (fun u z=>by cases z)) (fun u z=>by cases z),?_⟩;have k:(((names.length:Nat):Int) - 1 - (i:Nat))=((names.length - 1 - i:Nat):Int):=by omega
  refine⟨_,rfl,_,rfl,_,rfl,_,_,rfl,rfl,_,_,rfl,rfl,(by show(0:Int)<=_;omega),_,_,rfl,rfl,rfl,_,rfl,?_⟩;have fm:((List.range (i+1)).filterMap fun i=>if x.testBit (names.length - 1 - i)=true then names[i]? else none)=((List.range i).filterMap fun i=>if x.testBit (names.length - 1 - i)=true then names[i]? else none)++(if x.testBit (names.length - 1 - i)=true then [names[i]] else []):=by
   rw[hCq,hCp];congr 1;by_cases b:x.testBit (names.length - 1 - i)=true
   ·simp[b,hA2 hi]
   ·simp[b]
  have sz:=hBp (fun i=>if x.testBit (names.length - 1 - i)=true then names[i]? else none) (List.range i);rw[hB0]at sz;have key:(decide (V.int (Builtin.bitAnd ((x:Int) / 2^(((names.length:Nat):Int) - 1 - (i:Nat)).toNat) 1)=V.int 1)=true)↔x.testBit (names.length - 1 - i)=true:=by
   rw[decide_eq_true_iff,V.int.injEq,k,hAz,qE3];by_cases b:x.testBit (names.length - 1 - i)=true
   ·simp[b]
   ·simp[b]
  refine ite2 (fun c=>?_) (fun c=>?_)
  ·have b:=key.mp c;refine⟨_,rfl,by rw[hA1];exact qAi (by omega),nxt hi ⟨e2,?_⟩⟩;rw[fm,if_pos b,hA3,gd];rfl
  ·have b:¬x.testBit (names.length - 1 - i)=true:=fun z=>c (key.mpr z)
   refine nxt hi ⟨e2,?_⟩;rw[fm,if_neg b,hCo]
 ·rintro ys H' ⟨e,rfl⟩ r hr';exact q r _ (e.trans (Ext.new hr' _)) (e.none hr') upd_same
end
def dsF(xs:List Nat):List Nat:=(red xs).mergeSort fun a b=>decide (b<=a)
theorem qG5(l:List Nat):(l.mergeSort fun a b=>decide (b<=a)).Pairwise fun a b=>b<=a:=by
 refine hDr (fun {a b} h=>of_decide_eq_true h) (List.pairwise_mergeSort (le:=fun a b:Nat=>decide (b<=a)) (fun a b c h1 h2=>?_) (fun a b=>?_) _)
 ·exact decide_eq_true (hAq (of_decide_eq_true h2) (of_decide_eq_true h1))
 ·rcases Nat.le_total a b with h|h
  ·rw[hDl];exact .inr (decide_eq_true h)
  ·rw[hDl];exact .inl (decide_eq_true h)
theorem qL3{M l:List Nat}(p:M.Perm l)(d:M.Pairwise fun a b=>b<=a):M=l.mergeSort fun a b=>decide (b<=a):=qG4 d (qG5 l) (p.trans (hCj _ _).symm)
theorem zBo{xs:List Nat}{x:Nat}:x∈dsF xs↔x∈red xs:=(hCj _ _).mem_iff
theorem qWv(xs:List Nat):(dsF xs).length=(red xs).length:=(hCj _ _).length_eq
theorem zCu{xs:List Nat}:∀s∈dsF xs,s≠0:=fun s hs=>(qEg xs).nz s (zBo.mp hs)
def shF(S gs:List Nat):List Nat:=dsF (S.map fun e=>qFb gs (gs.filter (crB S e)))
def qP0:Sp:=fun vs H Q _=>∃(p g:Addr) (S gs:List Nat),vs=[.ref p,.ref g]/\LsN H p S/\LsN H g gs/\(∀s∈S,s≠0)/\S.length<=12/\gs.length<=12/\∀r H',Ext H H'->H r=none->LsN H' r (shF S gs)->Q (.ref r) H'
abbrev shN:List Str:=["steps","groups","crossed_ones"]
section
variable{P:Program}{w:World}{K:PySem.W.Frag}{mg:Str->Option Value}{base:Heap}{f f1 f2 f3 f4:Addr}{fd fd1 fd2 fd3 fd4:FuncData}
theorem qQh:FnScope shN ["steps","groups"] (qAe qHm):=⟨rfl,rfl,rfl,by decide +kernel,rfl,by decide +kernel,by decide +kernel⟩
theorem qUh(F:Fun K "share_masks" "share_masks" qHm f fd)(G1:Cl P w K mg base CX0 3 f1 fd1 ["steps","even","group"] qZ5 "is_crossed")
  (G2:Cl P w K mg base CX0 1 f2 fd2 ["names","row"] qP5 "mask_of")
  (G3:Cl P w K mg base CX0 2 f3 fd3 ["masks"] qP2 "reduced"):FnOk P w K mg base CX0 4 f fd ["steps","groups"] qP0:=by
 refine F.ok qQh (fun vs H Q E h=>?_) (fun cdv A outer s H vs Q E hr h=>?_)
 ·obtain⟨p,g,S,gs,rfl,_⟩:=h;rfl
 obtain⟨p,g,S,gs,rfl,hp,hg,nz,lS,lg,q⟩:=h;have hr1:=hr.mono (j:=1) (by decide);have hr2:=hr.mono (j:=2) (by decide);refine⟨_,qAc (qEi (i:=2) (N:=shN) (sc:=qAe qHm) (N':=["step","groups","steps"]) (sub:=[none,some 1,some 0]) rfl rfl (CmpOk.of (by decide +kernel)) rfl (qAq (pv 0))
   (fun C s H fp=>⟨qAg (i:=0) (by show(["step","groups","steps"]:List Str).Nodup;decide) rfl (Or.inr rfl),qAz,
    qBf (N:=["step","groups","steps"]) (sc:=qXt _ (qAe qHm)) (N':=["group","steps","step"]) (sub:=[none,some 2,some 0]) rfl rfl (CmpOk.of (by decide +kernel)) rfl (show PI _ _ _ (qU1 K (qPe 1)) from qAq (pv 1))
     (fun C s H fp=>⟨qAg (i:=0) (by show(["group","steps","step"]:List Str).Nodup;decide) rfl (Or.inl rfl),qBl (qDe (qAx G1 hr rfl .nil qAv (qAa (pv 1) (qAa (pv 2) (qAa (pv 0) qAb))))),pv 0⟩)⟩)
   qQh.nd rfl (Or.inl rfl))
  (qAf (qAt (qAx G3 hr2 rfl .nil qAv (qAa
   (qBf (N:=shN) (sc:=qAe qHm) (N':=["some","groups"]) (sub:=[none,some 1]) rfl rfl (CmpOk.of (by decide +kernel)) rfl (qAq (pv 2))
    (fun C s H fp=>⟨qAg (i:=0) (by show(["some","groups"]:List Str).Nodup;decide) rfl (Or.inl rfl),qAz,qAx G2 hr1 rfl .nil qAv (qAa (pv 1) (qAa (pv 0) qAb))⟩)) qAb)))),?_⟩
 refine⟨_,rfl,p,rfl,⟨_,SqL.of hp⟩,?_⟩;refine qAr (xs:=S.map iV) (fun j ys H2=>Ext H H2/\∃as:List Addr,ys=as.map V.ref/\Paired (fun a x=>LsN H2 a (gs.filter (crB S x))) as (S.take j)) ⟨Ext.refl _,[],rfl,.nil⟩ (fun j ys H2 _ h=>SqL.of (h.1 _ _ hp)) ?_ ?_
 ·rintro j v ys H2 hx ⟨e2,as,rfl,all⟩;obtain⟨x,rfl,hx'⟩:=qBz hx;have hj:=qAy hx';have la:=all.length;rw[hAh]at la;refine⟨Sle.set _ (Sle.refl _) (fun u z=>by cases z),iteT (B:=False) ?_⟩;refine⟨_,rfl,g,rfl,⟨_,SqL.of (e2 _ _ hg)⟩,?_⟩;refine qAr (xs:=gs.map iV) (fun i ys3 H3=>H3=H2/\ys3=((gs.take i).filter (crB S x)).map iV) ⟨rfl,rfl⟩ (fun i ys3 H3 _ h=>by rw[h.1];exact SqL.of (e2 _ _ hg)) ?_ ?_
  ·rintro i v3 ys3 H3 hy ⟨rfl,rfl⟩;obtain⟨y,rfl,hy'⟩:=qBz hy;have hi:=qAy hy';have sz:=hAx (crB S x) (gs.take i);rw[hAh]at sz;refine⟨Sle.set _ (Sle.refl _) (fun u z=>by cases z),_,rfl,_,rfl,_,rfl,p,S,x,y,rfl,e2 _ _ hp,nz,crB S x y,rfl,ite2 (fun c=>?_) (fun c=>?_)⟩
   ·refine⟨_,rfl,by rw[hA1];exact qAi (by omega),nxt (qAy hy) ⟨rfl,?_⟩⟩;rw[qAm hy',hCg,hA3,List.filter_cons_of_pos c];rfl
   ·refine nxt (qAy hy) ⟨rfl,?_⟩;rw[qAm hy',hCg,List.filter_cons_of_neg c];show _=((gs.take i).filter (crB S x)++[]).map iV;rw[hCo]
  ·rintro ys3 H3 ⟨rfl,rfl⟩ l hl;rw[show gs.take (gs.map iV).length=gs by rw[hA1,hA5 (hA7 _)]];have n1:=Ext.new hl (.lst ((gs.filter (crB S x)).map iV));refine⟨by rw[hA1];exact qAi (by omega),nxt (qAy hx) ⟨e2.trans n1,as++[l],by rw[hA3];rfl,?_⟩⟩;rw[qAm hx'];exact Paired.snoc (Paired.mapP all fun a x z=>n1 _ _ z) upd_same
 ·rintro ys H2 ⟨e2,as,rfl,all⟩ co hco;rw[hA1,hA5 (hA7 _)]at all;have la:=all.length;have n2:=Ext.new hco (.lst (as.map V.ref));have E2:=e2.trans n2;refine⟨_,rfl,co,rfl,⟨_,SqL.of upd_same⟩,?_⟩;refine qAr (xs:=as.map V.ref) (fun j ys H3=>H3=upd H2 co (.lst (as.map V.ref))/\ys=((S.take j).map fun e=>qFb gs (gs.filter (crB S e))).map iV) ⟨rfl,rfl⟩ (fun j ys H3 _ h=>by rw[h.1];exact SqL.of upd_same) ?_ ?_
  ·rintro j v ys H3 hx ⟨rfl,rfl⟩;obtain⟨a,rfl,ha⟩:=qBk hx;obtain⟨x,hx',hax⟩:=qAw all ha;have hj:=qAy ha;refine⟨Sle.set _ (Sle.refl _) (fun u z=>by cases z),iteT (B:=False) ⟨_,rfl,_,rfl,g,a,gs,_,rfl,E2 _ _ hg,n2 _ _ hax,?_,nxt (qAy hx) ⟨rfl,?_⟩⟩⟩
   ·rw[hA1,hA1,hAh];exact qAi (by omega)
   ·rw[qAm hx',hA3,hA3];rfl
  ·rintro ys H3 ⟨rfl,rfl⟩ l hl;rw[hA1,la,hA5 (hA7 _)];have n3:=Ext.new hl (.lst ((S.map fun e=>qFb gs (gs.filter (crB S e))).map iV));refine⟨l,_,rfl,upd_same,by rw[hA1];omega,fun r M H4 e4 r0 hM pM dM=>?_⟩;rw[qL3 pM dM]at hM;exact q r H4 (E2.trans (n3.trans e4)) ((E2.trans n3).none r0) hM
end
theorem _root_.PySem.Paired.app{α β:Type}{R:α->β->Prop}:∀ {as as':List α} {bs bs':List β},Paired R as bs->Paired R as' bs'->Paired R (as++as') (bs++bs')
 |_,_,_,_,.nil,h=>h
 |_,_,_,_,.cons a b,h=>.cons a (PySem.Paired.app b h)
theorem qF7{n:Nat}(h:n<9000):n<sizeLine:=hAi h (by decide)
def gro(B:List Nat)(c:Nat):List Nat:=if red1 B c=0 then B else B++[red1 B c]
def fC(S:List Nat)(i k:Nat):Option Nat:=if (S.getD k 0).testBit i=true then some (2^k) else none
theorem zBl(S:List Nat)(i j:Nat):[j].filterMap (fC S i)=if (S.getD j 0).testBit i=true then [2^j] else []:=by
 by_cases b:(S.getD j 0).testBit i=true
 ·rw[if_pos b,hBf,show fC S i j=some (2^j) from if_pos b];rfl
 ·rw[if_neg b,hBf,show fC S i j=none from if_neg b];rfl
def qZq(S:List Nat)(i:Nat):Nat:=((List.range S.length).filterMap (fC S i)).sum
def bsF(S:List Nat):Nat->List (List Nat)
 |0=>[[]]
 |i+1=>bsF S i++(bsF S i).map fun B=>gro B (qZq S i)
def wF(m:Nat)(S:List Nat):List Nat:=(bsF S m).map List.length
theorem zBg{B:List Nat}{c:Nat}(h:∀s∈B,s≠0):∀s∈gro B c,s≠0:=by
 unfold gro;split
 ·exact h
 ·rename_i n;intro s hs;rcases hAj.mp hs with z|z
  ·exact h s z
  ·rw[hAd]at z;rw[z];exact n
theorem qZa(B:List Nat)(c:Nat):(gro B c).length<=B.length+1:=by
 unfold gro;split
 ·omega
 ·rw[hAa];exact hA7 _
theorem qOi(S:List Nat):∀i,(∀B∈bsF S i,(∀s∈B,s≠0)/\B.length<=i)/\(bsF S i).length=2^i
 |0=>⟨fun B hB=>by
   have:B∈[([]:List Nat)]:=hB;rw[hAd]at this;subst this;exact⟨fun s hs=>(by cases hs),hA7 _⟩,rfl⟩
 |i+1=>by
  obtain⟨h1,h2⟩:=qOi S i;refine⟨fun B hB=>?_,?_⟩
  ·have hB:B∈bsF S i++(bsF S i).map fun B=>gro B (qZq S i):=hB
   rcases hAj.mp hB with z|z
   ·exact⟨(h1 B z).1,Nat.le_succ_of_le (h1 B z).2⟩
   ·obtain⟨B',hB',rfl⟩:=hAg.mp z;exact⟨zBg (h1 B' hB').1,hAq (qZa _ _) (hC7 (h1 B' hB').2)⟩
  ·show(bsF S i++(bsF S i).map fun B=>gro B (qZq S i)).length=_;rw[hAa,hA1,h2,hDu];omega
def qP9:Sp:=fun vs H Q _=>∃(b:Addr) (B:List Nat) (c:Nat),vs=[.ref b,iV c]/\LsN H b B/\(∀s∈B,s≠0)/\B.length<=100/\∀r H',Ext H H'->LsN H' r (gro B c)->Q (.ref r) H'
def qMl:Sp:=fun vs H Q _=>∃(p:Addr) (m:Nat) (S:List Nat),vs=[.ref p,iV m]/\m<=12/\S.length<=12/\LsN H p S/\∀r H',Ext H H'->H r=none->LsN H' r (wF m S)->Q (.ref r) H'
section
variable{P:Program}{w:World}{K:PySem.W.Frag}{mg:Str->Option Value}{base:Heap}{f f1 f2 f3 f4:Addr}{fd fd1 fd2 fd3 fd4:FuncData}
theorem qQj:FnScope ["base","column","fresh"] ["base","column"] (qAe qQn):=⟨rfl,rfl,rfl,by decide +kernel,rfl,by decide +kernel,by decide +kernel⟩
theorem qUq(F:Fun K "grown" "grown" qQn f fd)(G1:Cl P w K mg base CX0 1 f1 fd1 ["mask","kept"] qMp "lessened"):FnOk P w K mg base CX0 2 f fd ["base","column"] qP9:=by
 refine F.ok qQj (fun vs H Q E h=>?_) (fun cdv A outer s H vs Q E hr h=>?_)
 ·obtain⟨b,B,c,rfl,_⟩:=h;rfl
 obtain⟨b,B,c,rfl,hB,nz,lB,q⟩:=h;refine⟨_,qAc (qAj (i:=2) qQj.nd rfl (Or.inl rfl) (qAx G1 hr rfl .nil qAv (qAa (pv 1) (qAa (pv 0) qAb))))
  (qAf (qAt (qDq (qAp qB1 (pv 2) qAd (qAu _)) (pv 0) (qAh qB5 (pv 0) (qA4 (qAa (pv 2) qAb)))))),?_⟩
 refine⟨_,rfl,_,rfl,c,b,B,rfl,hB,nz,?_⟩;refine⟨_,rfl,rfl,_,rfl,ite2 (fun d=>?_) (fun d=>?_)⟩
 ·have d':red1 B c=0:=by
   have:((red1 B c:Nat):Int)=0:=by simpa using d
   omega
  refine⟨_,rfl,q b H (Ext.refl _) ?_⟩;unfold gro;rw[if_pos d'];exact hB
 ·have d':¬red1 B c=0:=fun z=>d (by rw[z];decide +kernel)
  refine⟨_,rfl,_,rfl,(by show 1<=sizeLine;decide),fun l hl=>?_⟩;have n1:=Ext.new hl (.lst [iV (red1 B c)]);refine⟨b,l,_,_,rfl,rfl,n1 _ _ hB,upd_same,?_,fun r hr'=>q r _ (n1.trans (Ext.new hr' _)) ?_⟩
  ·rw[hA1];exact hB1 (qAi (by show B.length+1<=1000;omega))
  ·unfold gro LsN;rw[if_neg d',upd_same,hA3];rfl
abbrev wiN:List Str:=["steps","many","bases","place","column"]
theorem qEd:FnScope wiN ["steps","many"] (qAe qE4):=⟨rfl,rfl,rfl,by decide +kernel,rfl,by decide +kernel,by decide +kernel⟩
theorem qRc(F:Fun K "widths" "widths" qE4 f fd)(G1:Cl P w K mg base CX0 2 f1 fd1 ["base","column"] qP9 "grown")(mr:mg "range" = none)(msu:mg "sum" = none)(me:mg "enumerate" = none)(ml:mg "len" = none):FnOk P w K mg base CX0 3 f fd ["steps","many"] qMl:=by
 refine F.ok qEd (fun vs H Q E h=>?_) (fun cdv A outer s H vs Q E hr h=>?_)
 ·obtain⟨p,m,S,rfl,_⟩:=h;rfl
 obtain⟨p,m,S,rfl,m12,lS,hS,q⟩:=h;refine⟨_,qAc (qAj (i:=2) qEd.nd rfl (Or.inl rfl) (qA4 (qAa (qA4 qAb) qAb)))
  (qAc (qBb PassesOwn.never rfl (qA8 rfl mr (qAa (pv 1) qAb)) (qAg (i:=3) qEd.nd rfl (Or.inr rfl))
   (qAc (qAj (i:=4) qEd.nd rfl (Or.inr rfl) (qAk (qCm rfl) rfl msu qCo (qAa
    (qBf (N:=wiN) (sc:=qAe qE4) (N':=["at","step","place"]) (sub:=[none,none,some 3]) rfl rfl (CmpOk.of (by decide +kernel)) rfl (qD4 rfl me (qAa (pv 0) qAb))
     (fun C s H fp=>⟨(show PG _ _ (qZb K 2 _) from qB0 rfl (qAs (qAg (i:=0) (by show(["at","step","place"]:List Str).Nodup;decide) rfl (Or.inl rfl)) (qAs (qAg (i:=1) (by show(["at","step","place"]:List Str).Nodup;decide) rfl (Or.inl rfl)) qBe))),
      qBl (qAp qB1 (qAh qBr (qAh qFq (pv 1) (pv 2)) qAd) qAd (qAu _)),qAh qCa qAd (pv 0)⟩)) qAb)))
   (qAf (qAj (i:=2) qEd.nd rfl (Or.inl rfl) (qAh qB5 (pv 2)
    (qBf (N:=wiN) (sc:=qAe qE4) (N':=["base","column"]) (sub:=[none,some 4]) rfl rfl (CmpOk.of (by decide +kernel)) rfl (qAq (pv 2))
     (fun C s H fp=>⟨qAg (i:=0) (by show(["base","column"]:List Str).Nodup;decide) rfl (Or.inl rfl),qAz,qAx G1 hr rfl .nil qAv (qAa (pv 0) (qAa (pv 1) qAb))⟩)))))))
  (qAf (qAt (qBf (N:=wiN) (sc:=qAe qE4) (N':=["base"]) (sub:=[none]) rfl rfl (CmpOk.of (by decide +kernel)) rfl (qAq (pv 2))
   (fun C s H fp=>⟨qAg (i:=0) (by show(["base"]:List Str).Nodup;decide) rfl (Or.inl rfl),qAz,qAk (show qB9 _ _ (fun xs H Q=>∃p ys,xs=[V.ref p]/\(SqL K H p ys\/SqT K H p ys)/\Q (.int ys.length) H) from qAn) rfl ml hAv (qAa (pv 0) qAb)⟩))))),?_⟩
 refine⟨hAo _,fun l0 hl0=>⟨(by show 1<=sizeLine;decide),fun b0 hb0=>?_⟩⟩;have X0:=(Ext.new hl0 (.lst [])).trans (Ext.new hb0 (.lst [V.ref l0]));refine⟨_,rfl,(m:Int),rfl,by omega,by omega,?_⟩;refine qBp (lo:=0) (n:=((m:Nat):Int).toNat) (fun i σ H'=>∃(bs:Addr) (as:List Addr) (x3 x4:Option V),σ=[some (.ref p),some (iV m),some (.ref bs),x3,x4]/\Ext H H'/\H bs=none/\H' bs=some (.lst (as.map V.ref))/\Paired (fun a B=>LsN H' a B) as (bsF S i)) ⟨b0,[l0],_,_,rfl,X0,(Ext.new hl0 (.lst [])).none hb0,upd_same,.cons ((Ext.new hb0 _) _ _ upd_same) .nil⟩ ?_ ?_
 ·rintro i σ H' hi ⟨bs,as,x3,x4,rfl,e,bs0,hbs,pr⟩;have hi':i<m:=by rwa [hAz]at hi
  obtain⟨bok,bln⟩:=qOi S i;have la:as.length=2^i:=by rw[pr.length,bln]
  have pi4:2^i<=2^11:=hBj (by decide) (by omega);refine⟨_,rfl,p,_,rfl,SqL.of (e _ _ hS),?_⟩;rw[hA1];refine qDa (fun j ys H2=>Ext H' H2/\ys=((List.range j).filterMap (fC S i)).map iV) ⟨Ext.refl _,rfl⟩ (fun j ys H2 _ h=>SqL.of (h.1 _ _ (e _ _ hS))) ?_ ?_
  ·rintro j ys H2 T hj ⟨e2,rfl⟩ hT;have gd:(S.map iV).getD j .non=iV (S.getD j 0):=by rw[hA8,hAe,hA8,hA2 hj];rfl
   rw[gd];have e3:=e2.trans (Ext.new hT (.tup [V.int (j:Nat),iV (S.getD j 0)]));refine⟨T,_,rfl,SqT.of upd_same,rfl,_,_,rfl,_,_,rfl,rfl,?_⟩;refine⟨Sle.set _ (Sle.set _ (Sle.refl _) (fun u z=>by cases z)) (fun u z=>by cases z),?_⟩;refine⟨_,rfl,_,rfl,_,_,rfl,rfl,(by show(0:Int)<=_;omega),_,_,rfl,rfl,rfl,_,rfl,?_⟩;have fm:((List.range (j+1)).filterMap (fC S i))=((List.range j).filterMap (fC S i))++(if (S.getD j 0).testBit i=true then [2^j] else []):=by
    rw[hCq,hCp];rw[zBl]
   have sz:=hBp (fC S i) (List.range j);rw[hB0]at sz;have key:(decide (V.int (Builtin.bitAnd (((S.getD j 0:Nat):Int) / 2^((0:Int)+(i:Nat)).toNat) 1)=V.int 1)=true)↔(S.getD j 0).testBit i=true:=by
    rw[decide_eq_true_iff,V.int.injEq,Int.zero_add,hAz,qE3];by_cases b:(S.getD j 0).testBit i=true
    ·simp[b]
    ·simp[b]
   refine ite2 (fun c=>?_) (fun c=>?_)
   ·have b:=key.mp c;refine⟨_,rfl,_,_,rfl,rfl,⟨by omega,by omega,by omega⟩,by rw[hA1];exact qAi (by omega),nxt hj ⟨e3,?_⟩⟩;rw[fm,if_pos b,hA3];show _=_++[iV (2^j)];rw[show iV (2^j)=V.int (1*2^((j:Nat):Int).toNat) from congrArg V.int (qBt j).symm]
   ·have b:¬(S.getD j 0).testBit i=true:=fun z=>c (key.mpr z)
    refine nxt hj ⟨e3,?_⟩;rw[fm,if_neg b,hCo]
  ·rintro ys H2 ⟨e2,rfl⟩ l hl;have n2:=e2.trans (Ext.new hl (.lst (((List.range S.length).filterMap (fC S i)).map iV)));refine⟨l,((List.range S.length).filterMap (fC S i)).map (fun n:Nat=>(n:Int)),rfl,by rw[<-qB6];exact SqL.of upd_same,?_⟩;rw[qCq];rw[show((List.range S.length).filterMap (fC S i)).sum=qZq S i from rfl];have E2:=e.trans n2;refine⟨_,rfl,_,rfl,bs,rfl,⟨_,SqL.of (n2 _ _ hbs)⟩,?_⟩;have pr2:=Paired.mapP pr fun a B z=>n2 _ _ z
   revert E2 n2 pr2;generalize upd H2 l (.lst (((List.range S.length).filterMap (fC S i)).map iV))=H3;intro n2 E2 pr2;refine qAr (xs:=as.map V.ref) (fun j ys H4=>Ext H3 H4/\∃cs:List Addr,ys=cs.map V.ref/\Paired (fun a B=>LsN H4 a B) cs (((bsF S i).take j).map fun B=>gro B (qZq S i))) ⟨Ext.refl _,[],rfl,.nil⟩ (fun j ys H4 _ h=>SqL.of (h.1 _ _ (n2 _ _ hbs))) ?_ ?_
   ·rintro j v ys H4 hx ⟨e4,cs',rfl,pc⟩;obtain⟨a,rfl,ha⟩:=qBk hx;obtain⟨B,hB,hBa⟩:=qAw pr2 ha;have hj:=qAy ha;have bm:=bok B (hAc hB);have lc:=pc.length;rw[hA1,hAh]at lc;refine⟨Sle.set _ (Sle.refl _) (fun u z=>by cases z),iteT (B:=False) ⟨_,rfl,_,rfl,a,B,qZq S i,rfl,e4 _ _ hBa,bm.1,by omega,fun r H5 e5 h5=>⟨?_,nxt (qAy hx) ⟨e4.trans e5,cs'++[r],by rw[hA3];rfl,?_⟩⟩⟩⟩
    ·rw[hA1];exact qF7 (by omega)
    ·rw[qAm hB,hA3];exact Paired.snoc (Paired.mapP pc fun a B z=>e5 _ _ z) h5
   ·rintro ys H4 ⟨e4,cs',rfl,pc⟩ l2 hl2;rw[hA1,show(bsF S i).take as.length=bsF S i from hA5 (by rw[bln,la];exact hA7 _)]at pc;have n5:=Ext.new hl2 (.lst (cs'.map V.ref));have lc:=pc.length;rw[hA1,bln]at lc;have E5:=n2.trans (e4.trans n5);refine⟨bs,l2,_,_,rfl,rfl,E5 _ _ hbs,upd_same,?_,fun b' hb'=>?_⟩
    ·rw[hA1,hA1];exact hB1 (qF7 (by omega))
    have n6:=Ext.new hb' (.lst (as.map V.ref++cs'.map V.ref));refine⟨b',as++cs',_,_,rfl,e.trans (E5.trans n6),(e.trans E5).none hb',by rw[upd_same,hA3],?_⟩;exact Paired.app (Paired.mapP pr fun a B z=>(E5.trans n6) _ _ z) (Paired.mapP pc fun a B z=>(n5.trans n6) _ _ z)
 ·rintro σ H' ⟨bs,as,x3,x4,rfl,e,bs0,hbs,pr⟩;rw[hAz]at pr;obtain⟨bok,bln⟩:=qOi S m;have la:as.length=2^m:=by rw[pr.length,bln]
  refine⟨_,rfl,bs,rfl,⟨_,SqL.of hbs⟩,?_⟩;refine qAr (xs:=as.map V.ref) (fun j ys H2=>H2=H'/\ys=(((bsF S m).take j).map List.length).map iV) ⟨rfl,rfl⟩ (fun j ys H2 _ h=>by rw[h.1];exact SqL.of hbs) ?_ ?_
  ·rintro j v ys H2 hx ⟨rfl,rfl⟩;obtain⟨a,rfl,ha⟩:=qBk hx;obtain⟨B,hB,hBa⟩:=qAw pr ha;have hj:=qAy hB;have p4:2^m<=2^12:=hBj (by decide) m12;refine⟨Sle.set _ (Sle.refl _) (fun u z=>by cases z),iteT (B:=False) ⟨_,rfl,a,_,rfl,.inl (SqL.of hBa),?_,nxt (qAy hx) ⟨rfl,?_⟩⟩⟩
   ·rw[hA1,hA1,hAh];exact qF7 (by omega)
   ·rw[qAm hB,hA3,hA3,hA1];rfl
  ·rintro ys H2 ⟨rfl,rfl⟩ r hr';rw[hA1,la,show(bsF S m).take (2^m)=bsF S m from hA5 (by rw[bln];exact hA7 _)];exact q r _ (e.trans (Ext.new hr' _)) (e.none hr') upd_same
end
end My
namespace L2
open PySem PySem.Spec PyProof.Rows
def zB6:TE:=fun _ _ _=>False
theorem zAq{X:Cx}{e:Expr}:PE X e zB6:=by
 intro pins s σ H Q I h;exact h.elim
end L2
namespace My
open PySem L2
def prB(S:List Nat)(m x:Nat):Bool:=decide ((wF m S).getD x 0+(wF m S).getD ((2^m - 1)^^^x) 0=S.length+1) && (!sgl x && !sgl ((2^m - 1)^^^x))
def fpF(S:List Nat)(m:Nat):Nat:=((List.range (2^(m - 1))).find? (prB S m)).getD 0
def kiF(S:List Nat)(m:Nat):Str:=if S.length=1 then "ring" else if S.length+1=m then "bundle" else "whole"
theorem qSe{p:Nat->Bool}{i:Nat}:∀ {N:Nat},i<N->p i=true->(∀x,x<i->p x=false)->(List.range N).find? p=some i:=fun {N} hi hp ho=>by
 rw[List.find?_eq_some_iff_append];refine⟨hp,List.range i,(List.range' (i+1) (N - 1 - i)),?_,fun a ha=>?_⟩
 ·rw[List.range_eq_range',List.range_eq_range',show N=i+(1+(N - 1 - i)) by omega,<-List.range'_append_1];congr 1;rw[Nat.zero_add,show 1+(N - 1 - i)=(N - 1 - i)+1 by omega,List.range'_succ];congr 2;omega
 ·rw[ho a (hB6.mp ha)];rfl
theorem qSf{p:Nat->Bool}{N:Nat}(ho:∀x,x<N->p x=false):(List.range N).find? p=none:=by
 rw[List.find?_eq_none];intro x hx z;rw[ho x (hB6.mp hx)]at z;cases z
def qQa:Sp:=fun vs H Q _=>∃(p:Addr) (m:Nat) (S:List Nat),vs=[.ref p,iV m]/\1<=m/\m<=12/\S.length<=12/\LsN H p S/\∀H',Ext H H'->Q (iV (fpF S m)) H'
def qV2:Sp:=fun vs H Q _=>∃(p:Addr) (m:Nat) (S:List Nat),vs=[.ref p,iV m]/\2<=m/\LsN H p S/\Q (.str (kiF S m)) H
section
variable{P:Program}{w:World}{K:PySem.W.Frag}{mg:Str->Option Value}{base:Heap}{f f1 f2 f3 f4:Addr}{fd fd1 fd2 fd3 fd4:FuncData}
abbrev fpN:List Str:=["steps","many","whole","met","some"]
theorem qIf:FnScope fpN ["steps","many"] (qAe qQo):=⟨rfl,rfl,rfl,by decide +kernel,rfl,by decide +kernel,by decide +kernel⟩
theorem qUr(F:Fun K "first_parting" "first_parting" qQo f fd)(G1:Cl P w K mg base CX0 3 f1 fd1 ["steps","many"] qMl "widths")
  (G2:Cl P w K mg base CX0 2 f2 fd2 ["steps","one","rest","met"] qMm "splits") (mr:mg "range" = none):FnOk P w K mg base CX0 4 f fd ["steps","many"] qQa:=by
 refine F.ok qIf (fun vs H Q E h=>?_) (fun cdv A outer s H vs Q E hr h=>?_)
 ·obtain⟨p,m,S,rfl,_⟩:=h;rfl
 obtain⟨p,m,S,rfl,m1,m12,lS,hS,q⟩:=h;have hr2:=hr.mono (j:=2) (by decide);refine⟨_,(qAc (qAj (i:=2) qIf.nd rfl (Or.inl rfl) (qAh qCu (qAh qCa qAd (pv 1)) qAd)) (qAc (qAj (i:=3) qIf.nd rfl (Or.inl rfl) (qAx G1 hr rfl .nil qAv (qAa (pv 0) (qAa (pv 1) qAb)))) (qAc (qBb PassesOwn.never rfl (qA8 rfl mr (qAa (qAh qCa qAd (qAh qCu (pv 1) qAd)) qAb)) (qAg (i:=4) qIf.nd rfl (Or.inl rfl)) (qAf (qBi (qDe (qAx G2 hr2 rfl .nil qAv (qAa (pv 0) (qAa (pv 4) (qAa (qAh qCt (pv 2) (pv 4)) (qAa (qAh qA6 (qBg qBv (pv 3) (pv 4) (fun _ _=>rfl)) (qBg qBv (pv 3) (qAh qCt (pv 2) (pv 4)) (fun _ _=>rfl))) qAb)))))) (qAf (qAt (pv 4))) qA1))) (qAf (qAt qAd))))),?_⟩;refine⟨_,rfl,_,_,rfl,rfl,⟨by omega,by omega,by decide⟩,_,_,rfl,rfl,?_⟩;refine⟨_,rfl,_,rfl,p,m,S,rfl,m12,lS,hS,fun me H1 e1 me0 hme=>?_⟩;have hS1:LsN H1 p S:=e1 _ _ hS;have p1:=hD9 (n:=m);have wh:(1:Int)*2^((m:Nat):Int).toNat - 1=(((2^m - 1:Nat)):Int):=by
  rw[qBt];omega
 refine⟨_,rfl,_,_,rfl,rfl,_,_,rfl,rfl,⟨by omega,by omega,by decide⟩,?_⟩;have rg:(1:Int)*2^(((m:Nat):Int) - 1).toNat=(((2^(m - 1):Nat)):Int):=by
  rw[show((m:Nat):Int) - 1=((m - 1:Nat):Int) by omega];exact qBt _
 have r2:2^(m - 1)<=2^11:=hBj (by decide) (by omega);have lw:(wF m S).length=2^m:=by unfold wF;rw[hA1];exact(qOi S m).2
 refine⟨_,rfl,?_,?_,?_⟩
 ·show -(2^62)<=(1:Int)*2^(((m:Nat):Int) - 1).toNat;rw[rg];exact Int.le_trans (by decide) (hCs _)
 ·show(1:Int)*2^(((m:Nat):Int) - 1).toNat<2^62;rw[rg];exact Int.lt_of_le_of_lt (Int.ofNat_le.mpr r2) (by decide)
 refine qBp (lo:=0) (n:=((1:Int)*2^(((m:Nat):Int) - 1).toNat).toNat) (fun i σ H'=>H'=H1/\(∀x,x<i->prB S m x=false)/\∃x4:Option V,σ=[some (.ref p),some (iV m),some (.int ((1:Int)*2^((m:Nat):Int).toNat - 1)),some (.ref me),x4]) ⟨rfl,fun x h=>absurd h (hC3 _),_,rfl⟩ ?_ ?_
 ·rintro i σ H' hi ⟨rfl,ho,x4,rfl⟩;rw[rg,hAz]at hi;rw[wh];have z0:(0:Int)+(i:Nat)=((i:Nat):Int):=Int.zero_add _;rw[z0];have im:i<2^m:=hAi hi (hBj (by decide) (by omega));have xm:(2^m - 1)^^^i<2^m:=hC8 (by omega) im;have gw:∀ {k:Nat},k<2^m->((wF m S).map iV)[k]?=some (iV ((wF m S).getD k 0)):=fun {k} hk=>by
   rw[hAe,hA8,hA2 (by rw[lw];exact hk)];rfl
  have at1:atI ((wF m S).map iV) ((i:Nat):Int)=some (iV ((wF m S).getD i 0)):=qA0 (gw im);have at2:atI ((wF m S).map iV) (Builtin.bitXor (((2^m - 1:Nat)):Int) ((i:Nat):Int))=some (iV ((wF m S).getD ((2^m - 1)^^^i) 0)):=by
   rw[qBx];exact qA0 (gw xm)
  refine⟨_,rfl,_,rfl,_,rfl,_,rfl,_,_,rfl,rfl,_,rfl,_,rfl,me,_,_,_,rfl,rfl,SqL.of hme,at1,_,rfl,_,rfl,_,rfl,_,_,rfl,rfl,me,_,_,_,rfl,rfl,SqL.of hme,at2,_,_,rfl,rfl,?_⟩;refine⟨p,S,i,(2^m - 1)^^^i,(wF m S).getD i 0+(wF m S).getD ((2^m - 1)^^^i) 0,?_,hS1,prB S m i,rfl,ite2 (fun c=>?_) (fun c=>?_)⟩
  ·show [V.ref p,V.int (i:Nat),V.int (Builtin.bitXor (((2^m - 1:Nat)):Int) ((i:Nat):Int)),V.int ((((wF m S).getD i 0:Nat):Int)+(((wF m S).getD ((2^m - 1)^^^i) 0:Nat):Int))]=_;rw[qBx,<-Int.natCast_add]
  ·refine⟨_,rfl,?_⟩;have e:fpF S m=i:=by unfold fpF;rw[qSe hi c ho];rfl
   have:=q _ e1;rw[e]at this;exact this
  ·refine⟨rfl,fun x hx=>?_,_,rfl⟩;by_cases e:x=i
   ·rw[e];cases h:prB S m i with|false=>rfl|true=>exact absurd h c
   ·exact ho x (by omega)
 ·rintro σ H' ⟨rfl,ho,x4,rfl⟩;rw[rg,hAz]at ho;have e:fpF S m=0:=by unfold fpF;rw[qSf ho];rfl
  have:=q _ e1;rw[e]at this;exact this
theorem zAc:FnScope ["steps","many"] ["steps","many"] (qAe qXm):=⟨rfl,rfl,rfl,by decide +kernel,rfl,by decide +kernel,by decide +kernel⟩
theorem qYt(F:Fun K "kind_of" "kind_of" qXm f fd)(ml:mg "len" = none):FnOk P w K mg base CX0 1 f fd ["steps","many"] qV2:=by
 refine F.ok zAc (fun vs H Q E h=>?_) (fun cdv A outer s H vs Q E hr h=>?_)
 ·obtain⟨p,m,S,rfl,_⟩:=h;rfl
 obtain⟨p,m,S,rfl,m2,hS,q⟩:=h;refine⟨_,(qAc (qBi (qAp qB1 (pv 1) qAd (qAu _)) (qAf (qAt zAq)) qA1) (qAc (qBi (qAp qB1 (qAk qAn rfl ml hAv (qAa (pv 0) qAb)) qAd (qAu _)) (qAf (qAt qDz)) qA1) (qAf (qAt (qDq (qAp qB1 (qAk qAn rfl ml hAv (qAa (pv 0) qAb)) (qAh qCu (pv 1) qAd) (qAu _)) qDz qDz))))),?_⟩;have n1:decide (iV m=V.int 1)=false:=decide_eq_false fun z=>by have:=V.int.inj z;omega
 refine⟨_,rfl,rfl,_,rfl,?_⟩;rw[show decide (iV m=V.int 1)=false from n1];refine qHa ?_;refine⟨_,rfl,p,_,rfl,.inl (SqL.of hS),rfl,_,rfl,?_⟩;unfold kiF at q;rw[show decide (V.int (((S.map iV).length:Nat):Int)=V.int 1)=decide (S.length=1) from decide_eq_decide.mpr ⟨fun h=>by have:=V.int.inj h;rw[hA1]at this;omega,fun h=>by rw[hA1,h];rfl⟩];refine ite2 (fun c=>?_) (fun c=>?_)
 ·rw[if_pos (of_decide_eq_true c)]at q;exact q
 have c':¬S.length=1:=fun z=>c (decide_eq_true z)
 rw[if_neg c']at q;refine⟨_,rfl,p,_,rfl,.inl (SqL.of hS),_,rfl,_,_,rfl,rfl,rfl,_,rfl,?_⟩;rw[show decide (V.int (((S.map iV).length:Nat):Int)=V.int (((m:Nat):Int) - 1))=decide (S.length+1=m) from decide_eq_decide.mpr ⟨fun h=>by have:=V.int.inj h;rw[hA1]at this;omega,fun h=>by rw[hA1];congr 1;omega⟩];refine ite2 (fun d=>?_) (fun d=>?_)
 ·rw[if_pos (of_decide_eq_true d)]at q;exact q
 ·rw[if_neg (fun z=>d (decide_eq_true z))]at q;exact q
end
structure Pt(w:Nat)(gs:List Nat):Prop where
 nz:∀g∈gs,g≠0
 di:Dis gs
 su:gs.sum=w
theorem Dis.perm{a b:List Nat}(h:Dis a)(p:a.Perm b):Dis b:=(p.pairwise_iff (fun {x y} z=>by rw[Nat.and_comm];exact z)).mp h
theorem Pt.perm{w:Nat}{a b:List Nat}(h:Pt w a)(p:a.Perm b):Pt w b:=⟨fun g hg=>h.nz g (p.mem_iff.mpr hg),h.di.perm p,by rw[<-p.sum_nat];exact h.su⟩
theorem zBq{gs:List Nat}(nz:∀g∈gs,g≠0)(d:Dis gs):gs.Nodup:=hCu (fun {a b} ha hb z e=>by rw[<-e,Nat.and_self]at z;exact nz a ha z) d
theorem Pt.nd{w:Nat}{gs:List Nat}(h:Pt w gs):gs.Nodup:=zBq h.nz h.di
theorem qUs{α:Type}:∀ {l:List α},l.Nodup->∀ {i j:Nat} {a:α},l[i]?=some a->l[j]?=some a->i=j
 |x :: l,nd,0,0,a,_,_=>rfl
 |x :: l,nd,0,j+1,a,h1,h2=>by
  cases hAm h1;exact absurd (hAc (l:=l) (i:=j) h2) (hBg.mp nd).1
 |x :: l,nd,i+1,0,a,h1,h2=>by
  cases hAm h2;exact absurd (hAc (l:=l) (i:=i) h1) (hBg.mp nd).1
 |x :: l,nd,i+1,j+1,a,h1,h2=>congrArg (· + 1) (qUs (hBg.mp nd).2 (i:=i) (j:=j) h1 h2)
theorem qMg{x:Nat}(h:sgl x=false):∃i j,i≠j/\x.testBit i=true/\x.testBit j=true:=by
 have x0:x≠0:=fun z=>by rw[z]at h;exact absurd h (by decide)
 have hl:=hCc x0;by_cases c:∃j,j≠x.log2/\x.testBit j=true
 ·obtain⟨j,h1,h2⟩:=c;exact⟨x.log2,j,Ne.symm h1,hl,h2⟩
 ·have e:x=2^x.log2:=hAt fun i=>by
   rw[hAw];by_cases z:x.log2=i
   ·rw[<-z,hl,decide_eq_true rfl]
   ·rw[decide_eq_false z];cases q:x.testBit i with
    |false=>rfl
    |true=>exact absurd ⟨i,Ne.symm z,q⟩ c
  have:sgl x=true:=by rw[e];exact decide_eq_true (qFo _)
  rw[this]at h;cases h
theorem qWq{α β:Type}{f g:α->Option β}(h:∀a,f a=none\/f a=g a):∀l:List α,(l.filterMap f).Sublist (l.filterMap g)
 |[]=>.slnil
 |a :: l=>by
  have ih:=qWq h l;rw[hBf,hBf];rcases h a with e|e
  ·rw[e];cases g a with
   |none=>exact ih
   |some b=>exact ih.cons b
  ·rw[e];cases g a with
   |none=>exact ih
   |some b=>exact ih.cons₂ b
theorem qWr{α:Type}:∀l:List α,(List.range l.length).filterMap (fun i=>l[i]?)=l
 |[]=>rfl
 |a :: l=>by
  rw[hBu,hDi,hBf,List.filterMap_map];show a :: (List.range l.length).filterMap (fun i=>(a :: l)[i+1]?)=_;congr 1;exact qWr l
theorem qM3(gs:List Nat)(x:Nat):(rowI gs x).Sublist gs:=by
 have:=qWq (f:=fun i=>if x.testBit (gs.length - 1 - i)=true then gs[i]? else none) (g:=fun i=>gs[i]?) (fun i=>by
  by_cases c:x.testBit (gs.length - 1 - i)=true
  ·exact .inr (if_pos c)
  ·exact .inl (if_neg c)) (List.range gs.length)
 rw[qWr]at this;exact this
theorem qIt{gs:List Nat}{x g:Nat}:g∈rowI gs x↔∃i,i<gs.length/\gs[i]?=some g/\x.testBit (gs.length - 1 - i)=true:=by
 unfold rowI;rw[hCr];constructor
 ·rintro⟨i,hi,h⟩;by_cases c:x.testBit (gs.length - 1 - i)=true
  ·rw[if_pos c]at h;exact⟨i,hB6.mp hi,h,c⟩
  ·rw[if_neg c]at h;cases h
 ·rintro⟨i,hi,h,c⟩;exact⟨i,hB6.mpr hi,by rw[if_pos c];exact h⟩
def outF(gs inn:List Nat):List Nat:=gs.filter fun g=>!decide (g∈inn)
theorem qC1{gs:List Nat}(nd:gs.Nodup)(x:Nat):gs.Perm (rowI gs x++outF gs (rowI gs x)):=by
 have ni:(rowI gs x).Nodup:=nd.sublist (qM3 gs x);refine(hCi nd ?_).mpr fun g=>?_
 ·rw[List.nodup_append];refine⟨ni,nd.filter _,fun a ha b hb e=>?_⟩;have:=(hAn.mp hb).2;rw[<-e,decide_eq_true ha]at this;cases this
 ·rw[hAj];constructor
  ·intro h;by_cases c:g∈rowI gs x
   ·exact .inl c
   ·exact .inr (hAn.mpr ⟨h,by rw[decide_eq_false c];rfl⟩)
  ·rintro(h|h)
   ·exact(qM3 gs x).subset h
   ·exact(hAn.mp h).1
theorem qVk{l:List Nat}{a b:Nat}(ha:a∈l)(hb:b∈l)(ne:a≠b):2<=l.length:=by
 match l,ha,hb with
 |[c],ha,hb=>exact absurd ((hAd.mp ha).trans (hAd.mp hb).symm) ne
 |_ :: _ :: _,_,_=>simp
theorem qW0{gs:List Nat}(nd:gs.Nodup){i j:Nat}(hi:i<gs.length)(hj:j<gs.length)(ne:i≠j):gs[gs.length - 1 - i]?=some (gs[gs.length - 1 - i]'(by omega))/\gs[gs.length - 1 - j]?=some (gs[gs.length - 1 - j]'(by omega))/\gs[gs.length - 1 - i]'(by omega)≠gs[gs.length - 1 - j]'(by omega):=by
 refine⟨hA2 _,hA2 _,fun e=>?_⟩;have:=qUs nd (i:=gs.length - 1 - i) (j:=gs.length - 1 - j) (hA2 _) (by rw[e];exact hA2 _);omega
theorem qKj{x m i:Nat}(h:x<2^m)(hb:x.testBit i=true):i<m:=by
 by_cases c:i<m
 ·exact c
 ·rw[hD2 (hAi h (hBj (by decide) (by omega)))]at hb;cases hb
theorem qEb{gs:List Nat}(nd:gs.Nodup){x:Nat}(lt:x<2^gs.length)(h1:sgl x=false)(h2:sgl ((2^gs.length - 1)^^^x)=false):2<=(rowI gs x).length/\2<=(outF gs (rowI gs x)).length/\(rowI gs x).length+(outF gs (rowI gs x)).length=gs.length:=by
 refine⟨?_,?_,?_⟩
 ·obtain⟨i,j,ne,hi,hj⟩:=qMg h1;have li:=qKj lt hi;have lj:=qKj lt hj;obtain⟨a,b,c⟩:=qW0 nd li lj ne;exact qVk (qIt.mpr ⟨_,by omega,a,by rw[show gs.length - 1 - (gs.length - 1 - i)=i by omega];exact hi⟩) (qIt.mpr ⟨_,by omega,b,by rw[show gs.length - 1 - (gs.length - 1 - j)=j by omega];exact hj⟩) c
 ·obtain⟨i,j,ne,hi,hj⟩:=qMg h2;have lt2:(2^gs.length - 1)^^^x<2^gs.length:=hC8 (by have:=hD9 (n:=gs.length);omega) lt;have li:=qKj lt2 hi;have lj:=qKj lt2 hj;obtain⟨a,b,c⟩:=qW0 nd li lj ne;have no:∀ {k:Nat},k<gs.length->((2^gs.length - 1)^^^x).testBit k=true->∀g,gs[gs.length - 1 - k]?=some g->g∈outF gs (rowI gs x):=fun {k} hk hb g hg=>by
   refine hAn.mpr ⟨hAc hg,?_⟩;have:g∉rowI gs x:=fun z=>by
    obtain⟨u,hu,hg',hx⟩:=qIt.mp z;have eu:u=gs.length - 1 - k:=qUs nd hg' hg;rw[eu,show gs.length - 1 - (gs.length - 1 - k)=k by omega]at hx;rw[hAs,hx,Nat.testBit_two_pow_sub_one,decide_eq_true hk]at hb;cases hb
   rw[decide_eq_false this];rfl
  exact qVk (no li hi _ a) (no lj hj _ b) c
 ·have:=(qC1 nd x).length_eq;rw[hAa]at this;exact this.symm
def beF(gs os:List Nat):List Nat:=(gs++[os.sum]).mergeSort fun a b=>decide (b<=a)
theorem qDt(gs os:List Nat):(beF gs os).Perm (gs++[os.sum]):=hCj _ _
theorem qBw(gs os:List Nat):(beF gs os).length=gs.length+1:=by rw[(qDt gs os).length_eq,hAa];rfl
theorem Pt.beside{w:Nat}{a b:List Nat}(h:Pt w (a++b))(nb:b≠[]):Pt w (beF a b):=by
 refine Pt.perm ?_ (qDt a b).symm;obtain⟨d1,d2,d3⟩:=hBl.mp h.di;refine⟨fun g hg=>?_,hBl.mpr ⟨d1,hCf _ _,fun x hx y hy=>?_⟩,?_⟩
 ·rcases hAj.mp hg with z|z
  ·exact h.nz g (hAl _ z)
  ·rw[hAd.mp z];cases b with
   |nil=>exact absurd rfl nb
   |cons c r =>
    have:=h.nz c (hA9 _ hA6);rw[hD6];omega
 ·rw[hAd.mp hy];refine qDh fun i h1 h2=>?_
  obtain⟨c,hc,hb⟩:=(qC4 d2 i).mp h2;exact qCf (d3 x hx c hc) h1 hb
 ·have:=h.su;rw[hDt]at this;rw[hDt,List.sum_singleton];exact this
def paF(S:List Nat):Nat->List Nat->List (Str×List Nat)
 |0,_=>[]
 |k+1,gs=>if fpF (shF S gs) gs.length=0 then [(kiF (shF S gs) gs.length,gs)] else
   paF S k (beF (rowI gs (fpF (shF S gs) gs.length)) (outF gs (rowI gs (fpF (shF S gs) gs.length))))++paF S k (beF (outF gs (rowI gs (fpF (shF S gs) gs.length))) (rowI gs (fpF (shF S gs) gs.length)))
theorem qN2{S:List Nat}{m:Nat}(h:fpF S m≠0):fpF S m<2^m/\sgl (fpF S m)=false/\sgl ((2^m - 1)^^^fpF S m)=false:=by
 unfold fpF at h ⊢;cases e:(List.range (2^(m - 1))).find? (prB S m) with
 |none=>rw[e]at h;exact absurd rfl h
 |some x =>
  have h1:=List.find?_some e;have h2:=hB6.mp (List.mem_of_find?_eq_some e);unfold prB at h1;rw[hCa,hCa,Bool.not_eq_true',Bool.not_eq_true']at h1;exact⟨hAi h2 (hBj (by decide) (by omega)),h1.2.1,h1.2.2⟩
def PtL(H:Hp)(L:Addr)(ps:List (Str×List Nat)):Prop:=∃as:List Addr,H L=some (.lst (as.map V.ref))/\Paired (fun a e=>∃g,H a=some (.tup [.str e.1,.ref g])/\LsN H g e.2) as ps
theorem PtL.ext{H H':Hp}{L:Addr}{ps:List (Str×List Nat)}(h:PtL H L ps)(e:Ext H H'):PtL H' L ps:=by
 obtain⟨as,h1,h2⟩:=h;exact⟨as,e _ _ h1,Paired.mapP h2 fun a x ⟨g,z1,z2⟩=>⟨g,e _ _ z1,e _ _ z2⟩⟩
theorem qIq(S:List Nat):∀(k:Nat) (gs:List Nat),(paF S k gs).length<=2^k
 |0,gs=>hAo _
 |k+1,gs=>by
  unfold paF;split
  ·show 1<=_;exact hD9
  ·rw[hAa,hDu];have h1:=qIq S k (beF (rowI gs (fpF (shF S gs) gs.length)) (outF gs (rowI gs (fpF (shF S gs) gs.length))));have h2:=qIq S k (beF (outF gs (rowI gs (fpF (shF S gs) gs.length))) (rowI gs (fpF (shF S gs) gs.length)));omega
theorem qXb(S gs:List Nat):(shF S gs).length<=S.length:=by
 unfold shF;rw[qWv];have:=qQ0 (S.map fun e=>qFb gs (gs.filter (crB S e)));rw[hA1]at this;exact this
theorem qM6{l:List Nat}{ns:List Int}(pm:ns.Perm (l.map fun n:Nat=>(n:Int)))(od:ns.Pairwise fun a b=>a >= b):ns.map V.int=(l.mergeSort fun a b=>decide (b<=a)).map iV:=by
 obtain⟨M,rfl⟩:∃M:List Nat,ns=M.map (fun n:Nat=>(n:Int)):=by
  refine⟨ns.map Int.toNat,?_⟩;rw[hB5];refine(List.map_id _).symm.trans (hBi fun a ha=>?_);obtain⟨n,_,rfl⟩:=hAg.mp (pm.mem_iff.mp ha);simp
 have pm':M.Perm l:=by
  have:=pm.map Int.toNat;rw[hB5,hB5]at this;have idn:(Int.toNat∘fun n:Nat=>(n:Int))=id:=by funext n;simp
  rw[idn,List.map_id,List.map_id]at this;exact this
 rw[<-qB6];rw[hC4]at od;exact congrArg _ (qL3 pm' (hDr (fun {a b} h=>by omega) od))
def qMr:Sp:=fun vs H Q _=>∃(g o:Addr) (gs os:List Nat),vs=[.ref g,.ref o]/\LsN H g gs/\LsN H o os/\gs.length<=12/\∀r H',Ext H H'->LsN H' r (beF gs os)->Q (.ref r) H'
def qMn(n:Nat):Sp:=fun vs H Q _=>∃(p g:Addr) (S gs:List Nat) (w:Nat),vs=[.ref p,.ref g]/\LsN H p S/\LsN H g gs/\(∀s∈S,s≠0)/\S.length<=12/\Pt w gs/\3<=gs.length/\gs.length<=12/\gs.length<=n+2/\n<=10/\∀L H',Ext H H'->PtL H' L (paF S n gs)->Q (.ref L) H'
section
variable{P:Program}{w:World}{K:PySem.W.Frag}{mg:Str->Option Value}{base:Heap}{f f1 f2 f3 f4 f5:Addr}{fd fd1 fd2 fd3 fd4 fd5:FuncData}
theorem qTx:FnScope ["groups","others"] ["groups","others"] (qAe qLd):=⟨rfl,rfl,rfl,by decide +kernel,rfl,by decide +kernel,by decide +kernel⟩
theorem qRh(F:Fun K "beside" "beside" qLd f fd)(mso:mg "sorted" = none)(msu:mg "sum" = none):FnOk P w K mg base CX0 1 f fd ["groups","others"] qMr:=by
 refine F.ok qTx (fun vs H Q E h=>?_) (fun cdv A outer s H vs Q E hr h=>?_)
 ·obtain⟨g,o,gs,os,rfl,_⟩:=h;rfl
 obtain⟨g,o,gs,os,rfl,hg,ho,lg,q⟩:=h;refine⟨_,(qAf (qAt (qE7 rfl mso (qAa (qAh qB5 (pv 0) (qA4 (qAa (qAk (qCm rfl) rfl msu qCo (qAa (pv 1) qAb)) qAb))) qAb)))),?_⟩;refine⟨_,rfl,_,rfl,o,os.map (fun n:Nat=>(n:Int)),rfl,by rw[<-qB6];exact SqL.of ho,?_⟩;rw[qCq];refine⟨(by show 1<=sizeLine;decide),fun l hl=>?_⟩;have n1:=Ext.new hl (.lst [iV os.sum]);refine⟨g,l,_,_,rfl,rfl,n1 _ _ hg,upd_same,?_,fun r0 hr0=>?_⟩
 ·rw[hA1];exact hB1 (qAi (by show gs.length+1<=1000;omega))
 have n2:=n1.trans (Ext.new hr0 (.lst (gs.map iV++[iV os.sum])));refine⟨r0,(gs++[os.sum]).map (fun n:Nat=>(n:Int)),rfl,?_,by rw[hA1,hAa];show gs.length+1<64;omega,fun r ns hr' pm od=>?_⟩
 ·rw[<-qB6,hA3];exact SqL.of upd_same
 ·refine q r _ (n2.trans (Ext.new hr' _)) ?_;unfold LsN beF;rw[upd_same,qM6 pm od]
abbrev paN:List Str:=["steps","groups","own","some","inner","outer"]
theorem qDo:FnScope paN ["steps","groups"] (qAe qIg):=⟨rfl,rfl,rfl,by decide +kernel,rfl,by decide +kernel,by decide +kernel⟩
theorem qJv(F:Fun K "parted" "parted" qIg f fd)(G1:Cl P w K mg base CX0 4 f1 fd1 ["steps","groups"] qP0 "share_masks")
  (G2:Cl P w K mg base CX0 4 f2 fd2 ["steps","many"] qQa "first_parting")
  (G3:Cl P w K mg base CX0 1 f3 fd3 ["steps","many"] qV2 "kind_of")
  (G4:Cl P w K mg base CX0 1 f4 fd4 ["names","mask"] qVm "row_of")
  (G5:Cl P w K mg base CX0 1 f5 fd5 ["groups","others"] qMr "beside")
  (bF:qMb K fd ["steps","groups"] []) (kF:PySem.W.keepIn K (.ref f)=true) (mF:mg "parted" = some (.ref f)) (ml:mg "len" = none):∀n:Nat,FnOk P w K mg base CX0 (5+n) f fd ["steps","groups"] (qMn n)
 |0=>by
  refine F.ok qDo (fun vs H Q E h=>?_) (fun cdv A outer s H vs Q E hr h=>?_)
  ·obtain⟨p,g,S,gs,w,rfl,_⟩:=h;rfl
  ·obtain⟨p,g,S,gs,w,rfl,_,_,_,_,_,l3,_,l2,_⟩:=h;omega
 |n+1=>by
  have ih:=qJv F G1 G2 G3 G4 G5 bF kF mF ml n;refine F.ok (k:=5+n) qDo (fun vs H Q E h=>?_) (fun cdv A outer s H vs Q E hr h=>?_)
  ·obtain⟨p,g,S,gs,w,rfl,_⟩:=h;rfl
  obtain⟨p,g,S,gs,w,rfl,hp,hg,nz,lS,pt,l3,l12,ln,n10,q⟩:=h;have hr4:=hr.mono (j:=4) (by omega);have hr1:=hr.mono (j:=1) (by omega);refine⟨_,(qAc (qAj (i:=2) qDo.nd rfl (Or.inl rfl) (qAx G1 hr4 rfl .nil qAv (qAa (pv 0) (qAa (pv 1) qAb)))) (qAc (qAj (i:=3) qDo.nd rfl (Or.inl rfl) (qAx G2 hr4 rfl .nil qAv (qAa (pv 2) (qAa (qAk qAn rfl ml hAv (qAa (pv 1) qAb)) qAb)))) (qAc (qBi (qAp qB1 (pv 3) qAd (qAu _)) (qAf (qAt (qA4 (qAa (qA5 (qAa (qAx G3 hr1 rfl .nil qAv (qAa (pv 2) (qAa (qAk qAn rfl ml hAv (qAa (pv 1) qAb)) qAb))) (qAa (pv 1) qAb))) qAb)))) qA1) (qAc (qAj (i:=4) qDo.nd rfl (Or.inr rfl) (qAx G4 hr1 rfl .nil qAv (qAa (pv 1) (qAa (pv 3) qAb)))) (qAc (qEi (i:=5) (N:=paN) (sc:=qAe qIg) (N':=["group","inner"]) (sub:=[none,some 4]) rfl rfl (CmpOk.of (by decide +kernel)) rfl (qAq (pv 1))
   (fun C s H fp=>⟨qAg (i:=0) (by show(["group","inner"]:List Str).Nodup;decide) rfl (Or.inl rfl),qBl (qAp (show OpR _ (compareOp .NotIn) (rIn K true) from qCv) (pv 0) (pv 1) (by with_unfolding_all rfl)),pv 0⟩) qDo.nd rfl (Or.inl rfl)) (qAf (qAt (qAh qB5 (qLn ih hr rfl mF kF bF .nil qAv (qAa (pv 0) (qAa (qAx G5 hr1 rfl .nil qAv (qAa (pv 4) (qAa (pv 5) qAb))) qAb))) (qLn ih hr rfl mF kF bF .nil qAv (qAa (pv 0) (qAa (qAx G5 hr1 rfl .nil qAv (qAa (pv 5) (qAa (pv 4) qAb))) qAb))))))))))),?_⟩
  refine⟨_,rfl,_,rfl,p,g,S,gs,rfl,hp,hg,nz,lS,l12,fun ow H1 e1 ow0 how=>?_⟩;have lo:=qXb S gs;have lgi:(((gs.map iV).length:Nat):Int)=((gs.length:Nat):Int):=by rw[hA1]
  refine⟨_,rfl,_,rfl,g,_,rfl,.inl (SqL.of (e1 _ _ hg)),ow,gs.length,shF S gs,(by rw[lgi];rfl),by omega,l12,by omega,how,fun H2 e2=>?_⟩;have E2:=e1.trans e2;have hg2:=E2 _ _ hg;refine⟨_,rfl,rfl,_,rfl,?_⟩;rw[show decide (iV (fpF (shF S gs) gs.length)=V.int 0)=decide (fpF (shF S gs) gs.length=0) from iv0 _];unfold paF at q;refine ite2 (fun c=>?_) (fun c=>?_)
  ·rw[if_pos (of_decide_eq_true c)]at q;refine⟨_,rfl,_,rfl,g,_,rfl,.inl (SqL.of hg2),ow,gs.length,shF S gs,(by rw[lgi];rfl),by omega,e2 _ _ how,?_⟩;refine⟨_,rfl,(by show 2<=sizeLine;decide),fun T hT=>⟨(by show 1<=sizeLine;decide),fun L hL=>?_⟩⟩;have X3:=Ext.new hT (.tup [V.str (kiF (shF S gs) gs.length),.ref g]);have X4:=Ext.new hL (.lst [V.ref T]);exact q L _ (E2.trans (X3.trans X4)) ⟨[T],upd_same,.cons ⟨g,X4 _ _ upd_same,(X3.trans X4) _ _ hg2⟩ .nil⟩
  have c':¬fpF (shF S gs) gs.length=0:=fun z=>c (decide_eq_true z)
  rw[if_neg c']at q;obtain⟨xl,s1,s2⟩:=qN2 c';revert q xl s1 s2;generalize fpF (shF S gs) gs.length=x;intro q xl s1 s2;obtain⟨t1,t2,t3⟩:=qEb pt.nd xl s1 s2;have sp:=qC1 pt.nd x;refine⟨_,rfl,_,rfl,g,gs,x,rfl,hg2,l12,fun i H3 e3 i0 hi=>?_⟩;have E3:=E2.trans e3;refine⟨_,rfl,g,rfl,⟨_,SqL.of (E3 _ _ hg)⟩,?_⟩;refine qBc (fun z=>!decide (z∈rowI gs x)) (fun z=>z) (E3 _ _ hg) (by omega) (fun z hz C B cc bb=>⟨Sle.set _ (Sle.refl _) (fun u z=>by cases z),?_⟩) ?_
  ·refine⟨_,rfl,_,rfl,i,_,rfl,.inl (SqL.of hi),rfl,qC3 _,_,rfl,?_⟩;rw[show(if true=true then !inV (iV z) ((rowI gs x).map iV) else inV (iV z) ((rowI gs x).map iV))=!decide (z∈rowI gs x) from congrArg (! ·) (qG1 z _)];exact ite2 (fun c=>⟨_,rfl,cc c⟩) (fun c=>bb (hCx _▸c))
  intro o ho;rw[hD8];have ho':upd H3 o (.lst ((outF gs (rowI gs x)).map iV)) o=some (.lst ((outF gs (rowI gs x)).map iV)):=upd_same;have X4:=Ext.new ho (.lst ((outF gs (rowI gs x)).map iV));have E4:=E3.trans X4;have hi4:=X4 _ _ hi;have hp4:=E4 _ _ hp;refine⟨_,rfl,_,rfl,_,rfl,i,o,rowI gs x,outF gs (rowI gs x),rfl,hi4,ho',by omega,fun r1 H5 e5 hr1'=>?_⟩;have E5:=E4.trans e5;have pn:∀ {l:List Nat},2<=l.length->l≠[]:=fun {l} h z=>by rw[z]at h;exact absurd h (by decide)
  refine⟨p,r1,S,beF (rowI gs x) (outF gs (rowI gs x)),w,rfl,E5 _ _ hp,hr1',nz,lS,(pt.perm sp).beside (pn t2),by rw[qBw];omega,by rw[qBw];omega,by rw[qBw];omega,by omega,fun L1 H6 e6 hL1=>?_⟩;have E6:=E5.trans e6;have X6:=e5.trans e6;refine⟨_,rfl,_,rfl,_,rfl,o,i,outF gs (rowI gs x),rowI gs x,rfl,X6 _ _ ho',X6 _ _ hi4,by omega,fun r2 H7 e7 hr2'=>?_⟩;have E7:=E6.trans e7;refine⟨p,r2,S,beF (outF gs (rowI gs x)) (rowI gs x),w,rfl,E7 _ _ hp,hr2',nz,lS,(pt.perm (sp.trans List.perm_append_comm)).beside (pn t1),by rw[qBw];omega,by rw[qBw];omega,by rw[qBw];omega,by omega,fun L2 H8 e8 hL2=>?_⟩;obtain⟨as1,ha1,pa1⟩:=hL1.ext (e7.trans e8);obtain⟨as2,ha2,pa2⟩:=id hL2;have la1:=pa1.length;have la2:=pa2.length;have lp1:=qIq S n (beF (rowI gs x) (outF gs (rowI gs x)));have lp2:=qIq S n (beF (outF gs (rowI gs x)) (rowI gs x));have p10:2^n<=2^10:=hBj (by decide) (by omega);refine⟨L1,L2,_,_,rfl,rfl,ha1,ha2,?_,fun L hL=>?_⟩
  ·rw[hA1,hA1];exact hB1 (qF7 (by omega))
  have X9:=Ext.new hL (.lst (as1.map V.ref++as2.map V.ref));refine q L _ (E7.trans (e8.trans X9)) ⟨as1++as2,by rw[upd_same,hA3],Paired.app (Paired.mapP pa1 fun a x ⟨g,z1,z2⟩=>⟨g,X9 _ _ z1,X9 _ _ z2⟩) (Paired.mapP pa2 fun a x ⟨g,z1,z2⟩=>⟨g,X9 _ _ z1,X9 _ _ z2⟩)⟩
end
theorem Pt.bit{w:Nat}{gs:List Nat}(h:Pt w gs)(i:Nat):w.testBit i=true↔∃g∈gs,g.testBit i=true:=by
 rw[<-h.su];exact qC4 h.di i
theorem Pt.len{w n:Nat}{gs:List Nat}(h:Pt w gs)(hw:w<2^n):gs.length<=n:=by
 have nd:(gs.map Nat.log2).Nodup:=by
  rw[List.Nodup,hC4];exact hCu (fun {a b} ha hb z e=>qCf z (hCc (h.nz a ha)) (by rw[e];exact hCc (h.nz b hb))) h.di
 have:=qRy nd (m:=n) fun x hx=>by
  obtain⟨g,hg,rfl⟩:=hAg.mp hx;exact qKj hw ((h.bit _).mpr ⟨g,hg,hCc (h.nz g hg)⟩)
 rw[hA1]at this;exact this
theorem qRj{g:Nat}(h:g≠0):∃i,g.testBit i=true:=⟨_,hCc h⟩
theorem qZu{gs:List Nat}(nd:gs.Nodup)(l:3<=gs.length)(a b:Nat):∃c∈gs,c≠a/\c≠b:=by
 match gs,nd,l with
 |p :: q :: r :: t,nd,_ =>
  obtain⟨h1,h2⟩:=hBg.mp nd;obtain⟨h3,h4⟩:=hBg.mp h2;have pq:p≠q:=fun z=>h1 (by rw[z];simp)
  have pr:p≠r:=fun z=>h1 (by rw[z];simp)
  have qr:q≠r:=fun z=>h3 (by rw[z];simp)
  by_cases hp:p≠a/\p≠b
  ·exact⟨p,by simp,hp⟩
  ·by_cases hq:q≠a/\q≠b
   ·exact⟨q,by simp,hq⟩
   ·exact⟨r,by simp,by omega,by omega⟩
theorem Pt.two{w:Nat}{gs:List Nat}(h:Pt w gs)(l:3<=gs.length){a b:Nat}(ha:a∈gs)(hb:b∈gs):a ||| b≠w:=fun e=>by
 obtain⟨c,hc,n1,n2⟩:=qZu h.nd l a b;obtain⟨i,hi⟩:=qRj (h.nz c hc);have:=(h.bit i).mpr ⟨c,hc,hi⟩;rw[<-e,hCz,hDl]at this;rcases this with z|z
 ·exact qCf (qEq h.di hc ha n1) hi z
 ·exact qCf (qEq h.di hc hb n2) hi z
theorem Pt.sub{w:Nat}{gs:List Nat}(h:Pt w gs){g i:Nat}(hg:g∈gs)(hi:g.testBit i=true):w.testBit i=true:=(h.bit i).mpr ⟨g,hg,hi⟩
theorem qOe{w g i:Nat}(hs:∀i,g.testBit i=true->w.testBit i=true):(w^^^g).testBit i=true↔w.testBit i=true/\g.testBit i=false:=by
 rw[hAs];have:=hs i;cases h1:w.testBit i <;> cases h2:g.testBit i <;> simp_all
theorem xx(w g:Nat):w^^^(w^^^g)=g:=by rw[<-hC0,hCy,hDo]
def Spr(w:Nat)(a b:List Nat):Prop:=∃x∈a,∃y∈b,x ||| y=w
theorem Spr.symm{w:Nat}{a b:List Nat}(h:Spr w a b):Spr w b a:=by
 obtain⟨x,hx,y,hy,e⟩:=h;exact⟨y,hy,x,hx,by rw[Nat.or_comm];exact e⟩
structure Sh(w:Nat)(gs:List Nat):Prop where
 pt:Pt w gs
 l3:3<=gs.length
theorem Spr.no{w:Nat}{a b:List Nat}(h:Spr w a b)(ha:Sh w a)(hb:Sh w b){g:Nat}(h1:g∈a)(h2:g∈b):False:=by
 obtain⟨x,hx,y,hy,e⟩:=h;by_cases c:x=g
 ·subst c;exact hb.pt.two hb.l3 h2 hy e
 ·by_cases d:y=g
  ·subst d;exact ha.pt.two ha.l3 hx h1 e
  ·obtain⟨i,hi⟩:=qRj (ha.pt.nz g h1);have:=ha.pt.sub h1 hi;rw[<-e,hCz,hDl]at this;rcases this with z|z
   ·exact qCf (qEq ha.pt.di hx h1 c) z hi
   ·exact qCf (qEq hb.pt.di hy h2 d) z hi
theorem qSx{w:Nat}{a b:List Nat}(ha:Sh w a)(hb:Sh w b){g h:Nat}(hg:g∈a)(hg':w^^^g∈b)(hh:h∈a)(hh':w^^^h∈b):g=h:=by
 by_cases c:g=h
 ·exact c
 ·exfalso;obtain⟨k,hk,n1,n2⟩:=qZu ha.pt.nd ha.l3 g h;obtain⟨i,hi⟩:=qRj (ha.pt.nz k hk);have wi:=ha.pt.sub hk hi;have f1:g.testBit i=false:=by
   cases q:g.testBit i with|false=>rfl|true=>exact(qCf (qEq ha.pt.di hk hg n1) hi q).elim
  have f2:h.testBit i=false:=by
   cases q:h.testBit i with|false=>rfl|true=>exact(qCf (qEq ha.pt.di hk hh n2) hi q).elim
  have e1:=(qOe fun j=>ha.pt.sub hg).mpr ⟨wi,f1⟩;have e2:=(qOe fun j=>ha.pt.sub hh).mpr ⟨wi,f2⟩;have ne:w^^^g≠w^^^h:=fun z=>c (by rw[<-xx w g,z,xx])
  exact qCf (qEq hb.pt.di hg' hh' ne) e1 e2
def keF(w:Nat)(a b:List Nat):List Nat:=a.filter fun g=>!decide (w^^^g∈b)
def meF(w:Nat)(a b:List Nat):List Nat:=(keF w a b++keF w b a).mergeSort fun a b=>decide (b<=a)
theorem qEm(w:Nat)(a b:List Nat):(meF w a b).Perm (keF w a b++keF w b a):=hCj _ _
theorem qNw{w:Nat}{a b:List Nat}(ha:Sh w a)(hb:Sh w b){g:Nat}(hg:g∈a)(hg':w^^^g∈b):a.Perm (g :: keF w a b):=by
 refine(hCi ha.pt.nd ?_).mpr fun h=>?_
 ·rw[hBg];refine⟨fun z=>?_,ha.pt.nd.filter _⟩;have:=(hAn.mp z).2;rw[decide_eq_true hg']at this;cases this
 ·rw[hAf];constructor
  ·intro z;by_cases c:w^^^h∈b
   ·exact .inl (qSx ha hb z c hg hg')
   ·exact .inr (hAn.mpr ⟨z,by rw[decide_eq_false c];rfl⟩)
  ·rintro(z|z)
   ·rw[z];exact hg
   ·exact(hAn.mp z).1
theorem zA2{w:Nat}{a b:List Nat}(ha:Sh w a)(hb:Sh w b){g:Nat}(hg:g∈a)(hg':w^^^g∈b):Sh w (meF w a b):=by
 have pa:=qNw ha hb hg hg';have pb:=qNw hb ha hg' (by rw[xx];exact hg);have d1:=ha.pt.di.perm pa;have d2:=hb.pt.di.perm pb;obtain⟨a1,a2⟩:=hB3.mp d1;obtain⟨b1,b2⟩:=hB3.mp d2;have s1:=pa.sum_nat;have s2:=pb.sum_nat;have l1:=pa.length_eq;have l2:=pb.length_eq;rw[hD6,ha.pt.su]at s1;rw[hD6,hb.pt.su]at s2;rw[hBu]at l1 l2;have gs:∀i,g.testBit i=true->w.testBit i=true:=fun i=>ha.pt.sub hg
 have sg:g+(w^^^g)=w:=by
  rw[qMa _ _ _ (hA7 _) (qDh fun i h1 h2=>by rw[((qOe gs).mp h2).2]at h1;cases h1)];refine hAt fun i=>?_
  rw[hCz,hAs];have:=gs i;cases h1:w.testBit i <;> cases h2:g.testBit i
  ·rfl
  ·rw[this h2]at h1;cases h1
  ·rfl
  ·rfl
 have k3:=ha.l3;have k4:=hb.l3;refine⟨Pt.perm ⟨fun h hh=>?_,hBl.mpr ⟨a2,b2,fun x hx y hy=>?_⟩,?_⟩ (qEm w a b).symm,?_⟩
 ·rcases hAj.mp hh with z|z
  ·exact ha.pt.nz h (hAn.mp z).1
  ·exact hb.pt.nz h (hAn.mp z).1
 ·refine qDh fun i h1 h2=>?_
  have wi:=ha.pt.sub (hAn.mp hx).1 h1;have f1:g.testBit i=false:=by
   cases q:g.testBit i with|false=>rfl|true=>exact(qCf (a1 x hx) q h1).elim
  exact qCf (b1 y hy) ((qOe gs).mpr ⟨wi,f1⟩) h2
 ·rw[hDt];omega
 ·rw[(qEm w a b).length_eq,hAa];omega
theorem qY0{w:Nat}{a b t:List Nat}(ha:Sh w a)(hb:Sh w b)(ht:Sh w t)(h1:Spr w a t)(h2:Spr w b t):Spr w (meF w a b) t:=by
 obtain⟨x,hx,y,hy,e⟩:=h1;obtain⟨x',hx',y',hy',e'⟩:=h2;by_cases c:w^^^x∈b
 ·by_cases c':w^^^x'∈a
  ·exfalso;have ex:w^^^x'=x:=qSx ha hb c' (by rw[xx];exact hx') hx c;refine ht.pt.two ht.l3 hy hy' (hAt fun i=>?_);have wy:∀ {z j:Nat},z∈t->z.testBit j=true->w.testBit j=true:=fun {z j}=>ht.pt.sub
   rw[hCz];cases hw:w.testBit i with
   |false =>
    cases q1:y.testBit i with
    |true=>rw[wy hy q1]at hw;cases hw
    |false =>
     cases q2:y'.testBit i with
     |true=>rw[wy hy' q2]at hw;cases hw
     |false=>rfl
   |true =>
    have b1:=congrArg (fun z=>Nat.testBit z i) e;have b2:=congrArg (fun z=>Nat.testBit z i) e';simp only[hCz,hw]at b1 b2;cases q1:x.testBit i with
    |false=>rw[q1,Bool.false_or]at b1;rw[b1];rfl
    |true =>
     have q2:x'.testBit i=false:=by
      rw[<-ex,hAs,hw]at q1;cases q:x'.testBit i with|false=>rfl|true=>rw[q]at q1;cases q1
     rw[q2,Bool.false_or]at b2;rw[b2];cases y.testBit i <;> rfl
  ·exact⟨x',(qEm w a b).mem_iff.mpr (hA9 _ (hAn.mpr ⟨hx',by rw[decide_eq_false c'];rfl⟩)),y',hy',e'⟩
 ·exact⟨x,(qEm w a b).mem_iff.mpr (hAl _ (hAn.mpr ⟨hx,by rw[decide_eq_false c];rfl⟩)),y,hy,e⟩
def Cz(gs s:List Nat):Prop:=∀g∈gs,∃h∈s,∀i,g.testBit i=true->h.testBit i=true
structure PsI(w:Nat)(gs:List Nat)(L:List (Str×List Nat)):Prop where
 sh:∀e∈L,Sh w e.2
 kd:∀e∈L,e.1 = "ring"\/e.1 = "bundle"\/e.1 = "whole"
 cz:∀e∈L,Cz gs e.2
 ap:L.Pairwise fun a b=>Spr w a.2 b.2
theorem zA5(S:List Nat)(m:Nat):kiF S m = "ring"\/kiF S m = "bundle"\/kiF S m = "whole":=by
 unfold kiF;split
 ·exact .inl rfl
 ·split
  ·exact .inr (.inl rfl)
  ·exact .inr (.inr rfl)
theorem qLo{w:Nat}(S:List Nat):∀(k:Nat) {gs:List Nat},Sh w gs->gs.length<=k+2->PsI w gs (paF S k gs)
 |0,gs,h,l=>absurd h.l3 (by omega)
 |k+1,gs,h,l=>by
  unfold paF;split
  ·refine⟨fun e he=>?_,fun e he=>?_,fun e he=>?_,hCf _ _⟩
   ·rw[hAd.mp he];exact h
   ·rw[hAd.mp he];exact zA5 _ _
   ·rw[hAd.mp he];exact fun g hg=>⟨g,hg,fun _ z=>z⟩
  ·rename_i c;obtain⟨xl,s1,s2⟩:=qN2 c;revert xl s1 s2;generalize fpF (shF S gs) gs.length=x;intro xl s1 s2;obtain⟨t1,t2,t3⟩:=qEb h.pt.nd xl s1 s2;have sp:=qC1 h.pt.nd x;revert t1 t2 t3 sp;generalize outF gs (rowI gs x)=out;generalize rowI gs x=inn;intro t1 t2 t3 sp;have pn:∀ {l:List Nat},2<=l.length->l≠[]:=fun {l} h z=>by rw[z]at h;exact absurd h (by decide)
   have P1:=h.pt.perm sp;have P2:=h.pt.perm (sp.trans List.perm_append_comm);have A:=qLo (w:=w) S k (gs:=beF inn out) ⟨P1.beside (pn t2),by rw[qBw];omega⟩ (by rw[qBw];omega);have B:=qLo (w:=w) S k (gs:=beF out inn) ⟨P2.beside (pn t1),by rw[qBw];omega⟩ (by rw[qBw];omega);obtain⟨d1,d2,d3⟩:=hBl.mp P1.di;have co:∀ {a b:List Nat},Dis b->(∀g∈gs,g∈a\/g∈b)->∀ {s:List Nat},Cz (beF a b) s->Cz gs s:=fun {a b} db cov {s} cz g hg=>by
    rcases cov g hg with z|z
    ·exact cz g ((qDt a b).mem_iff.mpr (hAl _ z))
    ·obtain⟨h',hh,hi⟩:=cz b.sum ((qDt a b).mem_iff.mpr (hA9 _ (hAd.mpr rfl)));exact⟨h',hh,fun i q=>hi i ((qC4 db i).mpr ⟨g,z,q⟩)⟩
   refine⟨fun e he=>?_,fun e he=>?_,fun e he=>?_,hBl.mpr ⟨A.ap,B.ap,fun s hs t ht=>?_⟩⟩
   ·rcases hAj.mp he with z|z
    ·exact A.sh e z
    ·exact B.sh e z
   ·rcases hAj.mp he with z|z
    ·exact A.kd e z
    ·exact B.kd e z
   ·rcases hAj.mp he with z|z
    ·exact co d2 (fun g hg=>hAj.mp (sp.mem_iff.mp hg)) (A.cz e z)
    ·exact co d1 (fun g hg=>(hAj.mp (sp.mem_iff.mp hg)).symm) (B.cz e z)
   ·obtain⟨u,hu,iu⟩:=A.cz s hs out.sum ((qDt inn out).mem_iff.mpr (hA9 _ (hAd.mpr rfl)));obtain⟨v,hv,iv⟩:=B.cz t ht inn.sum ((qDt out inn).mem_iff.mpr (hA9 _ (hAd.mpr rfl)));refine⟨u,hu,v,hv,hAt fun i=>?_⟩;rw[hCz];cases hw:w.testBit i with
    |false =>
     cases q1:u.testBit i with
     |true=>rw[(A.sh s hs).pt.sub hu q1]at hw;cases hw
     |false =>
      cases q2:v.testBit i with
      |true=>rw[(B.sh t ht).pt.sub hv q2]at hw;cases hw
      |false=>rfl
    |true =>
     obtain⟨g,hg,gi⟩:=(h.pt.bit i).mp hw;rcases hAj.mp (sp.mem_iff.mp hg) with z|z
     ·rw[iv i ((qC4 d1 i).mpr ⟨g,z,gi⟩)];cases u.testBit i <;> rfl
     ·rw[iu i ((qC4 d2 i).mpr ⟨g,z,gi⟩)];rfl
end My
namespace L2
open PySem PySem.Spec PyProof.Rows PySem.SeqAt
def qQ2(K:PySem.W.Frag):R2:=fun x y H Q=>∃ds d,DR K H y (.list ds)/\DR K H x d/\shaped (.list ds)=true/\shaped d=true/\Q (.bl (!ds.any fun z=>PyData.eqv z d)) H
theorem qRa{X:Cx}(hu:X.A.units+65<cLine):OpR X (compareOp .NotIn) (qQ2 X.K):=by
 intro pins s σ H x y v u Q I rx ry h;obtain⟨ds,d,hy,hx,sy,sx,q⟩:=h;obtain⟨a1,r1⟩:=DR.reads I hx rx;obtain⟨a2,r2⟩:=DR.reads I hy ry;exact notIn_list_reads r2 r1 (canLay_of_shaped sy) (canLay_of_shaped sx) (room_in_shaped sx hu) ⟨.bl _,H,I,rfl,q⟩
end L2
namespace My
open PySem L2
abbrev PE1:=Str×List Nat
def mtB(w:Nat)(a b:PE1):Bool:=if a.1≠b.1\/a.1 = "whole" then false else a.2.any fun g=>decide (w^^^g∈b.2)
theorem zA1{w:Nat}{a b:PE1}(h:mtB w a b=true):∃g∈a.2,w^^^g∈b.2:=by
 unfold mtB at h;split at h
 ·cases h
 ·obtain⟨g,hg,z⟩:=List.any_eq_true.mp h;exact⟨g,hg,of_decide_eq_true z⟩
def mtsF(w:Nat)(told:List PE1)(e:PE1):List PE1:=told.filter fun t=>mtB w t e
def rsF(w:Nat)(told:List PE1)(e:PE1):List PE1:=told.filter fun t=>!decide (t∈mtsF w told e)
def foF(w:Nat)(ms:List PE1)(gs:List Nat):List Nat:=ms.foldl (fun g m=>meF w m.2 g) gs
def joS(w:Nat)(told:List PE1)(e:PE1):List PE1:=rsF w told e++[(e.1,foF w (mtsF w told e) e.2)]
def joF(w:Nat)(ps:List PE1):List PE1:=ps.foldl (joS w) []
theorem qNx(w:Nat)(ps:List PE1)(e:PE1):joF w (ps++[e])=joS w (joF w ps) e:=by unfold joF;rw[hBk];rfl
structure MI(w:Nat)(ms:List PE1)(gs:List Nat)(ts:List (List Nat)):Prop where
 sh:Sh w gs
 sm:∀m∈ms,Sh w m.2
 co:∀m∈ms,∃g∈m.2,w^^^g∈gs
 ap:ms.Pairwise fun a b=>Spr w a.2 b.2
 st:∀t∈ts,Sh w t
 gt:∀t∈ts,Spr w gs t
 mt:∀m∈ms,∀t∈ts,Spr w m.2 t
theorem MI.step{w:Nat}{m:PE1}{ms:List PE1}{gs:List Nat}{ts:List (List Nat)}(h:MI w (m :: ms) gs ts):MI w ms (meF w m.2 gs) ts:=by
 obtain⟨a1,a2⟩:=hB3.mp h.ap;have hm:=h.sm m hA6;obtain⟨g,hg,hg'⟩:=h.co m hA6;refine⟨zA2 hm h.sh hg hg',fun n hn=>h.sm n (hA4 _ hn),fun n hn=>?_,a2,h.st,fun t ht=>qY0 hm h.sh (h.st t ht) (h.mt m hA6 t ht) (h.gt t ht),fun n hn t ht=>h.mt n (hA4 _ hn) t ht⟩;obtain⟨k,hk,hk'⟩:=h.co n (hA4 _ hn);refine⟨k,hk,(qEm w m.2 gs).mem_iff.mpr (hA9 _ (hAn.mpr ⟨hk',?_⟩))⟩;rw[xx,decide_eq_false fun z=>(a1 n hn).no hm (h.sm n (hA4 _ hn)) z hk];rfl
theorem MI.all{w:Nat}{ts:List (List Nat)}:∀ {ms:List PE1} {gs:List Nat},MI w ms gs ts->MI w [] (foF w ms gs) ts
 |[],_,h=>h
 |m :: ms,gs,h=>MI.all (ms:=ms) (gs:=meF w m.2 gs) h.step
structure JI(w:Nat)(told rest:List PE1):Prop where
 sh:∀e∈told++rest,Sh w e.2
 kd:∀e∈told++rest,e.1 = "ring"\/e.1 = "bundle"\/e.1 = "whole"
 ap:(told++rest).Pairwise fun a b=>Spr w a.2 b.2
theorem zAl{α:Type}{R:α->α->Prop}(sy:∀ {a b},R a b->R b a):∀ {l:List α},l.Pairwise R->∀ {a b:α},a∈l->b∈l->a≠b->R a b
 |h :: l,d,a,b,ha,hb,ne=>by
  obtain⟨d1,d2⟩:=hB3.mp d;rcases hAf.mp ha with z1|z1
  ·rcases hAf.mp hb with z2|z2
   ·exact(ne (z1.trans z2.symm)).elim
   ·rw[z1];exact d1 b z2
  ·rcases hAf.mp hb with z2|z2
   ·rw[z2];exact sy (d1 a z1)
   ·exact zAl sy d2 z1 z2 ne
theorem qGg{w:Nat}{told:List PE1}{e t:PE1}(h:t∈rsF w told e):t∈told/\t∉mtsF w told e:=by
 obtain⟨h1,h2⟩:=hAn.mp h;exact⟨h1,fun z=>by rw[decide_eq_true z]at h2;cases h2⟩
theorem JI.mi{w:Nat}{told rest:List PE1}{e:PE1}(h:JI w told (e :: rest)):MI w (mtsF w told e) e.2 ((rsF w told e++rest).map (·.2)):=by
 obtain⟨a1,a2,a3⟩:=hBl.mp h.ap;obtain⟨b1,b2⟩:=hB3.mp a2;have mm:∀ {m:PE1},m∈mtsF w told e->m∈told:=fun {m} hm=>(hAn.mp hm).1
 refine⟨h.sh e (hA9 _ hA6),fun m hm=>h.sh m (hAl _ (mm hm)),fun m hm=>zA1 (hAn.mp hm).2,a1.filter _,fun t ht=>?_,fun t ht=>?_,fun m hm t ht=>?_⟩
 ·obtain⟨u,hu,rfl⟩:=hAg.mp ht;rcases hAj.mp hu with z|z
  ·exact h.sh u (hAl _ (qGg z).1)
  ·exact h.sh u (hA9 _ (hA4 _ z))
 ·obtain⟨u,hu,rfl⟩:=hAg.mp ht;rcases hAj.mp hu with z|z
  ·exact(a3 u (qGg z).1 e hA6).symm
  ·exact b1 u z
 ·obtain⟨u,hu,rfl⟩:=hAg.mp ht;rcases hAj.mp hu with z|z
  ·exact zAl (R:=fun a b:PE1=>Spr w a.2 b.2) (fun {a b} q=>q.symm) a1 (mm hm) (qGg z).1 (fun q=>(qGg z).2 (by rw[<-q];exact hm))
  ·exact a3 m (mm hm) u (hA4 _ z)
theorem JI.step{w:Nat}{told rest:List PE1}{e:PE1}(h:JI w told (e :: rest)):JI w (joS w told e) rest:=by
 have M:=h.mi.all;obtain⟨a1,a2,a3⟩:=hBl.mp h.ap;obtain⟨b1,b2⟩:=hB3.mp a2;have cs:∀u∈joS w told e++rest,u∈rsF w told e\/u=(e.1,foF w (mtsF w told e) e.2)\/u∈rest:=fun u hu=>by
  rcases hAj.mp hu with z|z
  ·rcases hAj.mp z with y|y
   ·exact .inl y
   ·exact .inr (.inl (hAd.mp y))
  ·exact .inr (.inr z)
 refine⟨fun u hu=>?_,fun u hu=>?_,?_⟩
 ·rcases cs u hu with z|z|z
  ·exact h.sh u (hAl _ (qGg z).1)
  ·rw[z];exact M.sh
  ·exact h.sh u (hA9 _ (hA4 _ z))
 ·rcases cs u hu with z|z|z
  ·exact h.kd u (hAl _ (qGg z).1)
  ·rw[z];exact h.kd e (hA9 _ hA6)
  ·exact h.kd u (hA9 _ (hA4 _ z))
 ·unfold joS;rw[List.append_assoc];refine hBl.mpr ⟨a1.filter _,hB3.mpr ⟨fun t ht=>M.gt t.2 (hAg.mpr ⟨t,hA9 _ ht,rfl⟩),b2⟩,fun u hu t ht=>?_⟩;rcases hAf.mp ht with z|z
  ·rw[z];exact(M.gt u.2 (hAg.mpr ⟨u,hAl _ hu,rfl⟩)).symm
  ·exact a3 u (qGg hu).1 t (hA4 _ z)
theorem JI.all{w:Nat}{ps:List PE1}(h:JI w [] ps):∀i,JI w (joF w (ps.take i)) (ps.drop i)
 |0=>h
 |i+1=>by
  have ih:=JI.all h i;cases hi:ps[i]? with
  |none =>
   have l:ps.length<=i:=List.getElem?_eq_none_iff.mp hi;rw[List.drop_of_length_le l]at ih;rw[hA5 l]at ih;rw[hA5 (by omega),List.drop_of_length_le (by omega)];exact ih
  |some e =>
   have hl:=qAy hi;have ee:ps[i]=e:=by have:=hA2 hl;rw[hi]at this;exact(hAm this).symm
   rw[hCm hl,ee]at ih;rw[qAm hi,qNx];exact ih.step
theorem PsI.ji{w:Nat}{gs:List Nat}{L:List PE1}(h:PsI w gs L):JI w [] L:=⟨h.sh,h.kd,h.ap⟩
def partD(e:PE1):PyData:=.tuple [.str e.1,.list (e.2.map fun n:Nat=>PyData.int (n:Int))]
theorem qN8:∀a b:List Nat,PyData.eqvAll (a.map fun n:Nat=>PyData.int (n:Int)) (b.map fun n:Nat=>PyData.int (n:Int))=decide (a=b)
 |[],[]=>rfl
 |[],_ :: _=>rfl
 |_ :: _,[]=>rfl
 |x :: a,y :: b=>by
  show(((x:Int) == (y:Int)) && PyData.eqvAll (a.map fun n:Nat=>PyData.int (n:Int)) (b.map fun n:Nat=>PyData.int (n:Int)))=_;rw[qN8 a b];by_cases e:x=y
  ·subst e;simp
  ·have e':¬((x:Int)=(y:Int)):=fun z=>e (by omega)
   rw[show((x:Int) == (y:Int))=false from beq_eq_false_iff_ne.mpr e',decide_eq_false (fun z=>e (List.cons.inj z).1)];rfl
theorem qN7(a b:PE1):PyData.eqv (partD a) (partD b)=decide (a=b):=by
 show(a.1 == b.1 && (PyData.eqvAll (a.2.map fun n:Nat=>PyData.int (n:Int)) (b.2.map fun n:Nat=>PyData.int (n:Int)) && true))=_;rw[qN8,Bool.and_true];obtain⟨a1,a2⟩:=a;obtain⟨b1,b2⟩:=b;by_cases e:a1=b1
 ·by_cases e2:a2=b2
  ·subst e e2;simp
  ·simp[e,e2]
 ·simp[e]
theorem zBa{k:Str}(h:k = "ring"\/k = "bundle"\/k = "whole"):PyData.strOk k=true:=by
 rcases h with rfl|rfl|rfl <;> decide +kernel
theorem qJ1:∀ {L:List PE1},(∀e∈L,e.1 = "ring"\/e.1 = "bundle"\/e.1 = "whole")->PyData.canLayAll0 (L.map partD)=true/\PyData.depthAll (L.map partD)<=2
 |[],_=>⟨rfl,hAo _⟩
 |e :: L,h=>by
  obtain⟨h1,h2⟩:=qJ1 (L:=L) fun x hx=>h x (hA4 _ hx)
  obtain⟨i1,i2⟩:=qF1 e.2;have ks:=zBa (h e hA6);refine⟨?_,?_⟩
  ·show((PyData.strOk e.1 && (PyData.canLayAll0 (e.2.map fun n:Nat=>PyData.int (n:Int)) && true)) && PyData.canLayAll0 (L.map partD))=true;rw[ks,i1,h1];rfl
  ·show max (max 0 (max (PyData.depthAll (e.2.map fun n:Nat=>PyData.int (n:Int))+1) 0)+1) (PyData.depthAll (L.map partD))<=2;rw[i2];omega
theorem shaped_parts{L:List PE1}(h:∀e∈L,e.1 = "ring"\/e.1 = "bundle"\/e.1 = "whole"):SeqAt.shaped (.list (L.map partD))=true:=by
 obtain⟨h3,h4⟩:=qJ1 h;show(PyData.canLayAll0 (L.map partD) && decide (PyData.depthAll (L.map partD)+1<=64))=true;rw[h3,decide_eq_true (by omega)];rfl
theorem shaped_part{e:PE1}(h:e.1 = "ring"\/e.1 = "bundle"\/e.1 = "whole"):SeqAt.shaped (partD e)=true:=by
 obtain⟨i1,i2⟩:=qF1 e.2;show((PyData.strOk e.1 && (PyData.canLayAll0 (e.2.map fun n:Nat=>PyData.int (n:Int)) && true)) && decide (max 0 (max (PyData.depthAll (e.2.map fun n:Nat=>PyData.int (n:Int))+1) 0)+1<=64))=true;rw[zBa h,i1,i2];rfl
def PtE(H:Hp)(a:Addr)(e:PE1):Prop:=∃g,H a=some (.tup [.str e.1,.ref g])/\LsN H g e.2
theorem PtE.ext{H H':Hp}{a:Addr}{e:PE1}(h:PtE H a e)(x:Ext H H'):PtE H' a e:=by
 obtain⟨g,h1,h2⟩:=h;exact⟨g,x _ _ h1,x _ _ h2⟩
theorem dr_part{K:PySem.W.Frag}{H:Hp}{a:Addr}{e:PE1}(h:PtE H a e):DR K H (.ref a) (partD e):=by
 obtain⟨g,h1,h2⟩:=h;exact .tup (SqT.of h1) (.cons (.str _) (.cons (.lst (SqL.of h2) (qL1 _)) .nil))
theorem drs_parts{K:PySem.W.Frag}{H:Hp}:∀ {as:List Addr} {L:List PE1},Paired (PtE H) as L->DRs K H (as.map V.ref) (L.map partD)
 |_,_,.nil=>.nil
 |_,_,.cons a b=>.cons (dr_part a) (drs_parts b)
def qP4:Sp:=fun vs H Q _=>∃(a b:Addr) (e1 e2:PE1) (w:Nat),vs=[.ref a,.ref b,iV w]/\PtE H a e1/\PtE H b e2/\e1.2.length<=12/\∀H',Ext H H'->Q (.bl (mtB w e1 e2)) H'
def qMo:Sp:=fun vs H Q _=>∃(a b:Addr) (g1 g2:List Nat) (w:Nat),vs=[.ref a,.ref b,iV w]/\LsN H a g1/\LsN H b g2/\g1.length<=12/\g2.length<=12/\∀r H',Ext H H'->H r=none->LsN H' r (meF w g1 g2)->Q (.ref r) H'
def qMq:Sp:=fun vs H Q _=>∃(fo:Addr) (ps:List PE1) (w n:Nat),vs=[.ref fo,iV w]/\PtL H fo ps/\JI w [] ps/\w<2^n/\n<=12/\ps.length<=2000/\∀L H',Ext H H'->PtL H' L (joF w ps)->Q (.ref L) H'
theorem qS7:bootBuiltins "any" = some (.builtin "any"):=by decide +kernel
theorem zAg{k:Nat}{A:Around}(hr:Room k A):A.units+65<cLine:=by have:=hr.un;omega
theorem zBk{α:Type}(p:α->Bool)(t:α):[t].filter p=if p t=true then [t] else []:=by
 by_cases c:p t=true
 ·rw[if_pos c,List.filter_cons_of_pos c];rfl
 ·rw[if_neg c,List.filter_cons_of_neg c];rfl
theorem qLw(w:Nat):∀(told ps:List PE1),(ps.foldl (joS w) told).length<=told.length+ps.length
 |told,[]=>hA7 _
 |told,e :: ps=>by
  have h:=qLw w (joS w told e) ps;have h2:(joS w told e).length<=told.length+1:=by
   unfold joS rsF;rw[hAa];exact hC7 (hAx _ _)
  show(ps.foldl (joS w) (joS w told e)).length<=told.length+(ps.length+1);omega
section
variable{P:Program}{w:World}{K:PySem.W.Frag}{mg:Str->Option Value}{base:Heap}{f f1 f2 f3 f4 f5:Addr}{fd fd1 fd2 fd3 fd4 fd5:FuncData}
abbrev mtN:List Str:=["one","other","whole"]
theorem qXg:FnScope mtN ["one","other","whole"] (qAe qM2):=⟨rfl,rfl,rfl,by decide +kernel,rfl,by decide +kernel,by decide +kernel⟩
theorem qUl(F:Fun K "are_mates" "are_mates" qM2 f fd)(man:mg "any" = none):FnOk P w K mg base CX0 1 f fd ["one","other","whole"] qP4:=by
 refine F.ok qXg (fun vs H Q E h=>?_) (fun cdv A outer s H vs Q E hr h=>?_)
 ·obtain⟨a,b,e1,e2,w,rfl,_⟩:=h;rfl
 obtain⟨a,b,⟨k1,g1⟩,⟨k2,g2⟩,w,rfl,⟨ga,ha,hga⟩,⟨gb,hb,hgb⟩,l1,q⟩:=h;have l1:g1.length<=12:=l1;refine⟨_,(qAc (qBi (PW.pt (qQ3 (qAp qE9 (qBg qBs (pv 0) qAd (fun _ _=>rfl)) (qBg qBs (pv 1) qAd (fun _ _=>rfl)) (qAu _)) (qNe (qAp qB1 (qBg qBs (pv 0) qAd (fun _ _=>rfl)) qDz (qAu _))))) (qAf (qAt qGp)) qA1) (qAf (qAt (qAk (qS2 rfl) rfl man qS7 (qAa (qBf (N:=mtN) (sc:=qAe qM2) (N':=["group","whole","other"]) (sub:=[none,some 2,some 1]) rfl rfl (CmpOk.of (by decide +kernel)) rfl (qAq (qBg qBs (pv 0) qAd (fun _ _=>rfl)))
   (fun C s H fp=>⟨qAg (i:=0) (by show(["group","whole","other"]:List Str).Nodup;decide) rfl (Or.inl rfl),qAz,qC6 (show OpR _ (compareOp .In) (rIn K false) from qDg) (qAh qCt (pv 1) (pv 0)) (qBg (show IxR _ (qO0 K) from qBs) (pv 2) qAd (fun _ _=>rfl)) (by with_unfolding_all rfl)⟩)) qAb))))),?_⟩
 have q':=q H (Ext.refl _);unfold mtB at q q';have at0:∀ {x:Str} {y:Addr},atI [V.str x,V.ref y] 0=some (V.str x):=fun {x y}=>qA0 (j:=0) rfl
 refine⟨_,rfl,a,_,_,_,rfl,rfl,SqT.of ha,at0,_,rfl,b,_,_,_,rfl,rfl,SqT.of hb,at0,rfl,_,rfl,?_⟩;rw[show(!decide (V.str k1=V.str k2))=decide (k1≠k2) by
  by_cases e:k1=k2
  ·rw[decide_eq_true (by rw[e]),decide_eq_false (fun z=>z e)];rfl
  ·rw[decide_eq_false (fun z=>e (V.str.inj z)),decide_eq_true e];rfl]
 refine ite2 (fun c=>?_) (fun c=>?_)
 ·rw[if_pos (.inl (of_decide_eq_true c))]at q';exact q'
 have c':k1=k2:=by
  by_cases e:k1=k2
  ·exact e
  ·exact absurd (decide_eq_true e) c
 refine⟨_,rfl,a,_,_,_,rfl,rfl,SqT.of ha,at0,rfl,_,rfl,?_⟩;rw[show(decide (V.str k1=V.str "whole"))=decide (k1 = "whole") from decide_eq_decide.mpr ⟨fun z=>V.str.inj z,fun z=>by rw[z]⟩];refine ite2 (fun d=>?_) (fun d=>?_)
 ·rw[if_pos (.inr (of_decide_eq_true d))]at q';exact q'
 have d':¬(k1≠k2\/k1 = "whole"):=fun z=>by
  rcases z with z|z
  ·exact z c'
  ·exact d (decide_eq_true z)
 rw[if_neg d']at q;refine⟨_,rfl,a,_,_,_,rfl,rfl,SqT.of ha,qA0 (j:=1) rfl,ga,rfl,⟨_,SqL.of hga⟩,?_⟩;refine qAr (xs:=g1.map iV) (fun i ys H'=>H'=H/\ys=((g1.take i).map fun g=>decide (w^^^g∈g2)).map V.bl) ⟨rfl,rfl⟩ (fun i ys H' _ h=>by rw[h.1];exact SqL.of hga) ?_ ?_
 ·rintro i v ys H' hx ⟨rfl,rfl⟩;obtain⟨x,rfl,hx'⟩:=qBz hx;have hi:=qAy hx';refine⟨Sle.set _ (Sle.refl _) (fun u z=>by cases z),iteT (B:=False) ?_⟩;refine⟨_,rfl,_,rfl,_,_,rfl,rfl,_,rfl,b,_,_,_,rfl,rfl,SqT.of hb,qA0 (j:=1) rfl,gb,_,rfl,.inl (SqL.of hgb),rfl,qC3 _,?_⟩;rw[show(if false=true then !inV (V.int (Builtin.bitXor (w:Int) (x:Int))) (g2.map iV) else inV (V.int (Builtin.bitXor (w:Int) (x:Int))) (g2.map iV))=decide (w^^^x∈g2) by rw[qBx];exact qG1 _ _];refine⟨by rw[hA1,hA1,hAh];exact qAi (by omega),nxt (qAy hx) ⟨rfl,?_⟩⟩;rw[qAm hx',hA3,hA3];rfl
 ·rintro ys H' ⟨rfl,rfl⟩ l hl;rw[hA1,hA5 (hA7 _)];refine⟨l,g1.map (fun g=>decide (w^^^g∈g2)),rfl,SqL.of upd_same,?_⟩;rw[show(g1.map fun g=>decide (w^^^g∈g2)).any id=g1.any fun g=>decide (w^^^g∈g2) by rw[List.any_map];rfl];exact q _ (Ext.new hl _)
abbrev meN:List Str:=["one","other","whole","kept"]
theorem qMw:FnScope meN ["one","other","whole"] (qAe qGc):=⟨rfl,rfl,rfl,by decide +kernel,rfl,by decide +kernel,by decide +kernel⟩
theorem qRf(F:Fun K "melded" "melded" qGc f fd)(mso:mg "sorted" = none):FnOk P w K mg base CX0 1 f fd ["one","other","whole"] qMo:=by
 refine F.ok qMw (fun vs H Q E h=>?_) (fun cdv A outer s H vs Q E hr h=>?_)
 ·obtain⟨a,b,g1,g2,w,rfl,_⟩:=h;rfl
 obtain⟨a,b,g1,g2,w,rfl,ha,hb,l1,l2,q⟩:=h;refine⟨_,(qAc (qEi (i:=3) (N:=meN) (sc:=qAe qGc) (N':=["group","whole","other"]) (sub:=[none,some 2,some 1]) rfl rfl (CmpOk.of (by decide +kernel)) rfl (qAq (pv 0))
   (fun C s H fp=>⟨qAg (i:=0) (by show(["group","whole","other"]:List Str).Nodup;decide) rfl (Or.inl rfl),qBl (qAp (show OpR _ (compareOp .NotIn) (rIn K true) from qCv) (qAh qCt (pv 1) (pv 0)) (pv 2) (by with_unfolding_all rfl)),pv 0⟩) qMw.nd rfl (Or.inl rfl)) (qAf (qAt (qE7 rfl mso (qAa (qAh qB5 (pv 3) (qBf (N:=meN) (sc:=qAe qGc) (N':=["group","whole","one"]) (sub:=[none,some 2,some 0]) rfl rfl (CmpOk.of (by decide +kernel)) rfl (qAq (pv 1))
   (fun C s H fp=>⟨qAg (i:=0) (by show(["group","whole","one"]:List Str).Nodup;decide) rfl (Or.inl rfl),qBl (qAp (show OpR _ (compareOp .NotIn) (rIn K true) from qCv) (qAh qCt (pv 1) (pv 0)) (pv 2) (by with_unfolding_all rfl)),pv 0⟩))) qAb))))),?_⟩
 have key:∀(z:Nat) (g:List Nat),(if true=true then !inV (V.int (Builtin.bitXor (w:Int) (z:Int))) (g.map iV) else inV (V.int (Builtin.bitXor (w:Int) (z:Int))) (g.map iV))=!decide (w^^^z∈g):=fun z g=>by
  rw[qBx];exact congrArg (! ·) (qG1 _ _)
 refine⟨_,rfl,a,rfl,⟨_,SqL.of ha⟩,?_⟩;refine qBc (fun z=>!decide (w^^^z∈g2)) (fun z=>z) ha (by omega) (fun z hz C B cc bb=>⟨Sle.set _ (Sle.refl _) (fun u z=>by cases z),?_⟩) ?_
 ·refine⟨_,rfl,_,rfl,_,_,rfl,rfl,_,rfl,b,_,rfl,.inl (SqL.of hb),rfl,qC3 _,_,rfl,?_⟩;rw[key z g2];exact ite2 (fun c=>⟨_,rfl,cc c⟩) (fun c=>bb (hCx _▸c))
 intro k hk;rw[hD8];have X1:=Ext.new hk (.lst ((keF w g1 g2).map iV));refine⟨_,rfl,_,rfl,b,rfl,⟨_,SqL.of (X1 _ _ hb)⟩,?_⟩;refine qBc (fun z=>!decide (w^^^z∈g1)) (fun z=>z) (X1 _ _ hb) (by omega) (fun z hz C B cc bb=>⟨Sle.set _ (Sle.refl _) (fun u z=>by cases z),?_⟩) ?_
 ·refine⟨_,rfl,_,rfl,_,_,rfl,rfl,_,rfl,a,_,rfl,.inl (SqL.of (X1 _ _ ha)),rfl,qC3 _,_,rfl,?_⟩;rw[key z g1];exact ite2 (fun c=>⟨_,rfl,cc c⟩) (fun c=>bb (hCx _▸c))
 intro k2 hk2;rw[hD8];have Y2:=Ext.new hk2 (.lst ((keF w g2 g1).map iV));have X2:=X1.trans Y2;have s1:(keF w g1 g2).length<=12:=hAq (hAx _ _) l1;have s2:(keF w g2 g1).length<=12:=hAq (hAx _ _) l2;refine⟨k,k2,_,_,rfl,rfl,Y2 _ _ upd_same,upd_same,?_,fun r0 hr0=>?_⟩
 ·show((keF w g1 g2).map iV).length+((keF w g2 g1).map iV).length<=_;rw[hA1,hA1];exact hB1 (qAi (by omega))
 have X3:=X2.trans (Ext.new hr0 (.lst ((keF w g1 g2).map iV++(keF w g2 g1).map iV)));refine⟨r0,(keF w g1 g2++keF w g2 g1).map (fun n:Nat=>(n:Int)),rfl,?_,by rw[hA1,hAa];omega,fun r ns hr' pm od=>?_⟩
 ·rw[<-qB6,hA3];exact SqL.of upd_same
 ·refine q r _ (X3.trans (Ext.new hr' _)) (X3.none hr') ?_;unfold LsN meF;rw[upd_same,qM6 pm od]
abbrev joN:List Str:=["found","whole","told","kind","groups","mates","mate"]
theorem qCr:FnScope joN ["found","whole"] (qAe qGe):=⟨rfl,rfl,rfl,by decide +kernel,rfl,by decide +kernel,by decide +kernel⟩
theorem qRg(F:Fun K "joined" "joined" qGe f fd)(G1:Cl P w K mg base CX0 1 f1 fd1 ["one","other","whole"] qP4 "are_mates")
  (G2:Cl P w K mg base CX0 1 f2 fd2 ["one","other","whole"] qMo "melded"):FnOk P w K mg base CX0 2 f fd ["found","whole"] qMq:=by
 refine F.ok qCr (fun vs H Q E h=>?_) (fun cdv A outer s H vs Q E hr h=>?_)
 ·obtain⟨fo,ps,w,n,rfl,_⟩:=h;rfl
 obtain⟨fo,ps,w,n,rfl,⟨fs,hfo,pf⟩,ji,wn,n12,lps,q⟩:=h;have lfs:=pf.length;refine⟨_,(qAc (qAj (i:=2) qCr.nd rfl (Or.inl rfl) (qA4 qAb)) (qAc (qBb PassesOwn.never rfl (qAq (pv 0)) (qB0 rfl (qAs (qAg (i:=3) qCr.nd rfl (Or.inr rfl)) (qAs (qAg (i:=4) qCr.nd rfl (Or.inr rfl)) qBe))) (qAc (qAj (i:=5) qCr.nd rfl (Or.inr rfl) (qBf (N:=joN) (sc:=qAe qGe) (N':=["part","kind","groups","whole"]) (sub:=[none,some 3,some 4,some 1]) rfl rfl (CmpOk.of (by decide +kernel)) rfl (qAq (pv 2))
   (fun C s H fp=>⟨qAg (i:=0) (by show(["part","kind","groups","whole"]:List Str).Nodup;decide) rfl (Or.inl rfl),qBl (qDe (qAx G1 hr rfl .nil qAv (qAa (pv 0) (qAa (qA5 (qAa (pv 1) (qAa (pv 2) qAb))) (qAa (pv 3) qAb))))),pv 0⟩))) (qAc (qEi (i:=2) (N:=joN) (sc:=qAe qGe) (N':=["part","mates"]) (sub:=[none,some 5]) rfl rfl (CmpOk.of (by decide +kernel)) rfl (qAq (pv 2))
   (fun C s H fp=>⟨qAg (i:=0) (by show(["part","mates"]:List Str).Nodup;decide) rfl (Or.inl rfl),qBl (qAp (show OpR _ (compareOp .NotIn) (qQ2 K) from qRa (zAg hr)) (pv 0) (pv 1) (by with_unfolding_all rfl)),pv 0⟩) qCr.nd rfl (Or.inl rfl)) (qAc (qBb PassesOwn.never rfl (qAq (pv 5)) (qAg (i:=6) qCr.nd rfl (Or.inl rfl)) (qAf (qAj (i:=4) qCr.nd rfl (Or.inr rfl) (qAx G2 hr rfl .nil qAv (qAa (qBg qBs (pv 6) qAd (fun _ _=>rfl)) (qAa (pv 4) (qAa (pv 1) qAb))))))) (qAf (qB4 (qC7 hAr hBd hBe qBo (pv 2) (qAa (qA5 (qAa (pv 3) (qAa (pv 4) qAb))) qAb)))))))) (qAf (qAt (pv 2))))),?_⟩
 refine⟨hAo _,fun t0 ht0=>?_⟩;have X0:=Ext.new ht0 (.lst []);refine⟨_,rfl,fo,rfl,⟨_,SqL.of (X0 _ _ hfo)⟩,qBm (K:=K) (a:=fo) (xs:=fs.map V.ref) (fun i σ H'=>∃(tl:Addr) (x3 x4 x5 x6:Option V),σ=[some (.ref fo),some (iV w),some (.ref tl),x3,x4,x5,x6]/\Ext H H'/\PtL H' tl (joF w (ps.take i)))
  ⟨t0,none,none,none,none,rfl,X0,[],upd_same,.nil⟩ (fun i σ H' _ h=>by obtain⟨_,_,_,_,_,_,e,_⟩:=h;exact SqL.of (e _ _ hfo)) ?_ ?_⟩
 ·rintro i v σ H1 hv ⟨tl,x3,x4,x5,x6,rfl,e1,ts,htl,pt⟩;obtain⟨a,rfl,ha⟩:=qBk hv;obtain⟨e,he,hae⟩:=qAw pf ha;have hi:=qAy he;obtain⟨g,ha',hg'⟩:=hae;have J:=ji.all i;rw[hCm hi,show ps[i]=e by have:=hA2 hi;rw[he]at this;exact(hAm this).symm]at J;have lt:(joF w (ps.take i)).length<=2000:=by
   have:=qLw w [] (ps.take i);rw[hAh]at this;show((ps.take i).foldl (joS w) []).length<=2000;simp only[List.length_nil]at this;omega
  have sn:joF w (ps.take (i+1))=joS w (joF w (ps.take i)) e:=by rw[qAm he,qNx]
  revert pt J lt sn;generalize joF w (ps.take i)=told;intro pt J lt sn;have lts:=pt.length;have shT:∀t∈told,Sh w t.2:=fun t ht=>J.sh t (hAl _ ht)
  have kdT:∀t∈told,t.1 = "ring"\/t.1 = "bundle"\/t.1 = "whole":=fun t ht=>J.kd t (hAl _ ht)
  have l12:∀ {gs:List Nat},Sh w gs->gs.length<=12:=fun {gs} h=>hAq (h.pt.len wn) n12
  have ha1:=e1 _ _ ha';have hg1:LsN H1 g e.2:=e1 _ _ hg';refine⟨a,_,rfl,SqT.of ha1,rfl,_,_,rfl,_,_,rfl,rfl,?_⟩;refine⟨_,rfl,tl,rfl,⟨_,SqL.of htl⟩,?_⟩;refine qAr (xs:=ts.map V.ref) (fun j ys H2=>Ext H1 H2/\∃ms:List Addr,ys=ms.map V.ref/\Paired (PtE H2) ms ((told.take j).filter fun t=>mtB w t e)) ⟨Ext.refl _,[],rfl,.nil⟩ (fun j ys H2 _ h=>SqL.of (h.1 _ _ htl)) ?_ ?_
  ·rintro j v ys H2 hx ⟨e2,ms,rfl,pm⟩;obtain⟨b,rfl,hb⟩:=qBk hx;obtain⟨t,ht,hbt⟩:=qAw pt hb;have hj:=qAy ht;have lm:=pm.length;have sz:=hAx (fun t=>mtB w t e) (told.take j);rw[hAh]at sz;refine⟨Sle.set _ (Sle.refl _) (fun u z=>by cases z),_,rfl,_,rfl,_,rfl,(by show 2<=sizeLine;decide),fun T hT=>?_⟩;have XT:=Ext.new hT (.tup [V.str e.1,.ref g]);refine⟨_,rfl,b,T,t,e,w,rfl,(PtE.ext hbt e2).ext XT,⟨g,upd_same,XT _ _ (e2 _ _ hg1)⟩,l12 (shT t (hAc ht)),fun H3 e3=>⟨mtB w t e,rfl,?_⟩⟩;have E3:=XT.trans e3;have tk:(told.take (j+1)).filter (fun t=>mtB w t e)=(told.take j).filter (fun t=>mtB w t e)++(if mtB w t e=true then [t] else []):=by
    rw[qAm ht,hCg,zBk]
   refine ite2 (fun c=>?_) (fun c=>?_)
   ·refine⟨_,rfl,by rw[hA1];exact qF7 (by omega),nxt (qAy hx) ⟨e2.trans E3,ms++[b],by rw[hA3];rfl,?_⟩⟩;rw[tk,if_pos c];exact Paired.snoc (Paired.mapP pm fun _ _ z=>z.ext E3) ((PtE.ext hbt e2).ext E3)
   ·refine nxt (qAy hx) ⟨e2.trans E3,ms,rfl,?_⟩;rw[tk,if_neg c,hCo];exact Paired.mapP pm fun _ _ z=>z.ext E3
  rintro ys H2 ⟨e2,ms,rfl,pm⟩ mt hmt;rw[hA1,hA5 (by omega)]at pm;have XM:=Ext.new hmt (.lst (ms.map V.ref));have hmt3:upd H2 mt (.lst (ms.map V.ref)) mt=some (.lst (ms.map V.ref)):=upd_same;have E3:=e2.trans XM;have pm3:Paired (PtE (upd H2 mt (.lst (ms.map V.ref)))) ms (mtsF w told e):=Paired.mapP pm fun _ _ z=>z.ext XM
  revert XM hmt3 E3 pm3;generalize upd H2 mt (.lst (ms.map V.ref))=H3;intro XM hmt3 E3 pm3;clear pm XM e2;have kdM:∀t∈mtsF w told e,t.1 = "ring"\/t.1 = "bundle"\/t.1 = "whole":=fun t ht=>kdT t (hAn.mp ht).1
  have pt3:=Paired.mapP pt fun _ _ z=>PtE.ext z E3
  refine⟨_,rfl,tl,rfl,⟨_,SqL.of (E3 _ _ htl)⟩,?_⟩;refine qAr (xs:=ts.map V.ref) (fun j ys H4=>H4=H3/\∃rs:List Addr,ys=rs.map V.ref/\Paired (PtE H3) rs ((told.take j).filter fun t=>!decide (t∈mtsF w told e))) ⟨rfl,[],rfl,.nil⟩ (fun j ys H4 _ h=>by rw[h.1];exact SqL.of (E3 _ _ htl)) ?_ ?_
  ·rintro j v ys H4 hx ⟨rfl,rs,rfl,pr⟩;obtain⟨b,rfl,hb⟩:=qBk hx;obtain⟨t,ht,hbt⟩:=qAw pt3 hb;have hj:=qAy ht;have lm:=pr.length;have sz:=hAx (fun t=>!decide (t∈mtsF w told e)) (told.take j);rw[hAh]at sz;refine⟨Sle.set _ (Sle.refl _) (fun u z=>by cases z),_,rfl,_,rfl,(mtsF w told e).map partD,partD t,.lst (SqL.of hmt3) (drs_parts pm3),dr_part hbt,shaped_parts kdM,shaped_part (kdT t (hAc ht)),_,rfl,?_⟩;have ea:((mtsF w told e).map partD).any (fun z=>PyData.eqv z (partD t))=decide (t∈mtsF w told e):=by
    rw[List.any_map,hDj,List.any_eq_true,decide_eq_true_iff];constructor
    ·rintro⟨u,hu,z⟩;have z':PyData.eqv (partD u) (partD t)=true:=z;rw[qN7]at z';rw[<-of_decide_eq_true z'];exact hu
    ·intro z;exact⟨t,z,by show PyData.eqv (partD t) (partD t)=true;rw[qN7];exact decide_eq_true rfl⟩
   rw[ea];have tk:(told.take (j+1)).filter (fun t=>!decide (t∈mtsF w told e))=(told.take j).filter (fun t=>!decide (t∈mtsF w told e))++(if (!decide (t∈mtsF w told e))=true then [t] else []):=by
    rw[qAm ht,hCg,zBk]
   refine ite2 (fun c=>?_) (fun c=>?_)
   ·refine⟨_,rfl,by rw[hA1];exact qF7 (by omega),nxt (qAy hx) ⟨rfl,rs++[b],by rw[hA3];rfl,?_⟩⟩;rw[tk,if_pos c];exact Paired.snoc pr hbt
   ·refine nxt (qAy hx) ⟨rfl,rs,rfl,?_⟩;rw[tk,if_neg c,hCo];exact pr
  rintro ys H4 ⟨rfl,rs,rfl,pr⟩ t2 ht2;rw[hA1,hA5 (by omega)]at pr;have prn:Paired (fun a (u:PE1)=>∃g,g≠t2/\H4 a=some (.tup [.str u.1,.ref g])/\LsN H4 g u.2) rs (rsF w told e):=Paired.mapP pr fun a u ⟨g,z1,z2⟩=>⟨g,qAo z2 ht2,z1,z2⟩
  have X5:=Ext.new ht2 (.lst (rs.map V.ref));have gt2:g≠t2:=qAo (E3 _ _ hg1) ht2;have E5:=E3.trans X5;have h25:upd H4 t2 (.lst (rs.map V.ref)) t2=some (.lst (rs.map V.ref)):=upd_same;have pr5:Paired (fun a (u:PE1)=>∃g,g≠t2/\upd H4 t2 (.lst (rs.map V.ref)) a=some (HO.tup [.str u.1,.ref g])/\LsN (upd H4 t2 (.lst (rs.map V.ref))) g u.2) rs (rsF w told e):=Paired.mapP prn fun a u ⟨g,z0,z1,z2⟩=>⟨g,z0,X5 _ _ z1,X5 _ _ z2⟩
  have pm5:=Paired.mapP pm3 fun _ _ z=>PtE.ext z X5
  have hmt5:=X5 _ _ hmt3;have nH:H t2=none:=(e1.trans E3).none ht2;revert E5 h25 pr5 pm5 hmt5;generalize upd H4 t2 (.lst (rs.map V.ref))=H5;intro E5 h25 pr5 pm5 hmt5;clear X5 pr prn pm3 hmt3 pt3 E3;have lmm:=pm5.length;refine⟨_,rfl,mt,rfl,⟨_,SqL.of hmt5⟩,qBm (K:=K) (a:=mt) (xs:=ms.map V.ref) (fun j σ H6=>∃(gm:Addr) (x6:Option V),σ=[some (.ref fo),some (iV w),some (.ref t2),some (.str e.1),some (.ref gm),some (.ref mt),x6]/\Ext H5 H6/\gm≠t2/\LsN H6 gm (foF w ((mtsF w told e).take j) e.2)/\MI w ((mtsF w told e).drop j) (foF w ((mtsF w told e).take j) e.2) ((rsF w told e++ps.drop (i+1)).map (fun u:PE1=>u.2)))
   ⟨g,x6,rfl,Ext.refl _,gt2,E5 _ _ hg1,J.mi⟩ (fun j σ H6 _ h=>by obtain⟨_,_,_,e,_⟩:=h;exact SqL.of (e _ _ hmt5)) ?_ ?_⟩
  ·rintro j v σ H6 hx ⟨gm,y6,rfl,e6,gn,hgm,M⟩;obtain⟨b,rfl,hb⟩:=qBk hx;obtain⟨t,ht,hbt⟩:=qAw pm5 hb;have hj:=qAy ht;obtain⟨gb,hb1,hb2⟩:=PtE.ext hbt e6;rw[hCm hj,show(mtsF w told e)[j]=t by have:=hA2 hj;rw[ht]at this;exact(hAm this).symm]at M;refine⟨_,rfl,b,_,_,_,rfl,rfl,SqT.of hb1,qA0 (j:=1) rfl,_,rfl,_,rfl,gb,gm,t.2,_,w,rfl,hb2,hgm,l12 (M.sm t hA6),l12 M.sh,fun r H7 e7 r0 hr7=>?_⟩;refine⟨r,_,rfl,e6.trans e7,Ne.symm (qAo (e6 _ _ h25) r0),?_,?_⟩
   ·rw[qAm ht];unfold foF;rw[hBk];exact hr7
   ·rw[qAm ht];unfold foF;rw[hBk];exact M.step
  ·rintro σ H6 ⟨gm,y6,rfl,e6,gn,hgm,M⟩;rw[hA1,hA5 (by omega)]at hgm;have h26:=e6 _ _ h25;have lr:=pr5.length;have sz:=hAx (fun t=>!decide (t∈mtsF w told e)) told;have lr':(rsF w told e).length<=told.length:=sz;refine⟨_,rfl,.inl ⟨rfl,_,SqL.of h26⟩,_,rfl,_,rfl,(by show 2<=sizeLine;decide),fun T hT=>?_⟩;have XT:=Ext.new hT (.tup [V.str e.1,.ref gm]);have Tt:T≠t2:=Ne.symm (qAo h26 hT);refine⟨t2,_,_,rfl,rfl,XT _ _ h26,by rw[hA1];exact qF7 (by omega),?_⟩;refine⟨t2,_,_,_,_,rfl,((e1.trans E5).trans (e6.trans XT)).over nH _,rs++[T],by rw[upd_same,hA3];rfl,?_⟩;rw[sn];refine Paired.snoc (Paired.mapP pr5 fun a u ⟨g,z0,z1,z2⟩=>⟨g,?_,?_⟩) ⟨gm,?_,?_⟩
   ·have z:=(e6.trans XT) _ _ z1;rw[qAl (fun q=>by rw[q,XT _ _ h26]at z;cases z)];exact z
   ·unfold LsN;rw[qAl z0];exact(e6.trans XT) _ _ z2
   ·rw[qAl Tt];exact upd_same
   ·unfold LsN;rw[qAl gn];exact XT _ _ hgm
 ·rintro σ H1 ⟨tl,x3,x4,x5,x6,rfl,e1,pt⟩;rw[hA1,hA5 (by omega)]at pt;exact⟨_,rfl,q tl _ e1 pt⟩
end
end My
namespace L2
open PySem PySem.Spec PyProof.Rows PySem.W
def zCf(R:Nat->Nat->Bool):KasT α->α
 |.ret a=>a
 |.ask i j k=>zCf R (k (R i j))
theorem qR3{α:Type}{R:Nat->Nat->Bool}{n:Nat}{s:Shared}{cmp:Nat->Nat->(Bool->Shared->Prop)->Shared->Prop}{Q Q':α->Shared->Prop}(hc:∀i j C,i<n->j<n->C (R i j) s->cmp i j C s):∀(t:KasT α),t.kasWp (fun i j C s'=>i<n/\j<n/\C (R i j) s') Q s->(∀a,a=zCf R t->Q a s->Q' a s)->t.kasWp cmp Q' s
 |.ret a,h,q=>q a rfl h
 |.ask i j k,h,q=>hc i j _ h.1 h.2.1 (qR3 hc (k (R i j)) h.2.2 q)
def qMi(n:Nat)(R:Nat->Nat->Bool):List Nat:=if n<2 then List.range n else (zCf R (kas_sort n)).toList
theorem qTm{R:Nat->Nat->Bool}{n:Nat}{s:Shared}{cmp:Nat->Nat->(Bool->Shared->Prop)->Shared->Prop}(h2:2<=n)(hc:∀i j C,i<n->j<n->C (R i j) s->cmp i j C s):(kas_sort n).kasWp cmp (fun p s'=>s'=s/\p.toList=qMi n R/\Gd n p) s:=by
 refine qR3 (Q:=fun p _=>Gd n p) hc (kas_sort n) (qY6 (fun i j C hi hj h=>⟨hi,hj,h _⟩) (by omega) fun p g=>g) fun a ea g=>⟨rfl,?_,g⟩
 rw[ea];exact(if_neg (by omega)).symm
def qRt:List (List Str)->List (List Str)->Bool
 |[],[]=>false
 |[],_ :: _=>true
 |_ :: _,[]=>false
 |a :: x,b :: y=>if a=b then qRt x y else ltL a b
section
variable{P:Program}{w:World}{A:Around}{E:Value->Shared->Prop}{s:Shared}
open SeqAt in
theorem qZc(hu:A.units<cLine)(ha:s.heap.IsList a i1)(hb:s.heap.IsList b i2)(hx:StrsAre i1.toList x)(hy:StrsAre i2.toList y):EqAt A s (.ref a) (.ref b) (decide (x=y)):=by
 by_cases e:a=b
 ·subst e;obtain⟨o1,e1,c1,n1,d1⟩:=ha;obtain⟨o2,e2,c2,n2,d2⟩:=hb;rw[e1]at e2;cases e2;rw[d1]at d2;injection d2 with d2 _
  subst d2;have:x=y:=by rw[<-hx.strs,<-hy.strs]
  rw[decide_eq_true this];exact EqAt.same _
 ·have l1:i1.size=x.length:=by rw[<-hx.strs];simp
  have l2:i2.size=y.length:=by rw[<-hy.strs];simp
  by_cases hs:i1.size=i2.size
  ·have q:=RcAt.lists (e:=fun j=>x.getD j "" == y.getD j "") ha hb hs hu fun j h1 h2=>by
    obtain⟨t1,q1⟩:=qH5 hx (i:=j) (by simpa using h1);obtain⟨t2,q2⟩:=qH5 hy (i:=j) (by simpa using h2);rw[hBc,hCl h1]at q1;rw[hBc,hCl h2]at q2;rw[hAm q1,hAm q2];exact EqAt.str_str _ _ _ _
   have eb:(List.range i1.size).all (fun j=>x.getD j "" == y.getD j "")=decide (x=y):=by
    rw[hDj];simp only[hCw,hB6,beq_iff_eq,decide_eq_true_eq];constructor
    ·intro h;refine List.ext_getElem (by omega) fun j h1 h2=>?_
     have:=h j (by omega);rw[hA8,hA8,hA2 h1,hA2 h2]at this;exact this
    ·intro h j _;rw[h]
   rw[eb]at q;exact EqAt.of_refs e q
  ·have ne:x≠y:=fun z=>hs (by rw[l1,l2,z])
   rw[decide_eq_false ne];exact EqAt.of_refs e (RcAt.lists_lengths ha hb (by simpa using hs) hu)
theorem qIv:∀ {vs:List Value} {ts:List (List Str)} {h:Heap},Paired (qTd h) vs ts->∀ {i:Nat},i<vs.length->∃(b:Addr) (its:Array Value),vs[i]?=some (.ref b)/\h.IsList b its/\StrsAre its.toList (ts.getD i [])
 |_,_,_,.nil,i,hi=>absurd hi (hC3 _)
 |_,_,_,.cons ⟨a,its,e,l,st⟩ r,0,_=>⟨a,its,by rw[e];rfl,l,st⟩
 |_,_,_,.cons _ r,i+1,hi=>qIv r (i:=i) (by simpa using hi)
theorem qOa{x:List (List Str)}{i:Nat}(h:i<x.length):x.drop i=x.getD i [] :: x.drop (i+1):=by
 rw[hCm h,hA8,hA2 h];rfl
open AutoSeq1 (wpAny_loadPart')
open MeetsSeq MeetsSeq2 MeetsSeq3 SeqRoads2
theorem qRq(l b:Addr)(items items2:Array Value)(n n2:Nat)(dd dd2:Option Addr)(sl sl2:Array (Option Value))(x y:List (List Str)):∀(k i:Nat),items.size - i=k->i<=items.size->i<=items2.size ->
  Meets (Builtin.«list.__eq__.loop» ⟨[.ref l,.ref b,rawInt i,rawInt 0],[]⟩)
   (fun A R s=>(A.in1.units<cLine/\Paired (qTd s.heap) items.toList x/\Paired (qTd s.heap) items2.toList y/\s.heap.get? l=some { cls:=.type "list",dict:=dd,data:=.seq items n,slots:=sl }/\s.heap.get? b=some { cls:=.type "list",dict:=dd2,data:=.seq items2 n2,slots:=sl2 })/\R (.ok (.ret (.bool (qRt (x.drop i) (y.drop i))))) s):=by
 intro k
 induction k with
 |zero =>
  intro i hk h1 h2 prog w A R s h;obtain⟨hp,g,d,tk,os⟩:=s;obtain⟨⟨hu,hx,hy,hl,hb⟩,h⟩:=h;have lx:items.size=x.length:=by have:=hx.length;simpa using this
  have ly:items2.size=y.length:=by have:=hy.length;simpa using this
  have e1:i=items.size:=by omega
  have q1:items[((i:Nat):Int).toNat]?=none:=by simp;omega
  wp_walk using wpAny_loadPart' hl,wpAny_loadPart' hb
  rw[q1]
  wp_walk using wpAny_loadPart' hl,wpAny_loadPart' hb
  have dx:x.drop i=[]:=by simp;omega
  rw[dx]at h;show R (.ok (.ret (.bool (decide (items.size<items2.size))))) _;cases hd:y.drop i with
  |nil =>
   rw[hd]at h;have:y.length<=i:=by simpa using hd
   rw[decide_eq_false (by omega)];exact h
  |cons a r =>
   rw[hd]at h;have:i<y.length:=by
    have:=congrArg List.length hd;rw[hD3,hBu]at this;omega
   rw[decide_eq_true (by omega)];exact h
 |succ k ih =>
  intro i hk h1 h2 prog w A R s h;obtain⟨hp,g,d,tk,os⟩:=s;obtain⟨⟨hu,hx,hy,hl,hb⟩,h⟩:=h;have lx:items.size=x.length:=by have:=hx.length;simpa using this
  have ly:items2.size=y.length:=by have:=hy.length;simpa using this
  have hlt:i<items.size:=by omega
  obtain⟨a1,its1,q1,il1,st1⟩:=qIv hx (i:=i) (by simpa using hlt);rw[hBc]at q1;have q1':items[((i:Nat):Int).toNat]?=some (.ref a1):=q1;have dx:=qOa (x:=x) (i:=i) (by omega)
  wp_walk using wpAny_loadPart' hl,wpAny_loadPart' hb
  rw[q1'];by_cases hlt2:i<items2.size
  ·obtain⟨a2,its2,q2,il2,st2⟩:=qIv hy (i:=i) (by simpa using hlt2);rw[hBc]at q2;have q2':items2[((i:Nat):Int).toNat]?=some (.ref a2):=q2;have dy:=qOa (x:=y) (i:=i) (by omega);have hc:((i:Int)+1)=((i+1:Nat):Int):=by push_cast;rfl
   rw[dx,dy]at h;unfold qRt at h;rw[q2'];refine wpAny_bind (qZc hu il1 il2 st1 st2 _ _ _ _ ?_);by_cases e:x.getD i []=y.getD i []
   ·rw[if_pos e]at h;rw[decide_eq_true e]
    wp_walk
    rw[hc];exact⟨plainId_quiet plain_eq_loop _,codeAny_builtin entry_eq_loop (by
     rw[Around.under_plainId plain_eq_loop _];exact ih (i+1) (by omega) (by omega) (by omega) prog w A R _ ⟨⟨hu,hx,hy,hl,hb⟩,h⟩)⟩
   ·rw[if_neg e]at h;rw[decide_eq_false e]
    wp_walk using wpAny_loadPart' hl,wpAny_loadPart' hb
    rw[q1',q2'];obtain⟨⟨cls,dd3,data,sl3⟩,ho,hc3,n3,hd3⟩:=il1;obtain⟨⟨cls4,dd4,data4,sl4⟩,ho4,hc4,n4,hd4⟩:=il2;simp only at hc3 hd3 hc4 hd4;subst hc3 hd3 hc4 hd4;refine wpAny_bind (richCompare_meets_room (op:=.Lt) ⟨_,ho,rfl⟩ ⟨_,ho4,rfl⟩ F.slot_list_lt F.entry_list_lt (F.args_list_lt_2 _ _) (qNs a1 a2 its1 its2 n3 n4 dd3 dd4 sl3 sl4 _ _ st1 st2) ⟨⟨ho,ho4⟩,?_⟩ hu);exact⟨(fun z=>nomatch z),wpAny_pure h⟩
  ·have q2':items2[((i:Nat):Int).toNat]?=none:=by simp;omega
   rw[q2']
   wp_walk using wpAny_loadPart' hl,wpAny_loadPart' hb
   have dy:y.drop i=[]:=by simp;omega
   rw[dx,dy]at h;show R (.ok (.ret (.bool (decide (items.size<items2.size))))) _;rw[decide_eq_false (by omega)];exact h
theorem qRx(l b:Addr)(items items2:Array Value)(n n2:Nat)(dd dd2:Option Addr)(sl sl2:Array (Option Value))(x y:List (List Str)) :
  Meets (Builtin.«list.__lt__» ⟨[.ref l,.ref b],[]⟩)
   (fun A R s=>(A.in1.units<cLine/\Paired (qTd s.heap) items.toList x/\Paired (qTd s.heap) items2.toList y/\s.heap.get? l=some { cls:=.type "list",dict:=dd,data:=.seq items n,slots:=sl }/\s.heap.get? b=some { cls:=.type "list",dict:=dd2,data:=.seq items2 n2,slots:=sl2 })/\R (.ok (.ret (.bool (qRt x y)))) s):=by
 intro prog w A R s h;obtain⟨hp,g,d,tk,os⟩:=s;obtain⟨⟨hu,hx,hy,hl,hb⟩,h⟩:=h;have f3:=AutoSeq1.sub_list_list
 wp_walk using wpAny_loadPart' hl,wpAny_loadPart' hb
 exact⟨plainId_quiet plain_eq_loop _,codeAny_builtin entry_eq_loop (by
  rw[Around.under_plainId plain_eq_loop _];exact qRq l b items items2 n n2 dd dd2 sl sl2 x y _ 0 rfl (hAo _) (hAo _) prog w A R _ ⟨⟨hu,hx,hy,hl,hb⟩,h⟩)⟩
def zB1(h:Heap)(v:Value)(t:List (List Str)):Prop:=∃a its,v = .ref a/\h.IsList a its/\Paired (qTd h) its.toList t
theorem qUz(hu:A.units+8<cLine){u v:Value}(h1:zB1 s.heap u x)(h2:zB1 s.heap v y)(h:Q (qRt x y) s):wpAny (model P w) A (keyLt' oneType' u v) Q E s:=by
 obtain⟨l,items,rfl,hl,hx⟩:=h1;obtain⟨b,items2,rfl,hb,hy⟩:=h2;obtain⟨⟨cls,dd,data,sl⟩,ho,hc,n,hd⟩:=hl;obtain⟨⟨cls2,dd2,data2,sl2⟩,ho2,hc2,n2,hd2⟩:=hb;simp only at hc hd hc2 hd2;subst hc hd hc2 hd2;rw[keyLt'_oneType,oneLt'_eq];simp only[if_true];refine wpAny_bind (wpAny_cRoomFor (by omega) ?_);refine wpAny_bind (wpAny_callSpecialIfBound?_slot (⟨_,ho,rfl⟩:s.TypeIs (.ref l) "list") F.slot_list_lt (call_meets F.slot_list_lt ⟨_,ho,rfl⟩ F.entry_list_lt (F.args_list_lt_2 _ _) (qRx l b items items2 n n2 dd dd2 sl sl2 x y) ⟨⟨?_,hx,hy,ho,ho2⟩,?_⟩))
 ·exact hD5 (show A.units+_<=A.units+8 from Nat.add_le_add_left (by decide) _) hu
 exact wpAny_truthy_bool h
end
abbrev Pk:=Addr×Addr×List (List Str)
def ltP(ps:List Pk)(i j:Nat):Bool:=qRt ((ps.map fun p=>p.2.2).getD i []) ((ps.map fun p=>p.2.2).getD j [])
def qO3(ps:List Pk):List Addr:=(qMi ps.length (ltP ps)).map fun i=>(ps.map fun p=>p.1).getD i 0
def qZr(K:PySem.W.Frag)(H:Hp)(p:Pk):Prop:=∃k:Str,H p.1=some (.tup [.str k,.ref p.2.1])/\∃as:List Addr,H p.2.1=some (.lst (as.map V.ref))/\Paired (fun a r=>H a=some (.lst (r.map V.str))) as p.2.2
theorem zC5{K:PySem.W.Frag}{H H':Hp}{P:Addr}{qs:Array Value}(hP:H P=some (.tbl qs))(e:ExtB P H H'){p:Pk}(h:qZr K H p):qZr K H' p:=by
 obtain⟨k,h1,as,h2,h3⟩:=h;exact⟨k,e _ _ (fun z=>by rw[z,hP]at h1;cases h1) h1,as,e _ _ (fun z=>by rw[z,hP]at h2;cases h2) h2,Paired.mapP h3 fun a r z=>e _ _ (fun q=>by rw[q,hP]at z;cases z) z⟩
theorem qNz:∀ {as:List Addr} {i:Nat},i<as.length->(as.map Value.ref).getD i Value.none = .ref (as.getD i 0)
 |a :: as,0,_=>rfl
 |a :: as,i+1,h=>qNz (as:=as) (i:=i) (by simpa using h)
section
variable{X:Cx}
theorem qY2{pins:List (Addr×Obj)}{σ:St}{H:Hp}{s:Shared}(I:Inv X pins σ H s){p:Pk}(h:qZr X.K H p):zB1 s.heap (.ref p.2.1) p.2.2:=by
 obtain⟨k,h1,as,h2,h3⟩:=h;obtain⟨its,rv,⟨o,n,e,c,_,dt⟩,_⟩:=I.list (.inl (.inl h2));have ei:=refs_of rv;subst ei;exact⟨_,_,rfl,⟨o,e,c,n,dt⟩,qIu I (fun _ _ z=>z) (Paired.mapP h3 fun a r z=>.inl (.inl z))⟩
theorem qXa{ps:List Pk}
  (I:Inv X ((kS,seqObj "list" (ps.map fun p=>Value.ref p.2.1).toArray en) :: (a,seqObj "list" #[] e1) :: pins) σ H s) (hk:kS≠a) (Hk:H kS=none) (Ha:H a=none) (wa:Aw X pins a) (wk:Aw X pins kS) (hu:A.units+8<cLine)
  (keys:∀p∈ps,zB1 s.heap (.ref p.2.1) p.2.2) (h64:ps.length<64)
  (h:∀(s':Shared),(qMi ps.length (ltP ps)).Perm (List.range ps.length)->Inv X pins σ (upd H a (.lst ((qO3 ps).map V.ref))) s'->P (.done (.ret .none)) s') :
  wpAny (model X.prog X.w) A (ksk_end a false (ps.map fun p=>Value.ref p.1).toArray e1 (.ref kS) (ps.map fun p=>Value.ref p.2.1).toArray) P E' s:=by
 have ok:s.heap.get? kS=some (seqObj "list" (ps.map fun p=>Value.ref p.2.1).toArray en):=(I.pin (kS,_) (hA9 _ (.head _))).1;have vm:(ps.map fun p=>Value.ref p.1)=(ps.map fun p=>p.1).map Value.ref:=by rw[hB5];rfl
 have fin:∀(st:SortSt),(arrOf st).map (·.2)=(List.toArray ((qO3 ps).map Value.ref))->(qMi ps.length (ltP ps)).Perm (List.range ps.length)->failedOf st=none->wpAny (model X.prog X.w) A (ksk_tail a false e1 (.ref kS) st) P E' s:=by
  intro st ea pm hf;have lo:(qO3 ps).length=ps.length:=by unfold qO3;rw[hA1,pm.length_eq,hB0]
  have sz:(arrOf st).size=ps.length:=by
   have h1:((arrOf st).map (·.2)).size=(List.toArray ((qO3 ps).map Value.ref)).size:=congrArg Array.size ea;rw[Array.size_map]at h1;rw[h1,hAb,hA1,lo]
  obtain⟨n1,I1,_⟩:=Inv.repinL (fun _=>(#[]:Array Value)) I.unpin (wk.cons (Ne.symm hk)) Hk ok;have oa1:(s.heap.update kS (Obj.mapSeq fun _=>(#[]:Array Value))).get? a=some (seqObj "list" #[] e1):=(I1.pin (a,_) (hA9 _ (.head _))).1;obtain⟨n2,I2,oa2⟩:=Inv.repinL (s:={ s with heap:=s.heap.update kS (Obj.mapSeq fun _=>(#[]:Array Value)) }) (fun _=>(arrOf st).map (·.2)) I1.unpin wa Ha oa1;unfold ksk_tail;try dsimp only
  refine wpAny_bind (listUpdate_at ok rfl ?_ (by rw[hAb,hA1,sizeLine_eq];omega) (hAo _));refine wpAny_bind (wpAny_letGo ?_);refine wpAny_bind (seqEpoch_at oa1 rfl ?_);refine wpAny_bind (listUpdate_at oa1 rfl ?_ (hAo _) (by simp only[hBn,if_false,Array.size_map];rw[sz,sizeLine_eq];omega));rw[hf];simp only[bne_self_eq_false,hBn,if_false];refine wpAny_pure (h _ pm ?_);refine I2.adoptL (its:=(qO3 ps).map Value.ref) (n:=n2) wa Ha (qD8 _) (by rw[hA1,lo,sizeLine_eq];omega) ?_;rw[<-ea];exact oa2
 have mapD:∀(l:List Nat),l.Perm (List.range ps.length)->l.map (fun i=>(ps.map fun p=>Value.ref p.1).getD i Value.none)=(l.map fun i=>(ps.map fun p=>p.1).getD i 0).map Value.ref:=fun l pl=>by
  rw[hB5];refine hBi fun i hi=>?_
  have:i<ps.length:=hB6.mp (pl.mem_iff.mp hi);rw[vm];exact qNz (by rw[hA1];exact this)
 unfold ksk_end;try dsimp only
 simp only[hBn,if_false];by_cases h2:((ps.map fun p=>Value.ref p.1).toArray).size<2
 ·rw[if_pos h2,if_pos h2];refine wpAny_bind (wpAny_pure ?_);rw[StateT.run_pure];refine wpAny_bind (wpAny_pure ?_);try dsimp only
  rw[hAb,hA1]at h2;have es:qMi ps.length (ltP ps)=List.range ps.length:=if_pos h2;refine fin _ ?_ (by rw[es]) rfl;show((ps.map fun p=>Value.ref p.2.1).toArray.zip (ps.map fun p=>Value.ref p.1).toArray).map (·.2)=_;apply Array.toList_inj.mp;rw[Array.toList_map,Array.toList_zip];show((ps.map fun p=>Value.ref p.2.1).zip (ps.map fun p=>Value.ref p.1)).map Prod.snd=(qO3 ps).map Value.ref;rw[List.map_snd_zip (by rw[hA1,hA1];exact hA7 _)];unfold qO3;rw[es,<-mapD _ (hDg _)];have:=qC2 (ps.map fun p=>Value.ref p.1);rw[hA1]at this;exact this.symm
 ·rw[if_neg h2,if_neg h2];rw[hAb,hA1]at h2;have l2:2<=(ps.map fun p=>Value.ref p.1).length:=by rw[hA1];omega
  have lk:(ps.map fun p=>Value.ref p.2.1).length=(ps.map fun p=>Value.ref p.1).length:=by rw[hA1,hA1]
  have lv:(ps.map fun p=>Value.ref p.1).length=ps.length:=hA1 _;refine wpAny_bind (kas_kind (T:=.type "list") (by rw[lk];exact l2) (fun v hv=>?_) (by decide) (by decide) ?_)
  ·obtain⟨p,hp,rfl⟩:=hAg.mp hv;obtain⟨b,its,e,⟨o,g,c,_⟩,_⟩:=keys p hp;cases e;exact kitAt_ty _ _ ⟨o,g,c⟩
  refine wpAny_bind (wpAny_mono (kat_run (ks:=ps.map fun p=>Value.ref p.2.1) (vs:=ps.map fun p=>Value.ref p.1) (Q:=fun st' s'=>s'=s/\(arrOf st').map (·.2)=(List.toArray ((qO3 ps).map Value.ref))/\(qMi ps.length (ltP ps)).Perm (List.range ps.length)/\failedOf st'=none) (G:=fun p s'=>s'=s/\p.toList=qMi ps.length (ltP ps)/\Gd ps.length p) lk l2 (by rw[lv];exact h64) (fun p st' s' a1 a2 a3 a4=>?_) ?_) ?_ fun _ _ e=>e)
  ·obtain⟨rfl,ep,g⟩:=a4;have pm:(qMi ps.length (ltP ps)).Perm (List.range ps.length):=by
    rw[<-ep];exact hBy.mp g
   refine⟨rfl,?_,pm,a3⟩;rw[kat_snds lk a2,ep,mapD _ pm];rfl
  ·rw[lv];refine qTm (by omega) fun i j C hi hj hC=>?_
   show wpAny _ _ (keyLt' _ ((ps.map fun p=>Value.ref p.2.1).getD i Value.none) ((ps.map fun p=>Value.ref p.2.1).getD j Value.none)) C _ _;have gt:∀ {i:Nat} (hi:i<ps.length),(ps.map fun p=>Value.ref p.2.1).getD i Value.none = .ref ps[i].2.1/\(ps.map fun p=>p.2.2).getD i []=ps[i].2.2:=fun {i} hi=>by
    constructor
    ·rw[hA8,hAe,hA2 hi];rfl
    ·rw[hA8,hAe,hA2 hi];rfl
   rw[(gt hi).1,(gt hj).1];unfold ltP at hC;rw[(gt hi).2,(gt hj).2]at hC;exact qUz hu (keys _ (hBs hi)) (keys _ (hBs hj)) hC
  ·rintro⟨⟨⟩,st'⟩ s' ⟨rfl,q1,q2,q3⟩;exact fin st' q1 q2 q3
theorem qH9{pins:List (Addr×Obj)}{σ:St}{H1:Hp}{s1:Shared}{l f:Addr}{ps:List Pk}{Q:VK}(I1:Inv X pins σ H1 s1)(hq:SqL X.K H1 l (ps.map fun p=>V.ref p.1))(hrow:∀p∈ps,qZr X.K H1 p)(h64:ps.length<64)(hu:X.A.in1.in1.units+8<cLine)
  (hcall:∀p∈ps,∀(pins':List (Addr×Obj)) (s':Shared),(∀q∈pins,q∈pins')->Inv X pins' σ H1 s'->wpAny (model X.prog X.w) X.A.in1.in1 (call (.ref f) [.ref p.1]) (EP X pins' σ (fun v H=>v = .ref p.2.1/\H=H1)) (fun _ _=>False) s')
  (q:∀(r:Addr),H1 r=none->(qMi ps.length (ltP ps)).Perm (List.range ps.length)->Q (.ref r) (upd H1 r (.lst ((qO3 ps).map V.ref)))) :
  wpAny (model X.prog X.w) X.A (call (.builtin "sorted") [.ref l] [(Str.ofString "key",.ref f)]) (EP X pins σ Q) X.xe s1:=by
 obtain⟨its,rv,pl,hz⟩:=I1.list hq;have ei:its=ps.map fun p=>Value.ref p.1:=by
  have rv':qBa ((ps.map fun p=>p.1).map V.ref) its:=by rw[hB5];exact rv
  have:=refs_of rv';rw[hB5]at this;exact this
 have hl:its.length=ps.length:=by rw[ei,hA1]
 refine call_function_entry_kw kind_sorted plain_sorted entry_sorted (ksk_s1 _ _) ?_;unfold Builtin.«sorted»;refine wpAny_bind (m:=checkCount "sorted" 1 1 _) (wpAny_pure ?_);refine wpAny_bind (collect_list pl.isList ?_ (by rw[sizeLine_eq];omega));refine wpAny_bind (wpAny_newList ?_ (by rw[sizeLine_eq];omega));have hsz:((s1.heap.push (seqObj "list" #[] 0)).update s1.heap.objs.size (Obj.mapSeq (·++its.toArray))).objs.size=s1.heap.objs.size+1:=by
  rw[Heap.size_update,size_push']
 have keep:∀b o,s1.heap.get? b=some o->((s1.heap.push (seqObj "list" #[] 0)).update s1.heap.objs.size (Obj.mapSeq (·++its.toArray))).get? b=some o:=fun b o q=>by
  have hlt:b<s1.heap.objs.size:=Heap.lt_size q;rw[Heap.get?_update_ne _ _ _ _ (hAp hlt),Heap.get?_push_ne _ _ _ (hAp hlt)];exact q
 have hoL:(((s1.heap.push (seqObj "list" #[] 0)).update s1.heap.objs.size (Obj.mapSeq (·++its.toArray))).push (seqObj "list" its.toArray 0)).get? (s1.heap.objs.size+1)=some (seqObj "list" its.toArray 0):=by
  rw[<-hsz];exact Heap.get?_push_size _ rfl
 have I2:Inv X pins σ H1 { s1 with heap:=((s1.heap.push (seqObj "list" #[] 0)).update s1.heap.objs.size (Obj.mapSeq (·++its.toArray))).push (seqObj "list" its.toArray 0) } :=
  I1.kept (t':=s1.toks) fun b o q=>Heap.get?_push_of_some _ (keep b o q)
 show wpAny _ _ _ _ _ { s1 with heap:=((s1.heap.push (seqObj "list" #[] 0)).update s1.heap.objs.size (Obj.mapSeq (·++its.toArray))).push (seqObj "list" its.toArray 0) };rw[hsz];have nA:H1 (s1.heap.objs.size+1)=none:=I1.hok.fresh (hBh _);have wA:Aw X pins (s1.heap.objs.size+1):=I1.aw (hBh _);generalize s1.heap.objs.size+1=a at hoL nA wA;generalize hS:({ s1 with heap:=((s1.heap.push (seqObj "list" #[] 0)).update s1.heap.objs.size (Obj.mapSeq (·++its.toArray))).push (seqObj "list" its.toArray 0) }:Shared)=s2 at I2;have ho2:s2.heap.get? a=some (seqObj "list" its.toArray 0):=by rw[<-hS];exact hoL
 clear hoL hS;refine wpAny_bind (wpAny_holding (wpAny_call_entry_kw slot_list_sort ⟨_,ho2,rfl⟩ entry_list_sort ?body (ksk_l1 _ _)));show wpAny (model X.prog X.w) X.A.in1.in1 (Builtin.«list.sort» ⟨[.ref a],[(Str.ofString "key",.ref f)]⟩) _ _ _;rw[ksk_t1];unfold ksk_tree;refine wpAny_bind (listItems_at ho2 rfl ?_);refine wpAny_bind (listUpdate_at ho2 rfl ?_ (by rw[hAb,sizeLine_eq];omega) (hAo _));obtain⟨e1,I3,ho3⟩:=I2.repinL (fun _=>#[]) wA nA ho2;refine wpAny_bind (seqEpoch_at ho3 rfl ?_);refine wpAny_bind (wpAny_newTuple ?_ (by show its.length<=_;rw[sizeLine_eq];omega));refine wpAny_bind (wpAny_newList ?_ (hAo _));refine wpAny_holding ?_;have I4:Inv X pins σ H1 { s2 with heap:=((s2.heap.update a (Obj.mapSeq fun _=>(#[]:Array Value))).push (seqObj "tuple" its.toArray 0)) }:=I3.kept (t':=s2.toks) fun b o q=>Heap.get?_push_of_some _ q
 have nK:=I4.fresh;have wK:=I4.aw (hA7 _);have ho4:((s2.heap.update a (Obj.mapSeq fun _=>(#[]:Array Value))).push (seqObj "tuple" its.toArray 0)).get? a=some (seqObj "list" #[] e1):=Heap.get?_push_of_some _ ho3;have nka:((s2.heap.update a (Obj.mapSeq fun _=>(#[]:Array Value))).push (seqObj "tuple" its.toArray 0)).objs.size≠a:=hBx (Heap.lt_size ho4);have I5:Inv X pins σ H1 { s2 with heap:=((s2.heap.update a (Obj.mapSeq fun _=>(#[]:Array Value))).push (seqObj "tuple" its.toArray 0)).push (seqObj "list" #[] 0) }:=I4.kept (t':=s2.toks) fun b o q=>Heap.get?_push_of_some _ q
 have ho5:(((s2.heap.update a (Obj.mapSeq fun _=>(#[]:Array Value))).push (seqObj "tuple" its.toArray 0)).push (seqObj "list" #[] 0)).get? a=some (seqObj "list" #[] e1):=Heap.get?_push_of_some _ ho4;have hk5:(((s2.heap.update a (Obj.mapSeq fun _=>(#[]:Array Value))).push (seqObj "tuple" its.toArray 0)).push (seqObj "list" #[] 0)).get? ((s2.heap.update a (Obj.mapSeq fun _=>(#[]:Array Value))).push (seqObj "tuple" its.toArray 0)).objs.size=some (seqObj "list" #[] 0):=Heap.get?_push_size _ rfl;show wpAny _ _ (ksk_rest a (.ref f) false its.toArray e1 (.ref ((s2.heap.update a (Obj.mapSeq fun _=>(#[]:Array Value))).push (seqObj "tuple" its.toArray 0)).objs.size)) _ _ { s2 with heap:=((s2.heap.update a (Obj.mapSeq fun _=>(#[]:Array Value))).push (seqObj "tuple" its.toArray 0)).push (seqObj "list" #[] 0) }
 change H1 ((s2.heap.update a (Obj.mapSeq fun _=>(#[]:Array Value))).push (seqObj "tuple" its.toArray 0)).objs.size=none at nK
 change Aw X pins ((s2.heap.update a (Obj.mapSeq fun _=>(#[]:Array Value))).push (seqObj "tuple" its.toArray 0)).objs.size at wK
 have I6:=(I5.pinL wA nA ho5).pinL (wK.cons (Ne.symm nka)) nK hk5;generalize ((s2.heap.update a (Obj.mapSeq fun _=>(#[]:Array Value))).push (seqObj "tuple" its.toArray 0)).objs.size=kS at nK wK nka I6 ⊢;generalize ({ s2 with heap:=((s2.heap.update a (Obj.mapSeq fun _=>(#[]:Array Value))).push (seqObj "tuple" its.toArray 0)).push (seqObj "list" #[] 0) }:Shared)=s6 at I6 ⊢;unfold ksk_rest;refine wpAny_bind (wpAny_rule ?_)
 first
  |rw[List.forIn_toArray]
  |(rw[<-Array.forIn_toList];simp only[List.toList_toArray])
  |rw[<-Array.forIn_toList]
 refine wpAny_bind (ksk_fold (fun i s'=>∃(e:Nat),Inv X ((kS,seqObj "list" ((ps.map fun p=>Value.ref p.2.1).take i).toArray e) :: (a,seqObj "list" #[] e1) :: pins) σ H1 s') its 0 s6 ⟨0,I6⟩ ?step ?done)
 case step =>
  rintro j x s' hx ⟨e,I'⟩;simp only[Nat.zero_add]at I' ⊢;have hj:j<its.length:=(hAk.mp hx).1;have hjn:j<ps.length:=by omega
  have hxe:x = .ref ps[j].1:=by
   rw[ei,hAe,hA2 hjn]at hx;exact(hAm hx).symm
  subst hxe;have hz:((ps.map fun p=>Value.ref p.2.1).take j).length<=its.length:=by rw[hAh,hA1];omega
  refine wpAny_bind (wpAny_attempt (wpAny_mono (hcall ps[j] (hBs hjn) _ s' (fun p hp=>hA4 _ (hA4 _ hp)) I') (fun v s'' he=>?_) fun _ _ (hF:False)=>hF.elim));obtain⟨w,H',I8,rw',rfl,e8⟩:=he;rw[e8]at I8;cases rw';try dsimp only
  have ok2:s''.heap.get? kS=some (seqObj "list" ((ps.map fun p=>Value.ref p.2.1).take j).toArray e):=(I8.pin (kS,_) (hA9 _ (.head _))).1;obtain⟨n3,I3,ok3⟩:=I8.unpin.repinL (·.push (.ref ps[j].2.1)) (wK.cons (Ne.symm nka)) nK ok2;have ek:(ps.map fun p=>Value.ref p.2.1).take (j+1)=(ps.map fun p=>Value.ref p.2.1).take j++[.ref ps[j].2.1]:=by rw[List.take_add_one,hAe,hA2 hjn];rfl
  refine wpAny_bind (listUpdate_at ok2 rfl ?_ (by rw[hAb,sizeLine_eq];omega) (hAq (Nat.le_of_eq (Array.size_push ..)) (by rw[hAb,sizeLine_eq];omega)));have ea:((ps.map fun p=>Value.ref p.2.1).take j).toArray.push (Value.ref ps[j].2.1)=((ps.map fun p=>Value.ref p.2.1).take (j+1)).toArray:=by rw[ek];simp
  rw[ea]at ok3;exact wpAny_pure ⟨rfl,n3,I3.pinL (wK.cons (Ne.symm nka)) nK ok3⟩
 case done =>
  rintro s' ⟨e,I'⟩;have e3:(ps.map fun p=>Value.ref p.2.1).take (0+its.length)=ps.map fun p=>Value.ref p.2.1:=hA5 (by rw[hA1];omega)
  rw[e3]at I';have ok2:s'.heap.get? kS=some (seqObj "list" (ps.map fun p=>Value.ref p.2.1).toArray e):=(I'.pin (kS,_) (hA9 _ (.head _))).1;try dsimp only
  refine wpAny_bind (listItems_at ok2 rfl ?_);subst ei;refine qXa I' nka nK nA wA wK hu (fun p hp=>qY2 I' (hrow p hp)) h64 fun s7 pm I7=>⟨_,rfl,?_⟩
  exact wpAny_pure ⟨_,rfl,⟨.ref a,_,I7,rfl,q a nA pm⟩⟩
end
def qPt(K:PySem.W.Frag)(P:Addr)(lpos:Pos)(q:Str)(t:TA):TE:=fun σ H Q=>t σ H fun vs H1=>∃(p:Addr) (ps:List Pk),vs=[.ref p]/\SqL K H1 p (ps.map fun p=>V.ref p.1)/\(∀x∈ps,qZr K H1 x)/\ps.length<64/\TabW H1 P lpos q /\
 ∀(r:Addr) (H2:Hp),H1 r=none->ExtB P H1 H2->H2 r=some (.lst ((qO3 ps).map V.ref))->(qMi ps.length (ltP ps)).Perm (List.range ps.length)->TabW H2 P lpos q->Q (.ref r) H2
section
variable{X:Cx}{k:Nat}
theorem qLm{e body:Expr}{params:Arguments}{scope:Scope}{t:TA}{te:TE}{p pos kp lpos:Pos}{x:Str}{c P:Addr}(L:LamAt X c P)(hr:Room (k+2) X.A)(hg:Gl X "sorted")(hm:X.mg "sorted" = none)(ha:PA X [e] t)
  (S:FnScope [x] [x] scope) (hcl:closureFor scope X.env=pure []) (hdef:defaultsOf params X.env=([],[]))
  (hb:∀(nm ql:Str) (pm cd ct u:Value),bindArgs { name:=nm,qualname:=ql,params,body:=.expr body,scope,globals:=mainGlobals,closure:=[],defaults:=.none,kwdefaults:=.none,doc:=.none,pyModule:=pm,annotations:=none,code:=cd,closureTuple:=ct,builtins:=builtinsNs } ⟨[u],[]⟩=pure [(x,u)])
  (hbody:∀(A:Around) (s:Shared) (H:Hp) (f:Addr) (cd:Value) (qual:Str),PE (qO9 CX0 X.prog X.w X.K X.mg X.base [x] qual scope f cd A X.stack s H E0) body te)
  (hte:∀(a g:Addr) (k:Str) (H:Hp) (Q:VK),H a=some (.tup [.str k,.ref g])->Q (.ref g) H->te [some (.ref a)] H Q)
  (he:backTo pos (starEach [e] X.env)=(false,eval e X.env) :: backTo pos (starEach [] X.env):=by rfl)
  (hplain:(backTo pos (starEach [e] X.env)).any (·.1)=false:=by rfl):PE X (.Call (.Name "sorted" p) [e] [⟨some "key",.Lambda params body scope lpos,kp⟩] pos) (qPt X.K P lpos (X.env.qual++"<lambda>") t):=by
 intro pins s σ H Q I h;refine wpAny_Call_Name_kw (qC9 I hg hm (by decide +kernel:bootBuiltins "sorted" = some (.builtin "sorted")) ?_ (by decide) (by decide));refine PyProof.Rows.callWith_kw (thn (ha pos pins s σ H _ I h) fun us s1 ⟨vs,H1,I1,r1,q1⟩=>?_) he hplain;obtain⟨l,ps,rfl,hq,hrow,h64,tw,q⟩:=q1;obtain⟨u,rfl,rx⟩:=qCl r1;cases rx;have hgs:s1.heap.Ns mainGlobals X.mg:=I1.ok.mod.glob.keeps I1.bk;obtain⟨bm,ob,b1,b2,b3,b4,b5,b6⟩:=L.bl;have rest:∀(c':Addr) (ctv:Value) (h':Heap) (tk:Nat) (H2:Hp),Inv X pins σ H2 { s1 with heap:=h'.push (PySem.W.kla_obj "<lambda>" (X.env.qual++"<lambda>") params body scope [] ((X.mg "__name__").getD .none) c' ctv),toks:=tk }->H2 c'=some (qVd c' (X.env.qual++"<lambda>"))->H2 h'.objs.size=none->Aw X pins h'.objs.size->(∃ps,H1 P=some (.tbl ps))->ExtB P H1 H2->TabW H2 P lpos (X.env.qual++"<lambda>")->(∀r,H2 r=none->H1 r=none) ->
   wpAny (model X.prog X.w) X.A (call (.builtin "sorted") [.ref l] [(Str.ofString "key",.ref h'.objs.size)]) (EP X pins σ Q) X.xe { s1 with heap:=h'.push (PySem.W.kla_obj "<lambda>" (X.env.qual++"<lambda>") params body scope [] ((X.mg "__name__").getD .none) c' ctv),toks:=tk }:=by
  intro c' ctv h' tk H2 I2 hc' nF wF ⟨ps,hP⟩ eB tw2 back;have I3:Inv X ((h'.objs.size,PySem.W.kla_obj "<lambda>" (X.env.qual++"<lambda>") params body scope [] ((X.mg "__name__").getD .none) c' ctv) :: pins) σ H2
    { s1 with heap:=h'.push (PySem.W.kla_obj "<lambda>" (X.env.qual++"<lambda>") params body scope [] ((X.mg "__name__").getD .none) c' ctv),toks:=tk }:=I2.pins_of fun p hp=>by
   rcases hAf.mp hp with rfl|hp
   ·exact⟨Heap.get?_push_size _ rfl,nF,wF.loc,wF.fs,fun v z=>by cases z⟩
   ·exact I2.pin p (hA9 _ hp)
  refine wpAny_mono (qH9 (Q:=Q) I3 (zBv hP eB hq) (fun p hp=>zC5 hP eB (hrow p hp)) h64 (by have:=(Room.in1 (Room.in1 hr)).un;omega) (fun p hp pins' s' sub I'=>?_) (fun r nr pm=>?_)) (fun v s' ⟨y,H',J,ry,qq⟩=>⟨y,H',J.unpin,ry,qq⟩) fun _ _ z=>z
  ·have ho:=(I'.pin _ (hA9 _ (sub _ (.head _)))).1;have hcr:s'.heap.CodeRec (.ref c') (X.env.qual++"<lambda>"):=(I'.hok c' _ hc').1;obtain⟨k0,hk0,_⟩:=zC5 hP eB (hrow p hp);refine wpAny_call (codeAny_mono (qQs (v:=.ref p.1) (t:=te) (Q:=fun v H=>v = .ref p.2.1/\H=H2) (Room.in1 (Room.in1 hr)) I'.env0.in1.in1 ho hcr S (hb _ _ _ _ _ _) rfl (hbody _ _ _ _ _ _) (hte p.1 p.2.1 k0 H2 _ hk0 ⟨rfl,rfl⟩)) fun r s'' hq=>?_);cases r with
   |error e=>exact False.elim hq
   |ok fl =>
    cases fl with
    |ret u=>exact I'.after hq
    |next=>exact False.elim hq
    |brk=>exact False.elim hq
    |cont=>exact False.elim hq
  ·refine q r _ (back r nr) (fun b o hb e=>?_) upd_same pm (tw2.ext fun b o e=>by rw[qAl (qAo e nr)];exact e);have:=eB b o hb e;rw[qAl (qAo this nr)];exact this
 rcases tw with hP|⟨c',hP,hc'⟩
 ·have hPh:s1.heap.get? P=some (PySem.W.tabObj #[]):=I1.hok P _ hP;have hgP:mainGlobals≠P:=fun z=>by
   obtain⟨o,es,ep,e1,hd,_⟩:=hgs;rw[z,hPh]at e1;cases e1;cases hd
  refine hD7 (PySem.W.kla_eval hdef (PySem.W.kla_makeFunction (mg:=X.mg) hcl I1.ok.glob hgs L.code (L.hd.keeps I1.bk) hPh trivial rfl hgP ⟨bm,ob,b1,b2,b3,b4,I1.bk _ _ b5,b6⟩ fun c' ctv h' tk hx hge hlt hrec htb=>hDb ?_));have hsz:s1.heap.objs.size<=h'.objs.size:=hB1 (hD5 hge hlt);have I2:=I1.grown (more:=#[rawInt lpos.line,rawInt lpos.col,.ref c']) (tk:=tk) (h':=h'.push (PySem.W.kla_obj "<lambda>" (X.env.qual++"<lambda>") params body scope [] ((X.mg "__name__").getD .none) c' ctv)) hP (fun b o hb e=>Heap.get?_push_of_some _ (hx b o hb e)) (Heap.get?_push_of_some _ htb);have hPlt:P<s1.heap.objs.size:=Heap.lt_size hPh;have nC1:H1 c'=none:=I1.hok.fresh hge;have nC:upd H1 P (.tbl (#[]++#[rawInt lpos.line,rawInt lpos.col,.ref c'])) c'=none:=by
   rw[qAl (hBx (hAi hPlt hge))];exact nC1
  have wC:Aw X pins c':=I1.aw hge;have I3:=I2.adoptX wC nC (qOd (hrec.keeps fun b o e=>Heap.get?_push_of_some _ e));have nF1:H1 h'.objs.size=none:=I1.hok.fresh hsz;refine rest c' ctv h' tk _ I3 upd_same ?_ (I1.aw hsz) ⟨_,hP⟩ (fun b o hb e=>?_) (.inr ⟨c',?_,upd_same⟩) fun r hr0=>?_
  ·rw[qAl (hBx hlt),qAl (hBx (hAi hPlt hsz))];exact nF1
  ·rw[qAl (qAo e nC1),qAl hb];exact e
  ·rw[qAl (hAp (hAi hPlt hge)),upd_same];simp
  ·by_cases h1:r=c'
   ·rw[h1];exact nC1
   ·rw[qAl h1]at hr0;by_cases h2:r=P
    ·rw[h2,upd_same]at hr0;cases hr0
    ·rw[qAl h2]at hr0;exact hr0
 ·have hPh:s1.heap.get? P=some (PySem.W.tabObj #[rawInt lpos.line,rawInt lpos.col,.ref c']):=I1.hok P _ hP;refine hD7 (PySem.W.kla_eval hdef (PySem.W.kla_makeFunctionHit (mg:=X.mg) hcl I1.ok.glob hgs L.code (L.hd.keeps I1.bk) hPh ?tri (qW5 lpos _) ⟨bm,ob,b1,b2,b3,b4,I1.bk _ _ b5,b6⟩ fun ctv h' tk hk hsz=>hDb ?_))
  case tri=>trivial
  have I2:Inv X pins σ H1 { s1 with heap:=h'.push (PySem.W.kla_obj "<lambda>" (X.env.qual++"<lambda>") params body scope [] ((X.mg "__name__").getD .none) c' ctv),toks:=tk }:=I1.kept (t':=tk) fun b o e=>Heap.get?_push_of_some _ (hk b o e)
  exact rest c' ctv h' tk H1 I2 hc' (I1.hok.fresh hsz) (I1.aw hsz) ⟨_,hP⟩ (fun b o _ e=>e) (.inr ⟨c',hP,hc'⟩) fun r z=>z
end
section
variable{prog:Program}{w:World}{A:Around}{E:Value->Shared->Prop}{s:Shared}
theorem qDw{r:Addr}{n:Nat}{t u v:Tok}{Q:Value->Shared->Prop}(hn:1<=n/\n<=12)(hl:s.heap.get? r=some { cls:=.type "range",data:=.fields #[.int 0 t,.int n u,.int 1 v] })
  (h:Q (.ref s.heap.objs.size) { s with heap:=s.heap.push (qM7 n) }):wpAny (model prog w) A (call (.builtin "range.__reversed__") [.ref r]) Q E s:=by
 have ty:s.TypeIs (.ref r) "range":=⟨_,hl,rfl⟩;refine wpAny_call_entry F.slot_range_reversed ty F.entry_range_reversed ?_ (F.args_range_reversed_1 _);unfold Builtin.«range.__reversed__»;refine wpAny_bind (wpAny_of_eq (a:=Value.ref r) rfl ?_);have hn:n=1\/n=2\/n=3\/n=4\/n=5\/n=6\/n=7\/n=8\/n=9\/n=10\/n=11\/n=12:=by omega
 rcases hn with rfl|rfl|rfl|rfl|rfl|rfl|rfl|rfl|rfl|rfl|rfl|rfl
 all_goals
  refine wpAny_bind ?_;unfold Builtin.Range.rangeFields;refine wpAny_bind (wpAny_field hl rfl (x:=.int 0 t) rfl ?_);refine wpAny_bind (wpAny_of_eq (a:=some (0:Int)) rfl ?_);refine wpAny_bind (wpAny_field hl rfl rfl ?_);refine wpAny_bind (wpAny_pure ?_);refine wpAny_bind (wpAny_field hl rfl (x:=.int 1 v) rfl ?_);refine wpAny_bind (wpAny_of_eq (a:=some (1:Int)) rfl ?_);refine wpAny_pure ?_;exact wpAny_bind (wpAny_newObj_type (wpAny_pure ⟨_,rfl,h⟩))
theorem qEr{r:Addr}{n:Nat}{t u v:Tok}{Q₁:Value->Shared->Prop}(hn:1<=n/\n<=12)(hl:s.heap.get? r=some { cls:=.type "range",data:=.fields #[.int 0 t,.int n u,.int 1 v] })
  (h:Q₁ (.ref s.heap.objs.size) { s with heap:=s.heap.push (qM7 n) }) :
  codeAny (model prog w) A (.call (.builtin "reversed.__new__") ⟨[.type "reversed",.ref r],[]⟩) (wants Q₁ E) s:=by
 have ty:s.TypeIs (.ref r) "range":=⟨_,hl,rfl⟩;refine codeAny_of_tree ?_;show wpAny _ A.in1 (do checkBuiltinCall "reversed.__new__" ⟨[.type "reversed",.ref r],[]⟩;again (.builtin "reversed.__new__" ⟨[.type "reversed",.ref r],[]⟩)) _ _ s;refine wpAny_bind (wpAny_of_eq (F.newCall_reversed_1 _) (wpAny_pure ⟨plainId_quiet F.plain_reversed_new _,codeAny_builtin F.entry_reversed_new ?_⟩));rw[Around.under_plainId F.plain_reversed_new _];unfold Builtin.«reversed.__new__»;refine wpAny_bind (wpAny_of_eq (newClass_reversed _) ?_);try dsimp only
 refine wpAny_bind (wpAny_of_eq (a:=()) (by first|rfl|kernel_rfl) ?_);refine wpAny_bind (wpAny_of_eq (a:=()) (by first|rfl|kernel_rfl) ?_);try dsimp only
 refine wpAny_bind (wpAny_specialOf ty F.slot_range_reversed.lookup ?_);try dsimp only
 refine wpAny_bind (wpAny_of_eq (F.slot_range_reversed.bind _) ?_);try dsimp only
 first
 |rw[if_neg (show ¬((Value.builtin "range.__reversed__" == Value.none)=true) from hAu)]
 |(show wpAny _ _ (if (Value.builtin "range.__reversed__" == Value.none)=true then _ else _) _ _ _;rw[if_neg (show ¬((Value.builtin "range.__reversed__" == Value.none)=true) from hAu)])
 refine wpAny_bind (wpAny_rule ?_);refine wpAny_bind (m:=runValue (.call (.builtin "range.__reversed__") ⟨[.ref r],[]⟩)) (show wpAny _ _ (call (.builtin "range.__reversed__") [.ref r]) _ _ _ from qDw hn hl ?_)
 first
 |exact wpAny_pure h
 |exact wpAny_bind (wpAny_pure (wpAny_pure h))
theorem qEt{r:Addr}{n:Nat}{t u v:Tok}{Q:Value->Shared->Prop}(hn:1<=n/\n<=12)(hl:s.heap.get? r=some { cls:=.type "range",data:=.fields #[.int 0 t,.int n u,.int 1 v] })
  (h:Q (.ref s.heap.objs.size) { s with heap:=s.heap.push (qM7 n) }):wpAny (model prog w) A (call (.type "reversed") [.ref r]) Q E s:=by
 refine callType_other (U:="range_iterator") (Q₁:=fun obj s₁=>obj = .ref s.heap.objs.size/\s₁={ s with heap:=s.heap.push (qM7 n) }) (by decide +kernel) F.create_reversed ⟨_,_,F.mro_reversed⟩ F.made_reversed qF5 (F.typeCall_reversed_1 _) (qEr hn hl ⟨rfl,rfl⟩) ?_;rintro obj s₁ ⟨rfl,rfl⟩;exact⟨⟨_,Heap.get?_push_size _ rfl,rfl⟩,h⟩
end
section
variable{X:Cx}{tg:Expr}
def zCr(ta:TA):TI:=fun σ H R=>ta σ H fun vs H1=>∃(r:Addr) (n:Nat),vs=[.ref r]/\H1 r=some (.rng 0 (n:Int))/\(1<=n/\n<=12)/\R (Itd ((n:Int) - 1) n) H1
theorem qX2{e:Expr}{ta:TA}{p pos:Pos}(hg:Gl X "reversed")(hm:X.mg "reversed" = none)(ha:PA X [e] ta)(hs:starEach [e] X.env=[(false,eval e X.env)]:=by rfl):PI X tg (.Call (.Name "reversed" p) [e] [] pos) (zCr ta):=by
 intro pins s σ H R I h;refine Call_ (qC9 I hg hm boot_reversed (hBw (thn (ha pos pins s σ H _ I h) fun us s1 ⟨vs,H1,I1,r1,q1⟩=>?_) hs rfl));obtain⟨r,n,rfl,hr,hn,q⟩:=q1;obtain⟨u,rfl,rx⟩:=qCl r1;cases rx;obtain⟨t1,t2,t3,hl⟩:=I1.hok r _ hr;refine qEt hn hl ?_;refine wpAny_pyIter_rangeiter (Heap.get?_push_size _ rfl) ?_;refine⟨s1.heap.objs.size,[s1.heap.objs.size],_,_,H1,rfl,I1.kept (t':=s1.toks) fun b o e=>Heap.get?_push_of_some _ e,qKv _ ((n:Int) - 1) n,?_,fun b hb=>?_,q⟩
 ·have e1:((n:Int) - 1)+((0:Nat):Int)*(-1)=(n:Int) - 1:=by omega
  have e2:((n:Nat):Int) - ((0:Nat):Int)=(n:Int):=by omega
  show IsRangeIter _ _ (((n:Int) - 1)+((0:Nat):Int)*(-1)) (((n:Nat):Int) - ((0:Nat):Int)) (-1);rw[e1,e2];exact Heap.get?_push_size _ rfl
 ·have e:b=s1.heap.objs.size:=by simpa using hb
  subst e;exact I1.fpOk (hA7 _) (I1.hok.fresh (hA7 _))
end
section
variable{Q:List V->Hp->Prop}{H1:Hp}{σ0:St}{g:TG}{tt:TT}{te:TE}
theorem qI9{hi:Int}{n:Nat}(Pv:Nat->List V->Hp->Prop)(h0:Pv 0 [] H1)
  (hs:∀i ys H,i<n->Pv i ys H->g (.int (hi - i)) σ0 H fun σ2 H2=>Sle σ0 σ2/\tt σ2 H2 fun b H3=>if b=true then te σ2 H3 (fun v H4=>ys.length<sizeLine/\Nxt n i Pv (ys++[v]) H4) else Nxt n i Pv ys H3)
  (hd:∀ys H,Pv n ys H->Q ys H):qDj (Itd hi n) σ0 g tt te Q H1:=by
 refine⟨fun i m ys H=>m=n - i/\i<=n/\Pv i ys H,⟨n,by simp,hAo _,h0⟩,?_⟩;rintro i m ys H ⟨rfl,hi,p⟩;by_cases hlt:i<n
 ·refine .inr ⟨hlt,fun x H' y=>?_⟩;obtain⟨e,y⟩:=y;subst e y;exact hs i ys _ hlt p
 ·have e:i=n:=by omega
  subst e;exact .inl ⟨hA7 _,hd ys H p⟩
end
end L2
namespace My
open PySem L2
def lpP:Pos:=match (qB7 qDc).getD 4 (.Pass ⟨0,0,0,0⟩) with
 |.Return (some (.Call _ _ [⟨_,.Lambda _ _ _ p,_⟩] _)) _=>p
 |_=>⟨0,0,0,0⟩
abbrev qL:Str:=("parts" : Str)++".<locals>."++"<lambda>"
def singF(n:Nat):List Nat:=(List.range n).map fun i=>2^(n - 1 - i)
theorem qMu{n i:Nat}(h:i<n):(singF n)[i]?=some (2^(n - 1 - i)):=by
 unfold singF;rw[hAe,hDd h];rfl
theorem qQe(n:Nat):(singF n).Perm ((List.range n).map fun k=>2^k):=by
 have e:singF n=((List.range n).map fun k=>2^k).reverse:=by
  refine hDq fun i=>?_
  by_cases h:i<n
  ·rw[qMu h,List.getElem?_reverse (by rw[hA1,hB0];exact h),hA1,hB0,hAe,hDd (by omega)];rfl
  ·rw[hBm (by unfold singF;rw[hA1,hB0];omega),hBm (by rw[List.length_reverse,hA1,hB0];omega)]
 rw[e];exact List.reverse_perm _
theorem qQ5:∀n:Nat,((List.range n).map fun k=>2^k).sum=2^n - 1
 |0=>rfl
 |n+1=>by
  rw[hCq,hA3,hDt,qQ5 n,hDu];have:=hD9 (n:=n);show 2^n - 1+(2^n+0)=_;omega
theorem qK4(n:Nat):Pt (2^n - 1) (singF n):=Pt.perm ⟨fun g hg=>by
  obtain⟨k,_,rfl⟩:=hAg.mp hg;exact hBx (Nat.two_pow_pos k),(BlI.first n).dis,qQ5 n⟩ (qQe n).symm
theorem qC5(n:Nat):(singF n).length=n:=by unfold singF;rw[hA1,hB0]
def jF(n:Nat)(S:List Nat):List PE1:=joF (2^n - 1) (paF S 10 (singF n))
theorem qIp{w:Nat}(S:List Nat):∀(k:Nat) {gs:List Nat},Sh w gs->gs.length<=k+2->(paF S k gs).length+2<=gs.length
 |0,gs,h,l=>absurd h.l3 (by omega)
 |k+1,gs,h,l=>by
  have l3:=h.l3;unfold paF;split
  ·show 1+2<=_;omega
  ·rename_i c;obtain⟨xl,s1,s2⟩:=qN2 c;revert xl s1 s2;generalize fpF (shF S gs) gs.length=x;intro xl s1 s2;obtain⟨t1,t2,t3⟩:=qEb h.pt.nd xl s1 s2;have sp:=qC1 h.pt.nd x;have pn:∀ {l:List Nat},2<=l.length->l≠[]:=fun {l} h z=>by rw[z]at h;exact absurd h (by decide)
   have A:=qIp (w:=w) S k (gs:=beF (rowI gs x) (outF gs (rowI gs x))) ⟨(h.pt.perm sp).beside (pn t2),by rw[qBw];omega⟩ (by rw[qBw];omega);have B:=qIp (w:=w) S k (gs:=beF (outF gs (rowI gs x)) (rowI gs x)) ⟨(h.pt.perm (sp.trans List.perm_append_comm)).beside (pn t1),by rw[qBw];omega⟩ (by rw[qBw];omega);rw[qBw]at A B;rw[hAa];omega
structure JOk(n:Nat)(J:List PE1):Prop where
 sh:∀e∈J,Sh (2^n - 1) e.2
 kd:∀e∈J,e.1 = "ring"\/e.1 = "bundle"\/e.1 = "whole"
 ln:J.length<=10
theorem zBb{n:Nat}(S:List Nat)(h3:3<=n)(h12:n<=12):JOk n (jF n S)/\JI (2^n - 1) [] (paF S 10 (singF n))/\(paF S 10 (singF n)).length<=10:=by
 have sh:Sh (2^n - 1) (singF n):=⟨qK4 n,by rw[qC5];exact h3⟩;have l:=qIp S 10 sh (by rw[qC5];omega);rw[qC5]at l;have ji:=(qLo S 10 sh (by rw[qC5];omega)).ji;have ja:=ji.all (paF S 10 (singF n)).length;rw[hA5 (hA7 _)]at ja;have ln:=qLw (2^n - 1) [] (paF S 10 (singF n));refine⟨⟨fun e he=>ja.sh e (hAl _ he),fun e he=>ja.kd e (hAl _ he),?_⟩,ji,by omega⟩;show((paF S 10 (singF n)).foldl (joS (2^n - 1)) []).length<=10;simp only[List.length_nil]at ln;omega
def qTf(names:List Str)(J:List PE1):List (List (List Str)):=J.map fun e=>e.2.map (rowM names)
def ltJ(names:List Str)(J:List PE1)(i j:Nat):Bool:=qRt ((qTf names J).getD i []) ((qTf names J).getD j [])
def srtL(names:List Str)(J:List PE1):List PE1:=(qMi J.length (ltJ names J)).map fun i=>J.getD i ("",[])
def PrE(H H':Hp)(names:List Str)(t:Addr)(e:PE1):Prop:=∃G,H G=none/\H' t=some (.tup [.str e.1,.ref G])/\qEz H' G (e.2.map (rowM names))
def qP3(Pt:Addr):Sp:=fun vs H Q _=>∃(T:Addr) (names:List Str) (rows:List (List Str)),vs=[.ref T]/\qFi H T names rows/\rows.length<=24/\3<=names.length/\names.length<=12/\TabW H Pt lpP qL /\
 ∀(L:Addr) (ts:List Addr) H',ExtB Pt H H'->H L=none->H' L=some (.lst (ts.map V.ref))->Paired (PrE H H' names) ts (srtL names (jF names.length (dsF (rows.map (qBu names)))))->(qMi (jF names.length (dsF (rows.map (qBu names)))).length (ltJ names (jF names.length (dsF (rows.map (qBu names)))))).Perm (List.range (jF names.length (dsF (rows.map (qBu names)))).length)->TabW H' Pt lpP qL->Q (.ref L) H'
theorem qUu{names:List Str}(rows:List (List Str)):(dsF (rows.map (qBu names))).length<=names.length:=by
 rw[qWv];have lt:=zAh (xs:=rows.map (qBu names)) (m:=names.length) fun x hx=>by
  obtain⟨r,_,rfl⟩:=hAg.mp hx;exact qUv _ _
 have rr:=qEg (rows.map (qBu names));have:=qRy (qY4 rr) (m:=names.length) fun x hx=>by
  obtain⟨s,hs,rfl⟩:=hAg.mp hx;exact(Nat.log2_lt (rr.nz s hs)).mpr (lt s hs)
 rw[hA1]at this;exact this
theorem qGt{α β:Type}{R:α->β->Prop}{a0:α}{b0:β}:∀ {as:List α} {bs:List β},Paired R as bs->∀ {i:Nat},i<as.length->R (as.getD i a0) (bs.getD i b0)
 |_,_,.nil,i,h=>absurd h (hC3 _)
 |_,_,.cons a _,0,_=>a
 |_,_,.cons _ r,i+1,h=>qGt r (i:=i) (by simpa using h)
theorem qGs{α β:Type}{R:α->β->Prop}{f:Nat->α}{g:Nat->β}:∀ {l:List Nat},(∀i∈l,R (f i) (g i))->Paired R (l.map f) (l.map g)
 |[],_=>.nil
 |i :: l,h=>.cons (h i hA6) (qGs fun j hj=>h j (hA4 _ hj))
section
variable{P:Program}{w:World}{K:PySem.W.Frag}{mg:Str->Option Value}{base:Heap}{f f1 f2 f3 f4 c Pt:Addr}{fd fd1 fd2 fd3 fd4:FuncData}
abbrev prN:List Str:=["table","names","singles","found","told"]
theorem qF9:FnScope prN ["table"] (qAe qDc):=⟨rfl,rfl,rfl,by decide +kernel,rfl,by decide +kernel,by decide +kernel⟩
theorem qUj(F:Fun K "parts" "parts" qDc f fd)(hcode:fd.code = .ref c)(hC:PySem.W.CodeHd base c Pt)(hB:base.BuiltinsAt mg Pt)
  (G1:Cl P w K mg base CX0 2 f1 fd1 ["found","whole"] qMq "joined")
  (G2:Cl P w K mg base CX0 15 f2 fd2 ["steps","groups"] (qMn 10) "parted")
  (G3:Cl P w K mg base CX0 3 f3 fd3 ["table"] qPz "step_masks")
  (G4:Cl P w K mg base CX0 1 f4 fd4 ["names","mask"] qP1 "row_of")
  (ml:mg "len" = none) (mr:mg "range" = none) (mrv:mg "reversed" = none) (mso:mg "sorted" = none):FnOk P w K mg base CX0 16 f fd ["table"] (qP3 Pt):=by
 refine F.okC qF9 (fun vs H Q E h=>?_) (fun A outer s H vs Q E hr h=>?_)
 ·obtain⟨T,names,rows,rfl,_⟩:=h;rfl
 obtain⟨T,names,rows,rfl,ti,lr,n3,n12,tw,q⟩:=h;have hr1:=hr.mono (j:=1) (by decide);have hr2:=hr.mono (j:=2) (by decide);have hr3:=hr.mono (j:=3) (by decide);have L:LamAt ((qO9 CX0 P w K mg base prN "parts" (qAe qDc) f fd.code A outer s H E).nox) c Pt:=⟨hcode,hC,hB⟩;refine⟨_,qAc (qAj (i:=1) qF9.nd rfl (Or.inr rfl) (qBg qBs (pv 0) qAd (fun _ _=>rfl)))
  (qAc (qEi (i:=2) (N:=prN) (sc:=qAe qDc) (N':=["place"]) (sub:=[none]) rfl rfl (CmpOk.of (by decide +kernel)) rfl (qX2 rfl mrv (qAa (qBn qFs rfl mr (by decide +kernel) (qAa (qAk qAn rfl ml hAv (qAa (pv 1) qAb)) qAb)) qAb))
    (fun C s H fp=>⟨qAg (i:=0) (by show(["place"]:List Str).Nodup;decide) rfl (Or.inl rfl),qAz,qAh qCa qAd (pv 0)⟩) qF9.nd rfl (Or.inl rfl))
  (qAc (qAj (i:=3) qF9.nd rfl (Or.inl rfl) (qAx G1 hr2 rfl .nil qAv (qAa (qAx G2 hr rfl .nil qAv (qAa (qAx G3 hr3 rfl .nil qAv (qAa (pv 0) qAb)) (qAa (pv 2) qAb))) (qAa (qAh qCu (qAh qCa qAd (qAk qAn rfl ml hAv (qAa (pv 1) qAb))) qAd) qAb))))
  (qAc (qEi (i:=4) (N:=prN) (sc:=qAe qDc) (N':=["kind","groups","names"]) (sub:=[none,none,some 1]) rfl rfl (CmpOk.of (by decide +kernel)) rfl (qAq (pv 3))
    (fun C s H fp=>⟨(show PG _ _ (qZb K 2 _) from qB0 rfl (qAs (qAg (i:=0) (by show(["kind","groups","names"]:List Str).Nodup;decide) rfl (Or.inl rfl)) (qAs (qAg (i:=1) (by show(["kind","groups","names"]:List Str).Nodup;decide) rfl (Or.inl rfl)) qBe))),qAz,
     qA5 (qAa (pv 0) (qAa (qBf (N:=["kind","groups","names"]) (sc:=qXt _ (qAe qDc)) (N':=["group","names"]) (sub:=[none,some 2]) rfl rfl (CmpOk.of (by decide +kernel)) rfl (show PI _ _ _ (qU1 K (qPe 1)) from qAq (pv 1))
      (fun C s H fp=>⟨qAg (i:=0) (by show(["group","names"]:List Str).Nodup;decide) rfl (Or.inl rfl),qAz,qAx G4 hr1 rfl .nil qAv (qAa (pv 1) (qAa (pv 0) qAb))⟩)) qAb))⟩) qF9.nd rfl (Or.inl rfl))
  (qAf (qAt (qLm (k:=0) (x:="part") (te:=tOp (qO0 K) (qPe 0) (tC (.int 1))) L hr2 rfl mso (qAa (pv 4) qAb) ⟨rfl,rfl,rfl,by decide +kernel,rfl,by decide +kernel,by decide +kernel⟩ rfl rfl (fun _ _ _ _ _ _=>rfl) (fun _ _ _ _ _ _=>qBg (show IxR _ (qO0 K) from qBs) (pv 0) qAd (fun _ _=>rfl)) (fun a g k H Q h q=>⟨_,rfl,a,_,_,_,rfl,rfl,SqT.of h,(by exact qA0 (j:=1) rfl),q⟩))))))),?_⟩
 obtain⟨ta,tb,hT,hn,hb⟩:=id ti;obtain⟨m,nm⟩:∃m,names.length=m:=⟨_,rfl⟩;rw[nm]at n3 n12 q;refine⟨_,rfl,T,_,_,_,rfl,rfl,SqT.of hT,(by exact qA0 (j:=0) rfl),?_⟩;have lnm:((names.map V.str).length:Nat)=m:=by rw[hA1];exact nm
 refine⟨_,rfl,ta,_,rfl,.inl (SqL.of hn),_,rfl,hCs _,by rw[lnm];omega,fun rg hrg=>?_⟩;have n1:=Ext.new hrg (.rng 0 ((names.map V.str).length:Int));refine⟨rg,(names.map V.str).length,rfl,upd_same,by rw[lnm];omega,?_⟩;rw[lnm];have lg:=qC5 m;refine qI9 (hi:=((m:Nat):Int) - 1) (n:=m) (fun i ys H2=>upd H rg (.rng 0 ((m:Nat):Int))=H2/\ys=((singF m).take i).map iV) ⟨rfl,rfl⟩ ?_ ?_
 ·rintro i ys H2 hi ⟨rfl,rfl⟩;have hi':i<(singF m).length:=by rw[lg];exact hi
  refine⟨Sle.set _ (Sle.refl _) (fun u z=>by cases z),iteT (B:=False) ⟨_,rfl,_,_,rfl,rfl,⟨by omega,by omega,by decide⟩,by rw[hA1,hAh];exact qAi (by omega),nxt hi ⟨rfl,?_⟩⟩⟩;rw[qAm (hA2 hi'),hA3];show _=_++[iV (singF m)[i]];have e:(1:Int)*2^(((m:Nat):Int) - 1 - (i:Nat)).toNat=(((singF m)[i]:Nat):Int):=by
   rw[show((m:Nat):Int) - 1 - (i:Nat)=((m - 1 - i:Nat):Int) by omega,qBt];have gi:=qMu hi;rw[hA2 hi']at gi;rw[hAm gi]
  rw[show iV (singF m)[i]=V.int ((1:Int)*2^(((m:Nat):Int) - 1 - (i:Nat)).toNat) from congrArg V.int e.symm]
 ·rintro ys H2 ⟨rfl,rfl⟩ si hsi;rw[show(singF m).take m=singF m from hA5 (by rw[lg];exact hA7 _)];rw[lnm]at n1;have n2:=n1.trans (Ext.new hsi (.lst ((singF m).map iV)));have hsi':upd (upd H rg (.rng 0 ((m:Nat):Int))) si (.lst ((singF m).map iV)) si=some (.lst ((singF m).map iV)):=upd_same;revert n2 hsi';generalize upd (upd H rg (.rng 0 ((m:Nat):Int))) si (.lst ((singF m).map iV))=H2;intro n2 hsi';refine⟨_,rfl,T,names,rows,rfl,ti.ext n2,lr,fun st M H3 e3 st0 hM pM dM=>?_⟩;have E3:=n2.trans e3;rw[show M=dsF (rows.map (qBu names)) from qL3 pM dM]at hM;have lS:=qUu (names:=names) rows;revert q hM lS;generalize hS:dsF (rows.map (qBu names))=S;intro q hM lS;have nz:∀s∈S,s≠0:=by rw[<-hS];exact zCu
  obtain⟨jok,ji,lpa⟩:=zBb S n3 n12;refine⟨_,rfl,st,si,S,singF m,2^m - 1,rfl,hM,e3 _ _ hsi',nz,by omega,qK4 m,by rw[lg];exact n3,by rw[lg];exact n12,by rw[lg];omega,by omega,fun L1 H4 e4 hL1=>?_⟩;have E4:=E3.trans e4;refine⟨_,rfl,ta,_,rfl,.inl (SqL.of (E4 _ _ hn)),_,_,rfl,rfl,⟨by rw[lnm];omega,by rw[lnm];omega,by decide⟩,_,_,rfl,rfl,?_⟩;have p1:=hD9 (n:=m);have wh:(1:Int)*2^(((names.map V.str).length:Nat):Int).toNat - 1=(((2^m - 1:Nat)):Int):=by
   rw[lnm,qBt];omega
  refine⟨L1,paF S 10 (singF m),2^m - 1,m,(by show [V.ref L1,V.int ((1:Int)*2^(((names.map V.str).length:Nat):Int).toNat - 1)]=_;rw[wh]),hL1,ji,by omega,n12,by omega,fun L2 H5 e5 hL2=>?_⟩;have E5:=E4.trans e5;obtain⟨js,hj,pj⟩:=hL2;have lj:=pj.length;have jl:=jok.ln;have jJ:joF (2^m - 1) (paF S 10 (singF m))=jF m S:=rfl;rw[jJ]at pj lj;refine⟨_,rfl,L2,rfl,⟨_,SqL.of hj⟩,?_⟩;refine qAr (xs:=js.map V.ref) (fun i ys H6=>Ext H5 H6/\∃ts:List Addr,ys=ts.map V.ref/\Paired (PrE H H6 names) ts ((jF m S).take i)) ⟨Ext.refl _,[],rfl,.nil⟩ (fun i ys H6 _ h=>SqL.of (h.1 _ _ hj)) ?_ ?_
  ·rintro i x ys H6 hx ⟨e6,ts,rfl,pt⟩;obtain⟨a,rfl,ha⟩:=qBk hx;obtain⟨e,he,g,hag,hg⟩:=qAw pj ha;have hi:=qAy ha;have l12:e.2.length<=12:=hAq ((jok.sh e (hAc he)).pt.len (n:=m) (by omega)) n12;refine⟨a,_,rfl,SqT.of (e6 _ _ hag),rfl,_,_,rfl,_,_,rfl,rfl,?_⟩;refine⟨Sle.set _ (Sle.set _ (Sle.refl _) (fun u z=>by cases z)) (fun u z=>by cases z),iteT (B:=False) ?_⟩;refine⟨_,rfl,_,rfl,g,rfl,⟨_,SqL.of (e6 _ _ hg)⟩,?_⟩;refine qAr (xs:=e.2.map iV) (fun j ys H7=>Ext H6 H7/\∃gs:List Addr,ys=gs.map V.ref/\Paired (fun a r=>LsS H7 a r) gs ((e.2.take j).map (rowM names))) ⟨Ext.refl _,[],rfl,.nil⟩ (fun j ys H7 _ h=>SqL.of (h.1 _ _ (e6 _ _ hg))) ?_ ?_
   ·rintro j v ys H7 hy ⟨e7,gs,rfl,pg⟩;obtain⟨x,rfl,hx'⟩:=qBz hy;have hj':=qAy hx';have lgs:=pg.length;rw[hA1,hAh]at lgs;have E7:=E5.trans (e6.trans e7);refine⟨Sle.set _ (Sle.refl _) (fun u z=>by cases z),iteT (B:=False) ⟨_,rfl,_,rfl,ta,names,x,rfl,E7 _ _ hn,by omega,fun r H8 e8 r0 h8=>⟨by rw[hA1];exact qAi (by omega),nxt (qAy hy) ⟨e7.trans e8,gs++[r],by rw[hA3];rfl,?_⟩⟩⟩⟩;rw[qAm hx',hA3];exact Paired.snoc (Paired.mapP pg fun a t z=>e8 _ _ z) h8
   ·rintro ys H7 ⟨e7,gs,rfl,pg⟩ G hG;rw[hA1,hA5 (hA7 _)]at pg;have E7:=E5.trans (e6.trans e7);have n8:=Ext.new hG (.lst (gs.map V.ref));have lts:=pt.length;rw[hAh]at lts;refine⟨(by show 2<=sizeLine;decide),fun T' hT'=>?_⟩;have n9:=Ext.new hT' (.tup [V.str e.1,V.ref G]);have n79:=e7.trans (n8.trans n9);refine⟨by rw[hA1];exact qAi (by omega),nxt (qAy hx) ⟨e6.trans n79,ts++[T'],by rw[hA3];rfl,?_⟩⟩;rw[qAm he];exact Paired.snoc (Paired.mapP pt fun a u ⟨G',z0,z1,z2⟩=>⟨G',z0,n79 _ _ z1,z2.ext n79⟩) ⟨G,E7.none hG,upd_same,gs,n9 _ _ upd_same,Paired.mapP pg fun a t z=>(n8.trans n9) _ _ z⟩
  ·rintro ys H6 ⟨e6,ts,rfl,pt⟩ to hto;rw[hA1,hA5 (by omega)]at pt;have lts:=pt.length;have n7:=Ext.new hto (.lst (ts.map V.ref));have E7:=E5.trans (e6.trans n7);have tw7:=My.TabW.extE tw E7;have pt7:Paired (PrE H (upd H6 to (.lst (ts.map V.ref))) names) ts (jF m S):=Paired.mapP pt fun a u ⟨G',z0,z1,z2⟩=>⟨G',z0,n7 _ _ z1,z2.ext n7⟩
   obtain⟨ks,hks1,hks2,hks3⟩:∃ks:List Pk,(ks.map fun p=>p.1)=ts/\(ks.map fun p=>p.2.2)=qTf names (jF m S)/\∀x∈ks,qZr K (upd H6 to (.lst (ts.map V.ref))) x:=by
    clear lts tw7 E7 pt q n7 hto;revert pt7;unfold qTf;generalize jF m S=J;generalize (upd H6 to (.lst (ts.map V.ref)))=H7;intro pt7
    induction pt7 with
    |nil=>exact⟨[],rfl,rfl,fun x h=>by cases h⟩
    |cons h t ih =>
     obtain⟨ks,k1,k2,k3⟩:=ih;obtain⟨G,_,z1,as,z2,z3⟩:=h;refine⟨(_,G,_) :: ks,by rw[hB9,k1],by rw[hB9,k2];rfl,fun x hx=>?_⟩;rcases hAf.mp hx with z|z
     ·rw[z];exact⟨_,z1,as,z2,z3⟩
     ·exact k3 x z
   have lks:ks.length=(jF m S).length:=by have:=congrArg List.length hks2;unfold qTf at this;rw[hA1,hA1]at this;exact this
   refine⟨_,rfl,to,ks,rfl,?_,hks3,by omega,tw7,fun r H8 r0 eB hr8 pm tw8=>?_⟩
   ·rw[show(ks.map fun p=>V.ref p.1)=ts.map V.ref by rw[<-hks1,hB5];rfl];exact SqL.of upd_same
   ·obtain⟨ps,hP⟩:=My.TabW.tb tw7;have ne:∀ {a:Addr} {o:HO},upd H6 to (.lst (ts.map V.ref)) a=some o->(∀ps,o≠.tbl ps)->H8 a=some o:=fun {a o} h n=>eB _ _ (fun z=>by
     rw[z,hP]at h;exact n _ (hAm h).symm) h
    have el:ltP ks=ltJ names (jF m S):=by
     funext i j
     unfold ltP ltJ;rw[hks2]
    have pt8:Paired (PrE H H8 names) ts (jF m S):=Paired.mapP pt7 fun a u ⟨G',z0,z1,as,z2,z3⟩=>⟨G',z0,ne z1 (fun _ z=>by cases z),as,ne z2 (fun _ z=>by cases z),Paired.mapP z3 fun a t y=>ne y (fun _ z=>by cases z)⟩
    rw[el,lks]at pm;refine q r (qO3 ks) H8 (E7.toB.trans eB) (E7.none r0) hr8 ?_ pm tw8;unfold qO3 srtL;rw[el,lks,hks1];exact qGs fun i hi=>qGt pt8 (by rw[lts];exact hB6.mp (pm.mem_iff.mp hi))
end
theorem qRn{names:List Str}(nd:names.Nodup)(x:Nat):qBu names (rowL names x)=rv names.length x:=by
 rw[<-qQx,qRo nd (qT9 _ _)]
theorem qFa{names:List Str}(nd:names.Nodup)(N:List Nat):(N.map (rowL names)).map (qBu names)=N.map (rv names.length):=by
 rw[hB5];exact hBi fun x _=>qRn nd x
theorem qZe{a b:List Nat}(h:∀y,Spn a y↔Spn b y):dsF a=dsF b:=by
 have r1:=qEg a;have r2:=qEg b;have sp:∀y,Spn (red a) y↔Spn (red b) y:=fun y=>by rw[qIk,qIk,h]
 have pp:(red a).Perm (red b):=(hCi r1.nd r2.nd).mpr fun z=>⟨qQt r1 r2 sp z,qQt r2 r1 (fun y=>(sp y).symm) z⟩
 unfold dsF;exact qG4 (qG5 _) (qG5 _) ((hCj _ _).trans (pp.trans (hCj _ _).symm))
theorem qVb{n:Nat}{N M:List Nat}(lt:∀x∈N,x<2^n)(sM:∀x∈M,Spn N x)(inc:∀x∈N,x∈M):dsF (M.map (rv n))=dsF (N.map (rv n)):=by
 refine qZe fun y=>⟨fun h=>Spn.mono (fun x hx=>?_) h,fun h=>Spn.mono (fun x hx=>?_) h⟩
 ·obtain⟨z,hz,rfl⟩:=hAg.mp hx;exact(qDn lt (Spn.lt lt (sM z hz))).mpr (sM z hz)
 ·obtain⟨z,hz,rfl⟩:=hAg.mp hx;exact .mem (hBb (inc z hz))
def phN(names other:List Str)(x:Str):Str:=other.getD (names.idxOf x) ""
theorem zBf{names:List Str}(nd:names.Nodup){i:Nat}{x:Str}(h:names[i]?=some x):names.idxOf x=i:=by
 have hi:=qAy h;have hm:x∈names:=hAc h;have hl:names.idxOf x<names.length:=List.idxOf_lt_length_of_mem hm;exact qUs nd (by rw[hA2 hl,List.getElem_idxOf]) h
theorem qQ8{names other:List Str}(nd:names.Nodup){i:Nat}{x y:Str}(h:names[i]?=some x)(h':other[i]?=some y):phN names other x=y:=by
 unfold phN;rw[zBf nd h,hA8,h'];rfl
theorem qN5{α β:Type}{f g:α->Option β}:∀ {l:List α},(∀a∈l,f a=g a)->l.filterMap f=l.filterMap g
 |[],_=>rfl
 |a :: l,h=>by rw[hBf,hBf,h a hA6,qN5 fun x hx=>h x (hA4 _ hx)]
theorem qQu{names other:List Str}(nd:names.Nodup)(le:other.length=names.length)(g:Nat):rowM other g=(rowM names g).map (phN names other):=by
 unfold rowM;rw[List.map_filterMap,le];refine qN5 fun i hi=>?_
 have hi':=hB6.mp hi;by_cases c:g.testBit (names.length - 1 - i)=true
 ·rw[if_pos c,if_pos c,hA2 hi',hA2 (by omega)];show some _=some _;rw[qQ8 nd (hA2 hi') (hA2 (by omega))]
 ·rw[if_neg c,if_neg c];rfl
theorem qGd{x y:Str}(h:qIh x y=true):qIh y x=false:=by
 cases e:qIh y x with
 |false=>rfl
 |true=>have:=qDp h e;rw[qB3]at this;cases this
structure Mn(names:List Str)(φ:Str->Str):Prop where
 inj:∀x∈names,∀y∈names,φ x=φ y->x=y
 lt:∀x∈names,∀y∈names,qIh (φ x) (φ y)=qIh x y
theorem zAo{names other:List Str}(rn:qDu names)(ro:qDu other)(le:other.length=names.length):Mn names (phN names other):=by
 have nd:=qDy rn;have key:∀x∈names,∃i y,names[i]?=some x/\other[i]?=some y/\phN names other x=y:=fun x hx=>by
  obtain⟨i,hi,e⟩:=List.mem_iff_getElem.mp hx;have h1:names[i]?=some x:=by rw[hA2 hi,e]
  have h2:other[i]?=some (other[i]'(by omega)):=hA2 (by omega);exact⟨i,_,h1,h2,qQ8 nd h1 h2⟩
 have lt:∀x∈names,∀y∈names,qIh x y=true->qIh (phN names other x) (phN names other y)=true:=fun x hx y hy h=>by
  obtain⟨i,a,h1,h2,h3⟩:=key x hx;obtain⟨j,b,k1,k2,k3⟩:=key y hy;rw[h3,k3];rcases Nat.lt_trichotomy i j with c|c|c
  ·exact qIi ro c h2 k2
  ·subst c;rw[h1]at k1;rw[hAm k1,qB3]at h;cases h
  ·have z:=qIi rn c k1 h1;rw[qGd z]at h;cases h
 have inj:∀x∈names,∀y∈names,phN names other x=phN names other y->x=y:=fun x hx y hy e=>by
  rcases sLtB_tri x y with c|c|c
  ·have:=lt x hx y hy c;rw[e,qB3]at this;cases this
  ·exact c
  ·have:=lt y hy x hx c;rw[e,qB3]at this;cases this
 refine⟨inj,fun x hx y hy=>?_⟩;rcases sLtB_tri x y with c|c|c
 ·rw[c,lt x hx y hy c]
 ·rw[c,qB3,qB3]
 ·rw[qGd (lt y hy x hx c),qGd c]
theorem qRr{names:List Str}{φ:Str->Str}(h:Mn names φ):∀a b:List Str,(∀x∈a,x∈names)->(∀x∈b,x∈names)->ltL (a.map φ) (b.map φ)=ltL a b
 |[],[],_,_=>rfl
 |[],_ :: _,_,_=>rfl
 |_ :: _,[],_,_=>rfl
 |x :: r,y :: t,ha,hb=>by
  have hx:=ha x hA6;have hy:=hb y hA6;have ih:=qRr h r t (fun z hz=>ha z (hA4 _ hz)) (fun z hz=>hb z (hA4 _ hz));show(if φ x=φ y then ltL (r.map φ) (t.map φ) else qIh (φ x) (φ y))=if x=y then ltL r t else qIh x y
  by_cases c:x=y
  ·rw[if_pos c,if_pos (by rw[c]),ih]
  ·rw[if_neg c,if_neg (fun z=>c (h.inj x hx y hy z)),h.lt x hx y hy]
theorem qRp{names:List Str}{φ:Str->Str}(h:Mn names φ):∀a b:List Str,(∀x∈a,x∈names)->(∀x∈b,x∈names)->a.map φ=b.map φ->a=b
 |[],[],_,_,_=>rfl
 |[],_ :: _,_,_,e=>by cases e
 |_ :: _,[],_,_,e=>by cases e
 |x :: r,y :: t,ha,hb,e=>by
  rw[hB9,hB9]at e;injection e with e1 e2
  rw[h.inj x (ha x hA6) y (hb y hA6) e1,qRp h r t (fun z hz=>ha z (hA4 _ hz)) (fun z hz=>hb z (hA4 _ hz)) e2]
theorem qNp{names:List Str}{φ:Str->Str}(h:Mn names φ):∀a b:List (List Str),(∀r∈a,∀x∈r,x∈names)->(∀r∈b,∀x∈r,x∈names)->qRt (a.map fun r=>r.map φ) (b.map fun r=>r.map φ)=qRt a b
 |[],[],_,_=>rfl
 |[],_ :: _,_,_=>rfl
 |_ :: _,[],_,_=>rfl
 |x :: r,y :: t,ha,hb=>by
  have hx:=ha x hA6;have hy:=hb y hA6;have ih:=qNp h r t (fun z hz=>ha z (hA4 _ hz)) (fun z hz=>hb z (hA4 _ hz));show(if x.map φ=y.map φ then qRt (r.map fun r=>r.map φ) (t.map fun r=>r.map φ) else ltL (x.map φ) (y.map φ))=if x=y then qRt r t else ltL x y
  by_cases c:x=y
  ·rw[if_pos c,if_pos (by rw[c]),ih]
  ·rw[if_neg c,if_neg (fun z=>c (qRp h x y hx hy z)),qRr h x y hx hy]
def toE(names:List Str)(e:PE1):PaE:=(e.1,e.2.map (rowM names))
def told(names:List Str)(S:List Nat):List PaE:=(srtL names (jF names.length S)).map (toE names)
theorem qY1{names other:List Str}(rn:qDu names)(ro:qDu other)(le:other.length=names.length)(J:List PE1):ltJ other J=ltJ names J:=by
 have nd:=qDy rn;have mn:=zAo rn ro le;have key:∀i,(qTf other J).getD i []=((qTf names J).getD i []).map fun r=>r.map (phN names other):=fun i=>by
  unfold qTf;rw[hA8,hA8,hAe,hAe];cases J[i]? with
  |none=>rfl
  |some e =>
   show e.2.map (rowM other)=(e.2.map (rowM names)).map _;rw[hB5];exact hBi fun g _=>qQu nd le g
 have sub:∀i,∀r∈(qTf names J).getD i [],∀x∈r,x∈names:=fun i r hr x hx=>by
  unfold qTf at hr;rw[hA8,hAe]at hr;cases h:J[i]? with
  |none=>rw[h]at hr;cases hr
  |some e =>
   rw[h]at hr;obtain⟨g,_,rfl⟩:=hAg.mp hr;exact rowM_sub hx
 funext i j
 unfold ltJ;rw[key,key,qNp mn _ _ (sub i) (sub j)]
theorem qOs{names other:List Str}(rn:qDu names)(ro:qDu other)(le:other.length=names.length)(S:List Nat):told other S=(told names S).map (zBw (phN names other)):=by
 unfold told;rw[le,hB5];unfold srtL;rw[qY1 rn ro le];refine hBi fun e _=>?_
 unfold toE zBw;show(e.1,e.2.map (rowM other))=(e.1,(e.2.map (rowM names)).map _);rw[hB5];exact congrArg _ (hBi fun g _=>qQu (qDy rn) le g)
theorem qW9{names:List Str}{J:List PE1}(pm:(qMi J.length (ltJ names J)).Perm (List.range J.length)):(srtL names J).length=J.length/\∀e∈srtL names J,e∈J:=by
 refine⟨by unfold srtL;rw[hA1,pm.length_eq,hB0],fun e he=>?_⟩;unfold srtL at he;obtain⟨i,hi,rfl⟩:=hAg.mp he;have:i<J.length:=hB6.mp (pm.mem_iff.mp hi);rw[hA8,hA2 this];exact hBs this
theorem qWg{w:Nat}(S:List Nat):∀(k:Nat) {gs:List Nat},Sh w gs->gs.length<=k+2->paF S k gs≠[]
 |0,gs,h,l=>absurd h.l3 (by omega)
 |k+1,gs,h,l=>by
  unfold paF;split
  ·simp
  ·rename_i c;obtain⟨xl,s1,s2⟩:=qN2 c;revert xl s1 s2;generalize fpF (shF S gs) gs.length=x;intro xl s1 s2;obtain⟨t1,t2,t3⟩:=qEb h.pt.nd xl s1 s2;have sp:=qC1 h.pt.nd x;have pn:∀ {l:List Nat},2<=l.length->l≠[]:=fun {l} h z=>by rw[z]at h;exact absurd h (by decide)
   have A:=qWg (w:=w) S k (gs:=beF (rowI gs x) (outF gs (rowI gs x))) ⟨(h.pt.perm sp).beside (pn t2),by rw[qBw];omega⟩ (by rw[qBw];omega);exact fun z=>A (List.append_eq_nil_iff.mp z).1
theorem qZ1{l:List Nat}{g:Nat}(h:g∈l):g<=l.sum:=by
 induction l with
 |nil=>cases h
 |cons a l ih =>
  rw[hD6];rcases hAf.mp h with z|z
  ·omega
  ·have:=ih z;omega
theorem qPr{names:List Str}(tx:Tx names)(S:List Nat)(h3:3<=names.length)(h12:names.length<=12)(pm:(qMi (jF names.length S).length (ltJ names (jF names.length S))).Perm (List.range (jF names.length S).length)) :
  PaOk (told names S)/\(∀e∈told names S,∀r∈e.2,∀x∈r,x∈names)/\told names S≠[]:=by
 obtain⟨jok,_,_⟩:=zBb S h3 h12;obtain⟨sl,sm⟩:=qW9 pm;have p1:=hD9 (n:=names.length);have key:∀e∈told names S,∃e',e=toE names e'/\Sh (2^names.length - 1) e'.2/\(e'.1 = "ring"\/e'.1 = "bundle"\/e'.1 = "whole"):=fun e he=>by
  obtain⟨e',h,rfl⟩:=hAg.mp he;exact⟨e',rfl,jok.sh e' (sm e' h),jok.kd e' (sm e' h)⟩
 refine⟨⟨?_,fun e he=>?_,fun e he=>?_,fun e he=>?_,fun e he r hr=>?_⟩,fun e he r hr x hx=>?_,fun z=>?_⟩
 ·unfold told;rw[hA1,sl];exact jok.ln
 ·obtain⟨e',rfl,_,k⟩:=key e he;exact k
 ·obtain⟨e',rfl,s,_⟩:=key e he;show 3<=(e'.2.map _).length;rw[hA1];exact s.l3
 ·obtain⟨e',rfl,s,_⟩:=key e he;show(e'.2.map _).length<=12;rw[hA1];exact hAq (s.pt.len (n:=names.length) (by omega)) h12
 ·obtain⟨e',rfl,s,_⟩:=key e he;obtain⟨g,hg,rfl⟩:=hAg.mp hr;have gl:g<2^names.length:=by have:=qZ1 hg;rw[s.pt.su]at this;omega
  obtain⟨n,rest,e1,_⟩:=qQw (names:=names) (s.pt.nz g hg) gl;refine⟨(fun z=>by rw[e1]at z;cases z),?_,fun x hx=>tx x (rowM_sub hx)⟩;unfold rowM;have:=hBp (fun i=>if g.testBit (names.length - 1 - i)=true then names[i]? else none) (List.range names.length);rw[hB0]at this;omega
 ·obtain⟨e',rfl,s,_⟩:=key e he;obtain⟨g,hg,rfl⟩:=hAg.mp hr;exact rowM_sub hx
 ·have l0:(jF names.length S).length=0:=by
   rw[<-sl];have:=congrArg List.length z;unfold told at this;rw[hA1]at this;exact this
  have ne:paF S 10 (singF names.length)≠[]:=qWg S 10 (w:=2^names.length - 1) ⟨qK4 _,by rw[qC5];exact h3⟩ (by rw[qC5];omega);unfold jF joF at l0;rcases List.eq_nil_or_concat (paF S 10 (singF names.length)) with z|⟨l,e,z⟩
  ·exact ne z
  ·rw[z,List.concat_eq_append,hBk]at l0;have:0<(joS (2^names.length - 1) (l.foldl (joS (2^names.length - 1)) []) e).length:=by
    unfold joS;rw[hAa];show 0<_+1;omega
   have l0':(joS (2^names.length - 1) (l.foldl (joS (2^names.length - 1)) []) e).length=0:=l0;omega
def paD(e:PaE):PyData:=.tuple [.str e.1,qJm e.2]
def qX6(es:List PaE):PyData:=.list (es.map paD)
theorem qSi(es:List PaE):PyData.eqv (qX6 es) (qX6 es)=true:=by
 have:∀es:List PaE,PyData.eqvAll (es.map paD) (es.map paD)=true:=by
  intro es
  induction es with
  |nil=>rfl
  |cons e es ih =>
   show((PyData.eqv (.str e.1) (.str e.1) && (PyData.eqv (qJm e.2) (qJm e.2) && true)) && PyData.eqvAll (es.map paD) (es.map paD))=true;rw[ih,qVa,decide_eq_true rfl];show((e.1 == e.1) && (true && true) && true)=true;simp
 exact this es
theorem qRz:∀ {es:List PaE},(∀e∈es,PyData.strOk e.1=true/\∀r∈e.2,SOk r)->PyData.canLayAll0 (es.map paD)=true/\PyData.depthAll (es.map paD)<=3
 |[],_=>⟨rfl,hAo _⟩
 |e :: es,h=>by
  obtain⟨i1,i2⟩:=qRz (es:=es) fun x hx=>h x (hA4 _ hx)
  obtain⟨h1,h2⟩:=h e hA6;obtain⟨b1,b2⟩:=qNt h2;refine⟨?_,?_⟩
  ·show((PyData.strOk e.1 && (PyData.canLayAll0 (e.2.map qHp) && true)) && PyData.canLayAll0 (es.map paD))=true;rw[h1,b1,i1];rfl
  ·show max (max 0 (max (PyData.depthAll (e.2.map qHp)+1) 0)+1) (PyData.depthAll (es.map paD))<=3;omega
theorem qOw{es:List PaE}(h:∀e∈es,PyData.strOk e.1=true/\∀r∈e.2,SOk r):SeqAt.shaped (qX6 es)=true:=by
 obtain⟨h3,h4⟩:=qRz h;show(PyData.canLayAll0 (es.map paD) && decide (PyData.depthAll (es.map paD)+1<=64))=true;rw[h3,decide_eq_true (by omega)];rfl
theorem PaOk.shaped{es:List PaE}(ok:PaOk es):SeqAt.shaped (qX6 es)=true:=qOw fun e he=>⟨by rcases ok.kd e he with z|z|z <;> rw[z] <;> decide +kernel,fun r hr x hx=>((ok.rw e he r hr).2.2 x hx).1.sm.ok⟩
theorem qHx{K:PySem.W.Frag}{H:Hp}{L:Addr}{ts:List Addr}{es:List PaE}(hL:H L=some (.lst (ts.map V.ref)))(pr:Paired (PaT H) ts es):DR K H (.ref L) (qX6 es):=by
 have:∀ {ts:List Addr} {es:List PaE},Paired (PaT H) ts es->DRs K H (ts.map V.ref) (es.map paD):=by
  intro ts es pr
  induction pr with
  |nil=>exact .nil
  |cons h t ih =>
   obtain⟨G,h1,h2⟩:=h;exact .cons (.tup (SqT.of h1) (.cons (.str _) (.cons (qSm h2) .nil))) ih
 exact .lst (SqL.of hL) (this pr)
theorem zAj{s:Str}{n:Nat}(h:Sm s)(l:s.length<=n):Rb n (.str s):=by
 refine⟨rfl,rfl,?_,l⟩;show(s.cps.toList.all fun c=>decide (c<16^8))=true;rw[hCw];intro c hc;exact decide_eq_true (Nat.lt_trans (h c hc) (by decide))
theorem qG6{n:Nat}:∀ {ds:List PyData},(∀d∈ds,d.depth<=n)->PyData.depthAll ds<=n
 |[],_=>hAo _
 |d :: ds,h=>Nat.max_le.mpr ⟨h d hA6,qG6 fun x hx=>h x (hA4 _ hx)⟩
def SmD(n k:Nat)(D:PyData):Prop:=Rb n D/\D.depth<=k
theorem SmD.lst{m n k:Nat}{Ds:List PyData}(h:∀d∈Ds,SmD m k d)(l:(m+1)*Ds.length<=n):SmD n (k+1) (.list Ds) :=
 ⟨((RbA.all fun d hd=>(h d hd).1).lst).mono l,hC7 (qG6 fun d hd=>(h d hd).2)⟩
theorem SmD.tup{m n k:Nat}{Ds:List PyData}(h:∀d∈Ds,SmD m k d)(l:(m+1)*Ds.length<=n):SmD n (k+1) (.tuple Ds) :=
 ⟨((RbA.all fun d hd=>(h d hd).1).tup).mono l,hC7 (qG6 fun d hd=>(h d hd).2)⟩
theorem SmD.mono{m n j k:Nat}{D:PyData}(h:SmD m j D)(a:m<=n)(b:j<=k):SmD n k D:=⟨h.1.mono a,hAq h.2 b⟩
theorem qV5{s:Str}{n k:Nat}(h:Sm s)(l:s.length<=n):SmD n k (.str s):=⟨zAj h l,hAo _⟩
theorem SmD.ok{n k:Nat}{D:PyData}(h:SmD n k D)(hn:n<=100000)(hk:k<=16):zB0 D:=by
 have:=PyData.shown_le_bulk 8 (hA7 _) D h.1.2.2.1;have z:(1000100:Nat)<=sizeLine:=by decide
 have b:=h.1.2.2.2;exact⟨h.1.1,h.1.2.1,by omega,hAq h.2 hk⟩
theorem qV6{r:List Str}(tx:Tx r)(l:r.length<=12):SmD 84 1 (qHp r):=SmD.lst (m:=6) (fun d hd=>by
  obtain⟨x,hx,rfl⟩:=hAg.mp hd;exact qV5 (tx x hx).1.sm (tx x hx).2.2) (by rw[hA1];omega)
theorem qQb{R:List (List Str)}(h:∀r∈R,r.length<=12/\Tx r)(l:R.length<=24):SmD 2040 2 (qJm R):=SmD.lst (m:=84) (fun d hd=>by
  obtain⟨r,hr,rfl⟩:=hAg.mp hd;exact qV6 (h r hr).2 (h r hr).1) (by rw[hA1];omega)
theorem PaOk.rp{es:List PaE}(ok:PaOk es):zB0 (qX6 es):=by
 have l:=ok.ln;refine SmD.ok (n:=50000) (k:=4) (SmD.lst (m:=4082) (fun d hd=>?_) (by rw[hA1];omega)) (by decide) (by decide);obtain⟨e,he,rfl⟩:=hAg.mp hd;have l12:=ok.l12 e he;refine SmD.tup (m:=2040) (fun d hd=>?_) (by show 2041*2<=4082;decide);rcases hAf.mp hd with z|z
 ·rw[z];have k:∀x:Str,x = "ring"\/x = "bundle"\/x = "whole"->Sm x/\x.length<=2040:=fun x hx=>by
   have sm:∀x:Str,(x.cps.toList.all fun c=>decide (c<128))=true->Sm x:=fun x h c hc=>of_decide_eq_true (hCw.mp h c hc)
   rcases hx with z|z|z <;> rw[z] <;> exact⟨sm _ (by decide +kernel),by decide +kernel⟩
  exact qV5 (k e.1 (ok.kd e he)).1 (k e.1 (ok.kd e he)).2
 ·rw[hAd.mp z];exact qQb (fun r hr=>⟨(ok.rw e he r hr).2.1,(ok.rw e he r hr).2.2⟩) (by omega)
theorem zAf{names:List Str}{rows:List (List Str)}(tx:Tx names)(l:names.length<=12)(h:∀r∈rows,r.length<=12/\Tx r)(lr:rows.length<=24):zB0 (zC1 names rows):=by
 refine SmD.ok (n:=5000) (k:=3) (SmD.tup (m:=2040) (fun d hd=>?_) (by show 2041*2<=5000;decide)) (by decide) (by decide);rcases hAf.mp hd with z|z
 ·rw[z];exact(qV6 tx l).mono (by decide) (by decide)
 ·rw[hAd.mp z];exact qQb h lr
theorem qXs{names:List Str}(tx:Tx names)(l:names.length<=12)(x:Nat):(rowL names x).length<=12/\Tx (rowL names x):=by
 refine⟨?_,fun y hy=>?_⟩
 ·unfold rowL;have:=hBp (fun i=>if x.testBit i=true then names[i]? else none) (List.range names.length);rw[hB0]at this;omega
 ·obtain⟨i,_,h,_⟩:=qBh.mp hy;exact tx y (hAc h)
def Kq(H H':Hp):Prop:=∀b o,H b=some o->(∀ps,o≠.tbl ps)->H' b=some o
theorem Kq.refl(H:Hp):Kq H H:=fun _ _ h _=>h
theorem Kq.trans{H H1 H2:Hp}(a:Kq H H1)(b:Kq H1 H2):Kq H H2:=fun c o h n=>b c o (a c o h n) n
theorem Ext.kq{H H':Hp}(e:Ext H H'):Kq H H':=fun b o h _=>e b o h
theorem zBy{P:Addr}{H H':Hp}{lp:Pos}{qq:Str}(t:TabW H P lp qq)(e:ExtB P H H'):Kq H H':=fun b o h n=>by
 obtain⟨ps,hP⟩:=My.TabW.tb t;exact e b o (fun z=>by rw[z,hP]at h;exact n ps (hAm h).symm) h
theorem Kq.sq{K:PySem.W.Frag}{H H':Hp}{l:Addr}{xs:List V}(k:Kq H H')(h:SqL K H l xs):SqL K H' l xs:=by
 rcases h with (h|⟨o,h⟩)|h
 ·exact .inl (.inl (k _ _ h (fun _ z=>by cases z)))
 ·exact .inl (.inr ⟨o,k _ _ h (fun _ z=>by cases z)⟩)
 ·exact .inr h
theorem Kq.ls{H H':Hp}{l:Addr}{xs:List Str}(k:Kq H H')(h:LsS H l xs):LsS H' l xs:=k _ _ h (fun _ z=>by cases z)
theorem Kq.ln{H H':Hp}{l:Addr}{xs:List Nat}(k:Kq H H')(h:LsN H l xs):LsN H' l xs:=k _ _ h (fun _ z=>by cases z)
theorem Kq.pa{H H':Hp}{t:Addr}{e:PaE}(k:Kq H H')(h:PaT H t e):PaT H' t e:=by
 obtain⟨G,h1,bs,h2,h3⟩:=h;exact⟨G,k _ _ h1 (fun _ z=>by cases z),bs,k _ _ h2 (fun _ z=>by cases z),Paired.mapP h3 fun a r z=>k.ls z⟩
theorem Kq.tab{H H':Hp}{T:Addr}{names:List Str}{rs:List (List Str)}(k:Kq H H')(h:qFi H T names rs):qFi H' T names rs:=by
 obtain⟨a,b,h1,h2,bs,h3,h4⟩:=h;exact⟨a,b,k _ _ h1 (fun _ z=>by cases z),k.ls h2,bs,k _ _ h3 (fun _ z=>by cases z),Paired.mapP h4 fun a r z=>k.ls z⟩
theorem qJq{H:Hp}:∀ {gs:List Addr} {es:List PaE},Paired (fun g (e:PaE)=>qEz H g e.2) gs es->∃bss:List (List Addr),Paired (fun g xs=>H g=some (.lst xs)) gs (bss.map fun bs=>bs.map V.ref)/\Paired (LsS H) bss.flatten (es.map (·.2)).flatten
 |_,_,.nil=>⟨[],.nil,.nil⟩
 |_,_,.cons h t=>by
  obtain⟨bss,h1,h2⟩:=qJq t;obtain⟨bs,k1,k2⟩:=h;exact⟨bs :: bss,.cons k1 h1,qDv k2 h2⟩
theorem qFe{α:Type}:∀ {R:List (List α)},(∀r∈R,r.length<=12)->R.flatten.length<=12*R.length
 |[],_=>hAo _
 |r :: R,h=>by
  have h1:=h r hA6;have h2:=qFe (R:=R) fun x hx=>h x (hA4 _ hx)
  rw[List.flatten_cons,hAa,hBu];omega
theorem val_dz{names other:List Str}(nd:names.Nodup)(le:names.length=other.length){n:Str}(h:n∈names):qKt (dzK names other) (Sum.inr n)=some (.str (phN names other n)):=by
 have key:∀(ns os:List Str),ns.Nodup->ns.length=os.length->∀(i:Nat) (x y:Str),ns[i]?=some x->os[i]?=some y->qKt (dzK ns os) (Sum.inr x)=some (.str y):=by
  intro ns
  induction ns with
  |nil=>intro os _ _ i x y h;cases h
  |cons n ns ih =>
   intro os nd le i x y h1 h2;cases os with
   |nil=>cases le
   |cons o os =>
    obtain⟨nm,nd'⟩:=hBg.mp nd;cases i with
    |zero =>
     cases h1;cases h2;unfold qKt dzK;rw[List.zip_cons_cons,hB9,List.find?_cons_of_pos (by simp)];rfl
    |succ i =>
     have hx:x∈ns:=hAc (i:=i) h1;have:=ih os nd' (Nat.succ.inj le) i x y h1 h2;unfold qKt dzK at this ⊢;rw[List.zip_cons_cons,hB9,List.find?_cons_of_neg (by
      intro z;have z':(Sum.inr n:Key)=Sum.inr x:=of_decide_eq_true z;exact nm (by rw[Sum.inr.inj z'];exact hx))]
     exact this
 obtain⟨i,hi,e⟩:=List.mem_iff_getElem.mp h;have h1:names[i]?=some n:=by rw[hA2 hi,e]
 have h2:other[i]?=some (other[i]'(by omega)):=hA2 (by omega);rw[qQ8 nd h1 h2];exact key names other nd le i n _ h1 h2
theorem qUf{H0 H:Hp}{names:List Str}{ts:List Addr}{S:List Nat}{N:List (List Str)}(nd:names.Nodup)(M:List Nat)(eN:N=M.map (rowL names))(pr:Paired (PrE H0 H names) ts (srtL names (jF names.length (dsF (N.map (qBu names)))))):Paired (PaT H) ts (told names (dsF (M.map (rv names.length)))):=by
 rw[eN,qFa nd]at pr;exact qE8 (toE names) (fun a e ⟨G,_,h1,h2⟩=>⟨G,h1,h2⟩) pr
theorem qDs:bootBuiltins "repr" = some (.builtin "repr"):=by decide +kernel
def qTo(K:PySem.W.Frag)(Pp Pb:Addr):Sp:=fun vs H Q _=>∃(a:Addr) (ns:List Int),vs=[.ref a]/\SqL K H a (ns.map V.int)/\ns.length<=63/\H Pp=some (.tbl #[])/\H Pb=some (.tbl #[])/\Pp≠Pb/\∀H',Q (.bl true) H'
section
variable{P:Program}{w:World}{K:PySem.W.Frag}{mg:Str->Option Value}{base:Heap}{f f1 f2 f3 f4 f5 f6 f7 f8 f9 Pp Pb:Addr}{fd fd1 fd2 fd3 fd4 fd5 fd6 fd7 fd8 fd9:FuncData}
abbrev laN:List Str:=["_law_script","_law_names_here","_law_base","_law_first","_law_told","_law_kept","_law_k","_law_rows","_law_table","_law_before","_law_other","_law_by"]
theorem qFt:FnScope laN ["_law_script"] (qAe qLb):=⟨rfl,rfl,rfl,by decide +kernel,rfl,by decide +kernel,by decide +kernel⟩
theorem zAw(F:Fun K "law" "law" qLb f fd)
  (G1:Cl P w K mg base CX0 6 f1 fd1 ["_law_script","_law_at"] (qP6 K Pb) "_law_tree")
  (G2:Cl P w K mg base CX0 16 f2 fd2 ["table"] (qP3 Pp) "parts")
  (G3:Cl P w K mg base CX0 1 f3 fd3 ["_law_names_here","_law_number"] qP7 "_law_row")
  (G4:Cl P w K mg base CX0 2 f4 fd4 ["_law_found"] qV1 "_law_are_parts")
  (G5:Cl P w K mg base CX0 1 f5 fd5 ["_law_rows"] qKy "_law_flat")
  (G6:Cl P w K mg base CX0 1 f6 fd6 ["_law_base","_law_big_here"] qVt "_law_other_rows")
  (G7:Cl P w K mg base CX0 2 f7 fd7 ["_law_script","_law_k"] (qK0 K) "_law_big")
  (G8:Cl P w K mg base CX0 1 f8 fd8 ["_law_big_here","_law_many"] qF6 "_law_names")
  (G9:Cl P w K mg base CX0 1 f9 fd9 ["_law_found","_law_by"] qVs "_law_renamed")
  (ml:mg "len" = none) (mL:mg "list" = none) (mr:mg "range" = none) (mso:mg "sorted" = none) (mz:mg "zip" = none) (mdi:mg "dict" = none) (mrep:mg "repr" = none) (mal:mg "all" = none):FnOk P w K mg base CX0 17 f fd ["_law_script"] (qTo K Pp Pb):=by
 refine F.ok qFt (fun vs H Q E h=>?_) (fun cdv A outer s H vs Q E hr h=>?_)
 ·obtain⟨a,ns,rfl,_⟩:=h;rfl
 obtain⟨a,ns,rfl,hS,hl,hPp,hPb,ne,q⟩:=h;have hr1:=hr.mono (j:=1) (by decide);have hr2:=hr.mono (j:=2) (by decide);have hr6:=hr.mono (j:=6) (by decide);have two:2<=sizeLine:=by decide
 refine⟨_,(qAc (qFn (qAx G1 hr6 rfl .nil qAv (qAa (pv 0) (qAa qAd qAb))) (qB0 rfl (qAs (qAg (i:=1) qFt.nd rfl (Or.inr rfl)) (qAs (qAg (i:=2) qFt.nd rfl (Or.inl rfl)) qBe)))) (qAc (qBi (qAp qEk (qAk qAn rfl ml hAv (qAa (pv 1) qAb)) qAd (qAu _)) (qAf (qAt qGp)) qA1) (qAc (qAj (i:=3) qFt.nd rfl (Or.inl rfl) (qAx G2 hr rfl .nil qAv (qAa (qA5 (qAa (qBn qCd rfl mL qBy (qAa (pv 1) qAb)) (qAa (qBf (N:=laN) (sc:=qAe qLb) (N':=["_law_step","_law_names_here"]) (sub:=[none,some 1]) rfl rfl (CmpOk.of (by decide +kernel)) rfl (qAq (pv 2)) (fun C s H fp=>⟨qAg (i:=0) (by show(["_law_step","_law_names_here"]:List Str).Nodup;decide) rfl (Or.inl rfl),qAz,(qAx G3 hr1 rfl .nil qAv (qAa (pv 1) (qAa (pv 0) qAb)))⟩)) qAb))) qAb))) (qAc (qBi (qGl (qDe (qAx G4 hr2 rfl .nil qAv (qAa (pv 3) qAb)))) (qAf (qAt qGp)) qA1) (qAc (qAj (i:=4) qFt.nd rfl (Or.inl rfl) (qAx G5 hr1 rfl .nil qAv (qAa (qAx G5 hr1 rfl .nil qAv (qAa (qBf (N:=laN) (sc:=qAe qLb) (N':=["_law_part"]) (sub:=[none]) rfl rfl (CmpOk.of (by decide +kernel)) rfl (qAq (pv 3)) (fun C s H fp=>⟨qAg (i:=0) (by show(["_law_part"]:List Str).Nodup;decide) rfl (Or.inl rfl),qAz,(qBg (show IxR _ (qO0 K) from qBs) (pv 0) qAd (fun _ _=>rfl))⟩)) qAb)) qAb))) (qAc (qBi (qGl (qDe (qAk (qEw rfl) rfl mal qEy (qAa (qBf (N:=laN) (sc:=qAe qLb) (N':=["_law_name","_law_names_here"]) (sub:=[none,some 1]) rfl rfl (CmpOk.of (by decide +kernel)) rfl (qAq (pv 4)) (fun C s H fp=>⟨qAg (i:=0) (by show(["_law_name","_law_names_here"]:List Str).Nodup;decide) rfl (Or.inl rfl),qAz,(qC6 (show OpR _ (compareOp .In) (rIn K false) from qDg) (pv 0) (pv 1) (by with_unfolding_all rfl))⟩)) qAb)))) (qAf (qAt qGp)) qA1) (qAc (qAj (i:=5) qFt.nd rfl (Or.inl rfl) (qAk (qEu hr) rfl mrep qDs (qAa (pv 3) qAb))) (qAc (qBb PassesOwn.never rfl (qA8 rfl mr (qAa qAd qAb)) (qAg (i:=6) qFt.nd rfl (Or.inl rfl)) (qAc (qAj (i:=7) qFt.nd rfl (Or.inl rfl) (qAx G6 hr1 rfl .nil qAv (qAa (pv 2) (qAa (qAx G7 hr2 rfl .nil qAv (qAa (pv 0) (qAa (qAh qA6 qAd (pv 6)) qAb))) qAb)))) (qAc (qAj (i:=8) qFt.nd rfl (Or.inl rfl) (qA5 (qAa (qBn qCd rfl mL qBy (qAa (pv 1) qAb)) (qAa (qBf (N:=laN) (sc:=qAe qLb) (N':=["_law_row_here","_law_names_here"]) (sub:=[none,some 1]) rfl rfl (CmpOk.of (by decide +kernel)) rfl (qAq (pv 7)) (fun C s H fp=>⟨qAg (i:=0) (by show(["_law_row_here","_law_names_here"]:List Str).Nodup;decide) rfl (Or.inl rfl),qAz,(qAx G3 hr1 rfl .nil qAv (qAa (pv 1) (qAa (pv 0) qAb)))⟩)) qAb)))) (qAc (qAj (i:=9) qFt.nd rfl (Or.inl rfl) (qAk (qEu hr) rfl mrep qDs (qAa (pv 8) qAb))) (qAf (qBi (PW.pt (qQ3 (qAp (qJu (qJn hr)) (qAx G2 hr rfl .nil qAv (qAa (pv 8) qAb)) (pv 3) (qAu _)) (qNe (qAp qE9 (qAk (qEu hr) rfl mrep qDs (qAa (pv 8) qAb)) (pv 9) (qAu _))))) (qAf (qAt qGp)) qA1)))))) (qAc (qAj (i:=10) qFt.nd rfl (Or.inr rfl) (qAk qCc rfl mso qBj (qAa (qAx G8 hr1 rfl .nil qAv (qAa (qAx G7 hr2 rfl .nil qAv (qAa (pv 0) (qAa qAd qAb))) (qAa (qAk qAn rfl ml hAv (qAa (pv 1) qAb)) qAb))) qAb))) (qAc (qAj (i:=11) qFt.nd rfl (Or.inl rfl) (qO1 rfl rfl mz rfl mdi (qAa (pv 1) (qAa (pv 10) qAb)))) (qAc (qBi (qAp (qJu (qJn hr)) (qAx G2 hr rfl .nil qAv (qAa (qA5 (qAa (pv 10) (qAa (qBf (N:=laN) (sc:=qAe qLb) (N':=["_law_step","_law_other"]) (sub:=[none,some 10]) rfl rfl (CmpOk.of (by decide +kernel)) rfl (qAq (pv 2)) (fun C s H fp=>⟨qAg (i:=0) (by show(["_law_step","_law_other"]:List Str).Nodup;decide) rfl (Or.inl rfl),qAz,(qAx G3 hr1 rfl .nil qAv (qAa (pv 1) (qAa (pv 0) qAb)))⟩)) qAb))) qAb)) (qAx G9 hr1 rfl .nil qAv (qAa (pv 3) (qAa (pv 11) qAb))) (qAu _)) (qAf (qAt qGp)) qA1) (qAc (qB4 (zAr hAr PySem.F.slot_list_pop PySem.F.type_list_pop zA0 (qBg qBs (qBg qBv (pv 3) qAd (fun _ _=>rfl)) qAd (fun _ _=>rfl)))) (qAf (qAt (qC6 qB1 (qAk (qEu hr) rfl mrep qDs (qAa (qAx G2 hr rfl .nil qAv (qAa (qA5 (qAa (qBn qCd rfl mL qBy (qAa (pv 1) qAb)) (qAa (qBf (N:=laN) (sc:=qAe qLb) (N':=["_law_step","_law_names_here"]) (sub:=[none,some 1]) rfl rfl (CmpOk.of (by decide +kernel)) rfl (qAq (pv 2)) (fun C s H fp=>⟨qAg (i:=0) (by show(["_law_step","_law_names_here"]:List Str).Nodup;decide) rfl (Or.inl rfl),qAz,(qAx G3 hr1 rfl .nil qAv (qAa (pv 1) (qAa (pv 0) qAb)))⟩)) qAb))) qAb)) qAb)) (pv 5) (qAu _)))))))))))))))),?_⟩;refine⟨_,rfl,a,ns,rfl,hS,.inl hPb,fun T0 na ba names N H1 eB1 hT0 hna hba rn tx n12 lN lt _=>?_⟩;refine⟨T0,_,rfl,SqT.of hT0,rfl,_,_,rfl,_,_,rfl,rfl,?_⟩;have tw1:TabW H1 Pp lpP qL:=.inl (eB1 Pp _ ne hPp);have hS1:SqL K H1 a (ns.map V.int):=(zBy (lp:=lpB) (qq:=qB) (.inl hPb) eB1).sq hS;have nd:names.Nodup:=qDy rn;clear eB1 hPp hPb hT0 hS;refine⟨_,rfl,na,_,rfl,.inl (SqL.of hna),_,_,rfl,rfl,_,rfl,?_⟩;refine ite2 (fun c=>q _) (fun c=>?_);have n3:3<=names.length:=by
  have c':¬(((names.map V.str).length:Nat):Int)<3:=fun z=>c (decide_eq_true z)
  rw[hA1]at c';omega
 refine⟨_,rfl,na,_,rfl,.inl (SqL.of hna),fun l1 hl1=>?_⟩;have X1:=Ext.new hl1 (.lst (names.map V.str));refine⟨_,rfl,ba,rfl,⟨_,SqL.of (X1 _ _ hba)⟩,?_⟩;refine qAr (xs:=N.map iV) (fun j ys H2=>Ext (upd H1 l1 (.lst (names.map V.str))) H2/\∃as:List Addr,ys=as.map V.ref/\Paired (LsS H2) as ((N.take j).map (rowL names))) ⟨Ext.refl _,[],rfl,.nil⟩ (fun j ys H2 _ h=>SqL.of (h.1 _ _ (X1 _ _ hba))) ?_ ?_
 ·rintro j v ys H2 hx ⟨e2,as,rfl,pr⟩;obtain⟨x,rfl,hx'⟩:=qBz hx;have hj:=qAy hx';have la:=pr.length;rw[hA1,hAh]at la;refine⟨Sle.set _ (Sle.refl _) (fun u z=>by cases z),iteT (B:=False) ⟨_,rfl,_,rfl,na,names,x,rfl,e2 _ _ (X1 _ _ hna),n12,fun r3 H3 e3 r30 h3=>⟨?_,nxt (qAy hx) ⟨e2.trans e3,as++[r3],by rw[hA3];rfl,?_⟩⟩⟩⟩
  ·rw[hA1];exact qAi (by omega)
  ·rw[qAm hx',hA3];exact Paired.snoc (Paired.mapP pr fun a t z=>e3 _ _ z) h3
 rintro ys H2 ⟨e2,rbas,rfl,rbp⟩ rb hrb;rw[hA1,hA5 (hA7 _)]at rbp;have Xrb:=Ext.new hrb (.lst (rbas.map V.ref));refine⟨two,fun T hT=>?_⟩;have XT:=Ext.new hT (.tup [V.ref l1,V.ref rb]);have E2:=X1.trans (e2.trans (Xrb.trans XT));have ti:qFi (upd (upd H2 rb (.lst (rbas.map V.ref))) T (.tup [V.ref l1,V.ref rb])) T names (N.map (rowL names)):=⟨l1,rb,upd_same,(e2.trans (Xrb.trans XT)) _ _ upd_same,rbas,XT _ _ upd_same,Paired.mapP rbp fun a t z=>(Xrb.trans XT) _ _ z⟩;have tw2:=My.TabW.extE tw1 E2;refine⟨T,names,N.map (rowL names),rfl,ti,by rw[hA1];omega,n3,n12,tw2,fun L ts H3 eB3 L0 hL pr pm tw3=>?_⟩;have K3:Kq H1 H3:=E2.kq.trans (zBy tw2 eB3);have pp:=qUf (S:=[]) nd N rfl pr;rw[qFa nd]at pm pr;obtain⟨ok,sub,tne⟩:=qPr tx (dsF (N.map (rv names.length))) n3 n12 pm;obtain⟨t0,e0,G0,tl0,el0,hts0,hes0,ht0,hG0,bs0,hb0⟩:∃(t0:Addr) (e0:PE1) (G0:Addr) (tl:List Addr) (el:List PE1),ts=t0 :: tl/\srtL names (jF names.length (dsF (N.map (rv names.length))))=e0 :: el/\H3 t0=some (.tup [.str e0.1,.ref G0])/\H1 G0=none/\∃bs:List Addr,H3 G0=some (.lst (bs.map V.ref))/\bs.length=e0.2.length:=by
  revert pr;unfold told at tne;revert tne;generalize srtL names (jF names.length (dsF (N.map (rv names.length))))=LL;intro tne pr;cases pr with
  |nil=>exact absurd rfl tne
  |cons h t =>
   obtain⟨G,g0,g1,bs,g2,g3⟩:=h;exact⟨_,_,G,_,_,rfl,rfl,g1,E2.none g0,bs,g2,by rw[g3.length,hA1]⟩
 have es0:∃el',told names (dsF (N.map (rv names.length)))=toE names e0 :: el':=⟨_,by unfold told;rw[hes0];rfl⟩;have lb3:3<=bs0.length:=by
  obtain⟨el',z⟩:=es0;have:=ok.l3 (toE names e0) (by rw[z];exact hA6);unfold toE at this;rw[hA1]at this;omega
 clear hes0 es0 pr pm;obtain⟨es,hes⟩:∃es,told names (dsF (N.map (rv names.length)))=es:=⟨_,rfl⟩;rw[hes]at pp ok sub;have hna3:=K3.ls hna;have hba3:=K3.ln hba;have hS3:=K3.sq hS1;clear E2 ti tw2 eB3 XT hT X1 hl1 Xrb hrb rbp e2 L0;refine⟨_,rfl,L,ts,es,rfl,hL,pp,ok,fun H4 e4=>⟨true,rfl,qHa ?_⟩⟩;have hL4:=e4 _ _ hL;have pp4:Paired (PaT H4) ts es:=Paired.mapP pp fun a t z=>z.ext e4
 have lts:ts.length=es.length:=pp.length;have l10:=ok.ln;refine⟨_,rfl,L,rfl,⟨_,SqL.of hL4⟩,?_⟩;refine qAr (xs:=ts.map V.ref) (fun j ys H5=>H4=H5/\∃gs:List Addr,ys=gs.map V.ref/\Paired (fun g (e:PaE)=>qEz H4 g e.2) gs (es.take j)) ⟨rfl,[],rfl,.nil⟩ (fun j ys H5 _ h=>by rw[<-h.1];exact SqL.of hL4) ?_ ?_
 ·rintro j v ys H5 hx ⟨rfl,gs,rfl,pg⟩;obtain⟨b,rfl,hb⟩:=qBk hx;obtain⟨e,he,G,h1,h2⟩:=qAw pp4 hb;have hj:=qAy hb;have lg:=pg.length;rw[hAh]at lg;refine⟨Sle.set _ (Sle.refl _) (fun u z=>by cases z),iteT (B:=False) ⟨_,rfl,b,_,_,_,rfl,rfl,SqT.of h1,(by exact qA0 (j:=1) rfl),by rw[hA1];exact qAi (by omega),nxt (qAy hx) ⟨rfl,gs++[G],by rw[hA3];rfl,?_⟩⟩⟩;rw[qAm he];exact Paired.snoc pg h2
 rintro ys H5 ⟨rfl,gs,rfl,pg⟩ gl hgl;rw[hA1,hA5 (by omega)]at pg;have X5:=Ext.new hgl (.lst (gs.map V.ref));obtain⟨bss,hb1,hb2⟩:=qJq pg;have lfl:(es.map (·.2)).flatten.length<=120:=by
  have:=qFe (R:=es.map (·.2)) fun r hr=>by
   obtain⟨e,he,rfl⟩:=hAg.mp hr;exact ok.l12 e he
  rw[hA1]at this;omega
 have lbf:bss.flatten.length<=120:=by rw[hb2.length];exact lfl
 have rfE:(bss.map fun bs=>bs.map V.ref).flatten=bss.flatten.map V.ref:=by rw[List.map_flatten]
 refine⟨gl,gs,bss.map fun bs=>bs.map V.ref,rfl,upd_same,Paired.mapP hb1 fun a t z=>X5 _ _ z,by rw[rfE,hA1];omega,fun r1 H6 e6 r10 hr6'=>?_⟩;rw[rfE]at hr6';have X6:=X5.trans e6;have lf2:((es.map (·.2)).flatten.map fun r=>r.map V.str).flatten.length<=5000:=by
  have:=qFe (R:=(es.map (·.2)).flatten.map fun r=>r.map V.str) fun r hr=>by
   obtain⟨r',hr',rfl⟩:=hAg.mp hr;obtain⟨R,hR,hr2'⟩:=List.mem_flatten.mp hr';obtain⟨e,he,rfl⟩:=hAg.mp hR;rw[hA1];exact(ok.rw e he r' hr2').2.1
  rw[hA1]at this;omega
 refine⟨r1,bss.flatten,(es.map (·.2)).flatten.map fun r=>r.map V.str,rfl,hr6',qD5 (Paired.mapP hb2 fun a t z=>X6 _ _ z),lf2,fun to H7 e7 to0 hto=>?_⟩;rw[qJ8]at hto lf2;rw[hA1]at lf2;have X7:=X6.trans e7;have hna7:=X7 _ _ (e4 _ _ hna3);have tsub:∀x∈(es.map (·.2)).flatten.flatten,x∈names:=fun x hx=>by
  obtain⟨r,hr',hxr⟩:=List.mem_flatten.mp hx;obtain⟨R,hR,hr2'⟩:=List.mem_flatten.mp hr';obtain⟨e,he,rfl⟩:=hAg.mp hR;exact sub e he r hr2' x hxr
 refine⟨_,rfl,to,rfl,⟨_,SqL.of hto⟩,?_⟩;refine qAr (xs:=(es.map (·.2)).flatten.flatten.map V.str) (fun j ys H8=>H7=H8/\ys=(List.replicate j true).map V.bl) ⟨rfl,rfl⟩ (fun j ys H8 _ h=>by rw[<-h.1];exact SqL.of hto) ?_ ?_
 ·rintro j v ys H8 hx ⟨rfl,rfl⟩;obtain⟨x,rfl,hx'⟩:=qLt hx;have hj:=qAy hx';refine⟨Sle.set _ (Sle.refl _) (fun u z=>by cases z),iteT (B:=False) ⟨_,rfl,_,rfl,na,_,rfl,.inl (SqL.of hna7),rfl,qJ6 _,by rw[hA1,hD4];exact qEc (by omega),nxt (qAy hx) ⟨rfl,?_⟩⟩⟩;rw[qF0,if_neg (by decide),qLy,decide_eq_true (tsub x (hAc hx'))]
 rintro ys H8 ⟨rfl,rfl⟩ al hal;have X8:=X7.trans (Ext.new hal (.lst ((List.replicate ((es.map (·.2)).flatten.flatten.map V.str).length true).map V.bl)));refine⟨al,List.replicate _ true,rfl,SqL.of upd_same,_,rfl,?_⟩;rw[qIj];refine qHa ?_;have E8:=e4.trans X8;have tw8:=My.TabW.extE tw3 E8;have hna8:=E8 _ _ hna3;have hba8:=E8 _ _ hba3;have hS8:=Ext.sqL E8 hS3;have hL8:=E8 _ _ hL;have pp8:Paired (PaT _) ts es:=Paired.mapP pp fun a t z=>z.ext E8
 have ht8:=E8 _ _ ht0;have hb8:=E8 _ _ hb0.1;have to8:=(Ext.new hal (.lst ((List.replicate ((es.map (·.2)).flatten.flatten.map V.str).length true).map V.bl))) _ _ hto;clear X8 X7 X6 X5 hal hgl hb1 hb2 pg hr6' e6 e7 hto hna7 pp4 hL4 tsub;revert tw8 hna8 hba8 hS8 hL8 pp8 ht8 hb8;clear E8;generalize upd H7 al (.lst ((List.replicate ((es.map (·.2)).flatten.flatten.map V.str).length true).map V.bl))=H8 at to8 ⊢;intro tw8 hna8 hba8 hS8 hL8 pp8 ht8 hb8;clear e4 pp hL tw3 hS3 hba3 hna3 ht0;refine⟨_,rfl,_,_,rfl,qHx hL8 pp8,ok.rp,?_⟩;refine⟨3,rfl,by decide,by decide,qBp (lo:=0) (n:=3) (fun i σ H'=>∃x6 x7 x8 x9:Option V,σ=[some (.ref a),some (.ref na),some (.ref ba),some (.ref L),some (.ref to),some (.str (qX6 es).shown),x6,x7,x8,x9,none,none]/\Kq H8 H'/\TabW H' Pp lpP qL) ⟨none,none,none,none,rfl,Kq.refl _,tw8⟩ ?_ ?_⟩
 ·rintro i σ H9 hi ⟨x6,x7,x8,x9,rfl,k9,tw9⟩;have hna9:=k9.ls hna8;have hba9:=k9.ln hba8;have hS9:=k9.sq hS8;refine⟨_,rfl,_,rfl,_,rfl,_,_,rfl,rfl,a,ns,_,rfl,hS9,by omega,by omega,fun B=>?_⟩;refine⟨ba,B,N,rfl,hba9,lN,fun mo M Ha ea mo0 hM lM sM inc=>?_⟩;have ltM:∀x∈M,x<2^names.length:=fun x hx=>Spn.lt lt (sM x hx)
  refine⟨_,rfl,na,_,rfl,.inl (SqL.of (ea _ _ hna9)),fun l1 hl1=>?_⟩;have X1:=Ext.new hl1 (.lst (names.map V.str));refine⟨_,rfl,mo,rfl,⟨_,SqL.of (X1 _ _ hM)⟩,?_⟩;refine qAr (xs:=M.map iV) (fun j ys H2=>Ext (upd Ha l1 (.lst (names.map V.str))) H2/\∃as:List Addr,ys=as.map V.ref/\Paired (LsS H2) as ((M.take j).map (rowL names))) ⟨Ext.refl _,[],rfl,.nil⟩ (fun j ys H2 _ h=>SqL.of (h.1 _ _ (X1 _ _ hM))) ?_ ?_
  ·rintro j v ys H2 hx ⟨e2,as,rfl,pr⟩;obtain⟨x,rfl,hx'⟩:=qBz hx;have hj:=qAy hx';have la:=pr.length;rw[hA1,hAh]at la;refine⟨Sle.set _ (Sle.refl _) (fun u z=>by cases z),iteT (B:=False) ⟨_,rfl,_,rfl,na,names,x,rfl,e2 _ _ (X1 _ _ (ea _ _ hna9)),n12,fun r3 H3 e3 r30 h3=>⟨?_,nxt (qAy hx) ⟨e2.trans e3,as++[r3],by rw[hA3];rfl,?_⟩⟩⟩⟩
   ·rw[hA1];exact qAi (by omega)
   ·rw[qAm hx',hA3];exact Paired.snoc (Paired.mapP pr fun a t z=>e3 _ _ z) h3
  rintro ys H2 ⟨e2,rbas,rfl,rbp⟩ rb hrb;rw[hA1,hA5 (hA7 _)]at rbp;have Xrb:=Ext.new hrb (.lst (rbas.map V.ref));refine⟨two,fun T hT=>?_⟩;have XT:=Ext.new hT (.tup [V.ref l1,V.ref rb]);have E2:=ea.trans (X1.trans (e2.trans (Xrb.trans XT)));have ti:qFi (upd (upd H2 rb (.lst (rbas.map V.ref))) T (.tup [V.ref l1,V.ref rb])) T names (M.map (rowL names)):=⟨l1,rb,upd_same,(e2.trans (Xrb.trans XT)) _ _ upd_same,rbas,XT _ _ upd_same,Paired.mapP rbp fun a t z=>(Xrb.trans XT) _ _ z⟩;have rp:=zAf (rows:=M.map (rowL names)) tx n12 (fun r hr'=>by obtain⟨x,_,rfl⟩:=hAg.mp hr';exact qXs tx n12 x) (by rw[hA1];omega);have tw2:=My.TabW.extE tw9 E2;refine⟨_,rfl,_,_,rfl,qWw ti,rp,?_⟩;refine⟨_,rfl,T,names,M.map (rowL names),rfl,ti,by rw[hA1];omega,n3,n12,tw2,fun L2 ts2 H3 eB3 L20 hL2 pr2 pm2 tw3=>?_⟩;have kB:=zBy tw2 eB3;have K3:Kq H8 H3:=k9.trans (E2.kq.trans kB);have pp2:=qUf (S:=[]) nd M rfl pr2;rw[qVb lt sM inc,hes]at pp2;refine⟨_,rfl,_,_,qHx hL2 pp2,qHx (K3 _ _ hL8 (fun _ z=>by cases z)) (Paired.mapP pp8 fun a t z=>K3.pa z),ok.shaped,ok.shaped,_,rfl,?_⟩;rw[qSi];refine qHa ?_;refine⟨_,rfl,_,_,rfl,qWw (kB.tab ti),rp,_,rfl,rfl,_,rfl,?_⟩;rw[decide_eq_true rfl];refine qHa ?_;exact⟨_,_,_,_,rfl,K3,tw3⟩
 rintro σ H9 ⟨x6,x7,x8,x9,rfl,k9,tw9⟩;have hna9:=k9.ls hna8;have hba9:=k9.ln hba8;have hS9:=k9.sq hS8;have hL9:=k9 _ _ hL8 (fun _ z=>by cases z);have pp9:Paired (PaT H9) ts es:=Paired.mapP pp8 fun a t z=>k9.pa z
 have ht9:=k9 _ _ ht8 (fun _ z=>by cases z);have hb9:=k9 _ _ hb8 (fun _ z=>by cases z);clear k9 hna8 hba8 hS8 hL8 pp8 ht8 hb8 tw8 to8;refine⟨_,rfl,a,ns,12,rfl,hS9,by decide,by decide,fun B=>?_⟩;refine⟨_,rfl,na,_,rfl,.inl (SqL.of hna9),B,_,rfl,by omega,by rw[hA1];omega,fun nr ss Ha ea nr0 hss lss txs ndc=>?_⟩;rw[hA1]at lss ndc;refine⟨nr,ss,rfl,SqL.of hss,by omega,fun nm other hnm pmo srt=>?_⟩;have ndo:other.Nodup:=pmo.symm.nodup (ndc (by omega));have ro:qDu other:=qLg srt ndo;have txo:Tx other:=fun x hx=>txs x (pmo.mem_iff.mp hx)
 have lo:other.length=names.length:=by rw[pmo.length_eq,lss];omega
 have Xo:=Ext.new hnm (.lst (other.map V.str));have ho:LsS (upd Ha nm (.lst (other.map V.str))) nm other:=upd_same;have Eo:=ea.trans Xo;revert ho Eo;generalize upd Ha nm (.lst (other.map V.str))=Hb;intro ho Eo;clear Xo hnm hss ea;refine⟨_,rfl,_,rfl,na,nm,names,other,rfl,SqL.of (Eo _ _ hna9),SqL.of ho,lo.symm,nd,by omega,fun d hd=>?_⟩;have Xd:=Ext.new hd (.dK (dzK names other));have Ed:=Eo.trans Xd;have hdd:upd Hb d (.dK (dzK names other)) d=some (.dK (dzK names other)):=upd_same;have ho2:=Xd _ _ ho;revert Ed hdd ho2;generalize upd Hb d (.dK (dzK names other))=Hc;intro Ed hdd ho2;clear Xd hd Eo ho;have hbac:=Ed _ _ hba9;refine⟨_,rfl,?_⟩;refine⟨_,rfl,ba,rfl,⟨_,SqL.of hbac⟩,?_⟩;refine qAr (xs:=N.map iV) (fun j ys H2=>Ext Hc H2/\∃as:List Addr,ys=as.map V.ref/\Paired (LsS H2) as ((N.take j).map (rowL other))) ⟨Ext.refl _,[],rfl,.nil⟩ (fun j ys H2 _ h=>SqL.of (h.1 _ _ hbac)) ?_ ?_
 ·rintro j v ys H2 hx ⟨e2,as,rfl,pr⟩;obtain⟨x,rfl,hx'⟩:=qBz hx;have hj:=qAy hx';have la:=pr.length;rw[hA1,hAh]at la;refine⟨Sle.set _ (Sle.refl _) (fun u z=>by cases z),iteT (B:=False) ⟨_,rfl,_,rfl,nm,other,x,rfl,e2 _ _ ho2,(by omega),fun r3 H3 e3 r30 h3=>⟨?_,nxt (qAy hx) ⟨e2.trans e3,as++[r3],by rw[hA3];rfl,?_⟩⟩⟩⟩
  ·rw[hA1];exact qAi (by omega)
  ·rw[qAm hx',hA3];exact Paired.snoc (Paired.mapP pr fun a t z=>e3 _ _ z) h3
 rintro ys H2 ⟨e2,rbas,rfl,rbp⟩ rb hrb;rw[hA1,hA5 (hA7 _)]at rbp;have Xrb:=Ext.new hrb (.lst (rbas.map V.ref));refine⟨two,fun T hT=>?_⟩;have XT:=Ext.new hT (.tup [V.ref nm,V.ref rb]);have E2:=e2.trans (Xrb.trans XT);have ti:qFi (upd (upd H2 rb (.lst (rbas.map V.ref))) T (.tup [V.ref nm,V.ref rb])) T other (N.map (rowL other)):=⟨nm,rb,upd_same,E2 _ _ ho2,rbas,XT _ _ upd_same,Paired.mapP rbp fun a t z=>(Xrb.trans XT) _ _ z⟩;have tw2:=My.TabW.extE tw9 (Ed.trans E2);refine⟨T,other,N.map (rowL other),rfl,ti,by rw[hA1];omega,by omega,by omega,tw2,fun L2 ts2 H3 eB3 L20 hL2 pr2 pm2 tw3=>?_⟩;have kB:=zBy tw2 eB3;have K3:Kq H9 H3:=(Ed.trans E2).kq.trans kB;have pp2:=qUf (S:=[]) ndo N rfl pr2;rw[qFa ndo]at pm2;obtain⟨ok2,_,_⟩:=qPr txo (dsF (N.map (rv other.length))) (by omega) (by omega) pm2;rw[lo,qOs rn ro lo,hes]at pp2 ok2;refine⟨_,rfl,_,rfl,L,d,ts,es,dzK names other,phN names other,rfl,K3 _ _ hL9 (fun _ z=>by cases z),Paired.mapP pp9 fun a t z=>K3.pa z,ok,(E2.kq.trans kB) _ _ hdd (fun _ z=>by cases z),fun e he r hr' n hn=>val_dz nd lo.symm (sub e he r hr' n hn),fun rr us Hd ed rr0 hrr pu=>?_⟩;refine⟨_,_,qHx (ed _ _ hL2) (Paired.mapP pp2 fun a t z=>z.ext ed),qHx hrr pu,ok2.shaped,ok2.shaped,_,rfl,?_⟩;rw[qSi];refine qHa ?_;have K4:=K3.trans ed.kq;have tw4:=My.TabW.extE tw3 ed;have hLd:=K4 _ _ hL9 (fun _ z=>by cases z);have htd:=K4 _ _ ht9 (fun _ z=>by cases z);have hbd:=K4 _ _ hb9 (fun _ z=>by cases z);have at0:atI (ts.map V.ref) 0=some (V.ref t0):=by rw[hts0];exact qA0 (j:=0) rfl
 have lst0:(bs0.map V.ref)[(bs0.map V.ref).length - 1]?=some (V.ref (bs0[bs0.length - 1]'(by omega))):=by
  rw[hA1,hAe,hA2 (by omega)];rfl
 refine⟨_,rfl,L,_,_,_,rfl,rfl,SqL.of hLd,at0,t0,_,_,_,rfl,rfl,SqT.of htd,(by exact qA0 (j:=1) rfl),(show tyV _ _ (.ref G0) _ from Or.inl ⟨rfl,_,SqL.of hbd⟩),G0,_,_,rfl,rfl,hbd,lst0,?_⟩;have hnad:=K4.ls hna9;have hbad:=K4.ln hba9;have nG:na≠G0:=fun z=>by have h':H1 na=_:=hna;rw[z,hG0]at h';cases h'
 have bG:ba≠G0:=fun z=>by have h':H1 ba=_:=hba;rw[z,hG0]at h';cases h'
 have tw5:TabW (upd Hd G0 (.lst (bs0.map V.ref).dropLast)) Pp lpP qL:=by
  have pG:Pp≠G0:=fun z=>by
   obtain⟨ps,hp⟩:=My.TabW.tb tw4;rw[z,hbd]at hp;cases hp
  rcases tw4 with h|⟨c',h1,h2⟩
  ·exact .inl (by rw[qAl pG];exact h)
  ·exact .inr ⟨c',by rw[qAl pG];exact h1,by rw[qAl (fun z=>by rw[z,hbd]at h2;cases h2)];exact h2⟩
 have hna5:LsS (upd Hd G0 (.lst (bs0.map V.ref).dropLast)) na names:=by unfold LsS;rw[qAl nG];exact hnad
 have hba5:LsN (upd Hd G0 (.lst (bs0.map V.ref).dropLast)) ba N:=by unfold LsN;rw[qAl bG];exact hbad
 revert tw5 hna5 hba5;generalize upd Hd G0 (.lst (bs0.map V.ref).dropLast)=He;clear hnad hbad hLd htd hbd at0 lst0 tw4 K4 pu hrr ed pp2 ok2 K3 kB eB3 hL2 pr2 pm2 tw3 ti tw2 E2 XT hT rbp Xrb hrb e2 Ed hdd ho2;intro tw5 hna5 hba5;refine⟨_,rfl,na,_,rfl,.inl (SqL.of hna5),fun l1 hl1=>?_⟩;have X1:=Ext.new hl1 (.lst (names.map V.str));refine⟨_,rfl,ba,rfl,⟨_,SqL.of (X1 _ _ hba5)⟩,?_⟩;refine qAr (xs:=N.map iV) (fun j ys H2=>Ext (upd He l1 (.lst (names.map V.str))) H2/\∃as:List Addr,ys=as.map V.ref/\Paired (LsS H2) as ((N.take j).map (rowL names))) ⟨Ext.refl _,[],rfl,.nil⟩ (fun j ys H2 _ h=>SqL.of (h.1 _ _ (X1 _ _ hba5))) ?_ ?_
 ·rintro j v ys H2 hx ⟨e2,as,rfl,pr⟩;obtain⟨x,rfl,hx'⟩:=qBz hx;have hj:=qAy hx';have la:=pr.length;rw[hA1,hAh]at la;refine⟨Sle.set _ (Sle.refl _) (fun u z=>by cases z),iteT (B:=False) ⟨_,rfl,_,rfl,na,names,x,rfl,e2 _ _ (X1 _ _ hna5),n12,fun r3 H3 e3 r30 h3=>⟨?_,nxt (qAy hx) ⟨e2.trans e3,as++[r3],by rw[hA3];rfl,?_⟩⟩⟩⟩
  ·rw[hA1];exact qAi (by omega)
  ·rw[qAm hx',hA3];exact Paired.snoc (Paired.mapP pr fun a t z=>e3 _ _ z) h3
 rintro ys H2 ⟨e2,rbas,rfl,rbp⟩ rb hrb;rw[hA1,hA5 (hA7 _)]at rbp;have Xrb:=Ext.new hrb (.lst (rbas.map V.ref));refine⟨two,fun T hT=>?_⟩;have XT:=Ext.new hT (.tup [V.ref l1,V.ref rb]);have E2:=X1.trans (e2.trans (Xrb.trans XT));have ti:qFi (upd (upd H2 rb (.lst (rbas.map V.ref))) T (.tup [V.ref l1,V.ref rb])) T names (N.map (rowL names)):=⟨l1,rb,upd_same,(e2.trans (Xrb.trans XT)) _ _ upd_same,rbas,XT _ _ upd_same,Paired.mapP rbp fun a t z=>(Xrb.trans XT) _ _ z⟩;refine⟨T,names,N.map (rowL names),rfl,ti,by rw[hA1];omega,n3,n12,My.TabW.extE tw5 E2,fun L2 ts2 H3 eB3 L20 hL2 pr2 pm2 tw3=>?_⟩;have pp2:=qUf (S:=[]) nd N rfl pr2;rw[hes]at pp2;refine⟨_,_,rfl,qHx hL2 pp2,ok.rp,_,rfl,rfl,?_⟩;rw[decide_eq_true rfl];exact q _
end
end My
namespace L2
open PySem PySem.Spec PyProof.Rows
theorem qO5{P:Program}{w:World}{K:PySem.W.Frag}{mg mb:Str->Option Value}{CX:CXT}{k:Nat}{fa a c T c2 T2:Addr}{fd:FuncData}{x:Str}{sp:Sp}{s₁:Shared}{vs:List Value}{ns:List Int}
  (KX:K.In s₁.heap) (hns:s₁.heap.Ns mainGlobals mg) (hb:s₁.heap.Ns builtinsNs mb) (hbb:∀x:Str,x≠"__name__"->mb x=bootBuiltins x) (hlim:s₁.heap.NoLimit) (hg:s₁.gens=#[])
  (ha:s₁.heap.get? a=some { cls:=.type "list",data:=.seq vs.toArray }) (hi:IntsAre vs ns) (hl:ns.length<=sizeLine) (hr:Room k callerA)
  (hC:PySem.W.CodeHd s₁.heap c T) (hT:s₁.heap.get? T=some (PySem.W.tabObj #[])) (hC2:PySem.W.CodeHd s₁.heap c2 T2) (hT2:s₁.heap.get? T2=some (PySem.W.tabObj #[])) (hnt:PySem.W.noTabs K=true) (hB:s₁.heap.BuiltinsAt mg T) (hB2:s₁.heap.BuiltinsAt mg T2)
  (F:∀base:Heap,K.In base->base.Ns mainGlobals mg->PySem.W.CodeHd base c T->base.BuiltinsAt mg T->PySem.W.CodeHd base c2 T2->base.BuiltinsAt mg T2->FnOk P w K mg base CX k fa fd [x] sp) (hbind:∀(s:Shared) (u:Value),BindsTo s fd ⟨[u],[]⟩ [(x,u)])
  (hsp:∀H:Hp,H T=some (.tbl #[])->H T2=some (.tbl #[])->SqL K H a (ns.map V.int)->sp [.ref a] H (fun v _=>v = .bl true) fun _ _ _=>False)
  (hCX:∀H e s',CX [] H s₁ (fun _ _ _=>False) e s'->False) :
  codeAny (model P w) callerA (.call (.ref fa) ⟨[.ref a],[]⟩) (fun r s'=>r = .ok (.ret (.bool true))/\OldK s₁.heap s'.heap/\s'.os=s₁.os/\AllBare s'.gens) s₁:=by
 have rv:=qI8 hi;have lenV:=hi.length;have hKT:=zAz KX hnt hT;have hKT2:=zAz KX hnt hT2;have isT:∀ {b:Addr},b=T\/b=T2->s₁.heap.get? b=some (PySem.W.tabObj #[]):=fun h=>by
  rcases h with h|h
  ·rw[h];exact hT
  ·rw[h];exact hT2
 have noK:∀ {b:Addr},b=T\/b=T2->K.lookup b=none:=fun h=>by
  rcases h with h|h
  ·rw[h];exact hKT
  ·rw[h];exact hKT2
 have aT:¬(a=T\/a=T2):=fun z=>by have:=isT z;rw[ha]at this;cases this
 have core:∀H:Hp,(∀b,¬(b=T\/b=T2)->H b=none\/∃o xs,H b=some (.frz o (.lst xs)))->(∀b,b=T\/b=T2->H b=some (.tbl #[]))->SqL K H a (ns.map V.int)->HOk P w H s₁.heap->(∀b,H b≠none->b=a\/b=T\/b=T2)->(H a≠none->K.lookup a=none) ->
   codeAny (model P w) callerA (.call (.ref fa) ⟨[.ref a],[]⟩) (fun r s'=>r = .ok (.ret (.bool true))/\OldK s₁.heap s'.heap/\s'.os=s₁.os/\AllBare s'.gens) s₁:=by
  intro H hO hHT hS hok hA hK;have base_of:∀ {b:Addr} {o:Obj},s₁.heap.get? b=some o->H b=none->(qSb s₁.heap H).get? b=some o:=fun e n=>qU3 e n
  have noA:∀ {b:Addr} {o:Obj},s₁.heap.get? b=some o->(∀vs n,o.data≠.seq vs n)->o≠PySem.W.tabObj #[]->H b=none:=fun {b o} e d1 d2=>by
   cases q:H b with
   |none=>rfl
   |some u =>
    rcases hA b (by rw[q];simp) with e'|e'
    ·subst e';rw[ha]at e;cases e;exact absurd rfl (d1 _ _)
    ·rw[isT e']at e;exact absurd (hAm e).symm d2
  have nsK:∀ {b:Addr} {m:Str->Option Value},s₁.heap.Ns b m->(qSb s₁.heap H).Ns b m:=fun {b m} ⟨o,es,ep,e,d,r⟩=>⟨o,es,ep,base_of e (noA e (fun _ _ z=>by rw[d]at z;cases z) (fun z=>by rw[z]at d;cases d)),d,r⟩
  have hKb:K.In (qSb s₁.heap H):=fun b o e=>base_of (KX b o e) (by
   cases q:H b with
   |none=>rfl
   |some u =>
    rcases hA b (by rw[q];simp) with e'|e'
    ·subst e';rw[hK (by rw[q];simp)]at e;cases e
    ·rw[noK e']at e;cases e)
  have hM:Mod K mg (qSb s₁.heap H):=⟨hKb,nsK hns,⟨mb,nsK hb,hbb⟩,let ⟨mc,h1,h2⟩:=hlim;⟨mc,nsK h1,h2⟩⟩;have hdK:∀ {c T:Addr},PySem.W.CodeHd s₁.heap c T->PySem.W.CodeHd (qSb s₁.heap H) c T:=fun {c T} hC=>by
   obtain⟨o,vs',file,tf,flags,tg,inF,text,tt,e1,e2,e3,r⟩:=hC;refine⟨o,vs',file,tf,flags,tg,inF,text,tt,base_of e1 (noA e1 (fun _ _ z=>by rw[e3]at z;cases z) (fun z=>by rw[z]at e2;cases e2)),e2,e3,r⟩
  have blK:∀ {T:Addr},s₁.heap.BuiltinsAt mg T->(qSb s₁.heap H).BuiltinsAt mg T:=fun {T} hB=>by
   obtain⟨bm,ob,b1,b2,b3,b4,b5,b6,b7,b8⟩:=hB;exact⟨bm,ob,b1,b2,b3,b4,base_of b5 (noA b5 (fun _ _ z=>by rw[b8]at z;cases z) (fun z=>by rw[z]at b8;cases b8)),b6,b7,b8⟩
  have e0:Env0 P w K mg (qSb s₁.heap H) callerA [] s₁ H:=⟨rfl,hM,fun b o e=>qYw e,Nat.le_of_eq (qSa _ _),trivial,fun b hb=>absurd (show b∈([]:List Addr) from hb) (by simp),hok,.of_eq hg⟩;refine codeAny_mono ((F _ hKb (nsK hns) (hdK hC) (blK hB) (hdK hC2) (blK hB2)).run callerA [] s₁ H ⟨[.ref a],[]⟩ [.ref a] [.ref a] _ _ hr e0 (hbind s₁ (.ref a)) (.cons rfl .nil) (hsp H (hHT T (.inl rfl)) (hHT T2 (.inr rfl)) hS)) fun r s' h=>?_
  cases r with
  |error e=>exact(hCX H e s' h).elim
  |ok fl =>
   cases fl with
   |next=>exact False.elim h
   |brk=>exact False.elim h
   |cont=>exact False.elim h
   |ret u =>
    obtain⟨v,H',os,bare,un,hok',r',q⟩:=h;have q':v = .bl true:=q;subst q';obtain rfl:u=Value.bool true:=r';have tbs:∀b,b=T\/b=T2->∃more:Array Value,s'.heap.get? b=some { cls:=.none,data:=.fields (#[]++more) }:=fun b hbT=>by
     obtain⟨more,hmT⟩:=un.tbls b _ (hHT b hbT);exact⟨more,hok' b _ hmT⟩
    refine⟨rfl,⟨fun b o e=>?_,fun b o e=>?_⟩,os,bare⟩
    ·by_cases hbT:b=T\/b=T2
     ·obtain⟨more,hTs⟩:=tbs b hbT;have e2:=isT hbT;rw[e2]at e;cases e;rcases hbT with z|z
      ·subst z;exact .inr (.inl ⟨(hC.tab hT).isCodeTable,rfl,#[],more,rfl,hTs⟩)
      ·subst z;exact .inr (.inl ⟨(hC2.tab hT2).isCodeTable,rfl,#[],more,rfl,hTs⟩)
     ·refine .inl ?_;cases q:H b with
      |none=>exact un.keep b o e q (by intro z;exact absurd (show b∈([]:List Addr) from z) (by simp)) (by simp)
      |some u =>
       rcases hO b hbT with z|⟨ob,xs,z⟩
       ·rw[q]at z;cases z
       ·have z2:=un.frzs b ob _ z;obtain⟨e1,_⟩:=hok b _ z;obtain⟨e2,_⟩:=hok' b _ z2;rw[e]at e1;cases e1;exact e2
    ·by_cases hbT:b=T\/b=T2
     ·obtain⟨more,hTs⟩:=tbs b hbT;exact⟨_,hTs⟩
     ·cases q:H b with
      |none=>exact⟨o,un.keep b o e q (by intro z;exact absurd (show b∈([]:List Addr) from z) (by simp)) (by simp)⟩
      |some u =>
       rcases hO b hbT with z|⟨ob,xs,z⟩
       ·rw[q]at z;cases z
       ·obtain⟨e2,_⟩:=hok' b _ (un.frzs b ob _ z);exact⟨_,e2⟩
 cases hk:K.lookup a with
 |some o =>
  have e:=KX a o hk;rw[ha]at e;cases e;refine core (fun b=>if b=T\/b=T2 then some (.tbl #[]) else none) (fun b hb=>.inl (if_neg hb)) (fun b hb=>if_pos hb) (.inr ⟨_,vs.toArray,_,hk,rfl,rfl,rfl,by rw[hAb,lenV];exact hl,by simpa using rv⟩) (fun b u z=>?_) (fun b z=>?_) (fun z=>absurd (if_neg aT) z)
  ·by_cases hb:b=T\/b=T2
   ·have z':=(if_pos hb).symm.trans z;cases z';exact isT hb
   ·have z':=(if_neg hb).symm.trans z;cases z'
  ·by_cases hb:b=T\/b=T2
   ·exact .inr hb
   ·exact absurd (if_neg hb) z
 |none =>
  refine core (fun b=>if b=T\/b=T2 then some (.tbl #[]) else if b=a then some (.frz { cls:=.type "list",data:=.seq vs.toArray } (.lst (ns.map V.int))) else none) (fun b hbT=>?_) (fun b hb=>if_pos hb) (.inl (.inr ⟨{ cls:=.type "list",data:=.seq vs.toArray },(if_neg aT).trans (if_pos rfl)⟩)) (fun b u z=>?_) (fun b z=>?_) fun _=>hk
  ·by_cases hb:b=a
   ·exact .inr ⟨_,_,(if_neg hbT).trans (if_pos hb)⟩
   ·exact .inl ((if_neg hbT).trans (if_neg hb))
  ·by_cases hbT:b=T\/b=T2
   ·have z':=(if_pos hbT).symm.trans z;cases z';exact isT hbT
   ·have z:=(if_neg hbT).symm.trans z;by_cases hb:b=a
    ·have z':=(if_pos hb).symm.trans z;cases z';subst hb;exact⟨ha,by rw[hA1];exact hl,vs,_,rv,ha⟩
    ·have z':=(if_neg hb).symm.trans z;cases z'
  ·by_cases hbT:b=T\/b=T2
   ·exact .inr hbT
   ·by_cases hb:b=a
    ·exact .inl hb
    ·exact absurd ((if_neg hbT).trans (if_neg hb)) z
theorem walk_ofT2{l:PySem.W.OpenLaw}{n k:Nat}{q:Program}{loose:List Str}{XP:(Str->Option Value)->Heap->Prop}{YP:World->Heap->Prop}{d dr dr2:DefRec}{K:Params->PySem.W.Frag}{CX:World->CXT}{sp:World->Addr->Addr->Sp}{x tx ty:Str}
  (hn:l.most=some n) (hn2:n<=sizeLine) (hdf:d.params.defaults=[]) (hr:Room k callerA)
  (hY:∀(w:World) (h:Heap),YP w h->(K w.params).In h) (hrec:(recsOf q).find? (fun e=>e.name == tx)=some dr) (hrec2:(recsOf q).find? (fun e=>e.name == ty)=some dr2)
  (hK:∀w:World,∃c T c2 T2,PySem.W.tabIn (K w.params) tx=some (c,T)/\PySem.W.tabIn (K w.params) ty=some (c2,T2)/\T≠T2/\PySem.W.noTabs (K w.params)=true)
  (F:∀(w:World) (mg:Str->Option Value) (fa:Addr) (h:Heap) (c T c2 T2:Addr),(K w.params).In h->h.Ns mainGlobals mg->mg d.name=some (.ref fa)->PySem.W.tabIn (K w.params) tx=some (c,T)->PySem.W.tabIn (K w.params) ty=some (c2,T2) ->
   ∃fd:FuncData,(∀(s:Shared) (u:Value),BindsTo s fd ⟨[u],[]⟩ [(x,u)]) /\
    ∀base:Heap,(K w.params).In base->base.Ns mainGlobals mg->PySem.W.CodeHd base c T->base.BuiltinsAt mg T->PySem.W.CodeHd base c2 T2->base.BuiltinsAt mg T2->FnOk l.prog w (K w.params) mg base (CX w) k fa fd [x] (sp w T T2))
  (hsp:∀(w:World) (T T2:Addr) (H:Hp) (a:Addr) (ns:List Int),ns.length<=n->T≠T2->H T=some (.tbl #[])->H T2=some (.tbl #[])->SqL (K w.params) H a (ns.map V.int)->sp w T T2 [.ref a] H (fun v _=>v = .bl true) fun _ _ _=>False)
  (hCX:∀(w:World) (H:Hp) (s:Shared) (e:Value) (s':Shared),CX w [] H s (fun _ _ _=>False) e s'->False) :
  PySem.W.WalkO q loose XP YP l.row.toRowW d [] (fun f vs=>PySem.call f vs):=by
 refine Att.attach_call hn hdf fun w s₀ s₁ mg mb fa o pm cd doc a vs ns G Y ho hd hcd hmg hobj hints hlen hg=>?_
 have KX:=hY w _ Y;obtain⟨c,T,c2,T2,ht,ht2,ne,hnt⟩:=hK w;obtain⟨hC,hT⟩:=PySem.W.tab_of G.T KX hrec ht;obtain⟨hC2,hT2⟩:=PySem.W.tab_of G.T KX hrec2 ht2;obtain⟨bm,ob,b1,b2,b3,b4,b5,b6⟩:=G.T.bmain;have hbT:∀ {T:Addr},s₁.heap.get? T=some (PySem.W.tabObj #[])->bm≠T:=fun hT z=>by rw[z,hT]at b3;cases b3;cases b4
 have hbG:bm≠mainGlobals:=fun z=>by
  obtain⟨o',es,ep,e,hd',_⟩:=G.T.g;rw[z,e]at b3;cases b3;rw[hd']at b6;cases b6
 obtain⟨fd,hb,hF⟩:=F w mg fa _ c T c2 T2 KX G.T.g hmg ht ht2;exact qO5 KX G.T.g G.T.b G.T.builtins G.T.nolimit hg hobj hints (hAq hlen hn2) hr hC hT hC2 hT2 hnt ⟨bm,ob,b1,b2,hbG,hbT hT,b3,b4,b5,b6⟩ ⟨bm,ob,b1,b2,hbG,hbT hT2,b3,b4,b5,b6⟩ hF hb (fun H h1 h2 hS=>hsp w T T2 H a ns hlen ne h1 h2 hS) fun H e s'=>hCX w H s₁ e s'
end L2
namespace My
open PySem L2
theorem qTe{α:Type}{us:List α}(h:us.length=1):∃a,us=[a]:=List.length_eq_one_iff.mp h
theorem qFf{α:Type}{us:List α}(h:us.length=2):∃a b,us=[a,b]:=by
 match us,h with | [a,b],_=>exact⟨a,b,rfl⟩
theorem zA4{α:Type}{us:List α}(h:us.length=3):∃a b c,us=[a,b,c]:=by
 match us,h with | [a,b,c],_=>exact⟨a,b,c,rfl⟩
theorem zC8{α:Type}{us:List α}(h:us.length=4):∃a b c d,us=[a,b,c,d]:=by
 match us,h with | [a,b,c,d],_=>exact⟨a,b,c,d,rfl⟩
def Hs(K:PySem.W.Frag)(x:Str)(st:Stmt)(f:Addr):Prop:=∃(od an:Option Addr) (sl:Array (Option Value)) (oc kV dc pm cd ct:Value),PySem.W.nsIn K mainGlobals x=some (some (.ref f))/\K.lookup f=some ⟨oc,od,.func (PySem.W.fnOf x x (qCz st) (qB7 st) (qAe st) .none kV dc pm an cd ct),sl⟩/\PySem.W.codeIn K cd x=true/\PySem.W.keepIn K (.ref f)=true
theorem hs_mk{K:PySem.W.Frag}{x:Str}{st:Stmt}{f:Addr}{od an:Option Addr}{sl:Array (Option Value)}{oc kV dc pm cd ct:Value}(a:PySem.W.nsIn K mainGlobals x=some (some (.ref f)))(l:K.lookup f=some ⟨oc,od,.func (PySem.W.fnOf x x (qCz st) (qB7 st) (qAe st) .none kV dc pm an cd ct),sl⟩)(c:PySem.W.codeIn K cd x=true)(k:PySem.W.keepIn K (.ref f)=true):Hs K x st f:=⟨_,_,_,_,_,_,_,_,_,a,l,c,k⟩
theorem qA2{K:PySem.W.Frag}{x:Str}{st:Stmt}{f:Addr}{h:Heap}{mg:Str->Option Value}(X:K.In h)(G:h.Ns mainGlobals mg)(H:Hs K x st f):∃fd,Fun K x x st f fd/\PySem.W.keepIn K (.ref f)=true/\mg x=some (.ref f):=by
 obtain⟨_,_,_,_,_,_,_,_,_,a,l,c,k⟩:=H;exact⟨_,qN1 (st:=st) l c k,k,PySem.W.mg_of X G a⟩
theorem all_mk{l:PySem.W.OpenLaw}{w:World}{K:PySem.W.Frag}{h:Heap}{mg:Str->Option Value}{fa f1 f2 f3 f4 f5 f6 f7 f8 f9 f10 f11 f12 f13 f14 f15 f16 f17 f18 f19 f20 f21 f22 f23 f24 f25 f26 f27 f28 f29 f30 f31 f32 f33 f34 f35 f36 f37 f38 f39 f40 f41 f42 f43 f44 f45:Addr}(X:K.In h)(G:h.Ns mainGlobals mg)(hfa:mg "law" = some (.ref fa)){cx Tx cy Ty:Addr}(ht:PySem.W.tabIn K "parts" = some (cx,Tx))(ht2:PySem.W.tabIn K "_law_blocks" = some (cy,Ty))
  {odN anN od20 an20 od36 an36:Option Addr} {slN sl20 sl36:Array (Option Value)} {ocN kVN dcN pmN cdN ctN oc20 kV20 dc20 pm20 cd20 ct20 oc36 kV36 dc36 pm36 cd36 ct36:Value}
  (h1:Hs K "mask_of" qTz f1) (h2:Hs K "row_of" qHn f2) (h3:Hs K "lessened" qXj f3) (h4:Hs K "reduced" qTy f4) (h5:Hs K "step_masks" qM0 f5) (h6:Hs K "is_single" qLa f6) (h7:Hs K "splits" qK9 f7)
  (h8:Hs K "lies_across" qXi f8) (h9:Hs K "is_crossed" qXn f9) (h10:Hs K "share_masks" qHm f10) (h11:Hs K "grown" qQn f11) (h12:Hs K "widths" qE4 f12) (h13:Hs K "first_parting" qQo f13)
  (h14:Hs K "kind_of" qXm f14) (h15:Hs K "parted" qIg f15) (h16:Hs K "beside" qLd f16) (h17:Hs K "are_mates" qM2 f17) (h18:Hs K "melded" qGc f18) (h19:Hs K "joined" qGe f19)
  (a20:PySem.W.nsIn K mainGlobals "parts" = some (some (.ref f20))) (l20:K.lookup f20=some ⟨oc20,od20,.func (PySem.W.fnOf "parts" "parts" (qCz qDc) (qB7 qDc) (qAe qDc) .none kV20 dc20 pm20 an20 cd20 ct20),sl20⟩) (c20:PySem.W.codeIn K cd20 "parts" = true) (k20:PySem.W.keepIn K (.ref f20)=true)
  (h21:Hs K "_law_cell_at" qXo f21) (h22:Hs K "_law_big" zCe f22) (h23:Hs K "_law_names" qM1 f23) (h24:Hs K "_law_ends" qT8 f24) (h25:Hs K "_law_net" zCd f25) (h26:Hs K "_law_reduced" qT3 f26)
  (h27:Hs K "_law_even" qJl f27) (h28:Hs K "_law_crossing" qQm f28) (h29:Hs K "_law_small" qLc f29) (h30:Hs K "_law_with_more" qT4 f30) (h31:Hs K "_law_row" qT2 f31) (h32:Hs K "_law_mask" qT5 f32)
  (h33:Hs K "_law_free" qXl f33) (h34:Hs K "_law_steps_of" qT1 f34) (h35:Hs K "_law_sums" qT0 f35)
  (a36:PySem.W.nsIn K mainGlobals "_law_blocks" = some (some (.ref f36))) (l36:K.lookup f36=some ⟨oc36,od36,.func (PySem.W.fnOf "_law_blocks" "_law_blocks" (qCz qFu) (qB7 qFu) (qAe qFu) .none kV36 dc36 pm36 an36 cd36 ct36),sl36⟩) (c36:PySem.W.codeIn K cd36 "_law_blocks" = true) (k36:PySem.W.keepIn K (.ref f36)=true)
  (h37:Hs K "_law_inside" qT6 f37) (h38:Hs K "_law_block" qOx f38) (h39:Hs K "_law_glued" qT7 f39) (h40:Hs K "_law_tree" qJk f40) (h41:Hs K "_law_flat" qQl f41) (h42:Hs K "_law_are_parts" qOy f42)
  (h43:Hs K "_law_other_rows" qXk f43) (h44:Hs K "_law_renamed" qQk f44)
  (a45:PySem.W.nsIn K mainGlobals "law" = some (some (.ref f45))) (l45:K.lookup f45=some ⟨ocN,odN,.func (PySem.W.fnOf "law" "law" (qCz qLb) (qB7 qLb) (qAe qLb) .none kVN dcN pmN anN cdN ctN),slN⟩) (c45:PySem.W.codeIn K cdN "law" = true) (k45:PySem.W.keepIn K (.ref f45)=true)
  (z1:PySem.W.nsIn K mainGlobals "abs" = some none)
  (z2:PySem.W.nsIn K mainGlobals "all" = some none)
  (z3:PySem.W.nsIn K mainGlobals "any" = some none)
  (z4:PySem.W.nsIn K mainGlobals "dict" = some none)
  (z5:PySem.W.nsIn K mainGlobals "enumerate" = some none)
  (z6:PySem.W.nsIn K mainGlobals "isinstance" = some none)
  (z7:PySem.W.nsIn K mainGlobals "len" = some none)
  (z8:PySem.W.nsIn K mainGlobals "list" = some none)
  (z9:PySem.W.nsIn K mainGlobals "max" = some none)
  (z10:PySem.W.nsIn K mainGlobals "min" = some none)
  (z11:PySem.W.nsIn K mainGlobals "range" = some none)
  (z12:PySem.W.nsIn K mainGlobals "repr" = some none)
  (z13:PySem.W.nsIn K mainGlobals "reversed" = some none)
  (z14:PySem.W.nsIn K mainGlobals "set" = some none)
  (z15:PySem.W.nsIn K mainGlobals "sorted" = some none)
  (z16:PySem.W.nsIn K mainGlobals "str" = some none)
  (z17:PySem.W.nsIn K mainGlobals "sum" = some none)
  (z18:PySem.W.nsIn K mainGlobals "tuple" = some none)
  (z19:PySem.W.nsIn K mainGlobals "zip" = some none)
  : ∃fd:FuncData,(∀(s:Shared) (v:Value),BindsTo s fd ⟨[v],[]⟩ [("_law_script",v)])/\∀base:Heap,K.In base->base.Ns mainGlobals mg->PySem.W.CodeHd base cx Tx->base.BuiltinsAt mg Tx->PySem.W.CodeHd base cy Ty->base.BuiltinsAt mg Ty->FnOk l.prog w K mg base CX0 17 fa fd ["_law_script"] (qTo K Tx Ty):=by
 have e:=hfa.symm.trans (PySem.W.mg_of X G a45);cases e;obtain⟨_,F1,k1,m1⟩:=qA2 X G h1;obtain⟨_,F2,k2,m2⟩:=qA2 X G h2;obtain⟨_,F3,k3,m3⟩:=qA2 X G h3;obtain⟨_,F4,k4,m4⟩:=qA2 X G h4;obtain⟨_,F5,k5,m5⟩:=qA2 X G h5;obtain⟨_,F6,k6,m6⟩:=qA2 X G h6;obtain⟨_,F7,k7,m7⟩:=qA2 X G h7;obtain⟨_,F8,k8,m8⟩:=qA2 X G h8;obtain⟨_,F9,k9,m9⟩:=qA2 X G h9;obtain⟨_,F10,k10,m10⟩:=qA2 X G h10;obtain⟨_,F11,k11,m11⟩:=qA2 X G h11;obtain⟨_,F12,k12,m12⟩:=qA2 X G h12;obtain⟨_,F13,k13,m13⟩:=qA2 X G h13;obtain⟨_,F14,k14,m14⟩:=qA2 X G h14;obtain⟨_,F15,k15,m15⟩:=qA2 X G h15;obtain⟨_,F16,k16,m16⟩:=qA2 X G h16;obtain⟨_,F17,k17,m17⟩:=qA2 X G h17;obtain⟨_,F18,k18,m18⟩:=qA2 X G h18;obtain⟨_,F19,k19,m19⟩:=qA2 X G h19;have F20:=qN1 (st:=qDc) l20 c20 k20;obtain⟨_,F21,k21,m21⟩:=qA2 X G h21;obtain⟨_,F22,k22,m22⟩:=qA2 X G h22;obtain⟨_,F23,k23,m23⟩:=qA2 X G h23;obtain⟨_,F24,k24,m24⟩:=qA2 X G h24;obtain⟨_,F25,k25,m25⟩:=qA2 X G h25;obtain⟨_,F26,k26,m26⟩:=qA2 X G h26;obtain⟨_,F27,k27,m27⟩:=qA2 X G h27;obtain⟨_,F28,k28,m28⟩:=qA2 X G h28;obtain⟨_,F29,k29,m29⟩:=qA2 X G h29;obtain⟨_,F30,k30,m30⟩:=qA2 X G h30;obtain⟨_,F31,k31,m31⟩:=qA2 X G h31;obtain⟨_,F32,k32,m32⟩:=qA2 X G h32;obtain⟨_,F33,k33,m33⟩:=qA2 X G h33;obtain⟨_,F34,k34,m34⟩:=qA2 X G h34;obtain⟨_,F35,k35,m35⟩:=qA2 X G h35;have F36:=qN1 (st:=qFu) l36 c36 k36;obtain⟨_,F37,k37,m37⟩:=qA2 X G h37;obtain⟨_,F38,k38,m38⟩:=qA2 X G h38;obtain⟨_,F39,k39,m39⟩:=qA2 X G h39;obtain⟨_,F40,k40,m40⟩:=qA2 X G h40;obtain⟨_,F41,k41,m41⟩:=qA2 X G h41;obtain⟨_,F42,k42,m42⟩:=qA2 X G h42;obtain⟨_,F43,k43,m43⟩:=qA2 X G h43;obtain⟨_,F44,k44,m44⟩:=qA2 X G h44;have F45:=qN1 (st:=qLb) l45 c45 k45;have b1:=F1.binds (ps:=["names","row"]) fun _ _ _ _ _ _ us hl=>by obtain⟨_,_,rfl⟩:=qFf hl;rfl
 have b2:=F2.binds (ps:=["names","mask"]) fun _ _ _ _ _ _ us hl=>by obtain⟨_,_,rfl⟩:=qFf hl;rfl
 have b3:=F3.binds (ps:=["mask","kept"]) fun _ _ _ _ _ _ us hl=>by obtain⟨_,_,rfl⟩:=qFf hl;rfl
 have b4:=F4.binds (ps:=["masks"]) fun _ _ _ _ _ _ us hl=>by obtain⟨_,rfl⟩:=qTe hl;rfl
 have b5:=F5.binds (ps:=["table"]) fun _ _ _ _ _ _ us hl=>by obtain⟨_,rfl⟩:=qTe hl;rfl
 have b6:=F6.binds (ps:=["mask"]) fun _ _ _ _ _ _ us hl=>by obtain⟨_,rfl⟩:=qTe hl;rfl
 have b7:=F7.binds (ps:=["steps","one","rest","met"]) fun _ _ _ _ _ _ us hl=>by obtain⟨_,_,_,_,rfl⟩:=zC8 hl;rfl
 have b8:=F8.binds (ps:=["steps","even","some"]) fun _ _ _ _ _ _ us hl=>by obtain⟨_,_,_,rfl⟩:=zA4 hl;rfl
 have b9:=F9.binds (ps:=["steps","even","group"]) fun _ _ _ _ _ _ us hl=>by obtain⟨_,_,_,rfl⟩:=zA4 hl;rfl
 have b10:=F10.binds (ps:=["steps","groups"]) fun _ _ _ _ _ _ us hl=>by obtain⟨_,_,rfl⟩:=qFf hl;rfl
 have b11:=F11.binds (ps:=["base","column"]) fun _ _ _ _ _ _ us hl=>by obtain⟨_,_,rfl⟩:=qFf hl;rfl
 have b12:=F12.binds (ps:=["steps","many"]) fun _ _ _ _ _ _ us hl=>by obtain⟨_,_,rfl⟩:=qFf hl;rfl
 have b13:=F13.binds (ps:=["steps","many"]) fun _ _ _ _ _ _ us hl=>by obtain⟨_,_,rfl⟩:=qFf hl;rfl
 have b14:=F14.binds (ps:=["steps","many"]) fun _ _ _ _ _ _ us hl=>by obtain⟨_,_,rfl⟩:=qFf hl;rfl
 have b15:=F15.binds (ps:=["steps","groups"]) fun _ _ _ _ _ _ us hl=>by obtain⟨_,_,rfl⟩:=qFf hl;rfl
 have b16:=F16.binds (ps:=["groups","others"]) fun _ _ _ _ _ _ us hl=>by obtain⟨_,_,rfl⟩:=qFf hl;rfl
 have b17:=F17.binds (ps:=["one","other","whole"]) fun _ _ _ _ _ _ us hl=>by obtain⟨_,_,_,rfl⟩:=zA4 hl;rfl
 have b18:=F18.binds (ps:=["one","other","whole"]) fun _ _ _ _ _ _ us hl=>by obtain⟨_,_,_,rfl⟩:=zA4 hl;rfl
 have b19:=F19.binds (ps:=["found","whole"]) fun _ _ _ _ _ _ us hl=>by obtain⟨_,_,rfl⟩:=qFf hl;rfl
 have b20:=F20.binds (ps:=["table"]) fun _ _ _ _ _ _ us hl=>by obtain⟨_,rfl⟩:=qTe hl;rfl
 have m20:=PySem.W.mg_of X G a20;have b21:=F21.binds (ps:=["_law_script","_law_k"]) fun _ _ _ _ _ _ us hl=>by obtain⟨_,_,rfl⟩:=qFf hl;rfl
 have b22:=F22.binds (ps:=["_law_script","_law_k"]) fun _ _ _ _ _ _ us hl=>by obtain⟨_,_,rfl⟩:=qFf hl;rfl
 have b23:=F23.binds (ps:=["_law_big_here","_law_many"]) fun _ _ _ _ _ _ us hl=>by obtain⟨_,_,rfl⟩:=qFf hl;rfl
 have b24:=F24.binds (ps:=["_law_big_here","_law_many","_law_spread"]) fun _ _ _ _ _ _ us hl=>by obtain⟨_,_,_,rfl⟩:=zA4 hl;rfl
 have b25:=F25.binds (ps:=["_law_script","_law_at"]) fun _ _ _ _ _ _ us hl=>by obtain⟨_,_,rfl⟩:=qFf hl;rfl
 have b26:=F26.binds (ps:=["_law_numbers"]) fun _ _ _ _ _ _ us hl=>by obtain⟨_,rfl⟩:=qTe hl;rfl
 have b27:=F27.binds (ps:=["_law_net_here"]) fun _ _ _ _ _ _ us hl=>by obtain⟨_,rfl⟩:=qTe hl;rfl
 have b28:=F28.binds (ps:=["_law_numbers","_law_many"]) fun _ _ _ _ _ _ us hl=>by obtain⟨_,_,rfl⟩:=qFf hl;rfl
 have b29:=F29.binds (ps:=["_law_kind"]) fun _ _ _ _ _ _ us hl=>by obtain⟨_,rfl⟩:=qTe hl;rfl
 have b30:=F30.binds (ps:=["_law_base","_law_many","_law_big_here","_law_most"]) fun _ _ _ _ _ _ us hl=>by obtain⟨_,_,_,_,rfl⟩:=zC8 hl;rfl
 have b31:=F31.binds (ps:=["_law_names_here","_law_number"]) fun _ _ _ _ _ _ us hl=>by obtain⟨_,_,rfl⟩:=qFf hl;rfl
 have b32:=F32.binds (ps:=["_law_names_here","_law_row_here"]) fun _ _ _ _ _ _ us hl=>by obtain⟨_,_,rfl⟩:=qFf hl;rfl
 have b33:=F33.binds (ps:=["_law_big_here","_law_many"]) fun _ _ _ _ _ _ us hl=>by obtain⟨_,_,rfl⟩:=qFf hl;rfl
 have b34:=F34.binds (ps:=["_law_script","_law_at"]) fun _ _ _ _ _ _ us hl=>by obtain⟨_,_,rfl⟩:=qFf hl;rfl
 have b35:=F35.binds (ps:=["_law_base"]) fun _ _ _ _ _ _ us hl=>by obtain⟨_,rfl⟩:=qTe hl;rfl
 have b36:=F36.binds (ps:=["_law_base","_law_many"]) fun _ _ _ _ _ _ us hl=>by obtain⟨_,_,rfl⟩:=qFf hl;rfl
 have m36:=PySem.W.mg_of X G a36;have b37:=F37.binds (ps:=["_law_base","_law_mask_here"]) fun _ _ _ _ _ _ us hl=>by obtain⟨_,_,rfl⟩:=qFf hl;rfl
 have b38:=F38.binds (ps:=["_law_script","_law_at"]) fun _ _ _ _ _ _ us hl=>by obtain⟨_,_,rfl⟩:=qFf hl;rfl
 have b39:=F39.binds (ps:=["_law_script","_law_at"]) fun _ _ _ _ _ _ us hl=>by obtain⟨_,_,rfl⟩:=qFf hl;rfl
 have b40:=F40.binds (ps:=["_law_script","_law_at"]) fun _ _ _ _ _ _ us hl=>by obtain⟨_,_,rfl⟩:=qFf hl;rfl
 have b41:=F41.binds (ps:=["_law_rows"]) fun _ _ _ _ _ _ us hl=>by obtain⟨_,rfl⟩:=qTe hl;rfl
 have b42:=F42.binds (ps:=["_law_found"]) fun _ _ _ _ _ _ us hl=>by obtain⟨_,rfl⟩:=qTe hl;rfl
 have b43:=F43.binds (ps:=["_law_base","_law_big_here"]) fun _ _ _ _ _ _ us hl=>by obtain⟨_,_,rfl⟩:=qFf hl;rfl
 have b44:=F44.binds (ps:=["_law_found","_law_by"]) fun _ _ _ _ _ _ us hl=>by obtain⟨_,_,rfl⟩:=qFf hl;rfl
 have n_abs:=hB7 X G z1;have n_all:=hB7 X G z2;have n_any:=hB7 X G z3;have n_dict:=hB7 X G z4;have n_enumerate:=hB7 X G z5;have n_isinstance:=hB7 X G z6;have n_len:=hB7 X G z7;have n_list:=hB7 X G z8;have n_max:=hB7 X G z9;have n_min:=hB7 X G z10;have n_range:=hB7 X G z11;have n_repr:=hB7 X G z12;have n_reversed:=hB7 X G z13;have n_set:=hB7 X G z14;have n_sorted:=hB7 X G z15;have n_str:=hB7 X G z16;have n_sum:=hB7 X G z17;have n_tuple:=hB7 X G z18;have n_zip:=hB7 X G z19;refine⟨PySem.W.fnOf "law" "law" (qCz qLb) (qB7 qLb) (qAe qLb) .none kVN dcN pmN anN cdN ctN,fun s v=>.of_eq rfl,fun base _ _ hC hB hC2 hB2=>?_⟩;have h1:=qUm (P:=l.prog) (w:=w) (mg:=mg) (base:=base) F1;have g1:=qYa (P:=l.prog) (w:=w) (mg:=mg) (base:=base) F1;have h2:=qX8 (P:=l.prog) (w:=w) (base:=base) F2 n_len n_enumerate;have g2:=qUi (P:=l.prog) (w:=w) (base:=base) F2  n_len n_enumerate;have g3:=qYo (P:=l.prog) (w:=w) (base:=base) F3  n_min;have g4:=qX9 (P:=l.prog) (w:=w) (base:=base) F4 ⟨g3,b3,k3,m3⟩ n_min n_sorted;have g5:=qUg (P:=l.prog) (w:=w) (base:=base) F5 ⟨g1,b1,k1,m1⟩ ⟨g4,b4,k4,m4⟩;have g6:=qRe (P:=l.prog) (w:=w) (mg:=mg) (base:=base) F6;have g7:=qRd (P:=l.prog) (w:=w) (base:=base) F7 ⟨g6,b6,k6,m6⟩ n_len;have g8:=qYl (P:=l.prog) (w:=w) (base:=base) F8 ⟨g3,b3,k3,m3⟩;have g9:=zAx (P:=l.prog) (w:=w) (base:=base) F9 ⟨g6,b6,k6,m6⟩ ⟨g8,b8,k8,m8⟩;have g10:=qUh (P:=l.prog) (w:=w) (base:=base) F10 ⟨g9,b9,k9,m9⟩ ⟨h1,b1,k1,m1⟩ ⟨g4,b4,k4,m4⟩;have g11:=qUq (P:=l.prog) (w:=w) (base:=base) F11 ⟨g3,b3,k3,m3⟩;have g12:=qRc (P:=l.prog) (w:=w) (base:=base) F12 ⟨g11,b11,k11,m11⟩ n_range n_sum n_enumerate n_len;have g13:=qUr (P:=l.prog) (w:=w) (base:=base) F13 ⟨g12,b12,k12,m12⟩ ⟨g7,b7,k7,m7⟩ n_range;have g14:=qYt (P:=l.prog) (w:=w) (base:=base) F14  n_len;have g16:=qRh (P:=l.prog) (w:=w) (base:=base) F16  n_sorted n_sum;have g15:=qJv (P:=l.prog) (w:=w) (base:=base) F15 ⟨g10,b10,k10,m10⟩ ⟨g13,b13,k13,m13⟩ ⟨g14,b14,k14,m14⟩ ⟨h2,b2,k2,m2⟩ ⟨g16,b16,k16,m16⟩ b15 k15 m15 n_len 10;have g17:=qUl (P:=l.prog) (w:=w) (base:=base) F17  n_any;have g18:=qRf (P:=l.prog) (w:=w) (base:=base) F18  n_sorted;have g19:=qRg (P:=l.prog) (w:=w) (base:=base) F19 ⟨g17,b17,k17,m17⟩ ⟨g18,b18,k18,m18⟩;have g20:=qUj (P:=l.prog) (w:=w) (base:=base) F20 (qSw F20 a20 ht) hC hB ⟨g19,b19,k19,m19⟩ ⟨g15,b15,k15,m15⟩ ⟨g5,b5,k5,m5⟩ ⟨g2,b2,k2,m2⟩ n_len n_range n_reversed n_sorted;have g21:=qYv (P:=l.prog) (w:=w) (base:=base) F21  n_len;have g22:=zAy (P:=l.prog) (w:=w) (base:=base) F22 ⟨g21,b21,k21,m21⟩ n_range n_abs;have g23:=qUk (P:=l.prog) (w:=w) (base:=base) F23  n_range n_len;have g24:=qYu (P:=l.prog) (w:=w) (base:=base) F24  n_range n_len n_list;have g25:=zAv (P:=l.prog) (w:=w) (base:=base) F25 ⟨g22,b22,k22,m22⟩ ⟨g24,b24,k24,m24⟩ ⟨g23,b23,k23,m23⟩ n_len n_zip n_tuple n_sorted;have g26:=qYg (P:=l.prog) (w:=w) (mg:=mg) (base:=base) F26;have g27:=qUp (P:=l.prog) (w:=w) (base:=base) F27  n_sorted n_set n_enumerate;have g28:=qYp (P:=l.prog) (w:=w) (base:=base) F28 ⟨g26,b26,k26,m26⟩ n_sum n_range;have g29:=qYd (P:=l.prog) (w:=w) (base:=base) F29 ⟨g28,b28,k28,m28⟩ ⟨g26,b26,k26,m26⟩ n_sum n_range n_enumerate n_len;have g30:=qYi (P:=l.prog) (w:=w) (base:=base) F30  n_len;have g31:=qYe (P:=l.prog) (w:=w) (base:=base) F31  n_enumerate;have g32:=qYj (P:=l.prog) (w:=w) (base:=base) F32  n_sum;have g33:=qYn (P:=l.prog) (w:=w) (base:=base) F33  n_range;have g34:=qYc (P:=l.prog) (w:=w) (base:=base) F34 ⟨g22,b22,k22,m22⟩ ⟨g25,b25,k25,m25⟩ ⟨g27,b27,k27,m27⟩ ⟨g33,b33,k33,m33⟩ ⟨g29,b29,k29,m29⟩ ⟨g30,b30,k30,m30⟩ ⟨g26,b26,k26,m26⟩ n_len n_min;have g35:=qYb (P:=l.prog) (w:=w) (mg:=mg) (base:=base) F35;have g36:=qYq (P:=l.prog) (w:=w) (base:=base) F36 (qSw F36 a36 ht2) hC2 hB2  n_range n_sum n_sorted;have g37:=qYk (P:=l.prog) (w:=w) (base:=base) F37 ⟨g26,b26,k26,m26⟩ ⟨g35,b35,k35,m35⟩;have g38:=qYr (P:=l.prog) (w:=w) (base:=base) F38 ⟨g34,b34,k34,m34⟩ ⟨g23,b23,k23,m23⟩ ⟨g22,b22,k22,m22⟩ ⟨g31,b31,k31,m31⟩ ⟨g36,b36,k36,m36⟩ ⟨g37,b37,k37,m37⟩ n_len n_sorted n_max;have g39:=qYm (P:=l.prog) (w:=w) (base:=base) F39 ⟨g22,b22,k22,m22⟩ ⟨g23,b23,k23,m23⟩ n_len n_range n_sorted n_min n_list n_tuple n_str;have g40:=qUn (P:=l.prog) (w:=w) (base:=base) F40 ⟨g22,b22,k22,m22⟩ ⟨g39,b39,k39,m39⟩ ⟨g36,b36,k36,m36⟩ ⟨g26,b26,k26,m26⟩ ⟨g27,b27,k27,m27⟩ ⟨g38,b38,k38,m38⟩ ⟨g32,b32,k32,m32⟩ n_len;have g41:=qUo (P:=l.prog) (w:=w) (mg:=mg) (base:=base) F41;have g42:=qYs (P:=l.prog) (w:=w) (base:=base) F42 ⟨g41,b41,k41,m41⟩ n_isinstance n_all n_list n_tuple n_str n_len;have g43:=qYh (P:=l.prog) (w:=w) (base:=base) F43  n_range n_list n_len n_enumerate;have g44:=qYf (P:=l.prog) (w:=w) (mg:=mg) (base:=base) F44;exact zAw F45 ⟨g40,b40,k40,m40⟩ ⟨g20,b20,k20,m20⟩ ⟨g31,b31,k31,m31⟩ ⟨g42,b42,k42,m42⟩ ⟨g41,b41,k41,m41⟩ ⟨g43,b43,k43,m43⟩ ⟨g22,b22,k22,m22⟩ ⟨g23,b23,k23,m23⟩ ⟨g44,b44,k44,m44⟩ n_len n_list n_range n_sorted n_zip n_dict n_repr n_all
theorem walk{l:PySem.W.OpenLaw}{q:Program}{loose:List Str}{XP:(Str->Option Value)->Heap->Prop}{YP:World->Heap->Prop}{d dr dr2:DefRec}{K:Params->PySem.W.Frag}(hn:l.most=some 63)(hdf:d.params.defaults=[])
  (hY:∀(w:World) (h:Heap),YP w h->(K w.params).In h) (hrec:(PyProof.Rows.recsOf q).find? (fun e=>e.name == ("parts" : Str))=some dr) (hrec2:(PyProof.Rows.recsOf q).find? (fun e=>e.name == ("_law_blocks" : Str))=some dr2)
  (hK:∀w:World,∃c T c2 T2,PySem.W.tabIn (K w.params) "parts" = some (c,T)/\PySem.W.tabIn (K w.params) "_law_blocks" = some (c2,T2)/\T≠T2/\PySem.W.noTabs (K w.params)=true)
  (F:∀(w:World) (mg:Str->Option Value) (fa:Addr) (h:Heap) (c T c2 T2:Addr),(K w.params).In h->h.Ns mainGlobals mg->mg d.name=some (.ref fa)->PySem.W.tabIn (K w.params) "parts" = some (c,T)->PySem.W.tabIn (K w.params) "_law_blocks" = some (c2,T2) ->
   ∃fd:FuncData,(∀(s:Shared) (u:Value),BindsTo s fd ⟨[u],[]⟩ [("_law_script",u)])/\∀base:Heap,(K w.params).In base->base.Ns mainGlobals mg->PySem.W.CodeHd base c T->base.BuiltinsAt mg T->PySem.W.CodeHd base c2 T2->base.BuiltinsAt mg T2->FnOk l.prog w (K w.params) mg base CX0 17 fa fd ["_law_script"] (qTo (K w.params) T T2)) :
  PySem.W.WalkO q loose XP YP l.row.toRowW d [] (fun f vs=>PySem.call f vs) :=
 L2.walk_ofT2 (n:=63) (k:=17) (x:="_law_script") (CX:=fun _=>CX0) (sp:=fun w T T2=>qTo (K w.params) T T2) hn (by decide) hdf ⟨rfl,by decide,by decide,rfl⟩ hY hrec hrec2 hK F (fun _ _ _ _ a ns hl ne hT hT2 hS=>⟨a,ns,rfl,hS,hl,hT,hT2,ne,fun _=>rfl⟩) fun _ _ _ _ _ z=>z
theorem tab_mk{K:PySem.W.Frag}{x:Str}{f c T:Addr}{ob ob2:Obj}{fd:FuncData}{vs:Array Value}(a:PySem.W.nsIn K mainGlobals x=some (some (.ref f)))(l:K.lookup f=some ob)(e1:ob.data = .func fd)(e2:fd.code = .ref c)(l2:K.lookup c=some ob2)(e3:ob2.data = .fields vs)(e4:(vs[11]?:Option Value)=some (.ref T)):PySem.W.tabIn K x=some (c,T):=by
 obtain⟨o1,o2,o3,o4⟩:=ob;obtain⟨p1,p2,p3,p4⟩:=ob2;cases e1;cases e3;unfold PySem.W.tabIn;rw[a];dsimp only;rw[l];dsimp only;rw[e2];dsimp only;rw[l2];dsimp only;rw[e4]
end My
namespace PySem.W.Fast
def tw10009194680491439365 := 0
def tw1009609199364432023 := 0
def tw10108914772318662023 := 0
def tw10114760550439997388 := 0
def tw10226552869746313458 := 0
def tw10283946723331268121 := 0
def tw1033527507338182045 := 0
def tw10346644108009539915 := 0
def tw10369825748994368879 := 0
def tw10444785726472408032 := 0
def tw10446285199587674421 := 0
def tw10482164913339118469 := 0
def tw10499366117638549329 := 0
def tw10518849843277266625 := 0
def tw10582673560352996913 := 0
def tw10595716794627634353 := 0
def tw1059866631298019080 := 0
def tw1071077133637804754 := 0
def tw10744869770424620330 := 0
def tw10867946182308495265 := 0
def tw10876571641880932548 := 0
def tw10915658932891437893 := 0
def tw10957608581591027833 := 0
def tw1104723392237718766 := 0
def tw11054718637322164011 := 0
def tw11083574598937506032 := 0
def tw1110671241980689868 := 0
def tw11229643656650924607 := 0
def tw11239929691444349646 := 0
def tw11246267604085167397 := 0
def tw11297098824997480717 := 0
def tw11344170919681526593 := 0
def tw11362886766731625695 := 0
def tw11373036168810127138 := 0
def tw11401104526324750186 := 0
def tw11437633585761448286 := 0
def tw11540696931324779443 := 0
def tw11572565063031942491 := 0
def tw11631469243315252255 := 0
def tw11652154563823225687 := 0
def tw11866788089227296630 := 0
def tw1188535086124837918 := 0
def tw11920511713056210962 := 0
def tw11965813640504265779 := 0
def tw1205270051917292819 := 0
def tw12359262404310373037 := 0
def tw1241017380829077274 := 0
def tw12530592237986265921 := 0
def tw12532170786876019680 := 0
def tw12648158645877276550 := 0
def tw12648676899232716171 := 0
def tw12666141448727425771 := 0
def tw12860955199206729960 := 0
def tw12891045172586955332 := 0
def tw1292773832730250491 := 0
def tw12930853917949083027 := 0
def tw130603937841630253 := 0
def tw13191660827327622452 := 0
def tw13232417508799917851 := 0
def tw13257312782242225756 := 0
def tw13262498209339137364 := 0
def tw13270099957049018478 := 0
def tw13280861244989014835 := 0
def tw13353101356549186226 := 0
def tw13464411870802727824 := 0
def tw13468392498286569126 := 0
def tw1358823804310683280 := 0
def tw13624091451277527604 := 0
def tw13648533967734778858 := 0
def tw13869225124756809224 := 0
def tw138779797161516847 := 0
def tw139025874165445832 := 0
def tw13946508978725041894 := 0
def tw14103921301042680062 := 0
def tw14145257769143398558 := 0
def tw14520200546382594764 := 0
def tw14527816135528668348 := 0
def tw14537710309657054066 := 0
def tw14562936930697632450 := 0
def tw14580148622999878627 := 0
def tw14590690105155450118 := 0
def tw14609157162225632979 := 0
def tw1471325455781052622 := 0
def tw14713853839400921420 := 0
def tw14757549821677116819 := 0
def tw14809277037919490613 := 0
def tw149158924440364212 := 0
def tw15016446142686392526 := 0
def tw15036278890462847875 := 0
def tw15090835102512547704 := 0
def tw1520967050268189352 := 0
def tw15269171753833962570 := 0
def tw15279383731251536542 := 0
def tw15368126083216640945 := 0
def tw15430548900800071301 := 0
def tw15523034804493239502 := 0
def tw1552805537553677535 := 0
def tw15533507657433078067 := 0
def tw15599173515178302370 := 0
def tw15669223652717963744 := 0
def tw15747547209850539979 := 0
def tw15753491884827373846 := 0
def tw15757744483810902306 := 0
def tw1579716932923901743 := 0
def tw15878427773166294610 := 0
def tw15967777828144156838 := 0
def tw16015114222783815046 := 0
def tw16069892221164920133 := 0
def tw16078709933351736831 := 0
def tw16115972872761026007 := 0
def tw16138055699237827098 := 0
def tw16271330987696884909 := 0
def tw16282853952102199189 := 0
def tw16289730563757941038 := 0
def tw16346061403035787611 := 0
def tw16364879566755226754 := 0
def tw16520832500237971378 := 0
def tw16523191514473270076 := 0
def tw16574079710702991867 := 0
def tw16758543854825203808 := 0
def tw16768201348306819664 := 0
def tw16899442519827842293 := 0
def tw16917275568139787442 := 0
def tw16939532743858059428 := 0
def tw16947954241820182683 := 0
def tw1698401571127065378 := 0
def tw1704068228329121862 := 0
def tw17068848508404717625 := 0
def tw17169658149830966297 := 0
def tw1719945426385621881 := 0
def tw17209445547608617838 := 0
def tw17271485839068855133 := 0
def tw17502480210194942283 := 0
def tw17528768333387964190 := 0
def tw17584362668007264180 := 0
def tw17638979248346258465 := 0
def tw1782860330987800576 := 0
def tw1784957703349754322 := 0
def tw17929805545666231359 := 0
def tw18147747733327698477 := 0
def tw18166769270703089084 := 0
def tw18241244591911455887 := 0
def tw18319073166380392128 := 0
def tw18356521958808467473 := 0
def tw18384098413644561571 := 0
def tw18399187543029852695 := 0
def tw1846102889882984479 := 0
def tw1848499611372988992 := 0
def tw1860669624481523967 := 0
def tw1922769720986735379 := 0
def tw1967569060452320140 := 0
def tw19685897481229832 := 0
def tw1985489752720165338 := 0
def tw1987954452752420257 := 0
def tw2028471273819886533 := 0
def tw2092846650728590465 := 0
def tw2094395693773144749 := 0
def tw2099506126733867077 := 0
def tw2144478001398854309 := 0
def tw2222881535576245438 := 0
def tw2331464182794440537 := 0
def tw2352414306443975054 := 0
def tw2388300408789400349 := 0
def tw2400468786463874132 := 0
def tw2411253005317990072 := 0
def tw262381976052287411 := 0
def tw2796367788061888455 := 0
def tw2951639212500864768 := 0
def tw3207022223249855395 := 0
def tw3311646207083400217 := 0
def tw3312351216862569906 := 0
def tw3328515004368141182 := 0
def tw3361984060731857608 := 0
def tw3397944180550044652 := 0
def tw346802303012057581 := 0
def tw3479439504663934367 := 0
def tw3497471813047090528 := 0
def tw3735787600660200333 := 0
def tw376540828675448938 := 0
def tw378835899840642608 := 0
def tw3873636711272225980 := 0
def tw3993419337602394629 := 0
def tw4052867357628554287 := 0
def tw405340556923572265 := 0
def tw4140650554993646614 := 0
def tw4176464636017973378 := 0
def tw4202816299784179428 := 0
def tw4305201628302806602 := 0
def tw4312154161271847593 := 0
def tw4456144338918600310 := 0
def tw4467697676282624290 := 0
def tw4525708468288942842 := 0
def tw4623347267080096619 := 0
def tw4971001605868163093 := 0
def tw5004833402905125982 := 0
def tw5014592624886601064 := 0
def tw5108923272971378450 := 0
def tw5206464401109005835 := 0
def tw5225415072327284177 := 0
def tw5303448011742360613 := 0
def tw5431420416588344363 := 0
def tw5448495653194280332 := 0
def tw5459981795624797732 := 0
def tw5491672725642946608 := 0
def tw55047295810681651 := 0
def tw5613779430024269104 := 0
def tw5719151961935704230 := 0
def tw5815345863738719885 := 0
def tw5829010494388495876 := 0
def tw5841139449889778780 := 0
def tw586374233220959258 := 0
def tw5900674974650497880 := 0
def tw5928109503245957407 := 0
def tw6031758581562331820 := 0
def tw6092936707385543438 := 0
def tw6143290948918568514 := 0
def tw6209801944815890518 := 0
def tw6235020180932049088 := 0
def tw6306736724962735818 := 0
def tw6329811000813687303 := 0
def tw6341692996810869761 := 0
def tw6465752209389452530 := 0
def tw6537796009062769992 := 0
def tw6580036734345218307 := 0
def tw658270963654202994 := 0
def tw6591008161312604768 := 0
def tw6619074814353795882 := 0
def tw6628844232281078176 := 0
def tw6714746817972366619 := 0
def tw6781083198375346301 := 0
def tw7004148541658115833 := 0
def tw7006062812321135694 := 0
def tw70370199489104268 := 0
def tw7056100579796184745 := 0
def tw7185832569836157079 := 0
def tw7208192194035694227 := 0
def tw7236238927552640778 := 0
def tw7357078873090490121 := 0
def tw7432439269708213217 := 0
def tw7589552259204225179 := 0
def tw7619531586780684290 := 0
def tw775154442977326459 := 0
def tw7798911821081202965 := 0
def tw7867445223506583123 := 0
def tw7945372587932570912 := 0
def tw8045808330993343610 := 0
def tw8070480773645655197 := 0
def tw837746681941574867 := 0
def tw8392282728697056958 := 0
def tw8412074469374563237 := 0
def tw8432318638665160543 := 0
def tw8442744636419500932 := 0
def tw8453787907433865187 := 0
def tw8459306326249114951 := 0
def tw8507994845328018369 := 0
def tw8517349110358163909 := 0
def tw8613779001202286291 := 0
def tw8664383442712065622 := 0
def tw897077099503356297 := 0
def tw9080499823809215210 := 0
def tw9096859647861870547 := 0
def tw912382338397150361 := 0
def tw9129678847086181768 := 0
def tw9136389427611528533 := 0
def tw9136956440010076129 := 0
def tw9181729738506675515 := 0
def tw921662373262117631 := 0
def tw9232093496937179473 := 0
def tw9382287094615938325 := 0
def tw943750768323603029 := 0
def tw9550248489702889523 := 0
def tw9573880892309198104 := 0
def tw9599890541023730291 := 0
def tw9885590455129245668 := 0
def tw9969372357131010558 := 0
def tw9970435352053504550 := 0
end PySem.W.Fast
open PySem PySem.W PyProof.Rows
set_option maxRecDepth 100000 in
set_option maxHeartbeats 0 in
theorem PySem.Challenge.cw_roundsalone_k34_parts_hang_on_the_span_holds : PySem.Challenge.rw_roundsalone_k34_parts_hang_on_the_span.Holds := by
 w_on;o_law;k_head;(case hw=>w_witness2)
 k_fill
 refine' My.walk (l:=PySem.Challenge.rw_roundsalone_k34_parts_hang_on_the_span) rfl rfl (fun w h Y=>PySem.W.km_in_of Y) ?hr ?hr2 ?Kt ?F
 case hr=>rfl
 case hr2=>rfl
 case Kt =>
  intro w
  refine'⟨_,_,_,_,My.tab_mk ?a ?l ?e1 ?e2 ?l2 ?e3 ?e4,My.tab_mk ?ab ?lb ?e1b ?e2b ?l2b ?e3b ?e4b,?ne,?n⟩
  (case a=>k_is)
  (case l=>k_is)
  (case e1=>rfl)
  (case e2=>rfl)
  (case l2=>k_is)
  (case e3=>rfl)
  (case e4=>rfl)
  (case ab=>k_is)
  (case lb=>k_is)
  (case e1b=>rfl)
  (case e2b=>rfl)
  (case l2b=>k_is)
  (case e3b=>rfl)
  (case e4b=>rfl)
  (case ne=>decide)
  (case n=>kernel_rfl)
 case F =>
  intro w mg fa h c T c2 T2 KX G hmg ht ht2
  refine' My.all_mk KX G hmg ht ht2 ?h1 ?h2 ?h3 ?h4 ?h5 ?h6 ?h7 ?h8 ?h9 ?h10 ?h11 ?h12 ?h13 ?h14 ?h15 ?h16 ?h17 ?h18 ?h19 ?a20 ?l20 ?c20 ?k20 ?h21 ?h22 ?h23 ?h24 ?h25 ?h26 ?h27 ?h28 ?h29 ?h30 ?h31 ?h32 ?h33 ?h34 ?h35 ?a36 ?l36 ?c36 ?k36 ?h37 ?h38 ?h39 ?h40 ?h41 ?h42 ?h43 ?h44 ?a45 ?l45 ?c45 ?k45 ?z1 ?z2 ?z3 ?z4 ?z5 ?z6 ?z7 ?z8 ?z9 ?z10 ?z11 ?z12 ?z13 ?z14 ?z15 ?z16 ?z17 ?z18 ?z19
  all_goals (try (refine' My.hs_mk ?a ?l ?c ?k;(case a=>k_is);(case l=>k_is);(case c=>k_is);(case k=>k_is)))
  (case a20=>k_is)
  (case l20=>k_is)
  (case c20=>k_is)
  (case k20=>k_is)
  (case a36=>k_is)
  (case l36=>k_is)
  (case c36=>k_is)
  (case k36=>k_is)
  (case a45=>k_is)
  (case l45=>k_is)
  (case c45=>k_is)
  (case k45=>k_is)
  (case z1=>k_is)
  (case z2=>k_is)
  (case z3=>k_is)
  (case z4=>k_is)
  (case z5=>k_is)
  (case z6=>k_is)
  (case z7=>k_is)
  (case z8=>k_is)
  (case z9=>k_is)
  (case z10=>k_is)
  (case z11=>k_is)
  (case z12=>k_is)
  (case z13=>k_is)
  (case z14=>k_is)
  (case z15=>k_is)
  (case z16=>k_is)
  (case z17=>k_is)
  (case z18=>k_is)
  (case z19=>k_is)
#print axioms PySem.Challenge.cw_roundsalone_k34_parts_hang_on_the_span_holds
