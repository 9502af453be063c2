import PyProof.Rows.All
import Wide.All
import OpenK.AllK
import Wide.FinOn
import Lean
import PyProof.EqAt
import PyProof.EqKinds
import PyProof.TupleCall
import KE.KSortKey
import KE.KLam
import KE.KRevIter
import PyProof.FactsAll.range_2
import KE.KSortTup
import PyProof.Rows.MinMaxN
import PySem.Challenge.RW_roundsalone_k50_whole_stars_are_quiet
noncomputable section
set_option Elab.async false
set_option linter.all false
set_option maxHeartbeats 16000000
set_option maxRecDepth 100000
abbrev hA1:=@List.length_map
abbrev hA2:=@List.getElem?_eq_getElem
abbrev hA3:=@List.mem_map
abbrev hA4:=@List.map_append
abbrev hA5:=@List.mem_singleton
abbrev hA6:=@Nat.le_refl
abbrev hA7:=@List.take_of_length_le
abbrev hA8:=@List.mem_cons_of_mem
abbrev hA9:=@List.mem_cons_self
abbrev hAa:=@List.mem_append_right
abbrev hAb:=@List.mem_filter
abbrev hAc:=@List.mem_of_getElem?
abbrev hAd:=@List.size_toArray
abbrev hAe:=@List.getD_eq_getElem?_getD
abbrev hAf:=@List.mem_range
abbrev hAg:=@List.mem_cons
abbrev hAh:=@List.mem_append
abbrev hAi:=@List.mem_append_left
abbrev hAj:=@List.length_append
abbrev hAk:=@List.getElem?_map
abbrev hAl:=@List.length_take
abbrev hAm:=@Nat.lt_of_lt_of_le
abbrev hAn:=@Nat.ne_of_lt
abbrev hAo:=@Nat.eq_of_testBit_eq
abbrev hAp:=@List.length_range
abbrev hAq:=@List.getElem?_eq_some_iff
abbrev hAr:=@List.map_map
abbrev hAs:=@Nat.zero_le
abbrev hAt:=@Option.some.inj
abbrev hAu:=@Nat.testBit_xor
abbrev hAv:=@List.pairwise_map
abbrev hAw:=@Nat.testBit_zero
abbrev hAx:=@Bool.false_ne_true
abbrev hAy:=@Array.getElem?_toList
abbrev hAz:=@List.pairwise_append
abbrev hB0:=@Nat.testBit_two_pow
abbrev hB1:=@Int.toNat_natCast
abbrev hB2:=@Nat.le_trans
abbrev hB3:=@Array.length_toList
abbrev hB4:=@Bool.and_eq_true
abbrev hB5:=@List.length_filter_le
abbrev hB6:=@Nat.zero_testBit
abbrev hB7:=@Nat.le_succ
abbrev hB8:=@List.map_cons
abbrev hB9:=@List.filter_sublist
abbrev hBa:=@Nat.testBit_and
abbrev hBb:=@PySem.F.plainAttrs_list
abbrev hBc:=@List.length_cons
abbrev hBd:=@List.append_nil
abbrev hBe:=@List.length_eq_zero_iff
abbrev hBf:=@PySem.boot_len
abbrev hBg:=@Bool.true_and
abbrev hBh:=@Nat.lt_pow_two_of_testBit
abbrev hBi:=@Nat.le_of_lt
abbrev hBj:=@List.append_assoc
abbrev hBk:=@Nat.lt_succ_of_lt
abbrev hBl:=@List.pairwise_cons
abbrev hBm:=@List.filter_append
abbrev hBn:=@List.getElem_mem
abbrev hBo:=@PySem.W.mg_none_of
abbrev hBp:=@List.nodup_cons
abbrev hBq:=@List.map_congr_left
abbrev hBr:=@PySem.F.slot_list_append
abbrev hBs:=@PySem.F.type_list_append
abbrev hBt:=@Nat.pow_le_pow_right
abbrev hBu:=@Nat.mod_two_eq_zero_or_one
abbrev hBv:=@Nat.lt_succ_self
abbrev hBw:=@List.getElem?_eq_none
abbrev hBx:=@Array.toList_append
abbrev hBy:=@List.getElem_of_mem
abbrev hBz:=@List.Pairwise.imp_of_mem
abbrev hC0:=@List.eraseIdx_eq_take_drop_succ
abbrev hC1:=@Bool.false_eq_true
abbrev hC2:=@Array.perm_iff_toList_perm
abbrev hC3:=@PySem.mem_of_lookup
abbrev hC4:=@List.pairwise_singleton
abbrev hC5:=@List.nodup_range
abbrev hC6:=@Array.toList_push
abbrev hC7:=@List.foldl_append
abbrev hC8:=@Nat.lt_of_le_of_lt
abbrev hC9:=@Nat.xor_lt_two_pow
abbrev hCa:=@Array.getD_eq_getD_getElem?
abbrev hCb:=@List.cons_lt_cons_iff
abbrev hCc:=@List.range_succ
abbrev hCd:=@List.Perm.refl
abbrev hCe:=@Int.eq_ofNat_of_zero_le
abbrev hCf:=@List.getElem?_append_right
abbrev hCg:=@List.mem_of_mem_take
abbrev hCh:=@PySem.W.kia_one
abbrev hCi:=@Classical.byContradiction
abbrev hCj:=@List.length_drop
abbrev hCk:=@Nat.testBit_log2
abbrev hCl:=@Nat.testBit_succ
abbrev hCm:=@PySem.F.called_set
abbrev hCn:=@Nat.xor_assoc
abbrev hCo:=@Nat.ne_of_gt
abbrev hCp:=@List.perm_ext_iff_of_nodup
abbrev hCq:=@List.filterMap_cons
abbrev hCr:=@List.mem_map_of_mem
abbrev hCs:=@List.getElem?_range
abbrev hCt:=@Array.getElem?_eq_getElem
abbrev hCu:=@Bool.eq_iff_iff
abbrev hCv:=@List.length_replicate
abbrev hCw:=@List.Perm.append_left
abbrev hCx:=@Nat.not_lt_zero
abbrev hCy:=@List.Nodup.length_le_of_subset
abbrev hCz:=@List.lookup_cons
abbrev hD0:=@List.all_eq_true
abbrev hD1:=@List.mem_of_mem_drop
abbrev hD4:=@Nat.lt_irrefl
abbrev hD5:=@List.filter_cons_of_neg
abbrev hD6:=@List.filter_cons_of_pos
abbrev hD7:=@Nat.testBit_or
abbrev hD8:=@List.ext_getElem?
abbrev hD9:=@PyProof.Rows.callWith_type1
abbrev hDa:=@Option.map_some
abbrev hDb:=@List.map_snd_zip
abbrev hDc:=@List.mem_reverse
abbrev hDd:=@List.mem_filterMap
abbrev hDe:=@List.any_cons
abbrev hDf:=@List.getElem?_append_left
abbrev hDg:=@List.drop_eq_getElem_cons
abbrev hDh:=@List.pairwise_iff_getElem
abbrev hDi:=@Nat.shiftRight_eq_div_pow
abbrev hDj:=@Nat.pow_pos
abbrev hDk:=@Int.le_refl
abbrev hDl:=@Bool.or_eq_true
abbrev hDm:=@Int.natCast_add
abbrev hDn:=@List.take_left'
abbrev hDo:=@List.drop_left'
abbrev hDp:=@List.map_id
abbrev hDq:=@List.getElem_inj
abbrev hDr:=@List.not_mem_nil
abbrev hDs:=@Array.toList_inj
abbrev hDt:=@Array.toList_map
abbrev hDu:=@PySem.W.cellsFrom_some
abbrev hDv:=@List.of_mem_zip
abbrev hDw:=@List.find?_cons
abbrev hDx:=@Nat.lt_or_ge
abbrev hDy:=@Nat.zero_xor
abbrev hDz:=@PyProof.Rows.kws_cons
abbrev hE0:=@Int.le_of_lt
abbrev hE1:=@List.nodup_append
abbrev hE2:=@Nat.lt_trichotomy
abbrev hE3:=@List.map_take
abbrev hE4:=@List.getElem_take
abbrev hE5:=@PyProof.Rows.kws_nil
abbrev hE6:=@Nat.pow_lt_pow_right
abbrev hE7:=@List.nodup_nil
abbrev hE8:=@Array.toList_zip
abbrev hE9:=@Nat.lt_log2_self
abbrev hEa:=@List.replicate_succ
abbrev hEb:=@Nat.xor_self
namespace L2
open PySem PySem.Spec PyProof.Rows
abbrev Key:=Sum Int Str
noncomputable def keyIs:Key->Value->Bool
 |.inl k,v=>Value.isInt k v
 |.inr x,v=>Value.isStrOf x v
noncomputable def zDi(w:World):Key->Int
 |.inl k=>hashInt k
 |.inr x=>hashStr w x
theorem keyIs_shape:∀ {k:Key} {v:Value},keyIs k v=true->(∃i t,k=Sum.inl i/\v=Value.int i t)\/(∃x t,k=Sum.inr x/\v=Value.str x t)
 |.inl i,v,h=>by
  obtain⟨t,e⟩:=Value.isInt_shape (k:=i) (v:=v) h;exact .inl ⟨i,t,rfl,e⟩
 |.inr x,v,h=>by
  obtain⟨t,e⟩:=Value.isStrOf_shape (x:=x) (v:=v) h;exact .inr ⟨x,t,rfl,e⟩
theorem qQx(i:Int)(t:Tok):keyIs (.inl i) (.int i t)=true:=by simp[keyIs,Value.isInt]
theorem qQw(x:Str)(t:Tok):keyIs (.inr x) (.str x t)=true:=by simp[keyIs,Value.isStrOf]
theorem qZ9(a b:Int):decide ((Sum.inl a:Key)=Sum.inl b)=(a == b):=by
 by_cases e:a=b
 ·subst e;simp
 ·have h:¬(Sum.inl a:Key)=Sum.inl b:=fun q=>e (Sum.inl.inj q)
  rw[decide_eq_false h];exact(beq_eq_false_iff_ne.mpr e).symm
theorem qZ6(a b:Str):decide ((Sum.inr a:Key)=Sum.inr b)=decide (a=b):=by
 by_cases e:a=b
 ·subst e;simp
 ·have h:¬(Sum.inr a:Key)=Sum.inr b:=fun q=>e (Sum.inr.inj q)
  rw[decide_eq_false h,decide_eq_false e]
theorem qZ8(a:Int)(b:Str):decide ((Sum.inl a:Key)=Sum.inr b)=false:=decide_eq_false (fun q=>nomatch q)
theorem qZ7(a:Str)(b:Int):decide ((Sum.inr a:Key)=Sum.inl b)=false:=decide_eq_false (fun q=>nomatch q)
noncomputable def qA9(prog:Program)(w:World):PySem.KeyKind prog w Key where
 is:=keyIs
 hash:=zDi w
 inj:=fun v a b ha hb=>by
  rcases keyIs_shape ha with ⟨i,t,rfl,rfl⟩|⟨x,t,rfl,rfl⟩
  ·rcases keyIs_shape hb with ⟨j,u,rfl,e⟩|⟨y,u,rfl,e⟩
   ·injection e with e1 _;rw[e1]
   ·exact nomatch e
  ·rcases keyIs_shape hb with ⟨j,u,rfl,e⟩|⟨y,u,rfl,e⟩
   ·exact nomatch e
   ·injection e with e1 _;rw[e1]
 byValue:=fun k v h=>by
  rcases keyIs_shape h with ⟨i,t,rfl,rfl⟩|⟨x,t,rfl,rfl⟩ <;> rfl
 pyHash:=fun hv h=>by
  rcases keyIs_shape hv with ⟨i,t,rfl,rfl⟩|⟨x,t,rfl,rfl⟩
  ·exact wpAny_pyHash_int h
  ·exact wpAny_pyHash_str h
 eqBool:=fun hu hv h=>by
  rcases keyIs_shape hu with ⟨i,t,rfl,rfl⟩|⟨x,t,rfl,rfl⟩
  ·rcases keyIs_shape hv with ⟨j,u,rfl,rfl⟩|⟨y,u,rfl,rfl⟩
   ·rw[qZ9]at h;exact wpAny_eqBool_int h
   ·rw[qZ8]at h;exact SeqAt.EqAt.int_str i t y u _ _ _ _ h
  ·rcases keyIs_shape hv with ⟨j,u,rfl,rfl⟩|⟨y,u,rfl,rfl⟩
   ·rw[qZ7]at h;exact SeqAt.EqAt.str_int x t j u _ _ _ _ h
   ·rw[qZ6]at h;exact wpAny_eqBool_str h
 «strs»:=fun k x t v h=>by
  rcases keyIs_shape h with ⟨i,u,rfl,e⟩|⟨y,u,rfl,e⟩
  ·exact nomatch e
  ·injection e with e1 _
   subst e1;cases v <;> rfl
theorem qK5(prog:Program)(w:World)(i:Int)(t:Tok):(qA9 prog w).is (.inl i) (.int i t)=true:=qQx i t
theorem qK4(prog:Program)(w:World)(x:Str)(t:Tok):(qA9 prog w).is (.inr x) (.str x t)=true:=qQw x t
inductive V where
 |non|bl (b:Bool)|int (i:Int)|str (x:Str)|byt (b:Array UInt8)|flt (b:UInt64)|ref (a:Addr)|ty (n:String)
 deriving DecidableEq
def qBq:V->Value->Prop
 |.non,u=>u=Value.none
 |.bl b,u=>u=Value.bool b
 |.int i,u=>∃t,u=Value.int i t
 |.str x,u=>∃t,u=Value.str x t
 |.byt b,u=>∃t,u=Value.bytes b t
 |.flt b,u=>∃t,u=Value.float b t
 |.ref a,u=>u=Value.ref a
 |.ty n,u=>u=Value.type n
abbrev qA7:List V->List Value->Prop:=Paired qBq
theorem qA7.length(r:qA7 xs us):xs.length=us.length:=Paired.length r
theorem qA7.get:∀ {xs:List V} {us:List Value} {i:Nat} {x:V},qA7 xs us->xs[i]?=some x->∃u,us[i]?=some u/\qBq x u
 |_,_,_,_,.nil,e=>by simp at e
 |_,_,0,_,.cons r _,e=>by simp at e;subst e;exact⟨_,rfl,r⟩
 |_,_,i+1,x,.cons _ t,e=>by
  obtain⟨u,h1,h2⟩:=qA7.get (i:=i) (x:=x) t (by simpa using e);exact⟨u,by simpa using h1,h2⟩
theorem qA7.set(r:qBq x u):∀ {xs:List V} {us:List Value} (i:Nat),qA7 xs us->qA7 (xs.set i x) (us.set i u)
 |_,_,_,.nil=>.nil
 |_,_,0,.cons _ t=>.cons r t
 |_,_,i+1,.cons q t=>.cons q (qA7.set r i t)
theorem qA7.append:∀ {xs ys:List V} {us ws:List Value},qA7 xs us->qA7 ys ws->qA7 (xs++ys) (us++ws)
 |_,_,_,_,.nil,s=>s
 |_,_,_,_,.cons r t,s=>.cons r (qA7.append t s)
theorem qA7.take:∀ {xs:List V} {us:List Value} (n:Nat),qA7 xs us->qA7 (xs.take n) (us.take n)
 |_,_,0,_=>.nil
 |_,_,_+1,.nil=>.nil
 |_,_,n+1,.cons r t=>.cons r (qA7.take n t)
theorem qA7.drop:∀ {xs:List V} {us:List Value} (n:Nat),qA7 xs us->qA7 (xs.drop n) (us.drop n)
 |_,_,0,r=>r
 |_,_,_+1,.nil=>.nil
 |_,_,n+1,.cons _ t=>qA7.drop n t
def qOa:Option V->Option Value->Prop
 |some v,some u=>qBq v u
 |none,none=>True
 |_,_=>False
def KV{κ:Type}:List (κ×V)->List (κ×Value)->Prop:=Paired fun (p:κ×V) (q:κ×Value)=>p.1=q.1/\qBq p.2 q.2
noncomputable def kV:Key->V
 |.inl i=>.int i
 |.inr x=>.str x
inductive HO where
  |lst (xs:List V)
  |tup (xs:List V)
  |dK (kvs:List (Key×V))|dT (kvs:List (List Key×V))
  |set (S:Int->Bool) (n:Nat)
  |ins (C dx:Addr) (fs:List (Str×V))
  |own (x:Addr)
  |xd (fs:List (Str×V))
  |met (f x:Addr)
  |rng (lo hi:Int)
  |frz (o:Obj) (u:HO)
  |tbl (ps:Array Value)
  |ext (φ:Heap->Prop)
abbrev Hp:=Addr->Option HO
noncomputable def upd(H:Hp)(a:Addr)(o:HO):Hp:=fun b=>if b=a then some o else H b
theorem upd_same:upd H a o a=some o:=by unfold upd;rw[if_pos rfl]
theorem qAg(h:b≠a):upd H a o b=H b:=by unfold upd;rw[if_neg h]
theorem qE1:upd (upd H a o) a u=upd H a u:=by
 funext b;unfold upd;split <;> rfl
theorem zB4{H:Hp}{a b:Addr}{o u:HO}(h:H a=some o)(h':H b=some u)(d:o≠u):a≠b:=by
 intro e;subst e;rw[h]at h';exact d (hAt h')
theorem qAi{H:Hp}{a b:Addr}{o:HO}(h:H a=some o)(h':H b=none):a≠b:=by
 intro e;subst e;rw[h]at h';cases h'
section
variable(P:Program)(w:World)
def qBr(H:Hp)(h:Heap)(a:Addr):HO->Prop
 |.lst xs=>xs.length<=sizeLine/\∃(its:List Value) (n:Nat),qA7 xs its/\h.get? a=some { cls:=.type "list",data:=.seq its.toArray n }
 |.tup xs=>xs.length<=sizeLine/\∃its:List Value,qA7 xs its/\IsTup h a its.toArray
 |.dK kvs=>kvs.length<=sizeLine/\(a == sysModules)=false/\∃vs,KV kvs vs/\h.DictOf (qA9 P w) a vs
 |.dT kvs=>kvs.length<=sizeLine/\(a == sysModules)=false/\∃xs:List (List Key×Addr×Value),
   Paired (fun (p:List Key×V) (q:List Key×Addr×Value)=>p.1=q.1/\H q.2.1=some (.tup (p.1.map kV))/\qBq p.2 q.2.2) kvs xs /\
   ∃o es ep,h.get? a=some o/\o.ExactDict/\o.data = .dict es ep/\es.toList=xs.map (entryOfKey (tupleKind (qA9 P w)))/\(xs.map (·.1)).Nodup
 |.set S n=>h.SetOf (intKind P w) a S n
 |.ins C dx fs=>H dx=some (.own a)/\fs.length<=1000/\dx≠a/\h.get? a=some (PySem.W.instObj C dx) /\
   ∃mA,h.Ns1 dx mA/\(∀f,qOa (fs.lookup f) (mA f))/\PySem.Within mA (fs.map (·.1))
 |.own _=>∃o,h.get? a=some o
 |.xd fs=>∃mA,h.Ns1 a mA/\∀f,qOa (fs.lookup f) (mA f)
 |.rng lo hi=>∃t u v,h.get? a=some { cls:=.type "range",data:=.fields #[.int lo t,.int hi u,.int 1 v] }
 |.frz o u=>h.get? a=some o/\qBr H h a u
 |.tbl ps=>h.get? a=some { cls:=.none,data:=.fields ps }
 |.met f x=>h.get? a=some (PySem.W.methodObj (.ref f) (.ref x))
 |.ext φ=>φ h/\(∃o,h.get? a=some o)/\∀h1 h2:Heap,φ h1->(∀o,h1.get? a=some o->h2.get? a=some o)->φ h2
def HOk(H:Hp)(h:Heap):Prop:=∀a o,H a=some o->qBr P w H h a o
end
section
variable{P:Program}{w:World}{H H':Hp}{h h':Heap}{a:Addr}{o:HO}
theorem qBr.lt(x:qBr P w H h a o):a<h.objs.size:=by
 cases o with
 |lst xs=>obtain⟨_,_,_,_,e⟩:=x;exact Heap.lt_size e
 |tup xs=>obtain⟨_,_,_,p⟩:=x;exact p.lt
 |dK kvs=>obtain⟨_,_,_,_,o,_,_,e,_⟩:=x;exact Heap.lt_size e
 |dT kvs=>obtain⟨_,_,_,_,o,_,_,e,_⟩:=x;exact Heap.lt_size e
 |set S n=>obtain⟨o,_,_,_,e,_⟩:=x;exact Heap.lt_size e
 |ins C dx fs=>obtain⟨_,_,_,e,_⟩:=x;exact Heap.lt_size e
 |own y=>obtain⟨_,e⟩:=x;exact Heap.lt_size e
 |xd fs=>obtain⟨_,⟨_,_,_,e,_⟩,_⟩:=x;exact Heap.lt_size e
 |rng lo hi=>obtain⟨_,_,_,e⟩:=x;exact Heap.lt_size e
 |frz ob u=>obtain⟨e,_⟩:=x;exact Heap.lt_size e
 |tbl ps=>exact Heap.lt_size (show h.get? a=some _ from x)
 |met f y=>exact Heap.lt_size (show h.get? a=some _ from x)
 |ext φ=>obtain⟨_,⟨_,e⟩,_⟩:=x;exact Heap.lt_size e
theorem Paired.mapP:∀ {l₁:List α} {l₂:List β},Paired F l₁ l₂->(∀a b,F a b->G a b)->Paired G l₁ l₂
 |_,_,.nil,_=>.nil
 |_,_,.cons r t,f=>.cons (f _ _ r) (Paired.mapP t f)
theorem qBr.stay(x:qBr P w H h a o)(k:∀b u,(b=a\/H b=some (.own a))->h.get? b=some u->h'.get? b=some u)
  (ho:∀b,H b=some (.own a)->H' b=some (.own a)) (ht:∀b xs,H b=some (.tup xs)->H' b=some (.tup xs)):qBr P w H' h' a o:=by
 induction o with
 |lst xs=>obtain⟨z,its,n,r,e⟩:=x;exact⟨z,its,n,r,k _ _ (.inl rfl) e⟩
 |tup xs=>obtain⟨z,its,r,ob,e,c⟩:=x;exact⟨z,its,r,ob,k _ _ (.inl rfl) e,c⟩
 |dK kvs=>obtain⟨z,y,vs,r,ob,es,ep,e,c⟩:=x;exact⟨z,y,vs,r,ob,es,ep,k _ _ (.inl rfl) e,c⟩
 |dT kvs =>
  obtain⟨z,y,xs,r,ob,es,ep,e,c⟩:=x;exact⟨z,y,xs,Paired.mapP r fun p q z=>⟨z.1,ht _ _ z.2.1,z.2.2⟩,ob,es,ep,k _ _ (.inl rfl) e,c⟩
 |set S n=>obtain⟨ob,es,ep,t,e,c⟩:=x;exact⟨ob,es,ep,t,k _ _ (.inl rfl) e,c⟩
 |ins C dx fs =>
  obtain⟨d,z,ne,e,mA,⟨od,es,ep,e2,c⟩,r⟩:=x;exact⟨ho _ d,z,ne,k _ _ (.inl rfl) e,mA,⟨od,es,ep,k _ _ (.inr d) e2,c⟩,r⟩
 |own y=>obtain⟨ob,e⟩:=x;exact⟨ob,k _ _ (.inl rfl) e⟩
 |xd fs=>obtain⟨mA,⟨od,es,ep,e,c⟩,r⟩:=x;exact⟨mA,⟨od,es,ep,k _ _ (.inl rfl) e,c⟩,r⟩
 |rng lo hi=>obtain⟨t,u,v,e⟩:=x;exact⟨t,u,v,k _ _ (.inl rfl) e⟩
 |frz ob u ih=>obtain⟨e,q⟩:=x;exact⟨k _ _ (.inl rfl) e,ih q⟩
 |tbl ps =>
  have e:h.get? a=some { cls:=.none,data:=.fields ps }:=x;show h'.get? a=some { cls:=.none,data:=.fields ps };exact k a _ (.inl rfl) e
 |met f y =>
  have e:h.get? a=some (PySem.W.methodObj (.ref f) (.ref y)):=x;show h'.get? a=some (PySem.W.methodObj (.ref f) (.ref y));exact k a _ (.inl rfl) e
 |ext φ=>obtain⟨p,⟨o,e⟩,st⟩:=x;exact⟨st _ _ p fun o q=>k _ _ (.inl rfl) q,⟨o,k _ _ (.inl rfl) e⟩,st⟩
theorem HOk.lt(x:HOk P w H h)(e:H a=some o):a<h.objs.size:=(x a o e).lt
theorem HOk.fresh(x:HOk P w H h)(e:h.objs.size<=a):H a=none:=by
 cases q:H a with
 |none=>rfl
 |some u=>exact absurd (hAm (x.lt q) e) (hD4 _)
theorem HOk.kept(x:HOk P w H h)(k:∀b u,h.get? b=some u->h'.get? b=some u):HOk P w H h':=fun a o e =>
 (x a o e).stay (fun b u _ q=>k b u q) (fun _ q=>q) fun _ _ q=>q
theorem HOk.laid(x:HOk P w H h)(k:∀b u,h.get? b=some u->h'.get? b=some u)(hp:h.objs.size<=a)(new:qBr P w (upd H a o) h' a o):HOk P w (upd H a o) h':=fun b u e=>by
 have hn:=x.fresh hp;by_cases hb:b=a
 ·subst hb;rw[upd_same]at e;cases e;exact new
 ·rw[qAg hb]at e;exact(x b u e).stay (fun c v _ q=>k c v q) (fun c q=>by rw[qAg (qAi q hn)];exact q) fun c xs q=>by rw[qAg (qAi q hn)];exact q
end
def Rd(H:Hp)(a:Addr)(u:HO):Prop:=H a=some u\/∃o,H a=some (.frz o u)
theorem Rd.ok(r:Rd H a u)(x:HOk P w H h):qBr P w H h a u:=by
 rcases r with r|⟨o,r⟩
 ·exact x a u r
 ·obtain⟨_,q⟩:=x a _ r;exact q
def Mut:Option HO->Prop
 |some (.lst _)=>True
 |some (.dK _)=>True
 |some (.dT _)=>True
 |some (.set _ _)=>True
 |some (.ins _ _ _)=>True
 |some (.ext _)=>True
 |_=>False
section
variable{P:Program}{w:World}{H:Hp}{h h':Heap}{x e:Addr}{o':HO}
theorem HOk.write(ok:HOk P w H h)(mu:Mut (H x))(he:e=x\/H e=some (.own x))(k:∀b u,b≠e->h.get? b=some u->h'.get? b=some u)(heo:∃u,h'.get? e=some u)
  (new:qBr P w (upd H x o') h' x o'):HOk P w (upd H x o') h':=fun b u q=>by
 have nown:∀c y,H c=some (.own y)->c≠x:=fun c y r z=>by subst z;rw[r]at mu;exact mu
 have ntup:∀c xs,H c=some (.tup xs)->c≠x:=fun c xs r z=>by subst z;rw[r]at mu;exact mu
 by_cases hb:b=x
 ·subst hb;rw[upd_same]at q;cases q;exact new
 ·rw[qAg hb]at q;by_cases hbe:b=e
  ·have q':H b=some (.own x):=by
    rcases he with z|z
    ·exact absurd (hbe.trans z) hb
    ·rw[hbe];exact z
   rw[q]at q';cases q';obtain⟨v,hv⟩:=heo;exact⟨v,by rw[hbe];exact hv⟩
  ·refine(ok b u q).stay (fun c v hc r=>k c v ?_ r) (fun c r=>by rw[qAg (nown c b r)];exact r) fun c xs r=>by rw[qAg (ntup c xs r)];exact r
   rcases hc with rfl|hc
   ·exact hbe
   ·rintro rfl;rcases he with z|z
    ·exact nown c b hc z
    ·rw[hc]at z;cases z;exact hb rfl
end
structure Un(fs ex:List Addr)(H H':Hp)(h h':Heap):Prop where
 keep:∀b o,h.get? b=some o->H b=none->b∉fs->b∉ex->h'.get? b=some o
 slot:∀b o,h.get? b=some o->H b=none->b∈fs->b∉ex->∃sl,h'.get? b=some { o with slots:=sl }
 free:∀b o,h.get? b=some o->H b=none->b∉ex->H' b=none
 there:∀b o,h.get? b=some o->b∉ex->∃o',h'.get? b=some o'
 tups:∀b xs,H b=some (.tup xs)->H' b=some (.tup xs)
 frzs:∀b o u,H b=some (.frz o u)->H' b=some (.frz o u)
 tbls:∀b ps,H b=some (.tbl ps)->∃more,H' b=some (.tbl (ps++more))
section
variable{fs fs' ex ex':List Addr}{H H1 H2:Hp}{h h1 h2 h':Heap}{a x e:Addr}{o:HO}
theorem Un.any(u:Un fs ex H H1 h h1)(q:h.get? b=some ob)(n:H b=none)(hx:b∉ex):∃sl,h1.get? b=some { ob with slots:=sl }:=by
 by_cases hb:b∈fs
 ·exact u.slot b ob q n hb hx
 ·exact⟨ob.slots,u.keep b ob q n hb hx⟩
theorem Un.kept(k:∀b u,h.get? b=some u->h'.get? b=some u):Un fs ex H H h h' :=
 ⟨fun b ob q _ _ _=>k b ob q,fun b ob q _ _ _=>⟨ob.slots,k b ob q⟩,fun _ _ _ n _=>n,fun b ob q _=>⟨ob,k b ob q⟩,fun _ _ q=>q,fun _ _ _ q=>q,fun _ ps q=>⟨#[],by rw[q];simp⟩⟩
theorem Un.refl:Un fs ex H H h h:=Un.kept fun _ _ q=>q
theorem Un.laid(k:∀b u,h.get? b=some u->h'.get? b=some u)(hp:h.objs.size<=a)(hn:H a=none):Un fs ex H (upd H a o) h h' where
 keep:=fun b u q _ _ _=>k b u q
 slot:=fun b u q _ _ _=>⟨u.slots,k b u q⟩
 free:=fun b u q n _=>by rw[qAg (hAn (hAm (Heap.lt_size q) hp))];exact n
 there:=fun b u q _=>⟨u,k b u q⟩
 tups:=fun b xs q=>by rw[qAg (qAi q hn)];exact q
 frzs:=fun b u xs q=>by rw[qAg (qAi q hn)];exact q
 tbls:=fun b ps q=>⟨#[],by rw[qAg (qAi q hn),q];simp⟩
theorem Un.write(mu:Mut (H x))(he:e=x\/H e=some (.own x))(k:∀b u,b≠e->h.get? b=some u->h'.get? b=some u)(heo:∃u,h'.get? e=some u):Un fs ex H (upd H x o) h h':=by
 have hx:∀b,H b=none->b≠x:=fun b n z=>by subst z;rw[n]at mu;exact mu
 have hb:∀b,H b=none->b≠e:=fun b n z=>by
  subst z;rcases he with r|r
  ·exact hx b n r
  ·rw[n]at r;cases r
 have hm:∀b u,H b=some u->¬Mut (some u)->b≠x:=fun b u q nm z=>by subst z;rw[q]at mu;exact nm mu
 refine⟨fun b u q n _ _=>k b u (hb b n) q,fun b u q n _ _=>⟨u.slots,k b u (hb b n) q⟩,fun b u q n _=>by rw[qAg (hx b n)];exact n,fun b u q _=>?_,
  fun b xs q=>by rw[qAg (hm b _ q fun z=>z)];exact q,fun b u xs q=>by rw[qAg (hm b _ q fun z=>z)];exact q,fun b ps q=>⟨#[],by rw[qAg (hm b _ q fun z=>z),q];simp⟩⟩
 by_cases hbe:b=e
 ·subst hbe;exact heo
 ·exact⟨u,k b u hbe q⟩
end
noncomputable def trk(h:Heap)(H:Hp):List Addr:=(List.range h.objs.size).filter fun a=>(H a).isSome
noncomputable def qQ5(h:Heap)(H:Hp):Heap:=PySem.W.hideAll h (trk h H)
theorem qQ4(h:Heap)(H:Hp):(qQ5 h H).objs.size=h.objs.size:=PySem.W.hideAll_size _ _
theorem qT0(e:h.get? b=some o)(n:H b=none):(qQ5 h H).get? b=some o :=
 PySem.W.hideAll_get _ e fun hm=>by
  have q:(H b).isSome=true:=(hAb.mp hm).2;rw[n]at q;simp at q
theorem qXa(e:(qQ5 h H).get? b=some o):h.get? b=some o/\H b=none:=by
 have e':h.get? b=some o:=PySem.W.of_hideAll (trk h H) e;refine⟨e',?_⟩;cases q:H b with
 |none=>rfl
 |some x =>
  have hm:b∈trk h H:=hAb.mpr ⟨hAf.mpr (Heap.lt_size e'),by simp[q]⟩;have z:(qQ5 h H).get? b=none:=PySem.W.hideAll_none (trk h H) hm;rw[z]at e;cases e
noncomputable def qX0(g h:Heap)(L:Addr):List (Addr×Obj):=(List.range h.objs.size).filterMap fun a=>if a=L\/(g.get? a).isSome=true then none else (h.get? a).map fun o=>(a,o)
noncomputable def rest(g h:Heap)(L d:Addr):List (Addr×Obj):=(qX0 g h L).filter fun p=>decide (p.1≠d)
structure Mod(K:PySem.W.Frag)(mg:Str->Option Value)(base:Heap):Prop where
 kin:K.In base
 glob:base.Ns mainGlobals mg
 blt:∃mb,base.Ns builtinsNs mb/\∀x:Str,x≠"__name__"->mb x=bootBuiltins x
 nolimit:base.NoLimit
structure Cx where
 prog:Program
 w:World
 K:PySem.W.Frag
 mg:Str->Option Value
 base:Heap
 A:Around
 N:List Str
 s₀:Shared
 H₀:Hp
 env:Env
 outer:List Env
 stack:List Env
 ex:List Addr
 fn:Str->Bool
 calm:Bool
 pn:List (Addr×Obj)
 xe:Value->Shared->Prop
noncomputable def frs(l:List Env):List Addr:=l.filterMap (·.frame)
noncomputable abbrev Cx.fs(X:Cx):List Addr:=frs X.outer
def Vis(sc:Scope)(x:Str):Prop:=sc.names.lookup x=some .local\/sc.names.lookup x=some .cell\/sc.names.lookup x=some .free
def Loc(sc:Scope)(x:Str):Prop:=sc.names.lookup x=some .local\/sc.names.lookup x=some .cell
def zDn(env:Env)(h:Heap)(m:Str->Option Value)(x:Str)(u:Value):Prop :=
 (env.kindOf x=some .local/\m x=some u)\/((env.kindOf x=some .cell\/env.kindOf x=some .free)/\∃c,env.cells.lookup x=some c/\h.IsCell c (some u))
structure Cx.Ok(X:Cx):Prop where
 mod:Mod X.K X.mg X.base
 kind:X.env.scope.kind = .function
 glob:X.env.globals=mainGlobals
 blt:X.env.builtins=builtinsNs
 above:X.s₀.heap.objs.size<=X.env.locals
 inj:∀x y c,X.env.cells.lookup x=some c->X.env.cells.lookup y=some c->x=y
 has:∀x,(X.env.kindOf x=some .cell\/X.env.kindOf x=some .free)->∃c,X.env.cells.lookup x=some c
 cab:∀x c,X.fn x=true->X.env.cells.lookup x=some c->X.s₀.heap.objs.size<=c
 hd:X.calm=true->X.A.handled=none
 frames:X.A.frames=some X.stack
 stk:X.stack=X.outer\/(X.stack=X.env :: X.outer/\X.env.frame=some X.env.locals)
 exf:∀b∈X.ex,b≠X.env.locals/\∀x c,X.env.cells.lookup x=some c->c≠b
 bs:∀b o,X.base.get? b=some o->X.s₀.heap.get? b=some o/\X.H₀ b=none
 bsz:X.base.objs.size<=X.s₀.heap.objs.size
 noex:∀b o,X.base.get? b=some o->b∉X.ex
 exfs:∀b∈X.ex,b∉X.fs
 funs:X.s₀.heap.FunFrames X.base X.outer
 frf:∀b∈X.fs,X.H₀ b=none
structure Inv(X:Cx)(pins:List (Addr×Obj))(σ:List (Option V))(H:Hp)(s:Shared):Prop where
 ok:X.Ok
 os:s.os=X.s₀.os
 bare:AllBare s.gens
 base:Un X.fs X.ex X.H₀ H X.s₀.heap s.heap
 loc:∃m,s.heap.Ns X.env.locals m/\∀(i:Nat) (x:Str) (v:V),X.N[i]?=some x->σ[i]?=some (some v)->Vis X.env.scope x->∃u,qBq v u/\zDn X.env s.heap m x u
 cell:∀x c,X.env.cells.lookup x=some c->∃v,s.heap.IsCell c v
 free:H X.env.locals=none
 freeC:∀x c,X.env.cells.lookup x=some c->H c=none
 pin:∀p∈X.pn++pins,s.heap.get? p.1=some p.2/\H p.1=none/\p.1≠X.env.locals/\p.1∉X.fs/\∀v,p.2.data≠.cell v
 hok:HOk X.prog X.w H s.heap
 len:σ.length=X.N.length
section
variable{X:Cx}{pins:List (Addr×Obj)}{σ:List (Option V)}{H H':Hp}{s:Shared}{h':Heap}
theorem Cx.Ok.nofr(ok:X.Ok)(e:X.base.get? b=some o):b∉X.fs:=fun hb=>by
 have:=(ok.funs.mem hb).1;rw[e]at this;cases this
theorem Inv.bs(I:Inv X pins σ H s):∀b o,X.base.get? b=some o->s.heap.get? b=some o/\H b=none:=fun b o e =>
 ⟨I.base.keep b o (I.ok.bs b o e).1 (I.ok.bs b o e).2 (I.ok.nofr e) (I.ok.noex b o e),I.base.free b o (I.ok.bs b o e).1 (I.ok.bs b o e).2 (I.ok.noex b o e)⟩
theorem Inv.bk(I:Inv X pins σ H s):∀b o,X.base.get? b=some o->s.heap.get? b=some o:=fun b o e=>(I.bs b o e).1
theorem Inv.mod(I:Inv X pins σ H s):Mod X.K X.mg X.base:=I.ok.mod
theorem Inv.kIn(I:Inv X pins σ H s):X.K.In s.heap:=I.ok.mod.kin.keeps I.bk
theorem Inv.lt(I:Inv X pins σ H s):X.env.locals<s.heap.objs.size:=let ⟨_,hn,_⟩:=I.loc;hn.lt
theorem Inv.sz(I:Inv X pins σ H s):X.s₀.heap.objs.size<=s.heap.objs.size:=hB2 I.ok.above (hBi I.lt)
theorem Inv.nofs(I:Inv X pins σ H s)(h:s.heap.objs.size<=a):a∉X.fs:=fun hb=>by
 obtain⟨_,o,ho,_⟩:=I.ok.funs.mem hb;exact absurd (hAm (Heap.lt_size ho) (hB2 I.sz h)) (hD4 _)
theorem Inv.cne(I:Inv X pins σ H s):∀x c,X.env.cells.lookup x=some c->c≠X.env.locals:=fun x c e z=>by
 obtain⟨v,o,ho,hd⟩:=I.cell x c e;obtain⟨m,⟨o',es,ep,ho',hd',_⟩,_⟩:=I.loc;rw[z,ho']at ho;cases ho;rw[hd']at hd;cases hd
theorem Inv.funs(I:Inv X pins σ H s):s.heap.FunFrames X.base X.outer:=by
 have all:∀(l:List Env),(∀b∈frs l,b∈X.fs)->X.s₀.heap.FunFrames X.base l->s.heap.FunFrames X.base l:=by
  intro l
  induction l with
  |nil=>intro _ _;trivial
  |cons env r ih =>
   intro hs hl;obtain⟨hk,⟨L,o,hf,hn,ho,hd⟩,hr⟩:=hl;have hL:L∈X.fs:=hs L (by unfold frs;rw[hCq,hf];exact hA9);obtain⟨sl,e⟩:=I.base.slot L o ho (I.ok.frf L hL) hL fun z=>I.ok.exfs L z hL
   exact⟨hk,⟨L,_,hf,hn,e,hd⟩,ih (fun b hb=>hs b (by unfold frs;rw[hCq,hf];exact hA8 _ hb)) hr⟩
 exact all X.outer (fun _ hb=>hb) I.ok.funs
theorem Inv.stack(I:Inv X pins σ H s):s.heap.FunFrames X.base X.stack:=by
 rcases I.ok.stk with e|⟨e,hf⟩
 ·rw[e];exact I.funs
 ·rw[e];obtain⟨m,hn,_⟩:=I.loc;refine .cons (by rw[I.ok.kind];decide) hf hn ?_ I.funs;exact Heap.get?_none_of_le (hB2 I.ok.bsz I.ok.above)
theorem Inv.stkSub(I:Inv X pins σ H s):∀b∈frs X.stack,b∈X.env.locals :: X.fs:=fun b hb=>by
 rcases I.ok.stk with e|⟨e,hf⟩
 ·rw[e]at hb;exact hA8 _ hb
 ·rw[e]at hb;unfold frs at hb;rw[hCq,hf]at hb;exact hb
theorem Inv.stkFree(I:Inv X pins σ H s):∀b∈frs X.stack,H b=none:=fun b hb=>by
 rcases hAg.mp (I.stkSub b hb) with e|hb
 ·rw[e];exact I.free
 ·obtain⟨_,o,ho,_⟩:=I.ok.funs.mem hb;exact I.base.free b o ho (I.ok.frf b hb) fun z=>I.ok.exfs b z hb
theorem Inv.step{g':Array GenState}{t':Nat}{d':Drawn}{ch:List Addr}(I:Inv X pins σ H s)
  (hch:∀b∈ch,(b∈X.ex\/X.s₀.heap.objs.size<=b)/\b≠X.env.locals/\(∀x c,X.env.cells.lookup x=some c->c≠b)/\∀p∈X.pn++pins,p.1≠b)
  (keep:∀b o,b≠X.env.locals->b∉X.fs->b∉ch->s.heap.get? b=some o->H b=none->h'.get? b=some o)
  (slot:∀b o,b≠X.env.locals->b∈X.fs->b∉ch->s.heap.get? b=some o->H b=none->∃sl,h'.get? b=some { o with slots:=sl }) (free:∀b o,b∉ch->s.heap.get? b=some o->H b=none->H' b=none)
  (there:∀b o,b∉ch->s.heap.get? b=some o->∃o',h'.get? b=some o')
  (tups:∀b xs,H b=some (.tup xs)->H' b=some (.tup xs)) (frzs:∀b o u,H b=some (.frz o u)->H' b=some (.frz o u)) (tbls:∀b ps,H b=some (.tbl ps)->∃more,H' b=some (.tbl (ps++more)))
  (ns:∀m,s.heap.Ns X.env.locals m->h'.Ns X.env.locals m) (hok:HOk X.prog X.w H' h') (hg:AllBare g') :
  Inv X pins σ H' { s with heap:=h',gens:=g',drawn:=d',toks:=t' }:=by
 have neL:∀b o,X.s₀.heap.get? b=some o->b≠X.env.locals:=fun b o e=>hAn (hAm (Heap.lt_size e) I.ok.above)
 have neC:∀b o,X.s₀.heap.get? b=some o->b∉X.ex->b∉ch:=fun b o e hx hb=>by
  rcases(hch b hb).1 with z|z
  ·exact hx z
  ·exact absurd (hAm (Heap.lt_size e) z) (hD4 _)
 have cellK:∀x c,X.env.cells.lookup x=some c->∀v,s.heap.IsCell c v->h'.IsCell c v:=fun x c e v ⟨o,ho,hd⟩=>by
  have nch:c∉ch:=fun z=>(hch c z).2.2.1 x c e rfl
  by_cases hc:c∈X.fs
  ·obtain⟨sl,q⟩:=slot c o (I.cne x c e) hc nch ho (I.freeC x c e);exact⟨_,q,hd⟩
  ·exact⟨o,keep c o (I.cne x c e) hc nch ho (I.freeC x c e),hd⟩
 refine⟨I.ok,I.os,hg,⟨fun b o e n hb hx=>?_,fun b o e n hb hx=>?_,fun b o e n hx=>?_,fun b o e hx=>?_,fun b xs e=>tups b xs (I.base.tups b xs e),fun b o xs e=>frzs b o xs (I.base.frzs b o xs e),fun b ps e=>?_⟩,?_,fun x c e=>?_,?_,fun x c e=>?_,fun p hp=>?_,hok,I.len⟩
 ·exact keep b o (neL b o e) hb (neC b o e hx) (I.base.keep b o e n hb hx) (I.base.free b o e n hx)
 ·obtain⟨sl,e1⟩:=I.base.slot b o e n hb hx;obtain⟨sl',e2⟩:=slot b _ (neL b o e) hb (neC b o e hx) e1 (I.base.free b o e n hx);exact⟨sl',e2⟩
 ·obtain⟨o',e1⟩:=I.base.there b o e hx;exact free b o' (neC b o e hx) e1 (I.base.free b o e n hx)
 ·obtain⟨o',e1⟩:=I.base.there b o e hx;exact there b o' (neC b o e hx) e1
 ·obtain⟨m1,e1⟩:=I.base.tbls b ps e;obtain⟨m2,e2⟩:=tbls b _ e1;exact⟨m1++m2,by rw[e2,Array.append_assoc]⟩
 ·obtain⟨m,hn,hl⟩:=I.loc;refine⟨m,ns m hn,fun i x v e1 e2 e3=>?_⟩;obtain⟨u,r,l⟩:=hl i x v e1 e2 e3;refine⟨u,r,?_⟩;rcases l with l|⟨k,c,e,z⟩
  ·exact .inl l
  ·exact .inr ⟨k,c,e,cellK x c e _ z⟩
 ·obtain⟨v,z⟩:=I.cell x c e;exact⟨v,cellK x c e v z⟩
 ·obtain⟨m,⟨o,_,_,ho,_⟩,_⟩:=I.loc;exact free _ o (fun z=>(hch _ z).2.1 rfl) ho I.free
 ·obtain⟨v,o,ho,hd⟩:=I.cell x c e;exact free c o (fun z=>(hch c z).2.2.1 x c e rfl) ho (I.freeC x c e)
 ·obtain⟨e,n,ne,nf,d⟩:=I.pin p hp;have nch:p.1∉ch:=fun z=>(hch p.1 z).2.2.2 p hp rfl
  exact⟨keep p.1 p.2 ne nf nch e n,free p.1 p.2 nch e n,ne,nf,d⟩
theorem Inv.un{t':Nat}(I:Inv X pins σ H s)(u:Un X.fs [] H H' s.heap h')(hok:HOk X.prog X.w H' h'):Inv X pins σ H' { s with heap:=h',toks:=t' }:=by
 obtain⟨m,⟨o,es,ep,ho,r⟩,_⟩:=id I.loc;obtain⟨sl,hL⟩:=u.any ho I.free (by simp);exact I.step (g':=s.gens) (d':=s.drawn) (ch:=[]) (fun _ z=>nomatch z) (fun b o _ hb _ e n=>u.keep b o e n hb (by simp)) (fun b o _ hb _ e n=>u.slot b o e n hb (by simp)) (fun b o _ e n=>u.free b o e n (by simp)) (fun b o _ e=>u.there b o e (by simp)) u.tups u.frzs u.tbls (fun m' hm=>by
  obtain⟨o',es',ep',ho',r'⟩:=hm;rw[ho]at ho';cases ho';exact⟨_,es',ep',hL,r'⟩) hok I.bare
theorem Inv.call{g':Array GenState}{t':Nat}{d':Drawn}{ch:List Addr}(I:Inv X pins σ H s)(u:Un (frs X.stack) ch H H' s.heap h')(hok:HOk X.prog X.w H' h')(hg:AllBare g')
  (hch:∀b∈ch,(b∈X.ex\/X.s₀.heap.objs.size<=b)/\b≠X.env.locals/\(∀x c,X.env.cells.lookup x=some c->c≠b)/\∀p∈X.pn++pins,p.1≠b) :
  Inv X pins σ H' { s with heap:=h',gens:=g',drawn:=d',toks:=t' }:=by
 obtain⟨m,⟨o,es,ep,ho,r⟩,_⟩:=id I.loc;obtain⟨sl,hL⟩:=u.any ho I.free fun z=>(hch _ z).2.1 rfl
 exact I.step (ch:=ch) hch (fun b o hL hb hc e n=>u.keep b o e n (fun z=>(hAg.mp (I.stkSub b z)).elim hL hb) hc) (fun b o _ _ hc e n=>u.any e n hc) (fun b o hc e n=>u.free b o e n hc) (fun b o hc e=>u.there b o e hc) u.tups u.frzs u.tbls (fun m' hm=>by
  obtain⟨o',es',ep',ho',r'⟩:=hm;rw[ho]at ho';cases ho';exact⟨_,es',ep',hL,r'⟩) hok hg
theorem Inv.turned{t':Nat}{it:Addr}(I:Inv X pins σ H s)(k:∀b o,b≠it->s.heap.get? b=some o->h'.get? b=some o)(hn:H it=none)(hL:it≠X.env.locals)
  (h1:it∈X.ex\/X.s₀.heap.objs.size<=it) (h2:∀x c,X.env.cells.lookup x=some c->c≠it) (h3:∀p∈X.pn++pins,p.1≠it):Inv X pins σ H { s with heap:=h',toks:=t' }:=by
 have nit:∀b u,H b=some u->b≠it:=fun b u e z=>by rw[z,hn]at e;cases e
 refine I.step (g':=s.gens) (d':=s.drawn) (ch:=[it]) (fun b hb=>?_) (fun b o _ _ hc e _=>k b o (fun z=>hc (by simp[z])) e) (fun b o _ _ hc e _=>⟨o.slots,k b o (fun z=>hc (by simp[z])) e⟩) (fun _ _ _ _ n=>n)
  (fun b o hc e=>⟨o,k b o (fun z=>hc (by simp[z])) e⟩) (fun _ _ e=>e) (fun _ _ _ e=>e) (fun b ps e=>⟨#[],by rw[e];simp⟩) (fun m hm=>?_) (fun b u e=>?_) I.bare
 ·have e:b=it:=by simpa using hb
  subst e;exact⟨h1,hL,h2,h3⟩
 ·obtain⟨o,es,ep,ho,r⟩:=hm;exact⟨o,es,ep,k _ o (Ne.symm hL) ho,r⟩
 ·refine(I.hok b u e).stay (fun c v hc q=>k c v ?_ q) (fun _ q=>q) fun _ _ q=>q
  rcases hc with z|z
  ·rw[z];exact nit b u e
  ·exact nit c _ z
theorem Inv.tok(I:Inv X pins σ H s)(t:Nat):Inv X pins σ H { s with toks:=t }:=I.un (h':=s.heap) (t':=t) Un.refl I.hok
theorem Inv.kept(I:Inv X pins σ H s)(k:∀b u,s.heap.get? b=some u->h'.get? b=some u):Inv X pins σ H { s with heap:=h',toks:=t' }:=I.un (Un.kept k) (I.hok.kept k)
theorem Inv.laid(I:Inv X pins σ H s)(k:∀b u,s.heap.get? b=some u->h'.get? b=some u)(hp:s.heap.objs.size<=a)(new:qBr X.prog X.w (upd H a o) h' a o) :
  Inv X pins σ (upd H a o) { s with heap:=h',toks:=t' }:=I.un (Un.laid k hp (I.hok.fresh hp)) (I.hok.laid k hp new)
theorem Inv.write(I:Inv X pins σ H s)(mu:Mut (H x))(he:e=x\/H e=some (.own x))(k:∀b u,b≠e->s.heap.get? b=some u->h'.get? b=some u)(heo:∃u,h'.get? e=some u)
  (new:qBr X.prog X.w (upd H x o) h' x o):Inv X pins σ (upd H x o) { s with heap:=h',toks:=t' }:=I.un (Un.write mu he k heo) (I.hok.write mu he k heo new)
theorem Inv.weak(I:Inv X pins σ H s)(hl:σ'.length=σ.length)(w:∀(i:Nat) v,σ'[i]?=some (some v)->σ[i]?=some (some v)):Inv X pins σ' H s :=
 ⟨I.ok,I.os,I.bare,I.base,let ⟨m,hn,hl'⟩:=I.loc;⟨m,hn,fun i x v e1 e2 e3=>hl' i x v e1 (w i v e2) e3⟩,I.cell,I.free,I.freeC,I.pin,I.hok,hl.trans I.len⟩
theorem Inv.pins_of(I:Inv X pins σ H s)(h:∀p∈pins',s.heap.get? p.1=some p.2/\H p.1=none/\p.1≠X.env.locals/\p.1∉X.fs/\∀v,p.2.data≠.cell v):Inv X pins' σ H s :=
 ⟨I.ok,I.os,I.bare,I.base,I.loc,I.cell,I.free,I.freeC,fun p hp=>(hAh.mp hp).elim (fun z=>I.pin p (hAi _ z)) (h p),I.hok,I.len⟩
theorem qMr{N:List Str}(hN:N.Nodup){i j:Nat}{x:Str}(a:N[i]?=some x)(b:N[j]?=some x):i=j:=by
 obtain⟨h1,e1⟩:=hAq.mp a;obtain⟨h2,e2⟩:=hAq.mp b;exact(hDq hN).mp (e1.trans e2.symm)
theorem qI1{M:Model}{A:Around}{E:Value->Shared->Prop}{i:Nat}{x:Str}{v:V}{u:Value}{Q:Unit->Shared->Prop}(I:Inv X pins σ H s)(hN:X.N.Nodup)(hi:X.N[i]?=some x)(hx:Loc X.env.scope x)(r:qBq v u)
  (h:∀s',Inv X pins (σ.set i (some v)) H s'->(∃a,Heap.SameBut a s.heap s'.heap/\(a=X.env.locals\/X.env.cells.lookup x=some a))->Q () s') (hf:X.fn x=true\/X.env.scope.names.lookup x=some .local:=by first|exact .inl rfl|exact .inr rfl|assumption):wpAny M A (storeName X.env x u) Q E s:=by
 obtain⟨m,hn,hl⟩:=id I.loc;have hcls:(X.env.scope.kind == .class || (X.env.scope.kind == .module && X.env.locals != X.env.globals))=false:=by rw[I.ok.kind];rfl
 have hiσ:i < σ.length:=by rw[I.len];exact(hAq.mp hi).1
 have cne:=I.cne;have tracked:∀ {a:Addr} {h':Heap},(∃o,s.heap.get? a=some o/\H a=none)->Heap.SameBut a s.heap h'->HOk X.prog X.w H h':=fun {a h'} ha hs b ob e=>by
  obtain⟨_,_,hfree⟩:=ha;refine(I.hok b ob e).stay (fun c w' hc q=>(hs.2 c ?_).trans q) (fun _ q=>q) fun _ _ q=>q
  rintro rfl;rcases hc with rfl|hc
  ·rw[hfree]at e;cases e
  ·rw[hfree]at hc;cases hc
 rcases hx with hk|hk
 ·refine wpAny_storeName_local hk hn (fun h' hn' hs=>?_) hcls;obtain⟨oL,_,_,hoL,_⟩:=id hn;refine h _ ⟨I.ok,I.os,I.bare,⟨fun b o e n hb hx=>?_,fun b o e n hb hx=>?_,I.base.free,fun b o e hx=>?_,I.base.tups,I.base.frzs,I.base.tbls⟩,⟨_,hn',fun j y v' e1 e2 e3=>?_⟩,fun y c e=>?_,I.free,I.freeC,fun p hp=>?_,tracked ⟨oL,hoL,I.free⟩ hs,by simpa using I.len⟩ ⟨_,hs,.inl rfl⟩
  ·exact(hs.2 b (hAn (hAm (Heap.lt_size e) I.ok.above))).trans (I.base.keep b o e n hb hx)
  ·obtain⟨sl,e1⟩:=I.base.slot b o e n hb hx;exact⟨sl,(hs.2 b (hAn (hAm (Heap.lt_size e) I.ok.above))).trans e1⟩
  ·obtain⟨o',e1⟩:=I.base.there b o e hx;exact⟨o',(hs.2 b (hAn (hAm (Heap.lt_size e) I.ok.above))).trans e1⟩
  ·by_cases hj:j=i
   ·subst hj;rw[hi]at e1;cases e1;rw[List.getElem?_set_self hiσ]at e2;cases e2;exact⟨u,r,.inl ⟨hk,by simp⟩⟩
   ·rw[List.getElem?_set_ne (Ne.symm hj)]at e2;obtain⟨u',r',q⟩:=hl j y v' e1 e2 e3;refine⟨u',r',?_⟩;rcases q with ⟨k,e⟩|⟨k,c,e,z⟩
    ·refine .inl ⟨k,?_⟩;have:y≠x:=fun e=>hj (qMr hN e1 (e▸hi))
     simp[this,e]
    ·exact .inr ⟨k,c,e,z.sameBut hs (cne y c e)⟩
  ·obtain⟨w',z⟩:=I.cell y c e;exact⟨w',z.sameBut hs (cne y c e)⟩
  ·obtain⟨e,n,ne,nf,d⟩:=I.pin p hp;exact⟨(hs.2 p.1 ne).trans e,n,ne,nf,d⟩
 ·have hfn:X.fn x=true:=by
   rcases hf with z|z
   ·exact z
   ·rw[z]at hk;cases hk
  obtain⟨c,hc⟩:=I.ok.has x (.inl hk);obtain⟨w',z⟩:=I.cell x c hc;refine wpAny_storeName_cell I.ok.kind hk hc z (fun h' hc' hs=>?_);obtain⟨oc,hoc,hocd⟩:=id z;refine h { s with heap:=h' } ⟨I.ok,I.os,I.bare,⟨fun b o e n hb hx=>?_,fun b o e n hb hx=>?_,I.base.free,fun b o e hx=>?_,I.base.tups,I.base.frzs,I.base.tbls⟩,⟨m,hn.sameBut hs (Ne.symm (cne x c hc)),fun j y v' e1 e2 e3=>?_⟩,fun y c' e=>?_,I.free,I.freeC,fun p hp=>?_,tracked ⟨oc,hoc,I.freeC x c hc⟩ hs,by simpa using I.len⟩ ⟨c,hs,.inr hc⟩
  ·exact(hs.2 b (hAn (hAm (Heap.lt_size e) (I.ok.cab x c hfn hc)))).trans (I.base.keep b o e n hb hx)
  ·obtain⟨sl,e1⟩:=I.base.slot b o e n hb hx;exact⟨sl,(hs.2 b (hAn (hAm (Heap.lt_size e) (I.ok.cab x c hfn hc)))).trans e1⟩
  ·obtain⟨o',e1⟩:=I.base.there b o e hx;exact⟨o',(hs.2 b (hAn (hAm (Heap.lt_size e) (I.ok.cab x c hfn hc)))).trans e1⟩
  ·by_cases hj:j=i
   ·subst hj;rw[hi]at e1;cases e1;rw[List.getElem?_set_self hiσ]at e2;cases e2;exact⟨u,r,.inr ⟨.inl hk,c,hc,hc'⟩⟩
   ·rw[List.getElem?_set_ne (Ne.symm hj)]at e2;obtain⟨u',r',q⟩:=hl j y v' e1 e2 e3;refine⟨u',r',?_⟩;rcases q with q|⟨k,c',e,z'⟩
    ·exact .inl q
    ·refine .inr ⟨k,c',e,z'.sameBut hs ?_⟩;rintro rfl;exact hj (qMr hN e1 (I.ok.inj _ _ _ e hc▸hi))
  ·by_cases hcc:c'=c
   ·subst hcc;exact⟨_,hc'⟩
   ·obtain⟨w2,z2⟩:=I.cell y c' e;exact⟨w2,z2.sameBut hs hcc⟩
  ·obtain⟨e,n,ne,nf,d⟩:=I.pin p hp;refine⟨(hs.2 p.1 ?_).trans e,n,ne,nf,d⟩;intro q;rw[q,hoc]at e;have q':oc=p.2:=hAt e;exact d w' (by rw[<-q'];exact hocd)
theorem qLt(I:Inv X pins σ H s)(hN:X.N.Nodup)(hi:X.N[i]?=some x)(hx:Loc X.env.scope x)(r:qBq v u)
  (h:∀s',Inv X pins (σ.set i (some v)) H s'->Q () s') (hf:X.fn x=true\/X.env.scope.names.lookup x=some .local:=by first|exact .inl rfl|exact .inr rfl|assumption):wpAny M A (storeName X.env x u) Q E s :=
 qI1 I hN hi hx r (fun s' I' _=>h s' I') hf
theorem Inv.call'(I:Inv X pins σ H s)(ho:s'.os=s.os)(u:Un (frs X.stack) ch H H' s.heap s'.heap)(hok:HOk X.prog X.w H' s'.heap)(hg:AllBare s'.gens)
  (hch:∀b∈ch,(b∈X.ex\/X.s₀.heap.objs.size<=b)/\b≠X.env.locals/\(∀x c,X.env.cells.lookup x=some c->c≠b)/\∀p∈X.pn++pins,p.1≠b):Inv X pins σ H' s':=by
 obtain⟨h',g',d',t',o'⟩:=s';have e:o'=s.os:=ho;subst e;exact I.call (g':=g') (t':=t') (d':=d') u hok hg hch
end
abbrev XK:=Value->Option Addr->Hp->Prop
abbrev St:=List (Option V)
abbrev VK:=V->Hp->Prop
abbrev TE:=St->Hp->VK->Prop
abbrev TT:=St->Hp->(Bool->Hp->Prop)->Prop
abbrev TA:=St->Hp->(List V->Hp->Prop)->Prop
structure Ends where
 nx:St->Hp->Prop
 rt:VK
 bk:St->Hp->Prop:=fun _ _=>False
 ct:St->Hp->Prop:=fun _ _=>False
abbrev TS:=Ends->St->Hp->Prop
def EP(X:Cx)(pins:List (Addr×Obj))(σ:St)(Q:VK)(u:Value)(s':Shared):Prop:=∃v H',Inv X pins σ H' s'/\qBq v u/\Q v H'
def TP(X:Cx)(pins:List (Addr×Obj))(σ:St)(Q:Bool->Hp->Prop)(b:Bool)(s':Shared):Prop:=∃H',Inv X pins σ H' s'/\Q b H'
def AP(X:Cx)(pins:List (Addr×Obj))(σ:St)(Q:List V->Hp->Prop)(us:List Value)(s':Shared):Prop:=∃vs H',Inv X pins σ H' s'/\qA7 vs us/\Q vs H'
def SP(X:Cx)(pins:List (Addr×Obj))(D:Ends)(f:Flow)(s':Shared):Prop :=
 match f with
 |.next=>∃σ' H',Inv X pins σ' H' s'/\D.nx σ' H'
 |.brk=>∃σ' H',Inv X pins σ' H' s'/\D.bk σ' H'
 |.cont=>∃σ' H',Inv X pins σ' H' s'/\D.ct σ' H'
 |.ret u=>∃v σ' H',Inv X pins σ' H' s'/\qBq v u/\D.rt v H'
def PE(X:Cx)(e:Expr)(t:TE):Prop :=
 ∀(pins:List (Addr×Obj)) (s:Shared) (σ:St) (H:Hp) (Q:VK),Inv X pins σ H s->t σ H Q->wpAny (model X.prog X.w) X.A (eval e X.env) (EP X pins σ Q) X.xe s
def PT(X:Cx)(e:Expr)(t:TT):Prop :=
 ∀(pins:List (Addr×Obj)) (s:Shared) (σ:St) (H:Hp) (Q:Bool->Hp->Prop),Inv X pins σ H s->t σ H Q->wpAny (model X.prog X.w) X.A (isTrue e X.env (eval e X.env)) (TP X pins σ Q) X.xe s
def PW(X:Cx)(e:Expr)(t:TT):Prop :=
 ∀(whole:Sem Value) (pins:List (Addr×Obj)) (s:Shared) (σ:St) (H:Hp) (Q:Bool->Hp->Prop),Inv X pins σ H s->t σ H Q->wpAny (model X.prog X.w) X.A (isTrue e X.env whole) (TP X pins σ Q) X.xe s
theorem PW.pt(h:PW X e t):PT X e t:=h _
def PA(X:Cx)(es:List Expr)(t:TA):Prop :=
 ∀(pos:Pos) (pins:List (Addr×Obj)) (s:Shared) (σ:St) (H:Hp) (Q:List V->Hp->Prop),Inv X pins σ H s->t σ H Q->wpAny (model X.prog X.w) X.A (spliced (backTo pos (starEach es X.env))) (AP X pins σ Q) X.xe s
def PS(X:Cx)(st:Stmt)(t:TS):Prop :=
 ∀(pins:List (Addr×Obj)) (s:Shared) (σ:St) (H:Hp) (D:Ends),Inv X pins σ H s->t D σ H->wpAny (model X.prog X.w) X.A (exec st X.env) (SP X pins D) X.xe s
def PSs(X:Cx)(st:List Stmt)(t:TS):Prop :=
 ∀(pins:List (Addr×Obj)) (s:Shared) (σ:St) (H:Hp) (D:Ends),Inv X pins σ H s->t D σ H->wpAny (model X.prog X.w) X.A (execs st X.env) (SP X pins D) X.xe s
theorem thn(h:wpAny M A t Q E s)(hQ:∀a s,Q a s->Q' a s):wpAny M A t Q' E s:=wpAny_mono h hQ fun _ _ x=>x
section
variable{X:Cx}
def qR9(i:Nat):TE:=fun σ H Q=>∃v,σ[i]?=some (some v)/\Q v H
def tC(v:V):TE:=fun _ H Q=>Q v H
theorem qZi(hN:X.N[i]?=some x)(hv:Vis X.env.scope x)(hd:(x == ("__debug__" : Str))=false:=by decide)(hcd:(x == ("__classdict__" : Str))=false:=by decide):PE X (.Name x pos) (qR9 i):=by
 intro pins s σ H Q I h;obtain⟨v,e,h⟩:=h;obtain⟨m,hn,hl⟩:=I.loc;obtain⟨u,r,l⟩:=hl i x v hN e hv;have fin:EP X pins σ Q u s:=⟨v,H,I,r,h⟩;rcases l with ⟨hk,hm⟩|⟨hk,c,hc,hcell⟩
 ·exact wpAny_Name (wpAny_loadName_local I.ok.kind hk hn hm fin) hd
 ·rcases hk with hk|hk
  ·exact wpAny_Name (wpAny_loadName_cell I.ok.kind hk hc hcell fin) hd
  ·exact wpAny_Name (wpAny_loadName_free I.ok.kind hk hc hcell fin hcd) hd
theorem qAe{i j pos}:PE X (.Constant (.int i) j pos) (tC (.int i)):=fun _ _ _ H _ I h=>wpAny_Constant_int ⟨.int i,H,I.tok _,⟨_,rfl⟩,h⟩
theorem qQc{b j pos}:PE X (.Constant (.bool b) j pos) (tC (.bl b)):=fun _ _ _ H _ I h=>Constant_bool ⟨.bl b,H,I,rfl,h⟩
theorem qU0{x j pos}:PE X (.Constant (.str x) j pos) (tC (.str x)):=fun _ _ _ H _ I h=>Calls.Constant_str ⟨.str x,H,I.tok _,⟨_,rfl⟩,h⟩
def Gl(X:Cx)(x:Str):Prop:=X.env.kindOf x=some .globalImplicit
theorem qQq(I:Inv X pins σ H s)(hg:Gl X x)(hm:X.mg x=some u)(h:Q u s)
  (hd:(x == ("__debug__" : Str))=false:=by decide):wpAny (model X.prog X.w) X.A (eval (.Name x pos) X.env) Q E s :=
 Calls.Name_function_global I.ok.kind hg (Calls.loadGlobal_global (by rw[I.ok.glob];exact I.mod.glob.keeps I.bk) hm h) hd
theorem qEt(I:Inv X pins σ H s)(hg:Gl X x)(hm:X.mg x=none)(hv:bootBuiltins x=some u)(h:Q u s)
  (hn:x≠"__name__":=by decide) (hd:(x == ("__debug__" : Str))=false:=by decide):wpAny (model X.prog X.w) X.A (eval (.Name x pos) X.env) Q E s:=by
 obtain⟨mb,h1,h2⟩:=I.mod.blt;exact Calls.Name_function_global I.ok.kind hg (Calls.loadGlobal_builtin (by rw[I.ok.glob];exact I.mod.glob.keeps I.bk) hm (by rw[I.ok.blt];exact h1.keeps I.bk) ((h2 x hn).trans hv) h) hd
theorem qK1(hg:Gl X x)(hm:X.mg x=none)(hv:bootBuiltins x=some u)(r:qBq v u)(hn:x≠"__name__":=by decide)(hd:(x == ("__debug__" : Str))=false:=by decide):PE X (.Name x pos) (tC v) :=
 fun _ _ _ H _ I h=>qEt I hg hm hv ⟨v,H,I,r,h⟩ hn hd
variable{a b:Expr}{ta tb:TE}{pos:Pos}
def tB(t:TE):TT:=fun σ H Q=>t σ H fun x H1=>∃c,x = .bl c/\Q c H1
theorem qHe(h:PE X e t)(he:∀whole,isTrue e X.env whole=(do let v ← whole;standAt e.pos;holding [v] (truthy v)):=by intro _;rfl):PT X e (tB t):=by
 intro pins s σ H Q I hw;refine isTrue_plain (thn (h pins s σ H _ I hw) fun v s1 ⟨x,H1,I1,r1,q1⟩=>?_) (he _);obtain⟨d,rfl,q⟩:=q1;cases r1;exact wpAny_truthy_bool ⟨H1,I1,q⟩
variable{tA tB':TT}{rest:List Expr}
def zC8(t u:TT):TT:=fun σ H Q=>t σ H fun c H1=>if c=true then u σ H1 Q else Q false H1
def tOr(t u:TT):TT:=fun σ H Q=>t σ H fun c H1=>if c=true then Q true H1 else u σ H1 Q
def zC4(t:TT):TT:=fun σ H Q=>t σ H fun c H1=>Q (!c) H1
theorem qP1(ha:PT X a tA):PW X (.BoolOp .And [a] pos) tA:=by
 intro wh pins s σ H Q I h;refine isTrue_and (thn (ha pins s σ H Q I h) fun c s1 e=>?_);cases c with
 |true=>exact isTrue_and_nil e
 |false=>exact e
theorem qP0(ha:PT X a tA):PW X (.BoolOp .Or [a] pos) tA:=by
 intro wh pins s σ H Q I h;refine isTrue_or (thn (ha pins s σ H Q I h) fun c s1 e=>?_);cases c with
 |false=>exact isTrue_or_nil e
 |true=>exact e
theorem qP2(ha:PT X a tA)(hb:PW X (.BoolOp .And (b :: rest) pos) tB'):PW X (.BoolOp .And (a :: b :: rest) pos) (zC8 tA tB'):=by
 intro wh pins s σ H Q I h;refine isTrue_and (thn (ha pins s σ H _ I h) fun c s1 ⟨H1,I1,q1⟩=>?_);cases c with
 |true=>exact hb wh pins s1 σ H1 Q I1 q1
 |false=>exact⟨H1,I1,q1⟩
theorem qWs(ha:PT X a tA)(hb:PW X (.BoolOp .Or (b :: rest) pos) tB'):PW X (.BoolOp .Or (a :: b :: rest) pos) (tOr tA tB'):=by
 intro wh pins s σ H Q I h;refine isTrue_or (thn (ha pins s σ H _ I h) fun c s1 ⟨H1,I1,q1⟩=>?_);cases c with
 |true=>exact⟨H1,I1,q1⟩
 |false=>exact hb wh pins s1 σ H1 Q I1 q1
theorem qI7(ha:PT X a tA):PT X (.UnaryOp .Not a pos) (zC4 tA):=by
 intro pins s σ H Q I h;exact isTrue_not (ha pins s σ H (fun c H1=>Q (!c) H1) I h)
def zBc(ta tb:TE):TE:=fun σ H Q=>ta σ H fun x H1=>∃c,x = .bl c/\if c=true then tb σ H1 Q else Q (.bl false) H1
theorem qZj{op}(h:PE X a t):PE X (.BoolOp op [a] pos) t:=fun pins s σ H Q I hw=>BoolOp_one (h pins s σ H Q I hw)
theorem qZl(ha:PE X a ta)(hb:PE X (.BoolOp .And (b :: rest) pos) tb):PE X (.BoolOp .And (a :: b :: rest) pos) (zBc ta tb):=by
 intro pins s σ H Q I h;refine BoolOp_and (thn (ha pins s σ H _ I h) fun v s1 ⟨x,H1,I1,r1,q1⟩=>?_);obtain⟨c,rfl,q1⟩:=q1;cases r1;refine wpAny_truthy_bool ?_;cases c with
 |true=>exact hb pins s1 σ H1 Q I1 q1
 |false=>exact⟨.bl false,H1,I1,rfl,q1⟩
def tIf(t:TT)(ta tb:TE):TE:=fun σ H Q=>t σ H fun c H1=>if c=true then ta σ H1 Q else tb σ H1 Q
theorem qTd(hc:PT X c tA)(ha:PE X a ta)(hb:PE X b tb):PE X (.IfExp c a b pos) (tIf tA ta tb):=by
 intro pins s σ H Q I h;refine wpAny_IfExp (thn (hc pins s σ H _ I h) fun d s1 ⟨H1,I1,q1⟩=>?_);cases d with
 |true=>exact ha pins s1 σ H1 Q I1 q1
 |false=>exact hb pins s1 σ H1 Q I1 q1
end
def SqL(K:PySem.W.Frag)(H:Hp)(a:Addr)(xs:List V):Prop :=
 Rd H a (.lst xs) \/
  ∃(o:Obj) (its:Array Value) (n:Nat),K.lookup a=some o/\o.cls = .type "list"/\o.dict=none/\o.data = .seq its n/\its.size<=sizeLine/\qA7 xs its.toList
def SqT(K:PySem.W.Frag)(H:Hp)(a:Addr)(xs:List V):Prop :=
 Rd H a (.tup xs) \/
  ∃(o:Obj) (its:Array Value) (n:Nat),K.lookup a=some o/\o.cls = .type "tuple"/\o.data = .seq its n/\its.size<=sizeLine/\qA7 xs its.toList
noncomputable def zDm:Value->Option V
 |.none=>some .non
 |.bool b=>some (.bl b)
 |.int i _=>some (.int i)
 |.str x _=>some (.str x)
 |.bytes b _=>some (.byt b)
 |.float b _=>some (.flt b)
 |.ref a=>some (.ref a)
 |.type n=>some (.ty n)
 |_=>none
theorem qBq.abs(r:qBq x u):zDm u=some x:=by
 cases x with
 |non=>cases r;rfl
 |bl _=>cases r;rfl
 |int _=>obtain⟨t,rfl⟩:=r;rfl
 |str _=>obtain⟨t,rfl⟩:=r;rfl
 |byt _=>obtain⟨t,rfl⟩:=r;rfl
 |flt _=>obtain⟨t,rfl⟩:=r;rfl
 |ref _=>cases r;rfl
 |ty _=>cases r;rfl
theorem qBq.inj(r:qBq x u)(q:qBq y u):x=y:=hAt (r.abs.symm.trans q.abs)
theorem qA7.inj:∀ {xs ys:List V} {us:List Value},qA7 xs us->qA7 ys us->xs=ys
 |_,_,_,.nil,.nil=>rfl
 |_,_,_,.cons r t,.cons r' t'=>by rw[r.inj r',qA7.inj t t']
section
variable{X:Cx}{pins:List (Addr×Obj)}{σ:St}{H:Hp}{s:Shared}{a:Addr}{xs ys:List V}
theorem SqL.of{K:PySem.W.Frag}(h:H a=some (.lst xs)):SqL K H a xs:=.inl (.inl h)
theorem SqT.of{K:PySem.W.Frag}(h:H a=some (.tup xs)):SqT K H a xs:=.inl (.inl h)
theorem Inv.list(I:Inv X pins σ H s)(h:SqL X.K H a xs):∃its:List Value,qA7 xs its/\PlainL s.heap a its.toArray/\xs.length<=sizeLine:=by
 rcases h with h|⟨o,its,n,hk,hc,hd,hs,hz,r⟩
 ·obtain⟨z,its,n,r,e⟩:=h.ok I.hok;exact⟨its,r,⟨_,n,e,rfl,rfl,rfl⟩,z⟩
 ·refine⟨its.toList,r,⟨o,n,I.kIn a o hk,hc,hd,by simpa using hs⟩,?_⟩;have e:=r.length;simp only[hB3]at e;omega
theorem Inv.tuple(I:Inv X pins σ H s)(h:SqT X.K H a xs):∃its:List Value,qA7 xs its/\IsTup s.heap a its.toArray/\xs.length<=sizeLine:=by
 rcases h with h|⟨o,its,n,hk,hc,hs,hz,r⟩
 ·obtain⟨z,its,r,p⟩:=h.ok I.hok;exact⟨its,r,p,z⟩
 ·refine⟨its.toList,r,⟨o,I.kIn a o hk,hc,n,by simpa using hs⟩,?_⟩;have e:=r.length;simp only[hB3]at e;omega
theorem Inv.list_inj(I:Inv X pins σ H s)(h:SqL X.K H a xs)(h':SqL X.K H a ys):xs=ys:=by
 obtain⟨its,r,⟨o,n,e,_,_,d⟩,_⟩:=I.list h;obtain⟨its',r',⟨o',n',e',_,_,d'⟩,_⟩:=I.list h';rw[e]at e';cases e';rw[d]at d';injection d' with d1 _
 have:its=its':=by simpa using congrArg Array.toList d1
 subst this;exact r.inj r'
end
noncomputable abbrev Cx.wish(X:Cx)(E:Value->Shared->Prop):Cx:={ X with xe:=E }
noncomputable abbrev Cx.nox(X:Cx):Cx:=X.wish fun _ _=>False
theorem Cx.Ok.wish{X:Cx}(ok:X.Ok)(E:Value->Shared->Prop):(X.wish E).Ok :=
 ⟨ok.mod,ok.kind,ok.glob,ok.blt,ok.above,ok.inj,ok.has,ok.cab,ok.hd,ok.frames,ok.stk,ok.exf,ok.bs,ok.bsz,ok.noex,ok.exfs,ok.funs,ok.frf⟩
theorem Cx.Ok.unwish{X:Cx}{E:Value->Shared->Prop}(ok:(X.wish E).Ok):X.Ok :=
 ⟨ok.mod,ok.kind,ok.glob,ok.blt,ok.above,ok.inj,ok.has,ok.cab,ok.hd,ok.frames,ok.stk,ok.exf,ok.bs,ok.bsz,ok.noex,ok.exfs,ok.funs,ok.frf⟩
section
variable{X:Cx}{pins:List (Addr×Obj)}{σ:St}{H:Hp}{s:Shared}{E:Value->Shared->Prop}
theorem Inv.wish(I:Inv X pins σ H s)(E:Value->Shared->Prop):Inv (X.wish E) pins σ H s:=⟨I.ok.wish E,I.os,I.bare,I.base,I.loc,I.cell,I.free,I.freeC,I.pin,I.hok,I.len⟩
theorem Inv.unwish(I:Inv (X.wish E) pins σ H s):Inv X pins σ H s:=⟨I.ok.unwish,I.os,I.bare,I.base,I.loc,I.cell,I.free,I.freeC,I.pin,I.hok,I.len⟩
theorem SP.unwish(h:SP (X.wish E) pins D f s'):SP X pins D f s':=by
 cases f with
 |next=>obtain⟨σ',H',I,q⟩:=h;exact⟨σ',H',I.unwish,q⟩
 |brk=>obtain⟨σ',H',I,q⟩:=h;exact⟨σ',H',I.unwish,q⟩
 |cont=>obtain⟨σ',H',I,q⟩:=h;exact⟨σ',H',I.unwish,q⟩
 |ret u=>obtain⟨v,σ',H',I,r,q⟩:=h;exact⟨v,σ',H',I.unwish,r,q⟩
theorem PSs.nox{st:List Stmt}{t:TS}(h:PSs X.nox st t):PSs X st t:=fun pins s σ H D I hw =>
 wpAny_mono (h pins s σ H D (I.wish _) hw) (fun _ _ q=>q.unwish) fun _ _ z=>False.elim z
end
section
variable{X:Cx}{st:Stmt}{rest:List Stmt}{t u:TS}{e:Expr}{te:TE}{pos:Pos}
def zA9:TS:=fun D σ H=>D.nx σ H
def zC2(t u:TS):TS:=fun D σ H=>t { D with nx:=u D } σ H
theorem qA4:PSs X [] zA9:=fun _ _ σ H _ I h=>wpAny_execs_nil ⟨σ,H,I,h⟩
theorem qAc(h1:PS X st t)(h2:PSs X rest u):PSs X (st :: rest) (zC2 t u):=by
 intro pins s σ H D I h;refine wpAny_execs_cons (thn (h1 pins s σ H { D with nx:=u D } I h) fun f s1 q=>?_);cases f with
 |next =>
  obtain⟨σ',H',I',q⟩:=q;exact h2 pins s1 σ' H' D I' q
 |ret v=>exact q
 |brk=>exact q
 |cont=>exact q
theorem qAf(h1:PS X st t):PSs X [st] t:=by
 intro pins s σ H D I h;refine wpAny_execs_cons (thn (h1 pins s σ H D I h) fun f s1 q=>?_);cases f with
 |next=>exact wpAny_execs_nil q
 |ret v=>exact q
 |brk=>exact q
 |cont=>exact q
theorem Inv.quiet(I:Inv X pins σ H s):interactive X.env=false:=by simp[interactive,I.ok.kind]
def zBa(te:TE):TS:=fun D σ H=>te σ H fun _ H1=>D.nx σ H1
theorem qC3(he:PE X e te)(hs:swapsWith e none pos.line X.env=pure false:=by rfl):PS X (.Expr e pos) (zBa te):=by
 intro pins s σ H D I h;exact wpAny_Expr_any (thn (he pins s σ H _ I h) fun v s1 ⟨x,H1,I1,r1,q1⟩=>⟨σ,H1,I1,q1⟩) I.quiet hs
def zC3(te:TE):TS:=fun D σ H=>te σ H D.rt
theorem qAv(he:PE X e te):PS X (.Return (some e) pos) (zC3 te):=by
 intro pins s σ H D I h;exact wpAny_Return_some (thn (he pins s σ H _ I h) fun v s1 ⟨x,H1,I1,r1,q1⟩=>⟨x,σ,H1,I1,r1,q1⟩)
def zC5(c:TT)(t u:TS):TS:=fun D σ H=>c σ H fun b H1=>if b=true then t D σ H1 else u D σ H1
theorem qB2(hc:PT X c tc)(ha:PSs X a t)(hb:PSs X b u):PS X (.If c a b pos) (zC5 tc t u):=by
 intro pins s σ H D I h;refine wpAny_If (thn (hc pins s σ H _ I h) fun d s1 ⟨H1,I1,q1⟩=>?_);cases d with
 |true=>exact ha pins s1 σ H1 D I1 q1
 |false=>exact hb pins s1 σ H1 D I1 q1
def qYj:TS:=fun _ _ _=>False
theorem qTc:PS X st qYj:=fun _ _ _ _ _ _ h=>h.elim
end
abbrev TG:=V->St->Hp->(St->Hp->Prop)->Prop
abbrev TGs:=List V->St->Hp->(St->Hp->Prop)->Prop
def PG(X:Cx)(target:Expr)(t:TG):Prop :=
 ∀(pins:List (Addr×Obj)) (s:Shared) (σ:St) (H:Hp) (v:V) (u:Value) (Q:St->Hp->Prop),Inv X pins σ H s->qBq v u->t v σ H Q ->
  wpAny (model X.prog X.w) X.A (assign target X.env u) (fun _ s'=>∃σ' H',Inv X pins σ' H' s'/\Q σ' H') X.xe s
def PGs(X:Cx)(ts:List Expr)(t:TGs):Prop :=
 ∀(pins:List (Addr×Obj)) (s:Shared) (σ:St) (H:Hp) (vs:List V) (us:List Value) (Q:St->Hp->Prop),Inv X pins σ H s->qA7 vs us->t vs σ H Q ->
  wpAny (model X.prog X.w) X.A (assignInOrder ((assignEach ts X.env).map (·.2)) us) (fun _ s'=>∃σ' H',Inv X pins σ' H' s'/\Q σ' H') X.xe s
abbrev zCy:=V->V->V->Hp->(Hp->Prop)->Prop
def zCz(X:Cx)(t:zCy):Prop :=
 ∀(pins:List (Addr×Obj)) (s:Shared) (σ:St) (H:Hp) (o i v:V) (ov iv u:Value) (Q:Hp->Prop),Inv X pins σ H s->qBq o ov->qBq i iv->qBq v u->t o i v H Q ->
  wpAny (model X.prog X.w) X.A (setItem ov iv u) (fun _ s'=>∃H',Inv X pins σ H' s'/\Q H') X.xe s
section
variable{X:Cx}{pos:Pos}
def qQ6(i:Nat):TG:=fun v σ H Q=>Q (σ.set i (some v)) H
theorem qAh(hN:X.N.Nodup)(hi:X.N[i]?=some x)(hx:Loc X.env.scope x)(hf:X.fn x=true\/X.env.scope.names.lookup x=some .local:=by first|exact .inl rfl|exact .inr rfl|assumption):PG X (.Name x pos) (qQ6 i):=by
 intro pins s σ H v u Q I r h;exact wpAny_assign_Name (qLt I hN hi hx r (fun s' I'=>⟨_,H,I',h⟩) hf)
def zDl:TGs:=fun vs σ H Q=>vs=[]/\Q σ H
def zCe(t:TG)(u:TGs):TGs:=fun vs σ H Q=>∃v r,vs=v :: r/\t v σ H fun σ' H'=>u r σ' H' Q
theorem qD3:PGs X [] zDl:=by
 intro pins s σ H vs us Q I r h;obtain⟨e,h⟩:=h;subst e;cases r;exact assignInOrder_nil ⟨σ,H,I,h⟩
theorem qBf(h1:PG X e t)(h2:PGs X es u)
  (hs:(assignEach (e :: es) X.env).map (·.2)=assign e X.env :: (assignEach es X.env).map (·.2):=by rfl):PGs X (e :: es) (zCe t u):=by
 intro pins s σ H vs us Q I r h;obtain⟨v,vr,e1,h⟩:=h;subst e1;cases r with
 |cons r rr =>
  rw[hs];refine assignInOrder_cons (thn (h1 pins s σ H _ _ _ I r h) fun _ s1 ⟨σ1,H1,I1,q1⟩=>?_);exact h2 pins s1 σ1 H1 _ _ Q I1 rr q1
def zA1(K:PySem.W.Frag)(n:Nat)(t:TGs):TG:=fun v σ H Q=>∃a xs,v = .ref a/\SqT K H a xs/\xs.length=n/\t xs σ H Q
theorem qGm(hc:X.calm=true)(h:PGs X es t)
  (hn:(assignEach es X.env).length=n:=by rfl) (hst:(assignEach es X.env).findIdx? (·.1)=none:=by rfl):PG X (.Tuple es k pos) (zA1 X.K n t):=by
 intro pins s σ H v u Q I r hw;obtain⟨a,xs,e1,hq,hl,hw⟩:=hw;subst e1;cases r;obtain⟨its,rv,ht,hz⟩:=I.tuple hq;refine assign_Tuple_tuple (I.ok.hd hc) ht (by simp[hn,<-hl,rv.length]) hst fun h' hx=>?_
 have I1:Inv X pins σ H { s with heap:=h' }:=I.kept (t':=s.toks) fun b o e=>hx b o (hAn (Heap.lt_size e)) e
 exact h pins _ σ H xs _ Q I1 (by simpa using rv) hw
def zDk(to ti:TE)(t:zCy):TG:=fun v σ H Q=>to σ H fun o H1=>ti σ H1 fun i H2=>t o i v H2 fun H3=>Q σ H3
theorem qQb(ho:PE X o to)(hi:PE X i ti)(hs:zCz X t)
  (ha:∀v,assign (.Subscript o i pos) X.env v=(do
   let ov ← holding [v] (eval o X.env)
   let iv ← holding [v,ov] (eval i X.env)
   standAt pos
   holding [v,ov,iv] (setItem ov iv v)
   release [v,ov,iv] []):=by intro _;rfl):PG X (.Subscript o i pos) (zDk to ti t):=by
 intro pins s σ H v u Q I r h;rw[ha];refine wpAny_bind (wpAny_holding (thn (ho pins s σ H _ I h) fun ov s1 ⟨x,H1,I1,r1,q1⟩=>?_));refine wpAny_bind (wpAny_holding (thn (hi pins s1 σ H1 _ I1 q1) fun iv s2 ⟨y,H2,I2,r2,q2⟩=>?_));refine wpAny_bind (wpAny_standAt (wpAny_bind (wpAny_holding (thn (hs pins s2 σ H2 x y v ov iv u _ I2 r1 r2 r q2) fun _ s3 ⟨H3,I3,q3⟩=>?_))));exact wpAny_release ⟨σ,H3,I3,q3⟩
def qYo(te:TE)(g:TG):TS:=fun D σ H=>te σ H fun x H1=>g x σ H1 D.nx
theorem qI8(he:PE X e te)(hg:PG X tg g)(hs:swapsWithSole [tg] e pos.line X.env=pure false:=by rfl)(hw:swappedStores [tg] e X.env=pure none:=by rfl)
  (h1:(assignEach [tg] X.env).map (·.2)=[assign tg X.env]:=by rfl):PS X (.Assign [tg] e pos) (qYo te g):=by
 intro pins s σ H D I h;refine wpAny_Assign_stores (thn (he pins s σ H _ I h) fun v s1 ⟨x,H1,I1,r1,q1⟩=>?_) hs hw;rw[h1];exact thn (hg pins s1 σ H1 x v _ I1 r1 q1) fun _ s2 q=>q
theorem qAl(hN:X.N.Nodup)(hi:X.N[i]?=some x)(hx:Loc X.env.scope x)(he:PE X e te)(hs:swapsWith e (some (.Name x pos')) pos.line X.env=pure false:=by rfl)(hf:X.fn x=true\/X.env.scope.names.lookup x=some .local:=by first|exact .inl rfl|exact .inr rfl|assumption) :
  PS X (.Assign [.Name x pos'] e pos) (qYo te (qQ6 i)):=by
 intro pins s σ H D I h;refine wpAny_Assign_Name (thn (he pins s σ H _ I h) fun v s1 ⟨y,H1,I1,r1,q1⟩=>?_) hs;exact qLt I1 hN hi hx r1 (fun s2 I2=>⟨_,H1,I2,q1⟩) hf
end
section
variable{X:Cx}{pos:Pos}
def qYh(c:TT)(tb:TS):TS:=fun D σ H=>∃W:Nat->St->Hp->Prop,(∃m,W m σ H)/\∀m σ H,W m σ H ->
 c σ H fun b H1=>if b=true then ∃N:St->Hp->Prop,(∀σ' H',N σ' H'->∃m',m'<m/\W m' σ' H')/\tb { D with nx:=N,ct:=N,bk:=D.nx } σ H1 else D.nx σ H1
theorem qIa(hp:PassesOwn (model X.prog X.w) X.A X.env X.xe)(hc:PT X c tc)(hb:PSs X body tb):PS X (.While c body [] pos) (qYh tc tb):=by
 intro pins s σ H D I h;obtain⟨W,⟨m0,w0⟩,turn⟩:=h;refine wpAny_While (codeAny_whileLoop (fun n s'=>∃σ' H',Inv X pins σ' H' s'/\W n σ' H') ?_ m0 ⟨σ,H,I,w0⟩);rintro n s1 ⟨σ1,H1,I1,w1⟩;refine wpAny_passesOwn hp (thn (hc pins s1 σ1 H1 _ I1 (turn n σ1 H1 w1)) fun b s2 ⟨H2,I2,q2⟩=>?_);cases b with
 |true =>
  obtain⟨N,hN,q2⟩:=q2;rw[if_pos rfl];refine wpAny_passesOwn hp (thn (hb pins s2 σ1 H2 _ I2 q2) fun f s3 q3=>?_);cases f with
  |next =>
   obtain⟨σ3,H3,I3,n3⟩:=q3;obtain⟨m',hm,w3⟩:=hN σ3 H3 n3;exact⟨m',hm,σ3,H3,I3,w3⟩
  |cont =>
   obtain⟨σ3,H3,I3,n3⟩:=q3;obtain⟨m',hm,w3⟩:=hN σ3 H3 n3;exact⟨m',hm,σ3,H3,I3,w3⟩
  |brk=>exact q3
  |ret v=>exact q3
 |false =>
  rw[if_neg hAx];exact wpAny_execs_nil ⟨σ1,H2,I2,q2⟩
end
structure It where
 go:Nat->Hp->Prop
 yld:Nat->Hp->V->Hp->Prop
 stop:Nat->Hp->Prop
def qOd(X:Cx)(pins:List (Addr×Obj))(H:Hp)(b:Addr):Prop :=
 H b=none/\b≠X.env.locals/\b∉X.fs/\(b∈X.ex\/X.s₀.heap.objs.size<=b)/\(∀x c,X.env.cells.lookup x=some c->c≠b)/\∀p∈X.pn++pins,p.1≠b
theorem Inv.fpOk(I:Inv X pins σ H s)(hb:s.heap.objs.size<=b)(hn:H' b=none):qOd X pins H' b:=by
 refine⟨hn,hCo (hAm I.lt hb),I.nofs hb,.inr (hB2 I.sz hb),fun x c e z=>?_,fun p hp z=>?_⟩
 ·obtain⟨v,q⟩:=I.cell x c e;exact absurd (hAm q.lt (by rw[z];exact hb)) (hD4 _)
 ·exact absurd (hAm (Heap.lt_size (I.pin p hp).1) (by rw[z];exact hb)) (hD4 _)
structure Turn(P:Program)(w:World)(K:PySem.W.Frag)(tg:Expr)(J:It)(fp:List Addr)(it:Addr)(tn:Nat->Heap->Prop):Prop where
 mem:it∈fp
 obj:∀i h,tn i h->∀b∈fp,∃o,h.get? b=some o/\∀v,o.data≠.cell v
 keep:∀i h h',tn i h->(∀b∈fp,∀o,h.get? b=some o->h'.get? b=some o)->tn i h'
 item:∀(X:Cx),X.prog=P->X.w=w->X.K=K->X.calm=true->∀(i:Nat) (pins:List (Addr×Obj)) (s:Shared) (σ:St) (H:Hp) (E:Value->Shared->Prop),Inv X pins σ H s->(∀b∈fp,qOd X pins H b)->tn i s.heap->J.go i H ->
  wpAny (model P w) X.A (pyNext (.ref it)) (fun r s1=>∃u,r=some u /\
   wpAny (model P w) X.A (letOwnedTupleGo tg (.ref it) u) (fun _ s2=>∃x H',Inv X pins σ H' s2/\qBq x u/\J.yld i H x H'/\tn (i+1) s2.heap/\∀b∈fp,H' b=none) E s1) E s
 done:∀(X:Cx),X.prog=P->X.w=w->X.K=K->X.calm=true->∀(i:Nat) (pins:List (Addr×Obj)) (s:Shared) (σ:St) (H:Hp) (E:Value->Shared->Prop),Inv X pins σ H s->(∀b∈fp,qOd X pins H b)->tn i s.heap->J.stop i H ->
  wpAny (model P w) X.A (pyNext (.ref it)) (fun r s1=>r=none/\Inv X pins σ H s1) E s
 self:∀(A:Around) (i:Nat) (s:Shared) (Q:Value->Shared->Prop) (E:Value->Shared->Prop),tn i s.heap->Q (.ref it) s->wpAny (model P w) A (pyIter (.ref it)) Q E s
abbrev TI:=St->Hp->(It->Hp->Prop)->Prop
def PIE(X:Cx)(pins:List (Addr×Obj))(σ:St)(tg:Expr)(R:It->Hp->Prop)(itv:Value)(s2:Shared):Prop :=
 ∃(it:Addr) (fp:List Addr) (tn:Nat->Heap->Prop) (J:It) (H':Hp),itv = .ref it/\Inv X pins σ H' s2/\Turn X.prog X.w X.K tg J fp it tn/\tn 0 s2.heap/\(∀b∈fp,qOd X pins H' b)/\R J H'
def PI(X:Cx)(tg iter:Expr)(wi:TI):Prop :=
 ∀(pins:List (Addr×Obj)) (s:Shared) (σ:St) (H:Hp) (R:It->Hp->Prop),Inv X pins σ H s->wi σ H R ->
  wpAny (model X.prog X.w) X.A (eval iter X.env) (fun v s1=>wpAny (model X.prog X.w) X.A (pyIter v) (PIE X pins σ tg R) X.xe s1) X.xe s
theorem qXq(ho:s.heap.get? it=some o)(hc:o.cls = .type n)(hd:o.data = .fields vs)
  (hn:["enumerate","zip","dict_itemiterator","dict_reverseitemiterator","odict_iterator","itertools.zip_longest","itertools.pairwise"].contains n=false) (hQ:Q () s):wpAny M A (letOwnedTupleGo tg (.ref it) u) Q E s:=by
 unfold letOwnedTupleGo;cases tg <;> first
  |exact wpAny_pure hQ
  |(cases u <;> first
    |exact wpAny_pure hQ
    |(refine wpAny_bind (wpAny_load ho ?_);rw[hc,hd];show wpAny M A (if (["enumerate","zip","dict_itemiterator","dict_reverseitemiterator","odict_iterator","itertools.zip_longest","itertools.pairwise"].contains n && vs[0]? == some (rawInt _))=true then _ else _) Q E s;rw[if_neg (by intro h;rw[hn,Bool.false_and]at h;cases h)];exact wpAny_pure hQ))
noncomputable def Itl(K:PySem.W.Frag)(a:Addr):It :=
 ⟨fun i H=>∃xs x,SqL K H a xs/\xs[i]?=some x,fun i H x H'=>H'=H/\∀xs,SqL K H a xs->xs[i]?=some x,fun i H=>∃xs,SqL K H a xs/\xs.length<=i⟩
noncomputable def Itr(lo:Int)(n:Nat):It:=⟨fun i _=>i<n,fun i H x H'=>H'=H/\x = .int (lo+i),fun i _=>n<=i⟩
theorem qOk{P:Program}{w:World}{K:PySem.W.Frag}{tg:Expr}(a it:Addr):Turn P w K tg (Itl K a) [it] it (fun i h=>h.IsListIter it a i) where
 mem:=by simp
 obj:=fun i h st b hb=>by
  have e:b=it:=by simpa using hb
  subst e;obtain⟨o,e,c,d⟩:=st;exact⟨o,e,fun v z=>by rw[d]at z;cases z⟩
 keep:=fun i h h' st k=>st.at fun o e=>k it (by simp) o e
 item:=by
  intro X hP hw hK hc i pins s σ H E I hf st hg;subst hP hw hK;obtain⟨xs,x,hq,hx⟩:=hg;obtain⟨its,rv,p,hz⟩:=I.list hq;obtain⟨u,hu,ru⟩:=rv.get hx;obtain⟨f0,f1,f2,f3,f4,f5⟩:=hf it (by simp);refine wpAny_pyNext_list_item st p.isList (x:=u) (by simpa using hu) fun h' st' sb=>?_
  have I1:Inv X pins σ H { s with heap:=h' }:=I.turned (t':=s.toks) (fun b o hb e=>(sb.2 b hb).trans e) f0 f1 f3 f4 f5;obtain⟨o,e,c,d⟩:=id st';exact⟨u,rfl,qXq (s:={ s with heap:=h' }) e c d (by decide) ⟨x,H,I1,ru,⟨rfl,fun ys hy=>by rw[I.list_inj hy hq];exact hx⟩,st',fun b hb=>(hf b hb).1⟩⟩
 done:=by
  intro X hP hw hK hc i pins s σ H E I hf st hg;subst hP hw hK;obtain⟨xs,hq,hx⟩:=hg;obtain⟨its,rv,p,hz⟩:=I.list hq;obtain⟨f0,f1,f2,f3,f4,f5⟩:=hf it (by simp);have hl:=rv.length;exact wpAny_pyNext_list_end (I.ok.hd hc) st p.isList (by simp;omega) fun h' eb=>⟨rfl,I.turned (t':=s.toks) (fun b o hb e=>eb b o hb e) f0 f1 f3 f4 f5⟩
 self:=fun _ _ _ _ _ st h=>wpAny_pyIter_listiter st h
theorem qNn{P:Program}{w:World}{K:PySem.W.Frag}{tg:Expr}(it:Addr)(lo:Int)(n:Nat):Turn P w K tg (Itr lo n) [it] it (fun i h=>IsRangeIter h it (lo+(i:Nat)*1) ((n:Int) - (i:Nat)) 1) where
 mem:=by simp
 obj:=fun i h st b hb=>by
  have e:b=it:=by simpa using hb
  subst e;exact⟨_,st,fun v z=>by
   have z':Data.fields _=Data.cell v:=z;cases z'⟩
 keep:=fun i h h' st k=>k it (by simp) _ st
 item:=by
  intro X hP hw hK hc i pins s σ H E I hf st hg;subst hP hw hK;obtain⟨f0,f1,f2,f3,f4,f5⟩:=hf it (by simp);have W:=Walks.range (prog:=X.prog) (w:=X.w) (I.ok.hd hc) it lo 1 n;refine W.item i s _ _ hg st fun v h' tk hv st' kk=>?_
  obtain⟨t,rfl⟩:=hv;have I1:Inv X pins σ H { s with heap:=h',toks:=tk }:=I.turned (fun b o hb e=>kk b o (by simpa using hb) e) f0 f1 f3 f4 f5;refine⟨_,rfl,qXq (s:={ s with heap:=h',toks:=tk }) (n:="range_iterator") st' rfl rfl (by decide) ⟨.int (lo+i),H,I1,⟨t,?_⟩,⟨rfl,rfl⟩,st',fun b hb=>(hf b hb).1⟩⟩;rw[Int.mul_one]
 done:=by
  intro X hP hw hK hc i pins s σ H E I hf st hg;subst hP hw hK;obtain⟨f0,f1,f2,f3,f4,f5⟩:=hf it (by simp);exact wpAny_pyNext_range_end (I.ok.hd hc) st (by have:n<=i:=hg;omega) fun h' eb=>⟨rfl,I.turned (t':=s.toks) (fun b o hb e=>eb b o hb e) f0 f1 f3 f4 f5⟩
 self:=fun _ _ _ _ _ st h=>wpAny_pyIter_rangeiter st h
section
variable{X:Cx}{tg:Expr}
def qXp(K:PySem.W.Frag)(tl:TE):TI:=fun σ H R=>tl σ H fun x H1=>∃a,x = .ref a/\(∃xs,SqL K H1 a xs)/\R (Itl K a) H1
theorem qAq{l:Expr}{tl:TE}(hl:PE X l tl):PI X tg l (qXp X.K tl):=by
 intro pins s σ H R I h;refine thn (hl pins s σ H _ I h) fun v s1 ⟨x,H1,I1,r1,q1⟩=>?_
 obtain⟨a,e,⟨xs,hq⟩,q⟩:=q1;subst e;cases r1;obtain⟨its,rv,p,hz⟩:=I1.list hq;refine wpAny_pyIter_list p.isList ?_;refine⟨s1.heap.objs.size,[s1.heap.objs.size],_,_,H1,rfl,I1.kept (t':=s1.toks) fun b o e=>Heap.get?_push_of_some _ e,qOk a _,⟨_,Heap.get?_push_size _ rfl,rfl,rfl⟩,fun b hb=>?_,q⟩;have e:b=s1.heap.objs.size:=by simpa using hb
 subst e;exact I1.fpOk (hA6 _) (I1.hok.fresh (hA6 _))
theorem qMk{pins:List (Addr×Obj)}{σ:St}{H:Hp}{s:Shared}{R:It->Hp->Prop}{E:Value->Shared->Prop}{lo hi:Int}{t u v:Tok}{tk:Nat}(I:Inv X pins σ H s)(h1:-(2^62)<=lo)(h2:lo<2^62)(h3:-(2^62)<=hi)(h4:hi<2^62)
  (q:R (Itr lo (hi - lo).toNat) H):wpAny (model X.prog X.w) X.A (pyIter (.ref s.heap.objs.size)) (PIE X pins σ tg R) E { s with heap:=s.heap.push { cls:=.type "range",data:=.fields #[.int lo t,.int hi u,.int 1 v] },toks:=tk }:=by
 refine wpAny_pyIter_range (IsRange.new ..) (small_one h1 h2 h3 h4) ?_;have I1:Inv X pins σ H { s with heap:=s.heap.push { cls:=.type "range",data:=.fields #[.int lo t,.int hi u,.int 1 v] },toks:=tk }:=I.kept fun b o e=>Heap.get?_push_of_some _ e
 refine⟨(s.heap.push { cls:=.type "range",data:=.fields #[.int lo t,.int hi u,.int 1 v] }).objs.size,[(s.heap.push { cls:=.type "range",data:=.fields #[.int lo t,.int hi u,.int 1 v] }).objs.size],_,_,H,rfl,
  I1.kept (t':=tk) fun b o e=>Heap.get?_push_of_some _ e,qNn _ lo (hi - lo).toNat,?_,fun b hb=>?_,q⟩
 ·have e1:lo+((0:Nat):Int)*1=lo:=by simp
  have e2:(((hi - lo).toNat:Nat):Int) - ((0:Nat):Int)=Builtin.Range.rangeSize lo hi 1:=by rw[rangeSize_one];split <;> omega
  show IsRangeIter _ _ (lo+((0:Nat):Int)*1) ((((hi - lo).toNat:Nat):Int) - ((0:Nat):Int)) 1;rw[e1,e2];exact Heap.get?_push_size _ rfl
 ·have e:b=(s.heap.push { cls:=.type "range",data:=.fields #[.int lo t,.int hi u,.int 1 v] }).objs.size:=by simpa using hb
  subst e;exact I1.fpOk (hA6 _) (I1.hok.fresh (hA6 _))
def zCa(ta:TA):TI:=fun σ H R=>ta σ H fun vs H1=>∃j:Int,vs=[.int j]/\-(2^62)<=j/\j<2^62/\R (Itr 0 j.toNat) H1
def zB9(ta:TA):TI:=fun σ H R=>ta σ H fun vs H1=>∃i j:Int,vs=[.int i,.int j]/\(-(2^62)<=i/\i<2^62/\-(2^62)<=j/\j<2^62)/\R (Itr i (j - i).toNat) H1
theorem qAw{a:Expr}{ta:TA}{p pos:Pos}(hg:Gl X "range")(hm:X.mg "range" = none)(ha:PA X [a] ta)(hs:starEach [a] X.env=[(false,eval a X.env)]:=by rfl):PI X tg (.Call (.Name "range" p) [a] [] pos) (zCa ta):=by
 intro pins s σ H R I h;refine Call_ (qEt I hg hm boot_range (hD9 (thn (ha pos pins s σ H _ I h) fun us s1 ⟨vs,H1,I1,r1,q1⟩=>?_) hs rfl));obtain⟨j,e,q1,q2,q⟩:=q1;subst e;cases r1 with
 |cons r rr =>
  cases rr;obtain⟨t,rfl⟩:=r;exact call_range_1 (qMk I1 (by omega) (by omega) q1 q2 (by simpa using q))
theorem qI9(hg:Gl X "range")(hm:X.mg "range" = none)(ha:PA X [a,b] ta)(hs:starEach [a,b] X.env=[(false,eval a X.env),(false,eval b X.env)]:=by rfl)(hs2:starEach [b] X.env=[(false,eval b X.env)]:=by rfl) :
  PI X tg (.Call (.Name "range" p) [a,b] [] pos) (zB9 ta):=by
 intro pins s σ H R I h;refine Call_ (qEt I hg hm boot_range (hD9 (thn (ha pos pins s σ H _ I h) fun us s1 ⟨vs,H1,I1,r1,q1⟩=>?_) (by rw[hs,hs2]) (by rw[hs2];rfl)));obtain⟨i,j,e,⟨q1,q2,q3,q4⟩,q⟩:=q1;subst e;cases r1 with
 |cons r rr =>
  cases rr with
  |cons r' rr =>
   cases rr;obtain⟨t,rfl⟩:=r;obtain⟨t',rfl⟩:=r';exact call_range_2 (qMk I1 q1 q2 q3 q4 q)
def zC6(wi:TI)(g:TG)(tb:TS):TS:=fun D σ H=>wi σ H fun J H1=>∃W:Nat->Nat->St->Hp->Prop,(∃m,W 0 m σ H1)/\∀i m σ H,W i m σ H ->
 (J.stop i H/\D.nx σ H)\/(J.go i H/\∃N:St->Hp->Prop,(∀σ' H',N σ' H'->∃m',m'<m/\W (i+1) m' σ' H')/\∀x H',J.yld i H x H'->g x σ H' fun σ2 H2=>tb { D with nx:=N,ct:=N,bk:=D.nx } σ2 H2)
noncomputable def qHf(fp:List Addr)(h:Heap):List (Addr×Obj):=fp.filterMap fun b=>(h.get? b).map fun o=>(b,o)
theorem qCf(hb:b∈fp)(e:h.get? b=some o):(b,o)∈qHf fp h:=hDd.mpr ⟨b,hb,by rw[e];rfl⟩
theorem qQi(hp:p∈qHf fp h):p.1∈fp/\h.get? p.1=some p.2:=by
 obtain⟨b,hb,e⟩:=hDd.mp hp;cases q:h.get? b with
 |none=>rw[q]at e;cases e
 |some o =>
  rw[q]at e;have e':(b,o)=p:=hAt e;subst e';exact⟨hb,q⟩
theorem Inv.pinned(I:Inv X pins σ H s)(hf:∀b∈fp,qOd X pins H b)(ho:∀b∈fp,∃o,s.heap.get? b=some o/\∀v,o.data≠.cell v):Inv X (pins++qHf fp s.heap) σ H s :=
 I.pins_of fun p hp=>(hAh.mp hp).elim (fun z=>I.pin p (hAa _ z)) fun z=>by
  obtain⟨hb,e⟩:=qQi z;obtain⟨f0,f1,f2,_⟩:=hf p.1 hb;obtain⟨o,e',d⟩:=ho p.1 hb;rw[e]at e';cases e';exact⟨e,f0,f1,f2,d⟩
theorem Inv.unpinned(I:Inv X (pins++pl) σ H s):Inv X pins σ H s:=I.pins_of fun p hp=>I.pin p (hAa _ (hAi _ hp))
theorem qA8(hp:PassesOwn (model X.prog X.w) X.A X.env X.xe)(hc:X.calm=true)(hi:PI X tg iter wi)(hg:PG X tg g)(hb:PSs X body tb)
  (hs:∀x,foldedSetIterable iter X.env x=pure x:=by intro _;rfl):PS X (.For tg iter body [] pos) (zC6 wi g tb):=by
 intro pins s σ H D I h;refine wpAny_For (thn (hi pins s σ H _ I h) fun v s1 h1=>thn h1 fun itv s2 h2=>?_) hs;obtain⟨it,fp,tn,J,H2,e,I2,T,st2,f2,W,⟨m0,w0⟩,turn⟩:=h2;subst e;have stat:∀ {H':Hp},(∀b∈fp,H' b=none)->∀b∈fp,qOd X pins H' b:=fun hn b hb=>⟨hn b hb,(f2 b hb).2⟩
 refine codeAny_forLoop_any (fun n s'=>∃i σ' H',Inv X pins σ' H' s'/\tn i s'.heap/\(∀b∈fp,H' b=none)/\W i n σ' H') ?_ m0 ⟨0,σ,H2,I2,st2,fun b hb=>(f2 b hb).1,w0⟩;rintro n s3 ⟨i,σ3,H3,I3,st3,fr3,w3⟩;rcases turn i n σ3 H3 w3 with ⟨stop,qn⟩|⟨go,N,hN,step⟩
 ·refine wpAny_passesOwn hp (thn (T.done X rfl rfl rfl hc i pins s3 σ3 H3 X.xe I3 (stat fr3) st3 stop) fun r s4 ⟨hr,I4⟩=>?_);subst hr;exact wpAny_execs_nil ⟨σ3,H3,I4,qn⟩
 ·refine wpAny_passesOwn hp (thn (T.item X rfl rfl rfl hc i pins s3 σ3 H3 X.xe I3 (stat fr3) st3 go) fun r s4 ⟨u,hr,h4⟩=>?_);subst hr;refine wpAny_passesOwn hp (thn h4 fun _ s5 ⟨x,H5,I5,r5,y5,st5,fr5⟩=>?_);have I5':=I5.pinned (stat fr5) (T.obj _ _ st5);refine wpAny_passesOwn hp (thn (hg _ s5 σ3 H5 x u _ I5' r5 (step x H5 y5)) fun _ s6 ⟨σ6,H6,I6,q6⟩=>?_);refine wpAny_passesOwn hp (thn (hb _ s6 σ6 H6 _ I6 q6) fun f s7 q7=>?_);have again:∀ {σ7:St} {H7:Hp},Inv X (pins++qHf fp s5.heap) σ7 H7 s7->N σ7 H7->∃m,m<n/\∃i σ' H',Inv X pins σ' H' s7/\tn i s7.heap/\(∀b∈fp,H' b=none)/\W i m σ' H':=fun {σ7 H7} I7 n7=>by
   obtain⟨m',hm,w7⟩:=hN σ7 H7 n7;refine⟨m',hm,i+1,σ7,H7,I7.unpinned,T.keep _ _ _ st5 fun b hb o e=>(I7.pin (b,o) (hAa _ (hAa _ (qCf hb e)))).1,fun b hb=>?_,w7⟩;obtain⟨o,e,d⟩:=T.obj _ _ st5 b hb;exact(I7.pin (b,o) (hAa _ (hAa _ (qCf hb e)))).2.1
  cases f with
  |next=>obtain⟨σ7,H7,I7,n7⟩:=q7;exact again I7 n7
  |cont=>obtain⟨σ7,H7,I7,n7⟩:=q7;exact again I7 n7
  |brk=>obtain⟨σ7,H7,I7,q7⟩:=q7;exact⟨σ7,H7,I7.unpinned,q7⟩
  |ret v=>obtain⟨x7,σ7,H7,I7,r7,q7⟩:=q7;exact⟨x7,σ7,H7,I7.unpinned,r7,q7⟩
end
theorem qBh{K:PySem.W.Frag}{a:Addr}{xs:List V}{g:TG}{tb:TS}{D:Ends}{σ:St}{H:Hp}(Pv:Nat->St->Hp->Prop)(h0:Pv 0 σ H)(hl:∀i σ H,i<=xs.length->Pv i σ H->SqL K H a xs)
  (hs:∀i x σ H,xs[i]?=some x->Pv i σ H->g x σ H fun σ2 H2=>tb { D with nx:=Pv (i+1),ct:=Pv (i+1),bk:=D.nx } σ2 H2) (hd:∀σ H,Pv xs.length σ H->D.nx σ H) :
  ∃W:Nat->Nat->St->Hp->Prop,(∃m,W 0 m σ H)/\∀i m σ H,W i m σ H ->
   ((Itl K a).stop i H/\D.nx σ H)\/((Itl K a).go i H/\∃N:St->Hp->Prop,(∀σ' H',N σ' H'->∃m',m'<m/\W (i+1) m' σ' H')/\∀x H',(Itl K a).yld i H x H'->g x σ H' fun σ2 H2=>tb { D with nx:=N,ct:=N,bk:=D.nx } σ2 H2):=by
 refine⟨fun i m σ H=>m=xs.length - i/\i<=xs.length/\Pv i σ H,⟨xs.length,by simp,hAs _,h0⟩,?_⟩;rintro i m σ H ⟨rfl,hi,p⟩;have q:=hl i σ H hi p;by_cases hlt:i<xs.length
 ·refine .inr ⟨⟨xs,xs[i],q,by simp[hlt]⟩,Pv (i+1),fun σ' H' p'=>⟨xs.length - (i+1),by omega,rfl,hlt,p'⟩,fun x H' y=>?_⟩;obtain⟨e,y⟩:=y;subst e;exact hs i x σ _ (y xs q) p
 ·have e:i=xs.length:=by omega
  subst e;exact .inl ⟨⟨xs,q,hA6 _⟩,hd σ H p⟩
theorem qBd{lo:Int}{n:Nat}{g:TG}{tb:TS}{D:Ends}{σ:St}{H:Hp}(Pv:Nat->St->Hp->Prop)(h0:Pv 0 σ H)
  (hs:∀i σ H,i<n->Pv i σ H->g (.int (lo+i)) σ H fun σ2 H2=>tb { D with nx:=Pv (i+1),ct:=Pv (i+1),bk:=D.nx } σ2 H2) (hd:∀σ H,Pv n σ H->D.nx σ H) :
  ∃W:Nat->Nat->St->Hp->Prop,(∃m,W 0 m σ H)/\∀i m σ H,W i m σ H ->
   ((Itr lo n).stop i H/\D.nx σ H)\/((Itr lo n).go i H/\∃N:St->Hp->Prop,(∀σ' H',N σ' H'->∃m',m'<m/\W (i+1) m' σ' H')/\∀x H',(Itr lo n).yld i H x H'->g x σ H' fun σ2 H2=>tb { D with nx:=N,ct:=N,bk:=D.nx } σ2 H2):=by
 refine⟨fun i m σ H=>m=n - i/\i<=n/\Pv i σ H,⟨n,by simp,hAs _,h0⟩,?_⟩;rintro i m σ H ⟨rfl,hi,p⟩;by_cases hlt:i<n
 ·refine .inr ⟨hlt,Pv (i+1),fun σ' H' p'=>⟨n - (i+1),by omega,rfl,hlt,p'⟩,fun x H' y=>?_⟩;obtain⟨e,y⟩:=y;subst e y;exact hs i σ _ hlt p
 ·have e:i=n:=by omega
  subst e;exact .inl ⟨hA6 _,hd σ H p⟩
abbrev R2:=V->V->Hp->VK->Prop
def OpR(X:Cx)(f:Value->Value->Sem Value)(r:R2):Prop :=
 ∀(pins:List (Addr×Obj)) (s:Shared) (σ:St) (H:Hp) (x y:V) (v u:Value) (Q:VK),Inv X pins σ H s->qBq x v->qBq y u->r x y H Q ->
  wpAny (model X.prog X.w) X.A (f v u) (EP X pins σ Q) X.xe s
def UnR(X:Cx)(f:Value->Sem Value)(r:V->Hp->VK->Prop):Prop :=
 ∀(pins:List (Addr×Obj)) (s:Shared) (σ:St) (H:Hp) (x:V) (v:Value) (Q:VK),Inv X pins σ H s->qBq x v->r x H Q ->
  wpAny (model X.prog X.w) X.A (f v) (EP X pins σ Q) X.xe s
def qB7(X:Cx)(f:Value)(r:List V->Hp->VK->Prop):Prop :=
 ∀(pins:List (Addr×Obj)) (s:Shared) (σ:St) (H:Hp) (xs:List V) (us:List Value) (Q:VK),Inv X pins σ H s->qA7 xs us->r xs H Q ->
  wpAny (model X.prog X.w) X.A (call f us) (EP X pins σ Q) X.xe s
def tOp(r:R2)(ta tb:TE):TE:=fun σ H Q=>ta σ H fun x H1=>tb σ H1 fun y H2=>r x y H2 Q
def tUn(r:V->Hp->VK->Prop)(ta:TE):TE:=fun σ H Q=>ta σ H fun x H1=>r x H1 Q
def rI(C:Int->Int->Prop)(g:Int->Int->V):R2:=fun x y H Q=>∃i j,x = .int i/\y = .int j/\C i j/\Q (g i j) H
def rI0(g:Int->Int->V):R2:=fun x y H Q=>∃i j,x = .int i/\y = .int j/\Q (g i j) H
def rU(g:Int->V):V->Hp->VK->Prop:=fun x H Q=>∃i,x = .int i/\Q (g i) H
section
variable{X:Cx}{a b c:Expr}{ta tb tc:TE}{pos:Pos}
theorem zCh(ha:PE X a ta)(hb:PE X b tb){pins:List (Addr×Obj)}{s:Shared}{σ:St}{H:Hp}{R:V->V->Hp->Prop}(I:Inv X pins σ H s)
  (h:ta σ H fun x H1=>tb σ H1 fun y H2=>R x y H2) {Q:Value->Shared->Prop} {f:Value->Value->Sem Value}
  (hf:∀v u s2 x y H2,Inv X pins σ H2 s2->qBq x v->qBq y u->R x y H2->wpAny (model X.prog X.w) X.A (f v u) Q X.xe s2) :
  wpAny (model X.prog X.w) X.A (eval a X.env) (fun v s₁=>wpAny (model X.prog X.w) X.A (eval b X.env) (fun u s₂=>wpAny (model X.prog X.w) X.A (f v u) Q X.xe s₂) X.xe s₁) X.xe s:=by
 refine thn (ha pins s σ H _ I h) fun v s1 ⟨x,H1,I1,r1,q1⟩=>?_
 refine thn (hb pins s1 σ H1 _ I1 q1) fun u s2 ⟨y,H2,I2,r2,q2⟩=>?_
 exact hf v u s2 x y H2 I2 r1 r2 q2
theorem qAk{op:Operator}{r:R2}(ho:OpR X (binaryOp op) r)(ha:PE X a ta)(hb:PE X b tb):PE X (.BinOp a op b pos) (tOp r ta tb):=by
 intro pins s σ H Q I h;exact wpAny_BinOp (zCh ha hb I h fun v u s2 x y H2 I2 rx ry q=>ho pins s2 σ H2 x y v u Q I2 rx ry q)
theorem zBx(ho:UnR X (unaryOp op) r)(ha:PE X a ta):PE X (.UnaryOp op a pos) (tUn r ta):=by
 intro pins s σ H Q I h;exact UnaryOp_ (thn (ha pins s σ H _ I h) fun v s1 ⟨x,H1,I1,r1,q1⟩=>ho pins s1 σ H1 x v Q I1 r1 q1)
theorem opI{f:Value->Value->Sem Value}{C:Int->Int->Prop}{g:Int->Int->Int}
  (rule:∀(i j:Int) (t u:Tok) (s:Shared) (Q:Value->Shared->Prop) (E:Value->Shared->Prop),C i j->Q (.int (g i j) s.toks) { s with toks:=s.toks+1 }->wpAny (model X.prog X.w) X.A (f (.int i t) (.int j u)) Q E s) :
  OpR X f (rI C fun i j=>.int (g i j)):=by
 intro pins s σ H x y v u Q I rx ry h;obtain⟨i,j,rfl,rfl,hc,q⟩:=h;obtain⟨t,rfl⟩:=rx;obtain⟨t',rfl⟩:=ry;exact rule i j t t' s _ _ hc ⟨.int (g i j),H,I.tok _,⟨_,rfl⟩,q⟩
theorem zAy{f:Value->Value->Sem Value}{g:Int->Int->Int}
  (rule:∀(i j:Int) (t u:Tok) (s:Shared) (Q:Value->Shared->Prop) (E:Value->Shared->Prop),Q (.int (g i j) s.toks) { s with toks:=s.toks+1 }->wpAny (model X.prog X.w) X.A (f (.int i t) (.int j u)) Q E s) :
  OpR X f (rI0 fun i j=>.int (g i j)):=by
 intro pins s σ H x y v u Q I rx ry h;obtain⟨i,j,rfl,rfl,q⟩:=h;obtain⟨t,rfl⟩:=rx;obtain⟨t',rfl⟩:=ry;exact rule i j t t' s _ _ ⟨.int (g i j),H,I.tok _,⟨_,rfl⟩,q⟩
theorem zB1{f:Value->Value->Sem Value}{g:Int->Int->Bool}
  (rule:∀(i j:Int) (t u:Tok) (s:Shared) (Q:Value->Shared->Prop) (E:Value->Shared->Prop),Q (.bool (g i j)) s->wpAny (model X.prog X.w) X.A (f (.int i t) (.int j u)) Q E s) :
  OpR X f (rI0 fun i j=>.bl (g i j)):=by
 intro pins s σ H x y v u Q I rx ry h;obtain⟨i,j,rfl,rfl,q⟩:=h;obtain⟨t,rfl⟩:=rx;obtain⟨t',rfl⟩:=ry;exact rule i j t t' s _ _ ⟨.bl (g i j),H,I,rfl,q⟩
def zDp(i j:Int):Prop:=0<j/\j<1073741824
def zC1(i j:Int):Prop:=0<=j/\j<=1000000/\i.natAbs<2^64
def zCl(i j:Int):Prop:=(-(2^64)<i/\i<2^64)\/(-(2^64)<j/\j<2^64)
theorem zCl.ok(h:zCl i j):IntMulOk i j:=by
 rcases h with ⟨h1,h2⟩|⟨h1,h2⟩
 ·exact .of_left (intBits_le_64 h1 h2)
 ·exact .of_right (intBits_le_64 h1 h2)
theorem qNk(k:Nat):(0:Int)<=2^k:=by
 rw[two_pow_cast];exact Int.natCast_nonneg _
theorem qA0:OpR X (binaryOp .Add) (rI0 fun i j=>.int (i+j)):=zAy fun _ _ _ _ _ _ _ q=>add_int q
theorem qHh:OpR X (binaryOp .Sub) (rI0 fun i j=>.int (i - j)):=zAy fun _ _ _ _ _ _ _ q=>sub_int q
theorem qDi:OpR X (binaryOp .Mult) (rI zCl fun i j=>.int (i*j)):=opI fun _ _ _ _ _ _ _ hc q=>mul_int q hc.ok
theorem qIe:OpR X (binaryOp .FloorDiv) (rI zDp fun i j=>.int (i / j)):=opI fun i j _ _ _ _ _ hc q=>by
 have h1:(0:Int)<j:=hc.1;have h2:j<1073741824:=hc.2;exact floordiv_int (by omega) (by rw[Int.fdiv_eq_ediv_of_nonneg i (by omega)];exact q) (.inl (PyProof.noPylong_small (by omega)))
theorem qB9:OpR X (binaryOp .Mod) (rI (fun _ j=>0<j) fun i j=>.int (i % j)):=opI fun i j _ _ _ _ _ hc q=>by
 have h1:(0:Int)<j:=hc;exact mod_int' (by omega) (by rw[Int.fmod_eq_emod_of_nonneg i (by omega)];exact q)
theorem qU3:OpR X (binaryOp .Pow) (rI zC1 fun i j=>.int (i^j.toNat)):=opI fun _ _ _ _ _ _ _ hc q=>pow_int_small hc.1 hc.2.1 hc.2.2 q
theorem qEn:OpR X (binaryOp .LShift) (rI zC1 fun i j=>.int (i*2^j.toNat)):=opI fun _ _ _ _ _ _ _ hc q=>lshift_int_small hc.1 hc.2.1 hc.2.2 q
theorem qJc:OpR X (binaryOp .RShift) (rI (fun _ j=>0<=j) fun i j=>.int (i / 2^j.toNat)):=opI fun i j _ _ _ _ _ hc q =>
 rshift_int hc (by rw[Int.fdiv_eq_ediv_of_nonneg i (qNk _)];exact q)
theorem qCl:OpR X (binaryOp .BitAnd) (rI0 fun i j=>.int (Builtin.bitAnd i j)):=zAy fun _ _ _ _ _ _ _ q=>and_int q
theorem qDw:OpR X (binaryOp .BitXor) (rI0 fun i j=>.int (Builtin.bitXor i j)):=zAy fun _ _ _ _ _ _ _ q=>xor_int q
theorem unI{f:Value->Sem Value}{g:Int->Int}
  (rule:∀(i:Int) (t:Tok) (s:Shared) (Q:Value->Shared->Prop) (E:Value->Shared->Prop),Q (.int (g i) s.toks) { s with toks:=s.toks+1 }->wpAny (model X.prog X.w) X.A (f (.int i t)) Q E s) :
  UnR X f (rU fun i=>.int (g i)):=by
 intro pins s σ H x v Q I rx h;obtain⟨i,rfl,q⟩:=h;obtain⟨t,rfl⟩:=rx;exact rule i t s _ _ ⟨.int (g i),H,I.tok _,⟨_,rfl⟩,q⟩
theorem qYd:UnR X (unaryOp .USub) (rU fun i=>.int (-i)):=unI fun _ _ _ _ _ q=>neg_int q
end
noncomputable def zCq:V->V->Bool
 |.non,.non=>true | .non,.int _=>true | .int _,.non=>true | .non,.bl _=>true | .bl _,.non=>true | .non,.str _=>true | .str _,.non=>true
 |.int _,.int _=>true | .bl _,.bl _=>true | .str _,.str _=>true | .byt _,.byt _=>true
 |.int _,.str _=>true | .str _,.int _=>true | .bl _,.str _=>true | .str _,.bl _=>true
 |_,_=>false
def rEq:R2:=fun x y H Q=>zCq x y=true/\Q (.bl (decide (x=y))) H
def rNe:R2:=fun x y H Q=>zCq x y=true/\Q (.bl (!decide (x=y))) H
theorem qRl:decide (V.int i=V.int j)=(i == j):=by
 rw[hCu];simp
theorem dec_bl:decide (V.bl i=V.bl j)=(i == j):=by
 rw[hCu];simp
theorem qRk:decide (V.str i=V.str j)=(i == j):=by
 rw[hCu];simp
theorem qRm:decide (V.byt i=V.byt j)=(i.toList == j.toList):=by
 rw[hCu];cases i;cases j;simp
section
variable{X:Cx}{a b c:Expr}{ta tb tc:TE}{pos:Pos}
theorem fin_bl(I:Inv X pins σ H s)(q:Q (.bl k) H)(e:k=k'):EP X pins σ Q (.bool k') s:=by
 subst e;exact⟨.bl k,H,I,rfl,q⟩
theorem qDj:OpR X (compareOp .Eq) rEq:=by
 intro pins s σ H x y v u Q I rx ry h;obtain⟨hs,q⟩:=h;cases x with
 |non =>
  cases rx;cases y with
  |non=>cases ry;exact PySem.EqNone.eq_none_none (fin_bl I q (by simp))
  |bl j=>cases ry;exact PySem.EqNone.eq_none_bool (fin_bl I q (by simp))
  |int j=>obtain⟨t',rfl⟩:=ry;exact PySem.EqNone.eq_none_int (fin_bl I q (by simp))
  |str j=>obtain⟨t',rfl⟩:=ry;exact PySem.EqNone.eq_none_str (fin_bl I q (by simp))
  |_=>exact absurd (show false=true from hs) hAx
 |bl i =>
  cases rx;cases y with
  |non=>cases ry;exact PySem.EqNone.eq_bool_none (fin_bl I q (by simp))
  |bl j=>cases ry;exact eq_bool (fin_bl I q dec_bl)
  |str j=>obtain⟨t',rfl⟩:=ry;exact PySem.EqMixed.eq_bool_str (fin_bl I q (by simp))
  |_=>exact absurd (show false=true from hs) hAx
 |int i =>
  obtain⟨t,rfl⟩:=rx;cases y with
  |non=>cases ry;exact PySem.EqNone.eq_int_none (fin_bl I q (by simp))
  |int j=>obtain⟨t',rfl⟩:=ry;exact eq_int (fin_bl I q qRl)
  |str j=>obtain⟨t',rfl⟩:=ry;exact PySem.EqMixed.eq_int_str (fin_bl I q (by simp))
  |_=>exact absurd (show false=true from hs) hAx
 |str i =>
  obtain⟨t,rfl⟩:=rx;cases y with
  |non=>cases ry;exact PySem.EqNone.eq_str_none (fin_bl I q (by simp))
  |bl j=>cases ry;exact PySem.EqMixed.eq_str_bool (fin_bl I q (by simp))
  |int j=>obtain⟨t',rfl⟩:=ry;exact PySem.EqMixed.eq_str_int (fin_bl I q (by simp))
  |str j=>obtain⟨t',rfl⟩:=ry;exact eq_str (fin_bl I q qRk)
  |_=>exact absurd (show false=true from hs) hAx
 |byt i =>
  obtain⟨t,rfl⟩:=rx;cases y with
  |byt j=>obtain⟨t',rfl⟩:=ry;exact PySem.W.eq_bytes (fin_bl I q qRm)
  |_=>exact absurd (show false=true from hs) hAx
 |_=>cases y <;> exact absurd (show false=true from hs) hAx
theorem qId:OpR X (compareOp .NotEq) rNe:=by
 intro pins s σ H x y v u Q I rx ry h;obtain⟨hs,q⟩:=h;cases x with
 |non =>
  cases rx;cases y with
  |non=>cases ry;exact PySem.EqNone.ne_none_none (fin_bl I q (by simp))
  |bl j=>cases ry;exact PySem.EqNone.ne_none_bool (fin_bl I q (by simp))
  |int j=>obtain⟨t',rfl⟩:=ry;exact PySem.EqNone.ne_none_int (fin_bl I q (by simp))
  |str j=>obtain⟨t',rfl⟩:=ry;exact PySem.EqNone.ne_none_str (fin_bl I q (by simp))
  |_=>exact absurd (show false=true from hs) hAx
 |bl i =>
  cases rx;cases y with
  |non=>cases ry;exact PySem.EqNone.ne_bool_none (fin_bl I q (by simp))
  |bl j=>cases ry;exact ne_bool (fin_bl I q (congrArg not dec_bl))
  |str j=>obtain⟨t',rfl⟩:=ry;exact PySem.EqMixed.ne_bool_str (fin_bl I q (by simp))
  |_=>exact absurd (show false=true from hs) hAx
 |int i =>
  obtain⟨t,rfl⟩:=rx;cases y with
  |non=>cases ry;exact PySem.EqNone.ne_int_none (fin_bl I q (by simp))
  |int j=>obtain⟨t',rfl⟩:=ry;exact ne_int (fin_bl I q (congrArg not qRl))
  |str j=>obtain⟨t',rfl⟩:=ry;exact PySem.EqMixed.ne_int_str (fin_bl I q (by simp))
  |_=>exact absurd (show false=true from hs) hAx
 |str i =>
  obtain⟨t,rfl⟩:=rx;cases y with
  |non=>cases ry;exact PySem.EqNone.ne_str_none (fin_bl I q (by simp))
  |bl j=>cases ry;exact PySem.EqMixed.ne_str_bool (fin_bl I q (by simp))
  |int j=>obtain⟨t',rfl⟩:=ry;exact PySem.EqMixed.ne_str_int (fin_bl I q (by simp))
  |str j=>obtain⟨t',rfl⟩:=ry;exact ne_str (fin_bl I q (congrArg not qRk))
  |_=>exact absurd (show false=true from hs) hAx
 |byt i =>
  obtain⟨t,rfl⟩:=rx;cases y with
  |byt j=>obtain⟨t',rfl⟩:=ry;exact PySem.W.ne_bytes (fin_bl I q (congrArg not qRm))
  |_=>exact absurd (show false=true from hs) hAx
 |_=>cases y <;> exact absurd (show false=true from hs) hAx
theorem qQf:OpR X (compareOp .Lt) (rI0 fun i j=>.bl (decide (i<j))):=zB1 fun _ _ _ _ _ _ _ q=>lt_int q
theorem qTg:OpR X (compareOp .Gt) (rI0 fun i j=>.bl (decide (j<i))):=zB1 fun _ _ _ _ _ _ _ q=>gt_int q
theorem zB0:OpR X (compareOp .GtE) (rI0 fun i j=>.bl (decide (j<=i))):=zB1 fun _ _ _ _ _ _ _ q=>ge_int q
theorem qAx(b:Expr)(h:op≠.In:=by decide)(h2:op≠.NotIn:=by decide):behindInMarks op b=false:=by
 have e1:(op == CmpOp.In)=false:=by cases op <;> first|rfl|exact absurd rfl h
 have e2:(op == CmpOp.NotIn)=false:=by cases op <;> first|rfl|exact absurd rfl h2
 cases b <;> simp[behindInMarks,e1,e2]
theorem qE9{op:CmpOp}{r:R2}(ho:OpR X (compareOp op) r)(ha:PE X a ta)(hb:PE X b tb)(hm:behindInMarks op b=false):PE X (.Compare a [op] [b] pos) (tOp r ta tb):=by
 intro pins s σ H Q I h;exact wpAny_Compare1 (zCh ha hb I h fun v u s2 x y H2 I2 rx ry q=>ho pins s2 σ H2 x y v u Q I2 rx ry q) hm
def zA7(t:TE):TT:=fun σ H Q=>t σ H fun x H'=>∃k,x = .bl k/\Q k H'
theorem qAp(ho:OpR X (compareOp op) r)(ha:PE X a ta)(hb:PE X b tb)(hm:behindInMarks op b=false):PT X (.Compare a [op] [b] pos) (zA7 (tOp r ta tb)):=by
 intro pins s σ H Q I h;refine wpAny_isTrue_Compare1 (thn (ha pins s σ H _ I h) fun v s1 ⟨x,H1,I1,r1,q1⟩=>thn (hb pins s1 σ H1 _ I1 q1) fun u s2 ⟨y,H2,I2,r2,q2⟩ =>
  thn (ho pins s2 σ H2 x y v u _ I2 r1 r2 q2) fun c s3 ⟨z,H3,I3,r3,k,e,q3⟩=>?_) hm
 subst e;cases r3;exact wpAny_truthy_bool ⟨H3,I3,q3⟩
theorem qJi:(sizeLine:Nat)<2^63:=by rw[sizeLine_eq];decide
theorem qDs:OpR X (binaryOp .Add) (fun x y H Q=>∃i j,x = .str i/\y = .str j/\i.length+j.length<=sizeLine/\Q (.str (i++j)) H):=by
 intro pins s σ H x y v u Q I rx ry h;obtain⟨i,j,rfl,rfl,hz,q⟩:=h;obtain⟨t,rfl⟩:=rx;obtain⟨t',rfl⟩:=ry;exact add_str (fun t' tk=>⟨.str (i++j),H,I.tok _,⟨_,rfl⟩,q⟩) hz
theorem qCv(r:qA7 [x] us):∃u,us=[u]/\qBq x u:=by
 cases r with
 |cons r1 r2=>cases r2;exact⟨_,rfl,r1⟩
theorem qYb(r:qA7 [x,y] us):∃u w',us=[u,w']/\qBq x u/\qBq y w':=by
 cases r with
 |cons r1 r2 =>
  cases r2 with
  |cons r3 r4=>cases r4;exact⟨_,_,rfl,r1,r3⟩
theorem qG1(hc:X.calm=true):qB7 X (.builtin "min") (fun xs H Q=>∃i j,xs=[.int i,.int j]/\Q (.int (if j<i then j else i)) H):=by
 intro pins s σ H xs us Q I r h;obtain⟨i,j,rfl,q⟩:=h;obtain⟨u,w',rfl,⟨t,rfl⟩,⟨t',rfl⟩⟩:=qYb r;refine min_two_ints (I.ok.hd hc) fun h' tk k=>⟨_,H,I.kept k,?_,q⟩
 by_cases hj:j<i
 ·rw[if_pos hj,if_pos hj];exact⟨_,rfl⟩
 ·rw[if_neg hj,if_neg hj];exact⟨_,rfl⟩
theorem qJ3:qB7 X (.type "int") (fun xs H Q=>(∃i,xs=[.int i]/\Q (.int i) H)\/∃k,xs=[.bl k]/\Q (.int (if k then 1 else 0)) H):=by
 intro pins s σ H xs us Q I r h;rcases h with ⟨i,rfl,q⟩|⟨k,rfl,q⟩
 ·obtain⟨u,rfl,t,rfl⟩:=qCv r;exact call_int_int ⟨.int i,H,I,⟨_,rfl⟩,q⟩
 ·obtain⟨u,rfl,r1⟩:=qCv r;cases r1;exact call_int_bool ⟨.int (if k then 1 else 0),H,I.tok _,⟨_,rfl⟩,q⟩
end
structure ObjM(h:Heap)(x dx C:Addr)(mA:Str->Option Value):Prop where
 obj:h.get? x=some (PySem.W.instObj C dx)
 ns:h.Ns1 dx mA
 ne:dx≠x
theorem qQn{h:Heap}{dx:Addr}{mA:Str->Option Value}(n:h.Ns1 dx mA):∃od,h.get? dx=some od/\∀name,PySem.W.lookIn name od=some (mA name):=by
 obtain⟨o,es,ep,ho,hd,hk,_,hm⟩:=n;refine⟨o,ho,fun name=>?_⟩;have e:=hm name;unfold nsFind findBy at e;rw[<-Array.find?_toList]at e;unfold PySem.W.lookIn;rw[hd];dsimp only;split
 ·rename_i y q;rw[q]at e;exact congrArg some e
 ·rename_i q;rw[q]at e;have a:es.toList.any (·.refKey)=false:=by
   rw[List.any_eq_false];intro y hy;obtain⟨z,t,hkey⟩:=hk y (Array.mem_toList_iff.mp hy);simp[DictEntry.refKey,hkey]
  have a':¬es.toList.any (·.refKey)=true:=by rw[a];exact hAx
  rw[if_neg a'];exact congrArg some e
theorem ObjM.look(I:ObjM h x dx C mA):∃od,PySem.W.InstAt h x (PySem.W.instObj C dx) C (some od)/\∀name,PySem.W.lookIn name od=some (mA name) :=
 let ⟨od,ho,hl⟩:=qQn I.ns
 ⟨od,⟨I.obj,rfl,rfl,ho⟩,hl⟩
theorem qOa.some_of(r:qOa (some v) o):∃u,o=some u/\qBq v u:=by
 cases o with
 |none=>exact(show False from r).elim
 |some u=>exact⟨u,rfl,r⟩
section
variable{P:Program}{w:World}{H H':Hp}{h h':Heap}{a C dx:Addr}{fs fs':List (Str×V)}
theorem qXn(hok:HOk P w H h)(e:H a=some (.ins C dx fs)):∃mA,ObjM h a dx C mA/\(∀f,qOa (fs.lookup f) (mA f))/\PySem.Within mA (fs.map (·.1))/\fs.length<=1000/\H dx=some (.own a):=by
 obtain⟨d,z,ne,ob,mA,n,r,q⟩:=(show qBr P w H h a (.ins C dx fs) from hok a _ e);exact⟨mA,⟨ob,n,ne⟩,r,q,z,d⟩
end
structure Cls(K:PySem.W.Frag)(C:Addr):Prop where
 pg:PySem.W.plainGet K C Str.empty=true
 hd:PySem.W.hasDictIn K C=true
 po:PySem.W.plainOver K C=true
 sa:PySem.W.findIn K (.ref C) "__setattr__" = some (some (.builtin "object.__setattr__"))
theorem Cls.get{K:PySem.W.Frag}{C:Addr}(c:Cls K C)(f:Str):PySem.W.plainGet K C f=true:=c.pg
structure Con(K:PySem.W.Frag)(C:Addr)(f:Str)(v:V)(u:Value):Prop where
 at_:PySem.W.findIn K (.ref C) f=some (some u)
 rel:qBq v u
 get:PySem.W.specialIn K u "__get__" = some none
 cp:PySem.W.copiedNames.contains f=false
structure Meth(K:PySem.W.Frag)(C:Addr)(m:Str)(f:Addr):Prop where
 at_:PySem.W.findIn K (.ref C) m=some (some (.ref f))
 fn:PySem.W.isFn K (.ref f)=true
 kp:PySem.W.keepIn K (.ref f)=true
section
variable{X:Cx}{pins:List (Addr×Obj)}{σ:St}{H:Hp}{s:Shared}{A:Around}{E:Value->Shared->Prop}{Q:Value->Shared->Prop}{c:Value}{b:Bool}
inductive TyOf (K:PySem.W.Frag) (H:Hp):V->Value->Prop where
 |non:TyOf K H .non (.type "NoneType")
 |bl (x:Bool):TyOf K H (.bl x) (.type "bool")
 |int (i:Int):TyOf K H (.int i) (.type "int")
 |str (x:Str):TyOf K H (.str x) (.type "str")
 |flt (x:UInt64):TyOf K H (.flt x) (.type "float")
 |lst {a:Addr} {xs:List V} (e:H a=some (.lst xs)):TyOf K H (.ref a) (.type "list")
 |frz {a:Addr} {o:Obj} {xs:List V} (e:H a=some (.frz o (.lst xs))):TyOf K H (.ref a) (.type "list")
 |tup {a:Addr} {xs:List V} (e:H a=some (.tup xs)):TyOf K H (.ref a) (.type "tuple")
 |dK {a:Addr} {kvs:List (Key×V)} (e:H a=some (.dK kvs)):TyOf K H (.ref a) (.type "dict")
 |dT {a:Addr} {kvs:List (List Key×V)} (e:H a=some (.dT kvs)):TyOf K H (.ref a) (.type "dict")
 |ins {a C dx:Addr} {fs:List (Str×V)} (e:H a=some (.ins C dx fs)) (cl:Cls K C) (ha:PySem.W.findIn K (.ref C) "__class__" = some (some (.builtin "object.__class__")))
   (hn:PySem.W.specialIn K (.builtin "object.__class__") "__get__" = some (some (.builtin "getset_descriptor.__get__"))) (htk:PySem.W.takesIn K (.builtin "object.__class__")=some true)
   (hm:PySem.W.mroIn K C (.type "object")=some true):TyOf K H (.ref a) (.ref C)
theorem qQ2(I:Inv X pins σ H s)(rx:qBq x u)(ty:TyOf X.K H x t)(e:PySem.W.kitOne X.K t c=some b)(h:∀tk,Q (.bool b) { s with toks:=tk }) :
  wpAny (model X.prog X.w) A (call (.builtin "isinstance") [u,c]) Q E s:=by
 cases ty with
 |non=>cases(show u=Value.none from rx);exact hCh PySem.W.kitx_none I.kIn True.intro e (fun z=>nomatch z) h
 |bl y=>cases(show u=Value.bool y from rx);exact hCh PySem.W.kitx_bool I.kIn True.intro e (fun z=>nomatch z) h
 |int i=>obtain⟨t,q⟩:=(show ∃t,u=Value.int i t from rx);cases q;exact hCh PySem.W.kitx_int I.kIn True.intro e (fun z=>nomatch z) h
 |str y=>obtain⟨t,q⟩:=(show ∃t,u=Value.str y t from rx);cases q;exact hCh PySem.W.kitx_str I.kIn True.intro e (fun z=>nomatch z) h
 |flt y=>obtain⟨t,q⟩:=(show ∃t,u=Value.float y t from rx);cases q;exact hCh PySem.W.kitx_float I.kIn True.intro e (fun z=>nomatch z) h
 |@lst a xs ea =>
  cases(show u=Value.ref a from rx);obtain⟨_,_,n,_,h1⟩:=(show qBr X.prog X.w H s.heap a (.lst xs) from I.hok a _ ea);exact hCh PySem.W.kitx_list I.kIn ⟨_,h1,rfl⟩ e (fun z=>nomatch z) h
 |@frz a ob xs ea =>
  cases(show u=Value.ref a from rx);obtain⟨_,_,_,n,_,h1⟩:=(show qBr X.prog X.w H s.heap a (.frz ob (.lst xs)) from I.hok a _ ea);exact hCh PySem.W.kitx_list I.kIn ⟨_,h1,rfl⟩ e (fun z=>nomatch z) h
 |@tup a xs ea =>
  cases(show u=Value.ref a from rx);obtain⟨_,_,_,p⟩:=(show qBr X.prog X.w H s.heap a (.tup xs) from I.hok a _ ea);obtain⟨o,h1,h2,_⟩:=p;exact hCh PySem.W.kitx_tuple I.kIn ⟨o,h1,h2⟩ e (fun z=>nomatch z) h
 |@dK a kvs ea =>
  cases(show u=Value.ref a from rx);obtain⟨_,_,vs,_,p⟩:=(show qBr X.prog X.w H s.heap a (.dK kvs) from I.hok a _ ea);obtain⟨o,es,ep,h1,h2,_⟩:=p;exact hCh PySem.W.kitx_dict I.kIn ⟨o,h1,h2.1⟩ e (fun z=>nomatch z) h
 |@dT a kvs ea =>
  cases(show u=Value.ref a from rx);obtain⟨_,_,xs,_,o,es,ep,h1,h2,_⟩:=(show qBr X.prog X.w H s.heap a (.dT kvs) from I.hok a _ ea);exact hCh PySem.W.kitx_dict I.kIn ⟨o,h1,h2.1⟩ e (fun z=>nomatch z) h
 |@ins a C dx fs ea cl ha hn htk hm =>
  cases(show u=Value.ref a from rx);obtain⟨mA,O,_⟩:=qXn I.hok ea;obtain⟨od,J,_⟩:=O.look;exact hCh (PySem.W.kitx_own (cl.get _) cl.hd ha hn htk hm) I.kIn J e (fun z=>nomatch z) h
end
structure Room(k:Nat)(A:Around):Prop where
 hd:A.handled=none
 dp:A.depth+3*k+5<recursionLimit
 un:A.units+16*k+200<cLine
 gd:A.guards=some []
theorem Room.mono(r:Room k A)(h:j<=k):Room j A:=⟨r.hd,by have:=r.dp;omega,by have:=r.un;omega,r.gd⟩
theorem Room.deeper(r:Room (k+1) A)(env:Env):Room k (A.deeper env) :=
 ⟨r.hd,by have:=r.dp;show A.depth+1+3*k+5<_;omega,by have:=r.un;show A.units+3+16*k+200<_;omega,r.gd⟩
theorem Room.in1(r:Room (k+1) A):Room k A.in1 :=
 ⟨r.hd,by have:=r.dp;show A.depth+3*k+5<_;omega,by have:=r.un;show A.units+1+16*k+200<_;omega,r.gd⟩
theorem Room.depth(r:Room k A):A.depth<recursionLimit:=by have:=r.dp;omega
theorem Room.units(r:Room k A):A.units+64<cLine:=by have:=r.un;omega
def qSl:TA:=fun _ H Q=>Q [] H
def qCh(ta:TE)(tr:TA):TA:=fun σ H Q=>ta σ H fun x H1=>tr σ H1 fun xs H2=>Q (x :: xs) H2
section
variable{X:Cx}{e:Expr}{es:List Expr}{te:TE}{t:TA}{pos:Pos}
theorem qAb:PA X [] qSl:=fun _ _ _ _ H Q I h=>Calls.spliced_nil ⟨[],H,I,.nil,h⟩
theorem qAa(ha:PE X e te)(hr:PA X es t)(hs:starEach (e :: es) X.env=(false,eval e X.env) :: starEach es X.env:=by rfl):PA X (e :: es) (qCh te t):=by
 intro pos pins s σ H Q I h;rw[hs];show wpAny _ _ (spliced ((false,eval e X.env) :: backTo pos (starEach es X.env))) _ _ s;refine Calls.spliced_cons (thn (ha pins s σ H _ I h) fun u s1 ⟨x,H1,I1,r1,q1⟩=>?_);exact thn (hr pos pins s1 σ H1 _ I1 q1) fun us s2 ⟨xs,H2,I2,r2,q2⟩=>⟨x :: xs,H2,I2,.cons r1 r2,q2⟩
def qYi(t:TA):TE:=fun σ H Q=>t σ H fun xs H1=>xs.length<=sizeLine/\∀p,H1 p=none->Q (.ref p) (upd H1 p (.tup xs))
def zCm(t:TA):TE:=fun σ H Q=>t σ H fun xs H1=>xs.length<=sizeLine/\∀p,H1 p=none->Q (.ref p) (upd H1 p (.lst xs))
theorem qBk{x1}(h:PA X es t):PE X (.Tuple es x1 pos) (qYi t):=by
 intro pins s σ H Q I hq;refine wpAny_Tuple_spliced (thn (h pos pins s σ H _ I hq) fun us s1 ⟨xs,H1,I1,r,z,q⟩=>⟨by rw[<-r.length];exact z,?_⟩);have hf:H1 s1.heap.objs.size=none:=I1.hok.fresh (hA6 _);refine⟨.ref s1.heap.objs.size,upd H1 s1.heap.objs.size (.tup xs),I1.laid (t':=s1.toks) (fun b u e=>Heap.get?_push_of_some _ e) (hA6 _) ?_,rfl,q _ hf⟩;exact⟨z,us,r,⟨_,Heap.get?_push_size _ rfl,rfl,_,rfl⟩⟩
theorem qA6(h:PA X es t):PE X (.List es pos) (zCm t):=by
 intro pins s σ H Q I hq;refine wpAny_List_spliced (thn (h pos pins s σ H _ I hq) fun us s1 ⟨xs,H1,I1,r,z,q⟩=>⟨by rw[<-r.length];exact z,?_⟩);have hf:H1 s1.heap.objs.size=none:=I1.hok.fresh (hA6 _);refine⟨.ref s1.heap.objs.size,upd H1 s1.heap.objs.size (.lst xs),I1.laid (t':=s1.toks) (fun b u e=>Heap.get?_push_of_some _ e) (hA6 _) ?_,rfl,q _ hf⟩;exact⟨z,us,0,r,Heap.get?_push_size _ rfl⟩
end
abbrev Sp:=List V->Hp->VK->XK->Prop
abbrev CXT:=List Env->Hp->Shared->XK->Value->Shared->Prop
structure Env0(P:Program)(w:World)(K:PySem.W.Frag)(mg:Str->Option Value)(base:Heap)(A:Around)(outer:List Env)(s:Shared)(H:Hp):Prop where
 frames:A.frames=some outer
 mod:Mod K mg base
 bs:∀b o,base.get? b=some o->s.heap.get? b=some o/\H b=none
 bsz:base.objs.size<=s.heap.objs.size
 funs:s.heap.FunFrames base outer
 frf:∀b∈frs outer,H b=none
 hok:HOk P w H s.heap
 bare:AllBare s.gens
def CE(outer:List Env)(P:Program)(w:World)(H:Hp)(s:Shared)(Q:VK)(u:Value)(s':Shared):Prop :=
 ∃v H',s'.os=s.os/\AllBare s'.gens/\Un (frs outer) [] H H' s.heap s'.heap/\HOk P w H' s'.heap/\qBq v u/\Q v H'
def CR(CX:CXT)(outer:List Env)(P:Program)(w:World)(H:Hp)(s:Shared)(Q:VK)(E:XK)(r:Result)(s':Shared):Prop :=
 match r with
 |.ok (.ret u)=>CE outer P w H s Q u s'
 |.ok _=>False
 |.error e=>CX outer H s E e s'
structure FnOk(P:Program)(w:World)(K:PySem.W.Frag)(mg:Str->Option Value)(base:Heap)(CX:CXT)(k:Nat)(f:Addr)(fd:FuncData)(ps:List Str)(sp:Sp):Prop where
 len:∀vs H Q E,sp vs H Q E->vs.length=ps.length
 run:∀(A:Around) (outer:List Env) (s:Shared) (H:Hp) (args:Args) (us:List Value) (vs:List V) (Q:VK) (E:XK),Room k A->Env0 P w K mg base A outer s H->BindsTo s fd args (ps.zip us)->qA7 vs us->sp vs H Q E ->
  codeAny (model P w) A (.call (.ref f) args) (CR CX outer P w H s Q E) s
theorem FnOk.imp{P:Program}{w:World}{K:PySem.W.Frag}{mg:Str->Option Value}{base:Heap}{CX:CXT}{k:Nat}{f:Addr}{fd:FuncData}{ps:List Str}{sp sp':Sp}(F:FnOk P w K mg base CX k f fd ps sp)
  (h:∀vs H Q E,sp' vs H Q E->sp vs H Q E):FnOk P w K mg base CX k f fd ps sp' :=
 ⟨fun vs H Q E q=>F.len vs H Q E (h _ _ _ _ q),fun A outer s H args us vs Q E hr he hb hv hs=>F.run A outer s H args us vs Q E hr he hb hv (h _ _ _ _ hs)⟩
theorem Env0.in1{P:Program}{w:World}{K:PySem.W.Frag}{mg:Str->Option Value}{base:Heap}{A:Around}{outer:List Env}{s:Shared}{H:Hp}(e:Env0 P w K mg base A outer s H) :
  Env0 P w K mg base A.in1 outer s H:=⟨e.frames,e.mod,e.bs,e.bsz,e.funs,e.frf,e.hok,e.bare⟩
section
variable{X:Cx}{pins:List (Addr×Obj)}{σ:St}{H:Hp}{s s':Shared}
theorem Inv.env0(I:Inv X pins σ H s):Env0 X.prog X.w X.K X.mg X.base X.A X.stack s H :=
 ⟨I.ok.frames,I.ok.mod,I.bs,hB2 I.ok.bsz I.sz,I.stack,I.stkFree,I.hok,I.bare⟩
theorem Inv.after(I:Inv X pins σ H s)(h:CE X.stack X.prog X.w H s Q u s'):EP X pins σ Q u s':=by
 obtain⟨v,H',os,bare,un,hok,r,q⟩:=h;obtain⟨hh,g,d,t,os'⟩:=s';obtain rfl:os'=s.os:=os;exact⟨v,H',I.call (h':=hh) (g':=g) (d':=d) (t':=t) (ch:=[]) un hok bare (fun b z=>absurd z (by simp)),r,q⟩
end
def qYn(sp:Sp)(dvs:List V)(E:XK)(t:TA):TE:=fun σ H Q=>t σ H fun vs H1=>sp (vs++dvs) H1 Q E
def qKa(K:PySem.W.Frag)(fd:FuncData)(ps:List Str)(ds:List Value):Prop :=
 ∀(s:Shared) (us:List Value),K.In s.heap->(us++ds).length=ps.length->BindsTo s fd ⟨us,[]⟩ (ps.zip (us++ds))
theorem qKa.all{K:PySem.W.Frag}{fd:FuncData}{ps:List Str}(h:∀us:List Value,us.length=ps.length->bindArgs fd ⟨us,[]⟩=pure (ps.zip us)):qKa K fd ps []:=fun s us _ hl=>by
 rw[hBd]at hl ⊢;exact .of_eq (h us hl)
def qNh(CX:CXT)(X:Cx)(E:XK):Prop:=∀(pins:List (Addr×Obj)) (σ:St) (H:Hp) (s:Shared) (e:Value) (s':Shared),Inv X pins σ H s->CX X.stack H s E e s'->X.xe e s'
section
variable{X:Cx}{CX:CXT}{k:Nat}{f C:Addr}{fd:FuncData}{ps:List Str}{sp:Sp}{dvs:List V}{ds:List Value}{E:XK}{x m:Str}{p pos apos:Pos}{e o:Expr}{es:List Expr}{ta:TE}{t:TA}
theorem qZd(F:FnOk X.prog X.w X.K X.mg X.base CX k f fd ps sp)(hr:Room k X.A)(hb:qKa X.K fd ps ds)(hd:qA7 dvs ds)(hx:qNh CX X E)
  (I:Inv X pins σ H s) (r:qA7 vs us) (h:sp (vs++dvs) H Q E):wpAny (model X.prog X.w) X.A (call (.ref f) us) (EP X pins σ Q) X.xe s:=by
 have r2:qA7 (vs++dvs) (us++ds):=r.append hd;have hl:(us++ds).length=ps.length:=by rw[<-r2.length];exact F.len _ _ _ _ h
 refine wpAny_call (codeAny_mono (F.run X.A X.stack s H ⟨us,[]⟩ (us++ds) (vs++dvs) Q E hr I.env0 (hb s us I.kIn hl) r2 h) fun r s' hq=>?_);cases r with
 |error e=>exact hx pins σ H s e s' I hq
 |ok fl =>
  cases fl with
  |ret u=>exact I.after hq
  |next=>exact False.elim hq
  |brk=>exact False.elim hq
  |cont=>exact False.elim hq
theorem qK0(F:FnOk X.prog X.w X.K X.mg X.base CX k f fd ps sp)(hr:Room k X.A)(hg:Gl X x)(hm:X.mg x=some (.ref f))(hk:PySem.W.keepIn X.K (.ref f)=true)(hb:qKa X.K fd ps ds)(hd:qA7 dvs ds)(hx:qNh CX X E)
  (ha:PA X (e :: es) t) (hdb:(x == ("__debug__" : Str))=false:=by decide) (he:starEach (e :: es) X.env=(false,eval e X.env) :: starEach es X.env:=by rfl) (hpl:(backTo pos (starEach es X.env)).any (·.1)=false:=by rfl) :
  PE X (.Call (.Name x p) (e :: es) [] pos) (qYn sp dvs E t):=by
 intro pins s σ H Q I h;refine wpAny_Call_Name_kw (qQq I hg hm ?_ hdb);refine PySem.W.callWith_K (h₀:=X.base) I.ok.mod.kin hk (thn (ha pos pins s σ H _ I h) fun us s1 ⟨vs,H1,I1,r,q⟩=>⟨I1.kIn,?_⟩) he hpl;exact qZd F hr hb hd hx I1 r q
structure Mk(K:PySem.W.Frag)(C f:Addr):Prop where
 makes:PySem.W.makesIn K C=true
 init:PySem.W.findIn K (.ref C) "__init__" = some (some (.ref f))
 fn:PySem.W.isFn K (.ref f)=true
 kp:PySem.W.keepIn K (.ref C)=true
end
section
variable{X:Cx}{CX:CXT}{k:Nat}{f C:Addr}{fd:FuncData}{ps ks:List Str}{sp:Sp}{E:XK}{x m:Str}{p pos apos kpos:Pos}{e o:Expr}{es:List Expr}{kws:List Keyword}{te ta:TE}{t tk:TA}{nm:Option Str}
structure KBinds(K:PySem.W.Frag)(fd:FuncData)(ps ks:List Str)(g:List Value->List Value->List Value)(gV:List V->List V->List V):Prop where
 to:∀(s:Shared) (us ws:List Value),K.In s.heap->(g us ws).length=ps.length->BindsTo s fd ⟨us,ks.zip ws⟩ (ps.zip (g us ws))
 rel:∀ {vs:List V} {us:List Value} {zs:List V} {ws:List Value},qA7 vs us->qA7 zs ws->qA7 (gV vs zs) (g us ws)
variable{g:List Value->List Value->List Value}{gV:List V->List V->List V}
end
structure FnScope(N P:List Str)(sc:Scope):Prop where
 kind:sc.kind = .function
 co:sc.isCoroutine=false
 gen:sc.isGenerator=false
 nd:N.Nodup
 pre:N.take P.length=P
 par:∀x∈P,sc.names.lookup x=some .local\/sc.names.lookup x=some .cell
 nofree:∀y∈sc.names,y.2≠.free
theorem qJ5{kindOf:Str->Option NameKind}{x:Str}:∀ {binds:List (Str×Value)} {m:Str->Option Value},(∀v,(x,v)∉binds)->bindL kindOf binds m x=m x
 |[],_,_=>rfl
 |(n,v) :: r,m,h=>by
  unfold bindL;rw[qJ5 fun w hw=>h w (hA8 _ hw)];split
  ·have:x≠n:=by rintro rfl;exact h v hA9
   simp[this]
  ·rfl
theorem qJ7{kindOf:Str->Option NameKind}{x:Str}:∀ {binds:List (Str×Value)} {m:Str->Option Value},(∀v,(x,v)∉binds)->bindC kindOf binds m x=m x
 |[],_,_=>rfl
 |(n,v) :: r,m,h=>by
  unfold bindC;rw[qJ7 fun w hw=>h w (hA8 _ hw)];split
  ·rfl
  ·have:x≠n:=by rintro rfl;exact h v hA9
   simp[this]
theorem qJ6{kindOf:Str->Option NameKind}{x:Str}{v:Value}:∀ {P:List Str} {vs:List Value} {i:Nat} {m:Str->Option Value},P.Nodup->P[i]?=some x->vs[i]?=some v->kindOf x=some .local ->
  bindL kindOf (P.zip vs) m x=some v
 |[],_,_,_,_,h,_,_=>by simp at h
 |_ :: _,[],_,_,_,_,h,_=>by simp at h
 |p :: P,w :: vs,0,m,nd,h1,h2,hk=>by
  simp at h1 h2;subst h1;subst h2;show bindL kindOf ((p,w) :: P.zip vs) m p=_;unfold bindL;rw[qJ5 fun v hv=>(hBp.mp nd).1 (hDv hv).1,if_pos hk];simp
 |p :: P,w :: vs,i+1,m,nd,h1,h2,hk=>by
  show bindL kindOf ((p,w) :: P.zip vs) m x=_;unfold bindL;exact qJ6 (i:=i) (hBp.mp nd).2 (by simpa using h1) (by simpa using h2) hk
theorem qJ8{kindOf:Str->Option NameKind}{x:Str}{v:Value}:∀ {P:List Str} {vs:List Value} {i:Nat} {m:Str->Option Value},P.Nodup->P[i]?=some x->vs[i]?=some v->kindOf x≠some .local ->
  bindC kindOf (P.zip vs) m x=some v
 |[],_,_,_,_,h,_,_=>by simp at h
 |_ :: _,[],_,_,_,_,h,_=>by simp at h
 |p :: P,w :: vs,0,m,nd,h1,h2,hk=>by
  simp at h1 h2;subst h1;subst h2;show bindC kindOf ((p,w) :: P.zip vs) m p=_;unfold bindC;rw[qJ7 fun v hv=>(hBp.mp nd).1 (hDv hv).1,if_neg hk];simp
 |p :: P,w :: vs,i+1,m,nd,h1,h2,hk=>by
  show bindC kindOf ((p,w) :: P.zip vs) m x=_;unfold bindC;exact qJ8 (i:=i) (hBp.mp nd).2 (by simpa using h1) (by simpa using h2) hk
noncomputable def qFt(N:List Str)(vs:List V):St:=vs.map some++List.replicate (N.length - vs.length) none
noncomputable def qCd(CX:CXT)(P:Program)(w:World)(K:PySem.W.Frag)(mg:Str->Option Value)(base:Heap)(N:List Str)(qual:Str)(scope:Scope)(f:Addr)(cd:Value)(A:Around)(outer:List Env)(s:Shared)(H:Hp)(E:XK):Cx where
 prog:=P
 w:=w
 K:=K
 mg:=mg
 base:=base
 A:=A.deeper (envOfC qual scope s.heap.objs.size f cd)
 N:=N
 s₀:=s
 H₀:=H
 env:=envOfC qual scope s.heap.objs.size f cd
 outer:=outer
 stack:=envOfC qual scope s.heap.objs.size f cd :: outer
 ex:=[]
 calm:=true
 fn:=fun _=>true
 pn:=[]
 xe:=fun e s'=>wpAny (model P w) (A.deeper (envOfC qual scope s.heap.objs.size f cd)) (leaving (envOfC qual scope s.heap.objs.size f cd) e) (fun _ s''=>CX outer H s E e s'') (fun e' s''=>CX outer H s E e' s'') s'
theorem qNf{sc:Scope}{n:Nat}{x:Str}(h:sc.names.lookup x=some .cell):∃c,(cellsFrom n sc.names []).lookup x=some c:=by
 have q:=hDu sc.names n [] (.inl h);exact Option.isSome_iff_exists.mp q
theorem qJr{CX:CXT}{P:Program}{w:World}{K:PySem.W.Frag}{mg:Str->Option Value}{base:Heap}{N ps:List Str}{qual:Str}{scope:Scope}{f:Addr}{cd:Value}{A:Around}{outer:List Env}{s s1:Shared}{H:Hp}{E:XK}{us:List Value}{vs:List V}
  (S:FnScope N ps scope) (hd:A.handled=none) (e0:Env0 P w K mg base A outer s H) (hl:vs.length=ps.length) (r:qA7 vs us)
  (x:InCallC s s.heap.objs.size (bindL (envOfC qual scope s.heap.objs.size f cd).kindOf (ps.zip us) fun _=>none) (cellsFrom (s.heap.objs.size+1) scope.names []) (bindC (envOfC qual scope s.heap.objs.size f cd).kindOf (ps.zip us) fun _=>none) s1) :
  Inv (qCd CX P w K mg base N qual scope f cd A outer s H E) [] (qFt N vs) H s1:=by
 have hpl:ps.length<=N.length:=by have:=congrArg List.length S.pre;rw[hAl]at this;omega
 obtain⟨h1,tk,rfl,hk⟩:=x.done;have noA:∀b:Addr,b∉(qCd CX P w K mg base N qual scope f cd A outer s H E).ex:=fun b z=>absurd (show b∈([]:List Addr) from z) (by simp)
 refine⟨⟨e0.mod,S.kind,rfl,rfl,hA6 _,fun y z c h1 h2=>?_,fun y hy=>?_,fun y c _ h=>?_,fun _=>hd,Around.frames_deeper e0.frames,.inr ⟨rfl,rfl⟩,fun b z=>absurd z (noA b),e0.bs,e0.bsz,fun b _ _=>noA b,fun b z=>absurd z (noA b),e0.funs,e0.frf⟩,
  rfl,e0.bare,Un.kept hk,⟨_,x.toInCall.ns,fun i y v h1 h2 h3=>?_⟩,fun y c h=>⟨_,x.cell y c h⟩,e0.hok.fresh (hA6 _),fun y c h=>?_,fun p hp=>absurd (show p∈([]:List (Addr×Obj)) from hp) (by simp),e0.hok.kept hk,?_⟩
 ·exact name_of_addr x.apart (hC3 h1) (hC3 h2)
 ·have hy:scope.names.lookup y=some .cell\/scope.names.lookup y=some .free:=hy;rcases hy with hy|hy
  ·exact qNf hy
  ·exact absurd rfl (S.nofree _ (hC3 hy))
 ·exact hBi (x.above y c (hC3 h))
 ·have hi:i<vs.length:=by
   unfold qFt at h2;by_cases hi:i<vs.length
   ·exact hi
   ·rw[hCf (by simpa using hi)]at h2;rw[List.getElem?_replicate]at h2;split at h2 <;> cases h2
  have ha:vs[i]?=some v:=by
   unfold qFt at h2;rw[hDf (by simpa using hi),hAk]at h2;cases e:vs[i]? with
   |none=>rw[e]at h2;cases h2
   |some a=>rw[e]at h2;cases h2;rfl
  obtain⟨u,hu,rv⟩:=r.get ha;have hp:ps[i]?=some y:=by
   rw[<-S.pre,List.getElem?_take_of_lt (by omega)];exact h1
  have ndP:ps.Nodup:=by rw[<-S.pre];exact S.nd.sublist (List.take_sublist _ _)
  refine⟨u,rv,?_⟩;rcases S.par y (hAc hp) with k|k
  ·exact .inl ⟨k,qJ6 ndP hp hu k⟩
  ·obtain⟨c,e⟩:=qNf (n:=s.heap.objs.size+1) k;refine .inr ⟨.inl k,c,e,?_⟩;have q:=x.cell y c e;rw[qJ8 ndP hp hu (by show scope.names.lookup y≠_;rw[k];decide)]at q;exact q
 ·exact e0.hok.fresh (hBi (x.above y c (hC3 h)))
 ·unfold qFt;show _=N.length;rw[hAj,hA1,hCv];omega
theorem zAf{CX:CXT}{P:Program}{w:World}{K:PySem.W.Frag}{mg:Str->Option Value}{base:Heap}{k:Nat}{f:Addr}{name qual:Str}{params:Arguments}{body:List Stmt}{scope:Scope}{dV kV doc pm cdv ct oc:Value}{an od:Option Addr}
  {osl:Array (Option Value)} {N ps:List Str} {sp:Sp} (lk:K.lookup f=some ⟨oc,od,.func (PySem.W.fnOf name qual params body scope dV kV doc pm an cdv ct),osl⟩) (hcd:PySem.W.codeIn K cdv qual=true) (S:FnScope N ps scope)
  (len:∀vs H Q E,sp vs H Q E->vs.length=ps.length)
  (hbody:∀(A:Around) (outer:List Env) (s:Shared) (H:Hp) (vs:List V) (Q:VK) (E:XK),Room k (A.deeper (envOfC qual scope s.heap.objs.size f cdv))->sp vs H Q E ->
   ∃t,PSs (qCd CX P w K mg base N qual scope f cdv A outer s H E) body t/\t { nx:=fun _ H'=>Q .non H',rt:=Q } (qFt N vs) H) :
  FnOk P w K mg base CX (k+1) f (PySem.W.fnOf name qual params body scope dV kV doc pm an cdv ct) ps sp:=by
 refine⟨len,fun A outer s H args us vs Q E hr e0 hb r hsp=>?_⟩;have hl:=len _ _ _ _ hsp;have KX:K.In s.heap:=e0.mod.kin.keeps fun b o e=>(e0.bs b o e).1
 have lim:s.heap.NoLimit:=e0.mod.nolimit.keeps fun b o e=>(e0.bs b o e).1
 have hkind:∀y∈ps.zip us,scope.names.lookup y.1=some .local\/(scope.names.lookup y.1=some .cell/\((cellsFrom (s.heap.objs.size+1) scope.names []).lookup y.1).isSome=true):=fun ⟨n,v⟩ hy=>by
  rcases S.par n (hDv hy).1 with q|q
  ·exact .inl q
  ·exact .inr ⟨q,hDu _ _ _ (.inl q)⟩
 refine codeAny_call_function hr.depth (KX _ _ lk) rfl S.co S.gen rfl (PySem.W.codeRec_of KX hcd) (hb _ _ _ _ ?_);refine wpAny_newFunctionEnv_cells S.kind hkind fun env he s1 x=>?_
 subst he;refine⟨lim.keeps x.toInCall.keep,codeAny_func ?_⟩;obtain⟨t,ht,hq⟩:=hbody A outer s H vs Q E (hr.deeper _) hsp;have I:Inv (qCd CX P w K mg base N qual scope f cdv A outer s H E) [] (qFt N vs) H s1:=qJr S hr.hd e0 hl r x;refine wpAny_mono (ht [] s1 (qFt N vs) H _ I hq) (fun fl s' hs=>?_) fun e s' hs=>hs
 have fin:∀ {σ':St} {H':Hp} {v:V} {u:Value},Inv (qCd CX P w K mg base N qual scope f cdv A outer s H E) [] σ' H' s'->qBq v u->Q v H'->CE outer P w H s Q u s' :=
  fun {σ' H' v u} J rv q=>⟨v,H',J.os,J.bare,J.base,J.hok,rv,q⟩
 cases fl with
 |ret u =>
  obtain⟨v,σ',H',J,rv,q⟩:=hs;exact fin J rv q
 |next =>
  obtain⟨σ',H',J,q⟩:=hs;exact fin (v:=V.non) (u:=Value.none) J rfl q
 |brk =>
  obtain⟨_,_,_,q⟩:=hs;exact False.elim q
 |cont =>
  obtain⟨_,_,_,q⟩:=hs;exact False.elim q
section
variable{X:Cx}{x:Str}{p pos:Pos}{e:Expr}{es:List Expr}{t:TA}{id T:String}{r:List V->Hp->VK->Prop}
def tCB(r:List V->Hp->VK->Prop)(t:TA):TE:=fun σ H Q=>t σ H fun vs H1=>r vs H1 Q
theorem qAn(hc:qB7 X (.builtin id) r)(hg:Gl X x)(hm:X.mg x=none)(hv:bootBuiltins x=some (.builtin id))(ha:PA X (e :: es) t)(hn:x≠"__name__":=by decide)(hdb:(x == ("__debug__" : Str))=false:=by decide)
  (he:starEach (e :: es) X.env=(false,eval e X.env) :: starEach es X.env:=by rfl) (hpl:(backTo pos (starEach es X.env)).any (·.1)=false:=by rfl):PE X (.Call (.Name x p) (e :: es) [] pos) (tCB r t):=by
 intro pins s σ H Q I h;refine wpAny_Call_Name_kw (qEt I hg hm hv ?_ hn hdb);exact PyProof.Rows.callWith_builtin1 (thn (ha pos pins s σ H _ I h) fun us s1 ⟨vs,H1,I1,r1,q1⟩=>hc pins s1 σ H1 vs us Q I1 r1 q1) he hpl
theorem qBp(hc:qB7 X (.type T) r)(hg:Gl X x)(hm:X.mg x=none)(hv:bootBuiltins x=some (.type T))(ha:PA X (e :: es) t)(hn:x≠"__name__":=by decide)(hdb:(x == ("__debug__" : Str))=false:=by decide)
  (he:starEach (e :: es) X.env=(false,eval e X.env) :: starEach es X.env:=by rfl) (hpl:(backTo pos (starEach es X.env)).any (·.1)=false:=by rfl):PE X (.Call (.Name x p) (e :: es) [] pos) (tCB r t):=by
 intro pins s σ H Q I h;refine wpAny_Call_Name_kw (qEt I hg hm hv ?_ hn hdb);exact hD9 (thn (ha pos pins s σ H _ I h) fun us s1 ⟨vs,H1,I1,r1,q1⟩=>hc pins s1 σ H1 vs us Q I1 r1 q1) he hpl
end
end L2
namespace HT
open PySem PyProof.Rows
section
variable{prog:Program}{w:World}{A:Around}{E:Value->Shared->Prop}{s:Shared}
noncomputable def sIx(n d:Nat):Option Int->Nat
 |none=>d
 |some v=>if v<0 then (v+(n:Int)).toNat else min v.toNat n
theorem sIx_none(n d:Nat):sIx n d none=d:=rfl
theorem sIx_nat(n d k:Nat):sIx n d (some (k:Int))=min k n:=by
 show(if (k:Int)<0 then ((k:Int)+(n:Int)).toNat else min (k:Int).toNat n)=min k n;rw[if_neg (by omega),hB1]
end
end HT
namespace L2
open PySem PySem.Spec PyProof.Rows
abbrev TO:=St->Hp->(Option Int->Hp->Prop)->Prop
def PO(X:Cx)(e:Option Expr)(t:TO):Prop :=
 ∀(pins:List (Addr×Obj)) (s:Shared) (σ:St) (H:Hp) (Q:Option Int->Hp->Prop),Inv X pins σ H s->t σ H Q ->
  wpAny (model X.prog X.w) X.A (evalPart e X.env) (fun u s'=>∃o H',Inv X pins σ H' s'/\IsPart u o/\Q o H') X.xe s
def qVy:TO:=fun _ H Q=>Q none H
def zA8(t:TE):TO:=fun σ H Q=>t σ H fun x H1=>∃i,x = .int i/\Q (some i) H1
section
variable{X:Cx}{e:Expr}{te:TE}{lo hi:Option Expr}{tl th:TO}{pos p2:Pos}
theorem qIc:PO X none qVy:=by
 intro pins s σ H Q I h;rw[evalPart_none];exact wpAny_pure ⟨none,H,I,.none,h⟩
theorem qIb(h:PE X e te):PO X (some e) (zA8 te):=by
 intro pins s σ H Q I hw;rw[evalPart_some];refine thn (h pins s σ H _ I hw) fun u s1 ⟨x,H1,I1,r1,q1⟩=>?_
 obtain⟨i,rfl,q⟩:=q1;obtain⟨t,rfl⟩:=r1;exact⟨some i,H1,I1,.int i t,q⟩
def SlR(X:Cx)(r:V->Option Int->Option Int->Hp->VK->Prop):Prop :=
 ∀(pins:List (Addr×Obj)) (s:Shared) (σ:St) (H:Hp) (x:V) (v vl vu:Value) (lo hi:Option Int) (sl:Addr) (Q:VK),Inv X pins σ H s->qBq x v->s.heap.IsSliceOf sl vl vu .none->IsPart vl lo->IsPart vu hi->r x lo hi H Q ->
  ∃T id,typeLookup (.type T) "__getitem__" = pure (some (.builtin id))/\s.TypeIs v T/\wpAny (model X.prog X.w) X.A (getItem v (.ref sl)) (EP X pins σ Q) X.xe s
def tSl(r:V->Option Int->Option Int->Hp->VK->Prop)(te:TE)(tl th:TO):TE:=fun σ H Q=>te σ H fun x H1=>tl σ H1 fun l H2=>th σ H2 fun u H3=>r x l u H3 Q
theorem qF3(hr:SlR X r)(he:PE X e te)(hl:PO X lo tl)(hu:PO X hi th):PE X (.Subscript e (.Slice lo hi none p2) pos) (tSl r te tl th):=by
 intro pins s σ H Q I h;refine Subscript_ (thn (he pins s σ H _ I h) fun v s1 ⟨x,H1,I1,r1,q1⟩=>?_);refine wpAny_Slice (thn (hl pins s1 σ H1 _ I1 q1) fun vl s2 ⟨l,H2,I2,pl,q2⟩=>thn (hu pins s2 σ H2 _ I2 q2) fun vu s3 ⟨u,H3,I3,pu,q3⟩=>?_);rw[evalPart_none];refine wpAny_pure ?_;have I4:Inv X pins σ H3 { s3 with heap:=s3.heap.push { cls:=.type "slice",data:=.fields #[vl,vu,.none] } }:=I3.kept (t':=s3.toks) fun b ob q=>Heap.get?_push_of_some _ q
 obtain⟨T,id,hT,ht,hg⟩:=hr pins { s3 with heap:=s3.heap.push { cls:=.type "slice",data:=.fields #[vl,vu,.none] } } σ H3 x v vl vu l u s3.heap.objs.size Q I4 r1 (Heap.IsSliceOf.new ..) pl pu q3;show wpAny (model X.prog X.w) X.A (subscriptTail e (.Slice lo hi none p2) v (.ref s3.heap.objs.size)) (EP X pins σ Q) X.xe { s3 with heap:=s3.heap.push { cls:=.type "slice",data:=.fields #[vl,vu,.none] } };exact tail_any (ops:=[.ref s3.heap.objs.size,v]) ht hT hg (by with_unfolding_all rfl)
noncomputable def cutV(xs:List V)(lo hi:Option Int):List V:=(xs.drop (HT.sIx xs.length 0 lo)).take (HT.sIx xs.length xs.length hi - HT.sIx xs.length 0 lo)
theorem qLi(xs:List V)(lo hi:Option Int):(cutV xs lo hi).length<=xs.length:=by
 unfold cutV;rw[hAl,hCj];omega
end
noncomputable def ixN(n:Nat)(i:Int):Option Nat:=if 0<=i then (if i<n then some i.toNat else none) else if -(n:Int)<=i then some (i+n).toNat else none
noncomputable def atI{α:Type}(xs:List α)(i:Int):Option α:=(ixN xs.length i).bind fun j=>xs[j]?
theorem qQz(h:ixN n i=some j):seqIndex? i n=some j/\j<n/\-(n:Int)<=i/\i<n:=by
 unfold ixN at h;by_cases h0:0<=i
 ·rw[if_pos h0]at h;by_cases h1:i<n
  ·rw[if_pos h1]at h;have e:i.toNat=j:=hAt h;exact⟨by rw[seqIndex_of h0 h1,e],by omega,by omega,h1⟩
  ·rw[if_neg h1]at h;cases h
 ·rw[if_neg h0]at h;by_cases h1:-(n:Int)<=i
  ·rw[if_pos h1]at h;have e:(i+n).toNat=j:=hAt h;exact⟨by rw[seqIndex_neg (by omega) h1,e],by omega,h1,by omega⟩
  ·rw[if_neg h1]at h;cases h
theorem qLn(h:atI xs i=some v):∃j,seqIndex? i xs.length=some j/\xs[j]?=some v/\j<xs.length/\-(xs.length:Int)<=i/\i<xs.length:=by
 unfold atI at h;cases e:ixN xs.length i with
 |none=>rw[e]at h;cases h
 |some j =>
  rw[e]at h;obtain⟨h1,h2,h3,h4⟩:=qQz e;exact⟨j,h1,h,h2,h3,h4⟩
theorem atI_nat{α:Type}{xs:List α}{j:Nat}{v:α}(h:xs[j]?=some v):atI xs (j:Int)=some v:=by
 have hj:j<xs.length:=(hAq.mp h).1;have e:ixN xs.length (j:Int)=some j:=by
  unfold ixN;rw[if_pos (by omega),if_pos (by omega)];simp
 unfold atI;rw[e];exact h
def qX3(b:Expr):Prop:=∀o i,subscripted b false o i=operate [o,i] (getItem o i)
def IxR(X:Cx)(r:R2):Prop :=
 ∀(value slice:Expr) (pins:List (Addr×Obj)) (s:Shared) (σ:St) (H:Hp) (x y:V) (v u:Value) (Q:VK),Inv X pins σ H s->qBq x v->qBq y u->r x y H Q ->
  subscripted slice false v u=operate [v,u] (getItem v u)->wpAny (model X.prog X.w) X.A (subscriptTail value slice v u) (EP X pins σ Q) X.xe s
def MtR(X:Cx)(id:String)(r:V->List V->Hp->VK->Prop):Prop :=
 ∀(pins:List (Addr×Obj)) (s:Shared) (σ:St) (H:Hp) (x:V) (xs:List V) (v:Value) (us:List Value) (Q:VK),Inv X pins σ H s->qBq x v->qA7 xs us->r x xs H Q ->
  wpAny (model X.prog X.w) X.A (call (.builtin id) (v :: us)) (EP X pins σ Q) X.xe s
section
variable{X:Cx}{a b:Expr}{ta tb:TE}{pos:Pos}
theorem qCm(hr:IxR X r)(ha:PE X a ta)(hb:PE X b tb)(hs:qX3 b):PE X (.Subscript a b pos) (tOp r ta tb):=by
 intro pins s σ H Q I h;exact Subscript_ (zCh ha hb I h fun v u s2 x y H2 I2 rx ry q=>hr a b pins s2 σ H2 x y v u Q I2 rx ry q (hs _ _))
def zBu(K:PySem.W.Frag):R2:=fun x y H Q=>∃p xs i v,x = .ref p/\y = .int i/\SqL K H p xs/\atI xs i=some v/\Q v H
def zBt(K:PySem.W.Frag):R2:=fun x y H Q=>∃p xs i v,x = .ref p/\y = .int i/\SqT K H p xs/\atI xs i=some v/\Q v H
def zDg:R2:=fun x y H Q=>∃z i c,x = .str z/\y = .int i/\z.length<=sizeLine/\atI z.cps.toList i=some c/\Q (.str ⟨#[c]⟩) H
theorem qC4:IxR X (zBu X.K):=by
 intro value slice pins s σ H x y v u Q I rx ry h hs;obtain⟨p,xs,i,z,rfl,rfl,hq,he,q⟩:=h;cases rx;obtain⟨t,rfl⟩:=ry;obtain⟨its,r,pl,hz⟩:=I.list hq;obtain⟨j,h1,h2,h3,h4,h5⟩:=qLn he;obtain⟨w,ew,rw'⟩:=r.get h2;have hl:=r.length;have hn:=qJi;have fin:EP X pins σ Q w s:=⟨z,H,I,rw',q⟩;by_cases h0:0<=i
 ·have hj:i.toNat=j:=by
   rw[seqIndex_of h0 h5]at h1;exact hAt h1
  exact item_listR pl.isList h0 (by omega) (by rw[hj];simpa using ew) fin hs
 ·have hj:(i+(its.toArray.size:Int)).toNat=j:=by
   rw[seqIndex_neg (by omega) h4]at h1;rw[hAd,<-hl];exact hAt h1
  exact subscriptTail_builtinR (x:=w) pl.isList.typeIs slot_list_getitem.lookup
   (wpAny_getItem_list_neg (Q:=fun r s'=>r=w/\EP X pins σ Q r s') pl.isList (by omega) (by rw[hAd] <;> omega) (by omega) (by rw[hj];simpa using ew) ⟨rfl,fin⟩) hs
theorem qEv:IxR X (zBt X.K):=by
 intro value slice pins s σ H x y v u Q I rx ry h hs;obtain⟨p,xs,i,z,rfl,rfl,hq,he,q⟩:=h;cases rx;obtain⟨t,rfl⟩:=ry;obtain⟨its,r,pl,hz⟩:=I.tuple hq;obtain⟨j,h1,h2,h3,h4,h5⟩:=qLn he;obtain⟨w,ew,rw'⟩:=r.get h2;have hl:=r.length;have hn:=qJi;have fin:EP X pins σ Q w s:=⟨z,H,I,rw',q⟩;exact subscriptTail_builtinR (x:=w) pl.typeIs slot_tuple_getitem.lookup
  (getItem_tuple (j:=j) (Q:=fun r s'=>r=w/\EP X pins σ Q r s') pl (by omega) (by omega) (by rw[hAd,<-hl];exact h1) (by simpa using ew) ⟨rfl,fin⟩) hs
theorem qM3:IxR X zDg:=by
 intro value slice pins s σ H x y v u Q I rx ry h hs;obtain⟨z,i,c,rfl,rfl,hz,he,q⟩:=h;obtain⟨t,rfl⟩:=rx;obtain⟨t',rfl⟩:=ry;obtain⟨j,h1,h2,h3,h4,h5⟩:=qLn he;have hl:z.cps.toList.length=z.length:=by simp[Str.length]
 rw[hl]at h1 h4 h5;have hn:=qJi;exact tail_any (typeIs_str s z t) slot_str_getitem.lookup (getItem_str (c:=c) (by
  have e1:decide (i < -(2^63:Int))=false:=decide_eq_false (by omega);have e2:decide (i >= 2^63)=false:=decide_eq_false (by omega);rw[e1,e2,Bool.or_false]) (by rw[h1];simpa using h2) ⟨.str ⟨#[c]⟩,H,I.tok _,⟨_,rfl⟩,q⟩) hs
theorem qN2(its:List Value)(n j:Nat)(u:Value):Obj.mapSeq (·.setIfInBounds j u) { cls:=.type "list",data:=.seq its.toArray n }={ cls:=.type "list",data:=.seq (its.set j u).toArray n }:=by
 simp[Obj.mapSeq]
theorem Inv.lst{pins:List (Addr×Obj)}{σ:St}{H:Hp}{s:Shared}{p:Addr}{xs:List V}(I:Inv X pins σ H s)(h:H p=some (.lst xs)) :
  ∃(its:List Value) (n:Nat),qA7 xs its/\s.heap.get? p=some { cls:=.type "list",data:=.seq its.toArray n }/\xs.length<=sizeLine:=by
 obtain⟨z,its,n,r,e⟩:=I.hok p _ h;exact⟨its,n,r,e,z⟩
theorem Inv.lstUpd{pins:List (Addr×Obj)}{σ:St}{H:Hp}{s:Shared}{p:Addr}{xs ys:List V}{its its':List Value}{n n':Nat}{f:Obj->Obj}(I:Inv X pins σ H s)(h:H p=some (.lst xs))
  (ho:s.heap.get? p=some { cls:=.type "list",data:=.seq its.toArray n }) (hf:f { cls:=.type "list",data:=.seq its.toArray n }={ cls:=.type "list",data:=.seq its'.toArray n' }) (r:qA7 ys its') (hz:ys.length<=sizeLine) (t:Nat) :
  Inv X pins σ (upd H p (.lst ys)) { s with heap:=s.heap.update p f,toks:=t }:=by
 have e:(s.heap.update p f).get? p=some { cls:=.type "list",data:=.seq its'.toArray n' }:=by
  rw[Heap.get?_update_self f ho (by rw[hf] <;> rfl),hf]
 refine I.write (x:=p) (e:=p) (by rw[h];trivial) (.inl rfl) (fun b u hb q=>(Heap.get?_update_other _ _ (Ne.symm hb)).trans q) ⟨_,e⟩ ?_;exact⟨hz,its',n',r,e⟩
def zBs:V->V->V->Hp->(Hp->Prop)->Prop:=fun o i v H Q=>∃p xs k j,o = .ref p/\i = .int k/\H p=some (.lst xs)/\ixN xs.length k=some j/\Q (upd H p (.lst (xs.set j v)))
theorem qH5:zCz X zBs:=by
 intro pins s σ H o i v ov iv u Q I ro ri rv h;obtain⟨p,xs,k,j,rfl,rfl,hp,hj,q⟩:=h;cases ro;obtain⟨t,rfl⟩:=ri;obtain⟨its,n,r,ho,hz⟩:=I.lst hp;obtain⟨h1,h2,h3,h4⟩:=qQz hj;have hl:=r.length;have hn:=qJi;have I':Inv X pins σ (upd H p (.lst (xs.set j v))) { s with heap:=s.heap.update p (Obj.mapSeq (·.setIfInBounds j u)) } :=
  I.lstUpd hp ho (qN2 its n j u) (r.set rv j) (by rw[List.length_set];exact hz) s.toks
 by_cases h0:0<=k
 ·have hk:k.toNat=j:=by
   rw[seqIndex_of h0 h4]at h1;exact hAt h1
  exact PySem.W.ki_setAt ho h0 (by omega) (by rw[hAd,<-hl];exact h4) (by rw[hk];exact⟨_,I',q⟩)
 ·have hk:(k+(its.toArray.size:Int)).toNat=j:=by
   rw[seqIndex_neg (by omega) h3]at h1;rw[hAd,<-hl];exact hAt h1
  exact PySem.W.ki_setBack ho (by omega) (by rw[hAd,<-hl];exact h3) (by omega) (by rw[hk];exact⟨_,I',q⟩)
theorem qI3(lo hi:Option Int)(n:Nat):(sliceBounds lo hi none n).1=((HT.sIx n 0 lo:Nat):Int)/\(sliceBounds lo hi none n).2.1=((HT.sIx n n hi:Nat):Int)/\(sliceBounds lo hi none n).2.2=1:=by
 refine⟨?_,?_,rfl⟩
 ·cases lo with
  |none=>simp[sliceBounds,HT.sIx]
  |some i =>
   simp only[sliceBounds,HT.sIx,Option.getD_none,show(1:Int) > 0 by decide,if_true];by_cases h:i<0
   ·simp only[h,if_true] <;> omega
   ·simp only[h,if_false] <;> omega
 ·cases hi with
  |none=>simp[sliceBounds,HT.sIx]
  |some i =>
   simp only[sliceBounds,HT.sIx,Option.getD_none,show(1:Int) > 0 by decide,if_true];by_cases h:i<0
   ·simp only[h,if_true] <;> omega
   ·simp only[h,if_false] <;> omega
theorem qH2(its:List Value)(lo hi:Option Int):slicePick its.toArray lo hi none=((its.drop (HT.sIx its.length 0 lo)).take (HT.sIx its.length its.length hi - HT.sIx its.length 0 lo)).toArray:=by
 obtain⟨h1,h2,h3⟩:=qI3 lo hi its.toArray.size;unfold slicePick;rw[h1,h2,h3];simp only[sliceRange_one,pick_run,hAd] <;> rfl
def zDe(K:PySem.W.Frag):V->Option Int->Option Int->Hp->VK->Prop:=fun x lo hi H Q=>∃a xs,x = .ref a/\SqL K H a xs/\∀p,H p=none->Q (.ref p) (upd H p (.lst (cutV xs lo hi)))
theorem qO6:SlR X (zDe X.K):=by
 intro pins s σ H x v vl vu lo hi sl Q I rx hs pl pu h;obtain⟨a,xs,rfl,hx,q⟩:=h;cases rx;obtain⟨its,r,ht,hz⟩:=I.list hx;have hlen:=r.length;refine⟨"list",_,slot_list_getitem.lookup,ht.isList.typeIs,?_⟩;refine wpAny_getItem_list_slice ht.isList hs pl pu .none (by simp) ?_ (by rw[hAd] <;> omega);rw[qH2,<-hlen];refine⟨.ref s.heap.objs.size,_,I.laid (t':=s.toks) (o:=.lst (cutV xs lo hi)) (fun b ob q=>Heap.get?_push_of_some _ q) (hA6 _) ?_,rfl,q _ (I.hok.fresh (hA6 _))⟩;exact⟨hB2 (qLi xs lo hi) hz,_,0,(r.drop (HT.sIx xs.length 0 lo)).take (HT.sIx xs.length xs.length hi - HT.sIx xs.length 0 lo),Heap.get?_push_size _ rfl⟩
noncomputable def qG8:V->Bool
 |.non=>true
 |.bl _=>true
 |.int _=>true
 |.str _=>true
 |_=>false
noncomputable def eqV:V->V->Bool
 |.non,.non=>true
 |.bl a,.bl b=>a == b
 |.bl a,.int b=>(if a then 1 else 0) == b
 |.int a,.bl b=>a == (if b then 1 else 0)
 |.int a,.int b=>a == b
 |.str a,.str b=>a == b
 |_,_=>false
theorem zAj(ry:qBq y u)(rx:qBq x v)(fy:qG8 y=true)(fx:qG8 x=true):SeqAt.EqAt A s u v (eqV y x):=by
 cases y with
 |non =>
  cases ry;cases x with
  |non=>cases rx;exact SeqAt.EqAt.same _
  |bl b=>cases rx;exact SeqAt.EqAt.none_bool b
  |int b=>obtain⟨t,rfl⟩:=rx;exact SeqAt.EqAt.none_int b t
  |str b=>obtain⟨t,rfl⟩:=rx;exact SeqAt.EqAt.none_str b t
  |_=>exact absurd (show false=true from fx) hAx
 |bl a =>
  cases ry;cases x with
  |non=>cases rx;exact SeqAt.EqAt.bool_none a
  |bl b=>cases rx;exact SeqAt.EqAt.bool_bool a b
  |int b=>obtain⟨t,rfl⟩:=rx;exact SeqAt.EqAt.bool_int a b t
  |str b=>obtain⟨t,rfl⟩:=rx;exact SeqAt.EqAt.bool_str a b t
  |_=>exact absurd (show false=true from fx) hAx
 |int a =>
  obtain⟨t',rfl⟩:=ry;cases x with
  |non=>cases rx;exact SeqAt.EqAt.int_none a t'
  |bl b=>cases rx;exact SeqAt.EqAt.int_bool a t' b
  |int b=>obtain⟨t,rfl⟩:=rx;exact SeqAt.EqAt.int_int a t' b t
  |str b=>obtain⟨t,rfl⟩:=rx;exact SeqAt.EqAt.int_str a t' b t
  |_=>exact absurd (show false=true from fx) hAx
 |str a =>
  obtain⟨t',rfl⟩:=ry;cases x with
  |non=>cases rx;exact SeqAt.EqAt.str_none a t'
  |bl b=>cases rx;exact SeqAt.EqAt.str_bool a t' b
  |int b=>obtain⟨t,rfl⟩:=rx;exact SeqAt.EqAt.str_int a t' b t
  |str b=>obtain⟨t,rfl⟩:=rx;exact SeqAt.EqAt.str_str a t' b t
  |_=>exact absurd (show false=true from fx) hAx
 |_=>exact absurd (show false=true from fy) hAx
noncomputable def eqU(x:V)(u:Value):Bool:=match u with
 |.none=>eqV .non x
 |.bool b=>eqV (.bl b) x
 |.int i _=>eqV (.int i) x
 |.str z _=>eqV (.str z) x
 |_=>false
theorem qVg(r:qBq y u)(f:qG8 y=true):eqU x u=eqV y x:=by
 cases y with
 |non=>cases r;rfl
 |bl b=>cases r;rfl
 |int i=>obtain⟨t,rfl⟩:=r;rfl
 |str z=>obtain⟨t,rfl⟩:=r;rfl
 |_=>exact absurd (show false=true from f) hAx
theorem qG3:∀ {xs:List V} {us:List Value},qA7 xs us->xs.all qG8=true->us.any (eqU x)=xs.any fun y=>eqV y x
 |_,_,.nil,_=>rfl
 |y :: xs,u :: us,.cons r t,f=>by
  rw[List.all_cons,hB4]at f;rw[hDe,hDe,qVg r f.1,qG3 t f.2]
theorem qEo(rx:qBq x v)(fx:qG8 x=true):∀ {xs:List V} {us:List Value},qA7 xs us->xs.all qG8=true->∀u∈us,SeqAt.EqAt A s u v (eqU x u)
 |_,_,.nil,_=>fun u hu=>by cases hu
 |y :: xs,u :: us,.cons r t,f=>fun u' hu=>by
  rw[List.all_cons,hB4]at f;rcases hAg.mp hu with rfl|hu
  ·rw[qVg r f.1];exact zAj r rx f.1 fx
  ·exact qEo rx fx t f.2 u' hu
noncomputable def inV(x:V)(xs:List V):Bool:=xs.any fun y=>eqV y x
def rIn(K:PySem.W.Frag)(neg:Bool):R2:=fun x y H Q=>∃p xs,y = .ref p/\(SqL K H p xs\/SqT K H p xs)/\qG8 x=true/\xs.all qG8=true/\Q (.bl (if neg then !inV x xs else inV x xs)) H
theorem qJd:OpR X (compareOp .In) (rIn X.K false):=by
 intro pins s σ H x y v u Q I rx ry h;obtain⟨p,xs,rfl,hq,fx,fs,q⟩:=h;cases ry;rcases hq with hq|hq
 ·obtain⟨its,r,pl,hz⟩:=I.list hq;refine SeqAt.in_listAt (eqU x) pl.isList (fun w hw=>qEo rx fx r fs w (by simpa using hw)) ⟨.bl _,H,I,rfl,?_⟩;rw[show its.toArray.any (eqU x)=its.any (eqU x) by simp,qG3 r fs];exact q
 ·obtain⟨its,r,pl,hz⟩:=I.tuple hq;refine SeqAt.in_tupleAt (eqU x) pl (fun w hw=>qEo rx fx r fs w (by simpa using hw)) ⟨.bl _,H,I,rfl,?_⟩;rw[show its.toArray.any (eqU x)=its.any (eqU x) by simp,qG3 r fs];exact q
theorem qCo:OpR X (compareOp .NotIn) (rIn X.K true):=by
 intro pins s σ H x y v u Q I rx ry h;obtain⟨p,xs,rfl,hq,fx,fs,q⟩:=h;cases ry;rcases hq with hq|hq
 ·obtain⟨its,r,pl,hz⟩:=I.list hq;refine SeqAt.notIn_listAt (eqU x) pl.isList (fun w hw=>qEo rx fx r fs w (by simpa using hw)) ⟨.bl _,H,I,rfl,?_⟩;rw[show its.toArray.any (eqU x)=its.any (eqU x) by simp,qG3 r fs];exact q
 ·obtain⟨its,r,pl,hz⟩:=I.tuple hq;refine SeqAt.notIn_tupleAt (eqU x) pl (fun w hw=>qEo rx fx r fs w (by simpa using hw)) ⟨.bl _,H,I,rfl,?_⟩;rw[show its.toArray.any (eqU x)=its.any (eqU x) by simp,qG3 r fs];exact q
theorem qAo:qB7 X (.builtin "len") (fun xs H Q=>∃p ys,xs=[.ref p]/\(SqL X.K H p ys\/SqT X.K H p ys)/\Q (.int ys.length) H):=by
 intro pins s σ H xs us Q I r h;obtain⟨p,ys,rfl,hq,q⟩:=h;obtain⟨u,rfl,rx⟩:=qCv r;cases rx;have hn:=qJi;rcases hq with hq|hq
 ·obtain⟨its,r',pl,hz⟩:=I.list hq;have hlen:=r'.length;exact Calls.call_len_list pl.isList (by simp only[hAd] <;> omega) ⟨.int ys.length,H,I.tok _,⟨s.toks+1,by rw[hAd,hlen]⟩,q⟩
 ·obtain⟨its,r',pl,hz⟩:=I.tuple hq;have hlen:=r'.length;exact len_tuple pl (by simp only[hAd] <;> omega) ⟨.int ys.length,H,I.tok _,⟨s.toks+1,by rw[hAd,hlen]⟩,q⟩
theorem qB4:qB7 X (.type "list") (fun xs H Q=>∃p ys,xs=[.ref p]/\(SqL X.K H p ys\/SqT X.K H p ys)/\∀l,H l=none->Q (.ref l) (upd H l (.lst ys))):=by
 intro pins s σ H xs us Q I r h;obtain⟨p,ys,rfl,hq,q⟩:=h;obtain⟨u,rfl,rx⟩:=qCv r;cases rx;have fin:∀(its:List Value),qA7 ys its->ys.length<=sizeLine->∀(h':Heap) (c':Nat),(∀b o',s.heap.get? b=some o'->h'.get? b=some o') ->
   h'.get? s.heap.objs.size=some { cls:=.type "list",dict:=none,data:=.seq its.toArray c',slots:=#[] }->EP X pins σ Q (.ref s.heap.objs.size) { s with heap:=h' }:=fun its r' hz h' c' kp e =>
  ⟨.ref s.heap.objs.size,_,I.laid (t':=s.toks) kp (hA6 _) (show qBr X.prog X.w _ h' _ (.lst ys) from ⟨hz,its,c',r',e⟩),rfl,q _ (I.hok.fresh (hA6 _))⟩
 rcases hq with hq|hq
 ·obtain⟨its,r',pl,hz⟩:=I.list hq;have hlen:=r'.length;obtain⟨o,ho,hc,n,hd⟩:=pl.isList;exact call_list_seq p (.inl rfl) ho hc hd (fun h' c' kp e=>fin its r' hz h' c' kp e) (by simp only[hAd] <;> omega)
 ·obtain⟨its,r',pl,hz⟩:=I.tuple hq;have hlen:=r'.length;obtain⟨o,ho,hc,n,hd⟩:=pl;exact call_list_seq p (.inr rfl) ho hc hd (fun h' c' kp e=>fin its r' hz h' c' kp e) (by simp only[hAd] <;> omega)
def tyV(K:PySem.W.Frag)(T:String)(x:V)(H:Hp):Prop:=match x with
 |.str _=>T = "str"
 |.int _=>T = "int"
 |.ref p=>(T = "list"/\∃xs,SqL K H p xs)\/(T = "tuple"/\∃o,K.lookup p=some o/\o.cls = .type "tuple"/\o.dict=none) \/
   (T = "dict"/\((∃kvs,H p=some (.dK kvs))\/∃kvs,H p=some (.dT kvs)))\/(T = "set"/\∃S n,H p=some (.set S n))
 |_=>False
theorem qUk(I:Inv X pins σ H s)(r:qBq x v)(ty:tyV X.K T x H) :
  s.TypeIs v T/\∀a,v = .ref a->∃ob,s.heap.get? a=some ob/\ob.dict=none:=by
 cases x with
 |str z =>
  obtain⟨t,rfl⟩:=r;cases(show T = "str" from ty);exact⟨typeIs_str s z t,fun _ e=>nomatch e⟩
 |int i =>
  obtain⟨t,rfl⟩:=r;cases(show T = "int" from ty);exact⟨typeIs_int s i t,fun _ e=>nomatch e⟩
 |ref p =>
  cases r;rcases ty with ⟨rfl,xs,hq⟩|⟨rfl,o,hk,hc,hd⟩|⟨rfl,hk⟩|⟨rfl,S,n,hk⟩
  ·obtain⟨its,_,pl,_⟩:=I.list hq;refine⟨pl.isList.typeIs,fun a e=>?_⟩;cases e;obtain⟨o,n,e,c,hd,_⟩:=pl;exact⟨o,e,hd⟩
  ·refine⟨⟨o,I.kIn p o hk,hc⟩,fun a e=>?_⟩;cases e;exact⟨o,I.kIn _ o hk,hd⟩
  ·have z:∃o,s.heap.get? p=some o/\o.ExactDict:=by
    rcases hk with ⟨kvs,hk⟩|⟨kvs,hk⟩
    ·obtain⟨_,_,_,_,o,_,_,e,ex,_⟩:=I.hok p _ hk;exact⟨o,e,ex⟩
    ·obtain⟨_,_,_,_,o,_,_,e,ex,_⟩:=I.hok p _ hk;exact⟨o,e,ex⟩
   obtain⟨o,e,ex⟩:=z;refine⟨⟨o,e,ex.1⟩,fun a e2=>?_⟩;cases e2;exact⟨o,e,ex.2.1⟩
  ·obtain⟨o,_,_,_,e,ex,_⟩:=I.hok p _ hk;refine⟨⟨o,e,ex.1⟩,fun a e2=>?_⟩;cases e2;exact⟨o,e,ex.2.1⟩
 |_=>exact False.elim ty
def zC7(K:PySem.W.Frag)(T:String)(r:V->List V->Hp->VK->Prop)(to:TE):TE:=fun σ H Q=>to σ H fun x H1=>tyV K T x H1/\r x [] H1 Q
def tBM(K:PySem.W.Frag)(T:String)(r:V->List V->Hp->VK->Prop)(to:TE)(t:TA):TE:=fun σ H Q=>to σ H fun x H1=>tyV K T x H1/\t σ H1 fun xs H2=>r x xs H2 Q
variable{o e:Expr}{es:List Expr}{to:TE}{t:TA}{name:Str}{apos cpos:Pos}{T id:String}{r:V->List V->Hp->VK->Prop}
theorem qZk(pa:PlainAttrs T)(slot:Slot T name id)(hty:typeOf (.builtin id)=pure (.type "method_descriptor"))(hm:MtR X id r)(ho:PE X o to)
  (hbase:attributeBase o name X.env (eval o X.env)=eval o X.env:=by rfl) (hline:(apos.endLine == cpos.line)=true:=by rfl):PE X (.Call (.Attribute o name apos) [] [] cpos) (zC7 X.K T r to):=by
 intro pins s σ H Q I h;refine wpAny_Call_method0_late hbase hline (thn (ho pins s σ H _ I h) fun v s1 ⟨x,H1,I1,r1,ty,q1⟩=>?_);obtain⟨h1,h2⟩:=qUk I1 r1 ty;exact⟨T,id,pa,slot,hty,h1,h2,Calls.callWith_builtin rfl (PySem.evalArgs_none (hm pins s1 σ H1 x [] v [] Q I1 r1 .nil q1))⟩
theorem qFv(pa:PlainAttrs T)(slot:Slot T name id)(hty:typeOf (.builtin id)=pure (.type "method_descriptor"))(hm:MtR X id r)(ho:PE X o to)(ha:PA X (e :: es) t)
  (hbase:attributeBase o name X.env (eval o X.env)=eval o X.env:=by rfl)
  (hfew:((backTo cpos (starEach (e :: es) X.env)).all (fun x=>!x.1) && (backToKw cpos (keywordEach [] X.env)).all (fun x=>x.1.isSome)
   && decide ((e :: es).length+([]:List Keyword).length+(if ([]:List Keyword).isEmpty then 0 else 1)<30))=true:=by rfl)
  (hline:(apos.endLine == cpos.line)=true:=by rfl) (hs:starEach (e :: es) X.env=(false,eval e X.env) :: starEach es X.env:=by rfl) (hplain:(backTo cpos (starEach es X.env)).any (·.1)=false:=by rfl) :
  PE X (.Call (.Attribute o name apos) (e :: es) [] cpos) (tBM X.K T r to t):=by
 intro pins s σ H Q I h;refine wpAny_Call_method_late hbase hfew hline rfl (thn (ho pins s σ H _ I h) fun v s1 ⟨x,H1,I1,r1,ty,q1⟩=>?_);obtain⟨h1,h2⟩:=qUk I1 r1 ty;refine⟨T,id,pa,slot,hty,h1,h2,?_⟩;have hA:=ha cpos pins s1 σ H1 _ I1 q1;rw[hs]at hA ⊢;refine Calls.callWith_builtin (by show(false || (backTo cpos (starEach es X.env)).any (·.1))=false;rw[hplain] <;> rfl) (Calls.evalArgs_plain ?_);exact thn hA fun us s2 ⟨vs,H2,I2,r2,q2⟩=>hm pins s2 σ H2 x vs v us Q I2 r1 r2 q2
end
def MtM(X:Cx)(id:String)(r:V->List V->Hp->VK->Prop):Prop :=
 ∀(pins:List (Addr×Obj)) (s:Shared) (σ:St) (H:Hp) (x:V) (xs:List V) (v:Value) (us:List Value) (Q:VK),Inv X pins σ H s->qBq x v->qA7 xs us->r x xs H Q ->
  wpAny (model X.prog X.w) X.A (call (.builtin id) (v :: us)) (EP X pins σ Q) X.xe s
theorem qA7.one:∀ {x:V} {us:List Value},qA7 [x] us->∃u,us=[u]/\qBq x u
 |_,_,.cons r .nil=>⟨_,rfl,r⟩
theorem qA7.zero:∀ {us:List Value},qA7 [] us->us=[]
 |_,.nil=>rfl
theorem qA7.eraseIdx:∀ {xs:List V} {us:List Value} (i:Nat),qA7 xs us->qA7 (xs.eraseIdx i) (us.eraseIdx i)
 |_,_,_,.nil=>.nil
 |_,_,0,.cons _ t=>t
 |_,_,i+1,.cons r t=>.cons r (qA7.eraseIdx i t)
theorem qJj:∀(l:List α) (i:Nat),(l.eraseIdx i).length<=l.length
 |[],_=>hA6 _
 |_ :: _,0=>hB7 _
 |_ :: r,i+1=>Nat.succ_le_succ (qJj r i)
theorem foldl_rep(its:List Value):∀(k:Nat) (acc:List Value),
  List.foldl (fun x1 x2=>x1++x2) acc.toArray (List.replicate k its.toArray)=(acc++(List.replicate k its).flatten).toArray
 |0,acc=>by simp
 |k+1,acc=>by
  have e:acc.toArray++its.toArray=(acc++its).toArray:=by simp
  have e2:(acc++its)++(List.replicate k its).flatten=acc++(List.replicate (k+1) its).flatten:=by
   rw[hEa,List.flatten_cons,hBj]
  rw[<-e2,<-foldl_rep its k (acc++its),<-e,hEa,List.foldl_cons]
section
variable{X:Cx}{pins:List (Addr×Obj)}{σ:St}{H:Hp}{s:Shared}{l b:Addr}{xs ys zs:List V}
theorem Inv.lset{its its':List Value}{n:Nat}{f:Array Value->Array Value}{t':Nat}(I:Inv X pins σ H s)(hH:H l=some (.lst xs))
  (e:s.heap.get? l=some { cls:=.type "list",data:=.seq its.toArray n }) (hf:f its.toArray=its'.toArray) (hv:qA7 ys its') (hz:ys.length<=sizeLine) :
  Inv X pins σ (upd H l (.lst ys)) { s with heap:=s.heap.update l (Obj.mapSeq f),toks:=t' }:=by
 have q:=PySem.IsL.update e f;rw[hf]at q;refine I.write (x:=l) (e:=l) (by rw[hH];exact trivial) (.inl rfl) (fun b' u hb hu=>(Heap.get?_update_other s.heap (Obj.mapSeq f) (Ne.symm hb)).trans hu) ⟨_,q⟩ ?_;exact⟨hz,its',_,hv,q⟩
theorem Inv.lnew(I:Inv X pins σ H s)(hv:qA7 ys its)(hz:ys.length<=sizeLine) :
  Inv X pins σ (upd H s.heap.objs.size (.lst ys)) { s with heap:=s.heap.push { cls:=.type "list",data:=.seq its.toArray },toks:=t' } :=
 I.laid (fun _ _ q=>Heap.get?_push_of_some _ q) (hA6 _) ⟨hz,its,0,hv,Heap.get?_push_size _ rfl⟩
theorem Inv.fresh(I:Inv X pins σ H s):H s.heap.objs.size=none:=I.hok.fresh (hA6 _)
theorem Inv.lstM(I:Inv X pins σ H s)(hH:H l=some (.lst xs)):xs.length<=sizeLine/\∃(its:List Value) (n:Nat),qA7 xs its/\xs.length=its.length/\s.heap.get? l=some { cls:=.type "list",data:=.seq its.toArray n }:=by
 obtain⟨z,its,n,r,e⟩:=I.hok l _ hH;exact⟨z,its,n,r,r.length,e⟩
end
section
variable{X:Cx}
def qWr:V->List V->Hp->VK->Prop:=fun x vs H Q=>∃l xs y,x = .ref l/\vs=[y]/\H l=some (.lst xs)/\xs.length<sizeLine/\Q .non (upd H l (.lst (xs++[y])))
theorem qBx:MtM X "list.append" qWr:=by
 intro pins s σ H x vs v us Q I rx rv h;obtain⟨l,xs,y,rfl,rfl,hH,hz,q⟩:=h;cases rx;obtain⟨u,rfl,ru⟩:=rv.one;obtain⟨z,its,n,r,hl,e⟩:=I.lstM hH;refine call_meets F.slot_list_append ⟨_,e,rfl⟩ F.entry_list_append (F.args_list_append_2 _ _) (PySem.list_append l its.toArray n u (by rw[hAd];omega)) ⟨e,?_⟩;refine⟨.non,_,I.lset (its':=its++[u]) hH e (by simp) (r.append (.cons ru .nil)) ?_,rfl,q⟩;rw[hAj,List.length_singleton];omega
def qZg:V->List V->Hp->VK->Prop:=fun x vs H Q=>∃l xs i k y,x = .ref l/\vs=[.int i]/\H l=some (.lst xs)/\-(2^63)<=i/\i<2^63/\seqIndex? i xs.length=some k/\xs[k]?=some y/\Q y (upd H l (.lst (xs.eraseIdx k)))
theorem qIg:MtM X "list.pop" qZg:=by
 intro pins s σ H x vs v us Q I rx rv h;obtain⟨l,xs,i,k,y,rfl,rfl,hH,h1,h2,hk,hy,q⟩:=h;cases rx;obtain⟨u,rfl,ru⟩:=rv.one;obtain⟨t,rfl⟩:=ru;obtain⟨z,its,n,r,hl,e⟩:=I.lstM hH;obtain⟨w,hw,rw'⟩:=r.get hy;refine call_meets F.slot_list_pop ⟨_,e,rfl⟩ F.entry_list_pop (F.args_list_pop_2 _ _)
  (MeetsSeq.list_pop_at l its.toArray n i t k w (fitsIndex_both h1 h2) (by rw[hAd,<-hl];exact hk) (by rw[<-hAy];exact hw) (by rw[hAd];omega)) ⟨e,?_⟩
 refine⟨y,_,I.lset (its':=its.eraseIdx k) hH e ?_ (r.eraseIdx k) ?_,rw',q⟩
 ·show its.toArray.eraseIdxIfInBounds k=(its.eraseIdx k).toArray;rw[List.eraseIdxIfInBounds_toArray]
 ·have:=qJj xs k;omega
def zCr:R2:=fun x y H Q=>∃l b xs zs,x = .ref l/\y = .ref b/\H l=some (.lst xs)/\H b=some (.lst zs)/\xs.length+zs.length<=sizeLine/\∀p,H p=none->Q (.ref p) (upd H p (.lst (xs++zs)))
theorem qC0:OpR X (binaryOp .Add) zCr:=by
 intro pins s σ H x y v u Q I rx ry h;obtain⟨l,b,xs,zs,rfl,rfl,hH,hB,hz,q⟩:=h;cases rx;cases ry;obtain⟨z,its,n,r,hl,e⟩:=I.lstM hH;obtain⟨z2,its2,n2,r2,hl2,e2⟩:=I.lstM hB;refine PySem.P.add_list e e2 ?_ (by rw[hAd,hAd];omega);have ea:its.toArray++its2.toArray=(its++its2).toArray:=by simp
 rw[ea];exact⟨.ref _,_,I.lnew (t':=s.toks) (r.append r2) (by rw[hAj];omega),rfl,q _ I.fresh⟩
end
end L2
namespace Att
open PySem PySem.W PySem.Calls PyProof.Rows
theorem qGu:∀(ns:List Int) (vs:List Value),WellAll P h vs (ns.map WData.int)->IntsAre vs ns:=by
 intro ns
 induction ns with
 |nil =>
  intro vs w;rw[List.map_nil]at w;cases w;exact .nil
 |cons n ns ih =>
  intro vs w;rw[hB8]at w;cases w with
  |cons a b =>
   cases a;exact .cons _ _ (ih _ b)
theorem qPb{l:OpenLaw}{n:Nat}(hn:l.most=some n){P:Params}{h:Heap}{args:List WData}{vals:List Value}
  (hpre:l.row.toRowW.claim.pre args=true) (hwl:WellAll P h vals args) :
  ∃a vs ns,vals=[Value.ref a]/\args=[WData.list (ns.map WData.int)]/\h.get? a=some { cls:=.type "list",data:=.seq vs.toArray }/\IntsAre vs ns/\ns.length<=n:=by
 have hsh:WShape.hasAll [] args [.list .int]=true:=(pre_splitW hpre).1;have hc:l.pre.holds [] { args:=args }=true:=(pre_splitW hpre).2;obtain⟨d,r,rfl,h1,h2⟩:=hasAllW_cons hsh;obtain rfl:=hasAllW_nil h2;obtain⟨xs,rfl,h3⟩:=hasW_list h1;obtain⟨ns,rfl⟩:=items_int h3;have hlen:ns.length<=n:=by
  unfold OpenLaw.pre at hc;have h4:(WTm.not (.lt (.lit (.int (n:Int))) (.len (.arg 0)))).holds [] { args:=[.list (ns.map .int)] }=true:=by
   have h4:=(holds_andW hc).1;rw[hn]at h4;exact h4
  have h5:=condW_of h4 (w_not (w_lt w_lit (w_len_list (w_arg rfl))));rw[hA1]at h5;refine Nat.le_of_not_lt fun q=>?_
  have q':(n:Int)<((ns.length:Nat):Int):=by omega
  first
   |(rw[decide_eq_true q']at h5;exact absurd h5 (by decide))
   |(simp at h5;omega)
 cases hwl with
 |cons w1 w2 =>
  cases w2;cases w1 with
  |list ho hall=>exact⟨_,_,ns,rfl,rfl,ho,qGu ns _ hall,hlen⟩
theorem qP8(l:OpenLaw)(args:List WData):l.row.toRowW.claim.post args (.bool true) args=true :=
 postW_of (r:=l.row.toRowW) (X:=(true == true))
  (show WShape.has [] (.bool true) .bool=true by first|rfl|decide|simp[WShape.has,WShape.arms,WShape.armsAll])
  (show(WTm.eq .res (.lit (.bool true))).value [] { args:=args,res:=some (.bool true),after:=args }=some (.bool (true == true)) from w_eq_bool (w_res rfl) w_lit) rfl
theorem attach_call{l:OpenLaw}{n:Nat}{q:Program}{loose:List Str}{XP:(Str->Option Value)->Heap->Prop}{YP:World->Heap->Prop}{d:DefRec}
  (hn:l.most=some n) (hdf:d.params.defaults=[])
  (call:∀(w:World) (s₀ s₁:Shared) (mg mb:Str->Option Value) (fa:Addr) (o:Obj) (pm cd doc:Value) (a:Addr) (vs:List Value) (ns:List Int),
   Ground q loose [] XP w s₀ mg mb s₁.heap->YP w s₁.heap ->
   s₁.heap.get? fa=some o->o.data = .func (docDef d.name d.params d.body d.scope pm cd doc)->s₁.heap.CodeRec cd d.name->mg d.name=some (.ref fa) ->
   s₁.heap.get? a=some { cls:=.type "list",data:=.seq vs.toArray }->IntsAre vs ns->ns.length<=n->s₁.gens=#[] ->
   codeAny (model l.prog w) callerA (.call (.ref fa) ⟨[.ref a],[]⟩) (fun r s'=>r = .ok (.ret (.bool true))/\OldK s₁.heap s'.heap/\s'.os=s₁.os/\AllBare s'.gens) s₁) :
  WalkO q loose XP YP l.row.toRowW d [] (fun f vs=>PySem.call f vs):=by
 intro w s₀ s₁ mg mb G Y fa o pm cd doc dV kV ho hd hcd hD hmg hg args vals as hpre hlay hrd hwl hlo;obtain rfl:dV = .none:=Dflts.none hD hdf;obtain rfl:kV = .none:=Dflts.noKw hD;obtain⟨a,vs,ns,rfl,rfl,hobj,hints,hlen⟩:=qPb hn hpre hwl;refine enter_call (codeAny_mono (call w s₀ s₁ mg mb fa o pm cd doc a vs ns G Y ho (fd_plain hd) hcd hmg hobj hints hlen hg) fun r s' hq=>?_);obtain⟨rfl,h2,h3,h4⟩:=hq;exact⟨.inl ⟨.bool true,.bool true,[],rfl,fun _=>rfl,.bool true,qP8 l _,fun _=>⟨List.Pairwise.nil,fun _ hm=>(nomatch hm)⟩⟩,h2,h3,h4⟩
section
variable{prog:Program}{w:World}{A:Around}{E:Value->Shared->Prop}{s:Shared}{K:Frag}
noncomputable def zCt(h:Heap)(L d:Addr):List (Addr×Obj):=(List.range h.objs.size).filterMap fun a=>if a=L\/a=d then none else (h.get? a).map fun o=>(a,o)
end
end Att
namespace L2
open PySem PySem.Spec PyProof.Rows
theorem qGb:∀ {vs:List Value} {ns:List Int},IntsAre vs ns->qA7 (ns.map V.int) vs
 |_,_,.nil=>.nil
 |_,_,.cons n t h=>.cons ⟨t,rfl⟩ (qGb h)
noncomputable def qC6(s:Stmt):Arguments:=match s with
 |.FunctionDef _ a _ _ _ _ _ _ _ _=>a
 |_=>{ posonlyargs:=[],args:=[],vararg:=none,kwonlyargs:=[],kw_defaults:=[],kwarg:=none,defaults:=[] }
noncomputable def qBa(s:Stmt):List Stmt:=match s with
 |.FunctionDef _ _ b _ _ _ _ _ _ _=>b
 |_=>[]
noncomputable def qAd(s:Stmt):Scope:=match s with
 |.FunctionDef _ _ _ _ _ _ sc _ _ _=>sc
 |_=>{ kind:=.function,names:=[],isGenerator:=false,isCoroutine:=false }
abbrev CX0:CXT:=fun _ _ _ _ _ _=>False
abbrev E0:XK:=fun _ _ _=>False
theorem qAs:qNh CX0 X E0:=fun _ _ _ _ _ _ _ h=>h.elim
structure Fun(K:PySem.W.Frag)(x qual:Str)(st:Stmt)(f:Addr)(fd:FuncData):Prop where
 ex:∃(oc:Value) (od:Option Addr) (kV doc pm:Value) (an:Option Addr) (cdv ct:Value) (osl:Array (Option Value)),
  fd=PySem.W.fnOf x qual (qC6 st) (qBa st) (qAd st) .none kV doc pm an cdv ct/\K.lookup f=some ⟨oc,od,.func fd,osl⟩/\PySem.W.codeIn K cdv qual=true
 kp:PySem.W.keepIn K (.ref f)=true
section
variable{P:Program}{w:World}{K:PySem.W.Frag}{mg:Str->Option Value}{base:Heap}
theorem Fun.ok{x qual:Str}{st:Stmt}{f:Addr}{fd:FuncData}{N ps:List Str}{k:Nat}{sp:Sp}(F:Fun K x qual st f fd)(S:FnScope N ps (qAd st))(len:∀vs H Q E,sp vs H Q E->vs.length=ps.length)
  (hbody:∀(cdv:Value) (A:Around) (outer:List Env) (s:Shared) (H:Hp) (vs:List V) (Q:VK) (E:XK),Room k (A.deeper (envOfC qual (qAd st) s.heap.objs.size f cdv))->sp vs H Q E ->
   ∃t,PSs (qCd CX0 P w K mg base N qual (qAd st) f cdv A outer s H E).nox (qBa st) t/\t { nx:=fun _ H'=>Q .non H',rt:=Q } (qFt N vs) H):FnOk P w K mg base CX0 (k+1) f fd ps sp:=by
 obtain⟨oc,od,kV,doc,pm,an,cdv,ct,osl,rfl,lk,hcd⟩:=F.ex;refine zAf lk hcd S len fun A outer s H vs Q E hr hsp=>?_
 obtain⟨t,h,q⟩:=hbody cdv A outer s H vs Q E hr hsp;exact⟨t,h.nox,q⟩
theorem Fun.binds{x qual:Str}{st:Stmt}{f:Addr}{fd:FuncData}{ps:List Str}(F:Fun K x qual st f fd)
  (h:∀(kV doc pm:Value) (an:Option Addr) (cdv ct:Value) (us:List Value),us.length=ps.length->bindArgs (PySem.W.fnOf x qual (qC6 st) (qBa st) (qAd st) .none kV doc pm an cdv ct) ⟨us,[]⟩=pure (ps.zip us)):qKa K fd ps []:=by
 obtain⟨oc,od,kV,doc,pm,an,cdv,ct,osl,rfl,lk,hcd⟩:=F.ex;exact .all (h kV doc pm an cdv ct)
theorem qQ7{x qual:Str}{st:Stmt}{f:Addr}{oc:Value}{od an:Option Addr}{osl:Array (Option Value)}{kV doc pm cdv ct:Value}(l:K.lookup f=some ⟨oc,od,.func (PySem.W.fnOf x qual (qC6 st) (qBa st) (qAd st) .none kV doc pm an cdv ct),osl⟩)
  (c:PySem.W.codeIn K cdv qual=true) (k:PySem.W.keepIn K (.ref f)=true):Fun K x qual st f (PySem.W.fnOf x qual (qC6 st) (qBa st) (qAd st) .none kV doc pm an cdv ct):=⟨⟨oc,od,kV,doc,pm,an,cdv,ct,osl,rfl,l,c⟩,k⟩
end
theorem qQ3(hr:Room k A):A.units+1<cLine:=hC8 (Nat.add_le_add_left (by decide:1<=64) _) hr.units
theorem qAj(h:n<=1000):n<sizeLine:=hC8 h (by decide)
section
variable{X:Cx}
theorem pv(i:Nat)(hN:X.N[i]?=some x:=by rfl)(hv:Vis X.env.scope x:=by first|exact Or.inl rfl|exact Or.inr (Or.inl rfl)|exact Or.inr (Or.inr rfl))(hd:(x == ("__debug__" : Str))=false:=by decide)
  (hcd:(x == ("__classdict__" : Str))=false:=by decide):PE X (.Name x pos) (qR9 i):=qZi hN hv hd hcd
end
theorem iteF{A B:Prop}(h:B):if false=true then A else B:=by
 rw[if_neg hAx];exact h
theorem iteT{A B:Prop}(h:A):if true=true then A else B:=by
 rw[if_pos rfl];exact h
theorem qDa{c A B:Prop}[Decidable c](h1:c->A)(h2:¬c->B):if c then A else B:=by
 by_cases h:c
 ·rw[if_pos h];exact h1 h
 ·rw[if_neg h];exact h2 h
end L2
set_option linter.all false
namespace L2
open PySem PySem.Spec PyProof.Rows
section
variable{κ:Type}[DecidableEq κ]
noncomputable def valV(kvs:List (κ×V))(k:κ):Option V:=(kvs.find? fun kv=>decide (kv.1=k)).map (·.2)
noncomputable def putK(kvs:List (κ×V))(k:κ)(v:V):List (κ×V) :=
 if (kvs.any fun kv=>decide (kv.1=k))=true then kvs.map (fun kv=>if kv.1=k then (kv.1,v) else kv) else kvs++[(k,v)]
theorem qBv{p:κ×V}{r:List (κ×V)}{k:κ}(e:p.1=k):valV (p :: r) k=some p.2:=by simp[valV,hDw,e]
theorem qBw{p:κ×V}{r:List (κ×V)}{k:κ}(e:¬p.1=k):valV (p :: r) k=valV r k:=by simp[valV,hDw,e]
theorem qDo(k:κ):∀kvs:List (κ×V),(kvs.any fun kv=>decide (kv.1=k))=(valV kvs k).isSome
 |[]=>rfl
 |p :: r=>by
  rw[hDe];by_cases e:p.1=k
  ·simp only[qBv e,decide_eq_true e,Bool.true_or,Option.isSome_some]
  ·rw[qBw e,decide_eq_false e,Bool.false_or];exact qDo k r
theorem qLs(k j:κ)(y:V):∀kvs:List (κ×V),valV (kvs.map fun kv=>if kv.1=k then (kv.1,y) else kv) j=(valV kvs j).map fun x=>if j=k then y else x
 |[]=>rfl
 |p :: r=>by
  have ih:=qLs k j y r;rw[hB8];by_cases h:p.1=k
  ·rw[if_pos h];by_cases e:p.1=j
   ·rw[qBv (p:=(p.1,y)) e,qBv e,hDa,if_pos (e.symm.trans h)]
   ·rw[qBw (p:=(p.1,y)) e,qBw e,ih]
  ·rw[if_neg h];by_cases e:p.1=j
   ·rw[qBv (p:=p) e,qBv e,hDa,if_neg (fun z=>h (e.trans z))]
   ·rw[qBw (p:=p) e,qBw e,ih]
theorem qIy(k j:κ)(y:V):∀kvs:List (κ×V),valV kvs k=none->valV (kvs++[(k,y)]) j=if j=k then some y else valV kvs j
 |[],_=>by
  by_cases e:k=j
  ·rw[if_pos e.symm];exact qBv (p:=(k,y)) e
  ·rw[if_neg (fun z=>e z.symm)];exact qBw (p:=(k,y)) e
 |p :: r,hn=>by
  rw[List.cons_append];have hk:¬p.1=k:=fun z=>by rw[qBv z]at hn;cases hn
  rw[qBw hk]at hn;have ih:=qIy k j y r hn;by_cases e:p.1=j
  ·rw[qBv e,qBv e,if_neg (fun z=>hk (e.trans z))]
  ·rw[qBw e,qBw e,ih]
theorem qHv(kvs:List (κ×V))(k j:κ)(y:V):valV (putK kvs k y) j=if j=k then some y else valV kvs j:=by
 unfold putK;by_cases a:(kvs.any fun kv=>decide (kv.1=k))=true
 ·rw[if_pos a,qLs];rw[qDo]at a;by_cases e:j=k
  ·obtain⟨x,hx⟩:=Option.isSome_iff_exists.mp a;rw[if_pos e,e,hx,hDa,if_pos rfl]
  ·rw[if_neg e];cases valV kvs j with
   |none=>rfl
   |some x=>rw[hDa,if_neg e]
 ·rw[if_neg a];refine qIy k j y kvs ?_;rw[qDo]at a;cases q:valV kvs k with
  |none=>rfl
  |some x=>rw[q]at a;exact(a rfl).elim
theorem qGs(kvs:List (κ×V))(k:κ)(v:V):(putK kvs k v).length<=kvs.length+1:=by
 unfold putK;split
 ·rw[hA1];omega
 ·rw[hAj,hBc,List.length_nil];omega
theorem qOa.isSome_eq(r:qOa o u):o.isSome=u.isSome:=by
 cases o with
 |none=>cases u with
  |none=>rfl
  |some _=>exact(show False from r).elim
 |some _=>cases u with
  |none=>exact(show False from r).elim
  |some _=>rfl
theorem qOa.getD(r:qOa o u)(rd:qBq d d'):qBq (o.getD d) (u.getD d'):=by
 cases o with
 |none=>cases u with
  |none=>exact rd
  |some _=>exact(show False from r).elim
 |some _=>cases u with
  |none=>exact(show False from r).elim
  |some _=>exact r
theorem KV.val{kvs:List (κ×V)}{vs:List (κ×Value)}(r:KV kvs vs)(k:κ):qOa (valV kvs k) (valueAt vs k):=by
 unfold KV at r
 induction r with
 |nil=>exact True.intro
 |@cons p q ps qs h t ih =>
  obtain⟨h1,h2⟩:=h;by_cases e:p.1=k
  ·have e':q.1=k:=h1.symm.trans e;have b:valueAt (q :: qs) k=some q.2:=by simp[valueAt,hDw,e']
   rw[qBv e,b];exact h2
  ·have e':¬q.1=k:=fun z=>e (h1.trans z)
   have b:valueAt (q :: qs) k=valueAt qs k:=by simp[valueAt,hDw,e']
   rw[qBw e,b];exact ih
theorem KV.any(r:KV kvs vs)(k:κ):(kvs.any fun kv=>decide (kv.1=k))=vs.any fun kv=>decide (kv.1=k):=by
 unfold KV at r
 induction r with
 |nil=>rfl
 |cons h t ih=>rw[hDe,hDe,ih,h.1]
theorem KV.repl(r:KV kvs vs)(k:κ)(ry:qBq y u) :
  KV (kvs.map fun kv=>if kv.1=k then (kv.1,y) else kv) (vs.map fun kv=>if kv.1=k then (kv.1,u) else kv):=by
 unfold KV at r ⊢
 induction r with
 |nil=>exact .nil
 |@cons p q ps qs h t ih =>
  rw[hB8,hB8];refine .cons ?_ ih;obtain⟨h1,h2⟩:=h;by_cases e:p.1=k
  ·rw[if_pos e,if_pos (h1.symm.trans e)];exact⟨h1,ry⟩
  ·rw[if_neg e,if_neg (fun z=>e (h1.trans z))];exact⟨h1,h2⟩
theorem KV.put(r:KV kvs vs)(k:κ)(ry:qBq y u):KV (putK kvs k y) (stored vs k u):=by
 unfold putK stored;rw[r.any k];by_cases e:(vs.any fun kv=>decide (kv.1=k))=true
 ·rw[if_pos e,if_pos e];exact r.repl k ry
 ·rw[if_neg e,if_neg e];exact Paired.snoc r ⟨rfl,ry⟩
theorem KV.keys{kvs:List (κ×V)}{vs:List (κ×Value)}(r:KV kvs vs):kvs.map (·.1)=vs.map (·.1):=by
 unfold KV at r
 induction r with
 |nil=>rfl
 |cons h t ih=>rw[hB8,hB8,ih,h.1]
theorem KV.length(r:KV kvs vs):kvs.length=vs.length:=Paired.length r
end
theorem qTx(r:qBq (kV k) u):(qA9 P w).is k u=true:=by
 cases k with
 |inl i=>obtain⟨t,e⟩:=(show ∃t,u=Value.int i t from r);subst e;exact qK5 P w i t
 |inr x=>obtain⟨t,e⟩:=(show ∃t,u=Value.str x t from r);subst e;exact qK4 P w x t
theorem qJq:∀ {ks:List Key} {us:List Value},qA7 (ks.map kV) us->ItemsAre (qA9 P w) ks us
 |[],_,r=>by rw[List.map_nil]at r;cases r;exact .nil
 |k :: ks,_,r=>by
  rw[hB8]at r;cases r with
  |cons h t=>exact .cons (qTx h) (qJq t)
abbrev KT(H:Hp):List (List Key×V)->List (List Key×Addr×Value)->Prop:=Paired fun p q=>p.1=q.1/\H q.2.1=some (.tup (p.1.map kV))/\qBq p.2 q.2.2
theorem KT.val{H:Hp}{kvs:List (List Key×V)}{xs:List (List Key×Addr×Value)}(r:KT H kvs xs)(k:List Key):qOa (valV kvs k) ((atKey xs k).map (·.2)):=by
 induction r with
 |nil=>exact True.intro
 |@cons p q ps qs h t ih =>
  obtain⟨h1,_,h2⟩:=h;by_cases e:p.1=k
  ·have e':q.1=k:=h1.symm.trans e;have b:atKey (q :: qs) k=some q.2:=by simp[atKey,hDw,e']
   rw[qBv e,b];exact h2
  ·have e':¬q.1=k:=fun z=>e (h1.trans z)
   have b:atKey (q :: qs) k=atKey qs k:=by simp[atKey,hDw,e']
   rw[qBw e,b];exact ih
theorem KT.repl(r:KT H kvs xs)(k:List Key)(ry:qBq y u) :
  KT H (kvs.map fun kv=>if kv.1=k then (kv.1,y) else kv) (xs.map (putAt k u)):=by
 induction r with
 |nil=>exact .nil
 |@cons p q ps qs h t ih =>
  rw[hB8,hB8];refine .cons ?_ ih;obtain⟨h1,h2,h3⟩:=h;unfold putAt;by_cases e:p.1=k
  ·rw[if_pos e,if_pos (h1.symm.trans e)];exact⟨h1,h2,ry⟩
  ·rw[if_neg e,if_neg (fun z=>e (h1.trans z))];exact⟨h1,h2,h3⟩
theorem KT.put(r:KT H kvs xs)(k:List Key)(hb:H b=some (.tup (k.map kV)))(ry:qBq y u) :
  KT H (putK kvs k y) (storedH xs k b u):=by
 have e:(kvs.any fun kv=>decide (kv.1=k))=(atKey xs k).isSome:=by
  rw[qDo,(r.val k).isSome_eq,Option.isSome_map]
 unfold putK storedH;rw[e];by_cases q:(atKey xs k).isSome=true
 ·rw[if_pos q,if_pos q];exact r.repl k ry
 ·rw[if_neg q,if_neg q];exact Paired.snoc r ⟨rfl,hb,ry⟩
theorem KT.keeps(r:KT H kvs xs)(ht:∀b ys,H b=some (.tup ys)->H' b=some (.tup ys)):KT H' kvs xs :=
 Paired.mapP r fun _ _ z=>⟨z.1,ht _ _ z.2.1,z.2.2⟩
section
variable{P:Program}{w:World}{H:Hp}{h:Heap}{a:Addr}
theorem qZf(ok:HOk P w H h)(e:Rd H a u):qBr P w H h a u:=e.ok ok
theorem qRi(ok:HOk P w H h)(e:Rd H a (.dK kvs)):kvs.length<=sizeLine/\(a == sysModules)=false/\∃vs,KV kvs vs/\h.DictOf (qA9 P w) a vs :=
 show qBr P w H h a (.dK kvs) from qZf ok e
theorem zAk(ok:HOk P w H h)(e:H a=some (.dK kvs)):kvs.length<=sizeLine/\(a == sysModules)=false/\∃vs,KV kvs vs/\h.DictOf (qA9 P w) a vs:=qRi ok (.inl e)
theorem qM2(ok:HOk P w H h)(e:H a=some (.tup (ks.map kV))):(tupleKind (qA9 P w)).is h ks a:=by
 obtain⟨_,its,r,o,h1,h2,n,h3⟩:=(show qBr P w H h a (.tup (ks.map kV)) from ok a _ e);exact⟨o,its.toArray,n,h1,h2,h3,by simpa using qJq r⟩
theorem qRd(ok:HOk P w H h)(e:Rd H a (.dT kvs)):kvs.length<=sizeLine/\(a == sysModules)=false /\
  ∃xs,KT H kvs xs/\h.DictOfH (tupleKind (qA9 P w)) a xs:=by
 obtain⟨z,y,xs,r,o,es,ep,h1,h2,h3,h4,h5⟩:=(show qBr P w H h a (.dT kvs) from qZf ok e);refine⟨z,y,xs,r,o,es,ep,h1,h2,h3,h4,fun x hx=>?_,h5⟩;have all:∀ {l:List (List Key×V)} {m:List (List Key×Addr×Value)},KT H l m->∀x∈m,(tupleKind (qA9 P w)).is h x.1 x.2.1:=by
  intro l m q
  induction q with
  |nil=>intro x hx;exact nomatch hx
  |@cons p q ps qs hq t ih =>
   intro x hx;rcases hAg.mp hx with e|hx
   ·subst e;exact qM2 ok (by rw[<-hq.1];exact hq.2.1)
   ·exact ih x hx
 exact all r x hx
theorem zCf(ok:HOk P w H h)(e:H a=some (.dT kvs)):kvs.length<=sizeLine/\(a == sysModules)=false /\
  ∃xs,KT H kvs xs/\h.DictOfH (tupleKind (qA9 P w)) a xs:=qRd ok (.inl e)
end
def qUf(H:Hp)(a:Addr)(y:V)(r:Option V):Prop :=
 (∃kvs k,Rd H a (.dK kvs)/\y=kV k/\r=valV kvs k)\/∃kvs k b,Rd H a (.dT kvs)/\y = .ref b/\H b=some (.tup (k.map kV))/\r=valV kvs k
def qX5(H:Hp)(a:Addr)(y v:V)(H':Hp):Prop :=
 (∃kvs k,H a=some (.dK kvs)/\y=kV k/\kvs.length<sizeLine/\H'=upd H a (.dK (putK kvs k v))) \/
 ∃kvs k b,H a=some (.dT kvs)/\y = .ref b/\H b=some (.tup (k.map kV))/\kvs.length<sizeLine/\H'=upd H a (.dT (putK kvs k v))
theorem qUf.k{H:Hp}{a:Addr}{kvs:List (Key×V)}{k:Key}(e:H a=some (.dK kvs)):qUf H a (kV k) (valV kvs k):=.inl ⟨kvs,k,.inl e,rfl,rfl⟩
theorem qX5.k{H:Hp}{a:Addr}{kvs:List (Key×V)}{k:Key}{v:V}(e:H a=some (.dK kvs))(hl:kvs.length<sizeLine):qX5 H a (kV k) v (upd H a (.dK (putK kvs k v))):=.inl ⟨kvs,k,e,rfl,hl,rfl⟩
section
variable{X:Cx}{pins:List (Addr×Obj)}{σ:St}{H:Hp}{s:Shared}{a:Addr}{y v:V}{u r:Value}{o:Option V}{A:Around}{E:Value->Shared->Prop}
theorem Inv.big(I:Inv X pins σ H s):sysModules<s.heap.objs.size:=by
 have h:mainGlobals<s.heap.objs.size:=(I.mod.glob.keeps I.bk).lt;exact Nat.lt_trans (by decide) h
theorem qRp(hu:A.units+1<cLine)(I:Inv X pins σ H s)(g:qUf H a y (some v))(ry:qBq y u)(h:∀w' s',Inv X pins σ H s'->qBq v w'->Q w' s') :
  wpAny (model X.prog X.w) A (getItem (.ref a) u) Q E s:=by
 rcases g with ⟨kvs,k,e,ey,l⟩|⟨kvs,k,b,e,ey,eb,l⟩
 ·subst ey;obtain⟨z,hd,vs,rel,dd⟩:=qRi I.hok e;obtain⟨w',hw,rw'⟩:=qOa.some_of (v:=v) (o:=valueAt vs k) (by rw[l];exact rel.val k);exact wpAny_getItem_of (qTx ry) dd.mapOf hw (h w' _ (I.tok _) rw')
 ·subst ey;cases(show u=Value.ref b from ry);obtain⟨z,hd,xs,rel,dd⟩:=qRd I.hok e;obtain⟨w',hw,rw'⟩:=qOa.some_of (v:=v) (o:=(atKey xs k).map (·.2)) (by rw[l];exact rel.val k);obtain⟨p,hp,hp2⟩:=Option.map_eq_some_iff.mp hw;refine wpAny_getItem_heap (tupleKind_room_in1 hu) (qM2 I.hok eb) dd hp ?_;rw[hp2];exact h w' _ (I.tok _) rw'
theorem qRn(I:Inv X pins σ H s)(mu:Mut (H a))(hs:Heap.SameBut a s.heap h')(he:∃q,h'.get? a=some q)(new:qBr X.prog X.w (upd H a ob) h' a ob) :
  Inv X pins σ (upd H a ob) { s with heap:=h',toks:=t' } :=
 I.write (x:=a) (e:=a) mu (.inl rfl) (fun b q hb z=>(hs.2 b hb).trans z) he new
theorem zAl(z:kvs.length<=sizeLine)(hd:(a == sysModules)=false)(rel:KV kvs vs)(dd:h'.DictOf (qA9 P w) a vs) :
  qBr P w H' h' a (.dK kvs):=⟨z,hd,vs,rel,dd⟩
theorem qRo(hu:A.units+1<cLine)(I:Inv X pins σ H s)(g:qX5 H a y v H')(ry:qBq y u)(rv:qBq v r)(h:∀s',Inv X pins σ H' s'->Q () s') :
  wpAny (model X.prog X.w) A (setItem (.ref a) u r) Q E s:=by
 rcases g with ⟨kvs,k,e,ey,l,eH⟩|⟨kvs,k,b,e,ey,eb,l,eH⟩
 ·subst ey eH;obtain⟨z,hd,vs,rel,dd⟩:=zAk I.hok e;have hz:vs.length<=sizeLine:=by rw[<-rel.length];exact z
  have hl:(putK kvs k v).length<=sizeLine:=by have:=qGs kvs k v;omega
  refine wpAny_setItem_pairs (hsz:=hz) (qTx ry) dd fun h' dd' hs=>h _ ?_
  have he:∃q,h'.get? a=some q:=let ⟨q,_,_,hq,_⟩:=dd';⟨q,hq⟩;exact qRn I (by rw[e];exact True.intro) hs he (zAl hl hd (rel.put k rv) dd')
 ·subst ey eH;cases(show u=Value.ref b from ry);obtain⟨z,hd,xs,rel,dd⟩:=zCf I.hok e;have hz:xs.length<=sizeLine:=by rw[<-Paired.length rel];exact z
  have hl:(putK kvs k v).length<=sizeLine:=by have:=qGs kvs k v;omega
  refine wpAny_setItem_heap (hsz:=hz) (tupleKind_room_in1 hu) (qM2 I.hok eb) dd fun h' dd' hs=>h _ ?_
  obtain⟨q,es,ep,hq,h2,h3,h4,_,h5⟩:=dd';refine qRn I (by rw[e];exact True.intro) hs ⟨q,hq⟩ ⟨hl,hd,_,(rel.put k eb rv).keeps fun c ys ec=>?_,q,es,ep,hq,h2,h3,h4,h5⟩;rw[qAg (zB4 ec e (fun z=>nomatch z))];exact ec
end
def zC0(i:Expr):Prop:=∀ov iv,subscripted i false ov iv=operate [ov,iv] (getItem ov iv)
theorem qV0{prog:Program}{w:World}{A:Around}{E:Value->Shared->Prop}{s:Shared}{env:Env}{value slice:Expr}{pos:Pos}{T id:String}{Q:Value->Shared->Prop}
  (hl:typeLookup (.type T) "__getitem__" = pure (some (.builtin id))) (hs:zC0 slice)
  (h:wpAny (model prog w) A (eval value env) (fun o s₁=>wpAny (model prog w) A (eval slice env) (fun i s₂=>s₂.TypeIs o T/\wpAny (model prog w) A (getItem o i) Q E s₂) E s₁) E s) :
  wpAny (model prog w) A (eval (.Subscript value slice pos) env) Q E s:=by
 refine Subscript_ (wpAny_mono h (fun o s₁ h₁=>wpAny_mono h₁ (fun i s₂ h₂=>?_) fun _ _ x=>x) fun _ _ x=>x);obtain⟨hT,h₂⟩:=h₂;unfold subscriptTail;refine wpAny_bind ?_;rw[getitemInPython_of_ne hT.not_modules];refine wpAny_bind (wpAny_specialOf hT hl ?_);have fin:wpAny (model prog w) A (subscripted slice false o i) (fun r s₃=>wpAny (model prog w) A (letTemporaryGo value o r >>= fun _=>pure r) Q E s₃) E s₂:=by
  rw[hs o i];exact wpAny_operating (wpAny_mono h₂ (fun r s₃ h₃=>wpAny_bind (wpAny_letTemporaryGo (wpAny_pure h₃))) fun _ _ x=>x)
 first
  |exact wpAny_pure (wpAny_bind fin)
  |exact wpAny_bind (wpAny_pure (wpAny_bind fin))
  |exact wpAny_bind fin
theorem qLh(I:Inv X pins σ H s)(g:qUf H a y o):s.TypeIs (.ref a) "dict":=by
 rcases g with ⟨kvs,k,e,_,_⟩|⟨kvs,k,b,e,_,_,_⟩
 ·obtain⟨_,_,vs,_,dd⟩:=qRi I.hok e;exact dd.typeIs
 ·obtain⟨_,_,xs,_,dd⟩:=qRd I.hok e;exact dd.typeIs
def zBb(td ty:TE):TE:=fun σ H Q=>td σ H fun x H1=>ty σ H1 fun y H2=>∃a v,x = .ref a/\qUf H2 a y (some v)/\Q v H2
def zBn(td ty tv:TE):TS:=fun D σ H=>tv σ H fun v H1=>td σ H1 fun x H2=>ty σ H2 fun y H3=>∃a H4,x = .ref a/\qX5 H3 a y v H4/\D.nx σ H4
section
variable{X:Cx}{o i e value:Expr}{pos pos' tpos:Pos}{td ty tv:TE}
theorem qWv(hu:X.A.units+1<cLine)(ho:PE X o td)(hi:PE X i ty)(hs:zC0 i):PE X (.Subscript o i pos) (zBb td ty):=by
 intro pins s σ H Q I h;refine qV0 PySem.F.slot_dict_getitem.lookup hs (thn (ho pins s σ H _ I h) fun u s1 ⟨x,H1,I1,rx,q1⟩=>thn (hi pins s1 σ H1 _ I1 q1) fun iv s2 ⟨y,H2,I2,ry,a,v,ex,g,q2⟩=>?_);subst ex;obtain rfl:u=Value.ref a:=rx;exact⟨qLh I2 g,qRp hu I2 g ry fun w' s3 I3 rw'=>⟨v,H2,I3,rw',q2⟩⟩
theorem qP4(hu:X.A.units+1<cLine)(ho:PE X o td)(hi:PE X i ty)(hv:PE X value tv)(hs:swapsWith value (some (.Subscript o i pos')) pos.line X.env=pure false) :
  PS X (.Assign [.Subscript o i pos'] value pos) (zBn td ty tv):=by
 intro pins s σ H D I h;refine wpAny_Assign_Subscript (thn (hv pins s σ H _ I h) fun r s1 ⟨v,H1,I1,rv,q1⟩=>thn (ho pins s1 σ H1 _ I1 q1) fun u s2 ⟨x,H2,I2,rx,q2⟩=>thn (hi pins s2 σ H2 _ I2 q2) fun iv s3 ⟨y,H3,I3,ry,a,H4,ex,g,q3⟩=>?_) hs;subst ex;obtain rfl:u=Value.ref a:=rx;exact qRo hu I3 g ry rv fun s4 I4=>⟨σ,H4,I4,q3⟩
end
theorem qT7(h:Heap)(hb:sysModules<h.objs.size):qBr P w H (h.push { cls:=.type "dict",data:=.dict #[] }) h.objs.size (.dK []) :=
 ⟨hAs _,beq_eq_false_iff_ne.mpr (Ne.symm (hAn hb)),[],.nil,Heap.DictOf.new h⟩
def qYk:TE:=fun _ H Q=>∀p,H p=none->Q (.ref p) (upd H p (.dK []))
section
variable{X:Cx}{pos:Pos}
theorem qTe:PE X (.Dict [] [] pos) qYk:=fun pins s σ H Q I h =>
 wpAny_Dict_empty ⟨.ref s.heap.objs.size,_,I.laid (a:=s.heap.objs.size) (o:=.dK []) (t':=s.toks) (fun _ _ q=>Heap.get?_push_of_some _ q) (hA6 _) (qT7 s.heap I.big),rfl,h _ (I.hok.fresh (hA6 _))⟩
end
structure M1(X:Cx)(o:Expr)(m:Str)(apos:Pos)(e:Expr)(cpos:Pos):Prop where
 base:attributeBase o m X.env (eval o X.env)=eval o X.env
 few:((backTo cpos (starEach [e] X.env)).all (fun x=>!x.1) && (backToKw cpos (keywordEach [] X.env)).all (fun x=>x.1.isSome)
  && decide (([e]:List Expr).length+([]:List Keyword).length+(if ([]:List Keyword).isEmpty then 0 else 1)<30))=true
 line:(apos.endLine == cpos.line)=true
 trees:backTo cpos (starEach [e] X.env)=[(false,eval e X.env)]
structure M2(X:Cx)(o:Expr)(m:Str)(apos:Pos)(e f:Expr)(cpos:Pos):Prop where
 base:attributeBase o m X.env (eval o X.env)=eval o X.env
 few:((backTo cpos (starEach [e,f] X.env)).all (fun x=>!x.1) && (backToKw cpos (keywordEach [] X.env)).all (fun x=>x.1.isSome)
  && decide (([e,f]:List Expr).length+([]:List Keyword).length+(if ([]:List Keyword).isEmpty then 0 else 1)<30))=true
 line:(apos.endLine == cpos.line)=true
 trees:backTo cpos (starEach [e,f] X.env)=[(false,eval e X.env),(false,eval f X.env)]
def IsD(H:Hp)(a:Addr):Prop:=(∃kvs,Rd H a (.dK kvs))\/∃kvs,Rd H a (.dT kvs)
theorem zAb(I:Inv X pins σ H s)(d:IsD H a) :
  s.TypeIs (.ref a) "dict"/\(∀b,Value.ref a = .ref b->∃ob,s.heap.get? b=some ob/\ob.dict=none)/\(a == sysModules)=false:=by
 rcases d with ⟨kvs,e⟩|⟨kvs,e⟩
 ·obtain⟨_,hd,vs,_,dd⟩:=qRi I.hok e;refine⟨dd.typeIs,fun b q=>?_,hd⟩;cases q;obtain⟨ob,_,_,h1,h2,_⟩:=dd;exact⟨ob,h1,h2.2.1⟩
 ·obtain⟨_,hd,xs,_,dd⟩:=qRd I.hok e;refine⟨dd.typeIs,fun b q=>?_,hd⟩;cases q;obtain⟨ob,_,_,h1,h2,_⟩:=dd;exact⟨ob,h1,h2.2.1⟩
section
variable{X:Cx}{pins:List (Addr×Obj)}{σ:St}{H:Hp}{s:Shared}{a:Addr}{y d:V}{u r:Value}{o:Option V}{A:Around}{E:Value->Shared->Prop}
theorem zAm(hu:A.units+1<cLine)(I:Inv X pins σ H s)(g:qUf H a y o)(ry:qBq y u)(rd:qBq d r)(h:∀w' s',Inv X pins σ H s'->qBq (o.getD d) w'->Q w' s') :
  wpAny (model X.prog X.w) A (call (.builtin "dict.get") [.ref a,u,r]) Q E s:=by
 rcases g with ⟨kvs,k,e,ey,l⟩|⟨kvs,k,b,e,ey,eb,l⟩
 ·subst ey;obtain⟨z,hd,vs,rel,dd⟩:=qRi I.hok e;refine call_meetsIn PySem.F.slot_dict_get dd.typeIs PySem.F.entry_dict_get (PySem.F.args_dict_get_3 _ _ _) (meets_dict_get_default (qA9 X.prog X.w) a (qTx ry) hd r) ⟨_,dd.mapOf,h _ _ (I.tok _) ?_⟩;rw[l];exact(rel.val k).getD rd
 ·subst ey;cases(show u=Value.ref b from ry);obtain⟨z,hd,xs,rel,dd⟩:=qRd I.hok e;refine call_meetsIn PySem.F.slot_dict_get dd.typeIs PySem.F.entry_dict_get (PySem.F.args_dict_get_3 _ _ _) (meetsH_dict_get_default (tupleKind (qA9 X.prog X.w)) a b hd r) ⟨tupleKind_room_in1 hu,k,xs,qM2 I.hok eb,dd,h _ _ (I.tok _) ?_⟩;rw[l];exact(rel.val k).getD rd
end
def qYl(td ty tx:TE):TE:=fun σ H Q=>td σ H fun x H1=>∃a,x = .ref a/\IsD H1 a/\ty σ H1 fun y H2=>tx σ H2 fun z H3=>∃o,qUf H3 a y o/\Q (o.getD z) H3
section
variable{X:Cx}{o e f:Expr}{apos cpos:Pos}{td ty tx:TE}
theorem qMm(hu:X.A.units+1<cLine)(ho:PE X o td)(he:PE X e ty)(hf:PE X f tx)(m:M2 X o "get" apos e f cpos):PE X (.Call (.Attribute o "get" apos) [e,f] [] cpos) (qYl td ty tx):=by
 intro pins s σ H Q I h;refine wpAny_Call_method m.base m.few m.line PySem.F.plainAttrs_dict PySem.F.slot_dict_get PySem.F.type_dict_get (thn (ho pins s σ H _ I h) fun u s1 ⟨x,H1,I1,rx,a,ex,d,q1⟩=>?_);subst ex;obtain rfl:u=Value.ref a:=rx;obtain⟨t1,t2,_⟩:=zAb I1 d;refine⟨t1,t2,?_⟩;rw[m.trees];refine Calls.callWith_builtin rfl (Calls.evalArgs_plain (Calls.spliced_cons (thn (he pins s1 σ H1 _ I1 q1) fun iv s2 ⟨y,H2,I2,ry,q2⟩ =>
  Calls.spliced_cons (thn (hf pins s2 σ H2 _ I2 q2) fun fv s3 ⟨z,H3,I3,rz,ov,g,q3⟩=>Calls.spliced_nil ?_))))
 exact zAm hu I3 g ry rz fun w' s4 I4 rw'=>⟨_,H3,I4,rw',q3⟩
end
section
variable{κ:Type}[DecidableEq κ]
theorem qSf{kvs:List (κ×V)}{k:κ}(h:valV kvs k=none):¬k∈kvs.map (·.1):=by
 intro m;obtain⟨p,hp,e⟩:=hA3.mp m;have q:(kvs.any fun kv=>decide (kv.1=k))=true:=List.any_eq_true.mpr ⟨p,hp,decide_eq_true e⟩;rw[qDo,h]at q;exact absurd q (by simp)
theorem qVx{kvs:List (κ×V)}{k:κ}{v:V}(h:valV kvs k=some v):k∈kvs.map (·.1):=by
 have q:(kvs.any fun kv=>decide (kv.1=k))=true:=by
  rw[qDo,h]
  all_goals rfl
 obtain⟨p,hp,e⟩:=List.any_eq_true.mp q;exact hA3.mpr ⟨p,hp,of_decide_eq_true e⟩
end
noncomputable def qCt(cells:List (Str×Addr)):List (Str×NameKind)->List (Str×Addr)->List (Str×Addr)
 |[],acc=>acc
 |(n,k) :: r,acc=>if k == .free then qCt cells r ((n,(cells.lookup n).getD 0) :: acc) else qCt cells r acc
theorem qHn(env:Env)(f:Str×NameKind->List (Str×Addr)->Sem (ForInStep (List (Str×Addr))))
  (hf:∀n k cs,f (n,k) cs=if k == .free then (do let a ← cellOf env n;pure (.yield ((n,a) :: cs))) else pure (.yield cs)) :
  ∀(names:List (Str×NameKind)) (acc:List (Str×Addr)),(∀x∈names,x.2 = .free->∃c,env.cells.lookup x.1=some c)->forIn names acc f=pure (qCt env.cells names acc)
 |[],acc,_=>by rw[List.forIn_nil];rfl
 |(n,k) :: r,acc,h=>by
  have ih:=qHn env f hf r;rw[List.forIn_cons,hf];unfold qCt;by_cases hk:(k == NameKind.free)=true
  ·rw[if_pos hk,if_pos hk];obtain⟨c,hc⟩:=h (n,k) hA9 (by simpa using hk);have e:cellOf env n=pure c:=by unfold cellOf;rw[hc]
   rw[e,hc];exact ih _ fun x hx=>h x (hA8 _ hx)
  ·rw[if_neg hk,if_neg hk];exact ih _ fun x hx=>h x (hA8 _ hx)
theorem qIr(h:∀x∈scope.names,x.2 = .free->∃c,env.cells.lookup x.1=some c):closureFor scope env=pure (qCt env.cells scope.names []):=by
 simp only[closureFor];rw[qHn env _ (fun n k cs=>by cases hk:k == NameKind.free <;> simp[hk]) scope.names [] h];rfl
theorem closL_mem:∀ {names:List (Str×NameKind)} {acc:List (Str×Addr)} {x:Str} {c:Addr},(x,c)∈qCt cells names acc->(x,c)∈acc\/((x,NameKind.free)∈names/\c=(cells.lookup x).getD 0)
 |[],acc,x,c,h=>.inl h
 |(n,k) :: r,acc,x,c,h=>by
  unfold qCt at h;by_cases hk:(k == NameKind.free)=true
  ·rw[if_pos hk]at h;rcases closL_mem h with q|⟨q,e⟩
   ·rcases hAg.mp q with z|z
    ·cases z;exact .inr ⟨by rw[show NameKind.free=k from (by simpa using hk:k=NameKind.free).symm];exact hA9,rfl⟩
    ·exact .inl z
   ·exact .inr ⟨hA8 _ q,e⟩
  ·rw[if_neg hk]at h;rcases closL_mem h with q|⟨q,e⟩
   ·exact .inl q
   ·exact .inr ⟨hA8 _ q,e⟩
theorem qFw{α:Type}{x n:Str}{c:α}{l:List (Str×α)}(h:(l.lookup x).isSome=true):(((n,c) :: l).lookup x).isSome=true:=by
 rw[hCz];cases x == n <;> simp[h]
theorem qFi{cells:List (Str×Addr)}{x:Str}:∀ {names:List (Str×NameKind)} {acc:List (Str×Addr)},((x,NameKind.free)∈names\/(acc.lookup x).isSome=true)->((qCt cells names acc).lookup x).isSome=true
 |[],acc,h=>by
  rcases h with h|h
  ·cases h
  ·exact h
 |(n,k) :: r,acc,h=>by
  unfold qCt;by_cases hk:(k == NameKind.free)=true
  ·rw[if_pos hk];refine qFi ?_;rcases h with h|h
   ·rcases hAg.mp h with z|z
    ·cases z;exact .inr (by rw[hCz];simp)
    ·exact .inl z
   ·exact .inr (qFw h)
  ·rw[if_neg hk];refine qFi ?_;rcases h with h|h
   ·rcases hAg.mp h with z|z
    ·cases z;exact absurd rfl hk
    ·exact .inl z
   ·exact .inr h
theorem cellsFrom_mem:∀ {names:List (Str×NameKind)} {n:Nat} {acc:List (Str×Addr)} {x:Str} {c:Addr},(x,c)∈cellsFrom n names acc->(x,c)∈acc\/(x,NameKind.cell)∈names
 |[],_,_,_,_,h=>.inl h
 |(y,k) :: r,n,acc,x,c,h=>by
  unfold cellsFrom at h;by_cases hk:(k == NameKind.cell)=true
  ·rw[if_pos hk]at h;rcases cellsFrom_mem h with q|q
   ·rcases hAg.mp q with z|z
    ·cases z;exact .inr (by rw[show NameKind.cell=k from (by simpa using hk:k=NameKind.cell).symm];exact hA9)
    ·exact .inl z
   ·exact .inr (hA8 _ q)
  ·rw[if_neg hk]at h;rcases cellsFrom_mem h with q|q
   ·exact .inl q
   ·exact .inr (hA8 _ q)
structure CellsTwo(h:Heap)(lo:Nat)(acc cs:List (Str×Addr)):Prop where
 part:∀x c,(x,c)∈cs->(x,c)∈acc\/(h.IsCell c none/\lo<=c)
 inj:∀x y c,lo<=c->(x,c)∈cs->(y,c)∈cs->x=y
theorem qC7:∀(names:List (Str×NameKind)) (h:Heap) (lo:Nat) (acc:List (Str×Addr)),CellsTwo h lo acc0 acc->(∀x c,(x,c)∈acc->c<h.objs.size)->lo<=h.objs.size ->
  CellsTwo (pushCells h names) lo acc0 (cellsFrom h.objs.size names acc)
 |[],_,_,_,x,_,_=>x
 |(name,kind) :: r,h,lo,acc,x,hl,hlo=>by
  unfold pushCells cellsFrom;split
  ·have:=qC7 (acc0:=acc0) r (h.push { cls:=.type "cell",data:=.cell none }) lo ((name,h.objs.size) :: acc)
    ⟨fun n c hm=>by
      rcases hAg.mp hm with e|hm
      ·cases e;exact .inr ⟨⟨_,Heap.get?_push_size _ rfl,rfl⟩,hlo⟩
      ·rcases x.part n c hm with q|q
       ·exact .inl q
       ·exact .inr ⟨q.1.keeps fun b o e=>Heap.get?_push_of_some _ e,q.2⟩,
     fun a b c hc h1 h2=>by
      rcases hAg.mp h1 with e1|h1 <;> rcases hAg.mp h2 with e2|h2
      ·cases e1;cases e2;rfl
      ·cases e1;exact absurd (hl _ _ h2) (hD4 _)
      ·cases e2;exact absurd (hl _ _ h1) (hD4 _)
      ·exact x.inj a b c hc h1 h2⟩
    (fun n c hm=>by
     rw[Heap.size_push];rcases hAg.mp hm with e|hm
     ·cases e;exact hBv _
     ·exact hBk (hl n c hm)) (by rw[Heap.size_push];omega)
   rwa [Heap.size_push]at this
  ·exact qC7 r h lo acc x hl hlo
noncomputable def qDx(env:Env)(scope:Scope)(C:Addr):Env :=
 { scope:=relabel scope env,locals:=C,globals:=env.globals,cells:=cellsFrom (C+1) scope.names (qCt env.cells scope.names []),qual:=env.qual,func:=none,code:=env.code,frame:=env.frame,builtins:=env.builtins }
theorem qHu
  (hQ:Q { scope:=scope,locals:=s.heap.objs.size,globals:=env.globals,cells:=cellsFrom (s.heap.objs.size+1) scope.names cl,qual:=env.qual,func:=none,code:=env.code,frame:=env.frame,builtins:=env.builtins }
   { s with heap:=pushCells (s.heap.push { cls:=.type "dict",data:=.dict #[] }) scope.names }) :
  wpAny M A (newFunctionEnv scope env.globals cl [] env.qual none .none (some env)) Q E s:=by
 simp only[newFunctionEnv,Option.isSome_some,if_true];refine wpAny_bind (wpAny_alloc ?_);refine wpAny_bind (wpAny_layCells _ (fun name kind cells=>by cases hkc:kind == NameKind.cell <;> simp[hkc]) _ _ _ _ ?_);rw[show({ s with heap:=s.heap.push { cls:=.type "dict",data:=.dict #[] } }:Shared).heap.objs.size=s.heap.objs.size+1 from Heap.size_push ..];rw[List.forIn_nil];exact wpAny_bind (wpAny_pure (wpAny_pure hQ))
theorem qJy(I:Nat->Shared->Prop)
  (turn:∀n s,I n s->wpAny (model prog w) A (pyNext it) (fun r s₁=>match r with
   |none=>R (.ok .next) s₁
   |some v=>wpAny (model prog w) A (letOwnedTupleGo target it v) (fun _ s₁'=>wpAny (model prog w) A (assign target env v) (fun _ s₂ =>
     wpAny (model prog w) A (forIn ifs true fun c r=>if r=true then do let ok ← isTrue c env (eval c env);pure (ForInStep.yield ok) else pure (ForInStep.yield r)) (fun ok s₃ =>
      if ok=true then wpAny (model prog w) A (eval elt env) (fun x s₄ =>
       wpAny (model prog w) A (call (.builtin "list.append") [acc,x]) (fun _ s₅=>∃m,m<n/\I m s₅) (fun _ _=>False) s₄) (fun _ _=>False) s₃
      else ∃m,m<n/\I m s₃) (fun _ _=>False) s₂) (fun _ _=>False) s₁') (fun _ _=>False) s₁) (fun _ _=>False) s)
  (n:Nat) (h:I n s) :
  codeAny (model prog w) A (.compLoop (.ListComp elt [⟨target,iter,ifs,0⟩] scope pos) 0 it acc env) R s:=by
 refine codeAny_loop rfl I (fun n s hI=>?_) n h;show wpAny _ A ((compTurn (.ListComp elt [⟨target,iter,ifs,0⟩] scope pos) 0 it acc env).onRaise (fun x=>do noteFrame x env;theTreesLotGoes x)) _ _ s;refine wpAny_noted ?_;rw[compTurn_list];refine wpAny_bind (wpAny_standAt (wpAny_bind (wpAny_mono (turn n s hI) (fun r s₁ h₁=>?_) fun _ _ h'=>h'.elim)));cases r with
 |none=>exact wpAny_pure h₁
 |some v =>
  refine wpAny_bind (wpAny_mono h₁ (fun _ s₁' h₁=>?_) fun _ _ h'=>h'.elim);refine wpAny_bind (wpAny_mono h₁ (fun _ s₂ h₂=>wpAny_bind (wpAny_mono h₂ (fun ok s₃ h₃=>?_) fun _ _ h'=>h'.elim)) fun _ _ h'=>h'.elim);cases ok with
  |false=>exact wpAny_pure ⟨rfl,h₃⟩
  |true =>
   exact wpAny_bind (wpAny_bind (wpAny_mono h₃ (fun x s₄ h₄=>wpAny_bind (wpAny_mono h₄ (fun _ s₅ h₅=>wpAny_pure (wpAny_pure ⟨rfl,h₅⟩)) fun _ _ h'=>h'.elim)) fun _ _ h'=>h'.elim))
noncomputable def qZe(scope sc:Scope):Scope :=
 { scope with names:=scope.names.map fun (n,k)=>if (k == .free && sc.kind == .function && sc.names.lookup n == some .cell) then (n,.cell) else (n,k) }
noncomputable def qDn(X:Cx)(scope:Scope)(N':List Str)(C:Addr)(s:Shared)(H:Hp)(fp:List Addr):Cx :=
 { X with N:=N',s₀:=s,H₀:=H,env:=qDx X.env scope C,outer:=X.stack,stack:=X.stack,ex:=fp,fn:=fun x=>!(scope.names.lookup x == some .free),pn:=[],xe:=fun _ _=>False }
noncomputable def subσ(sub:List (Option Nat))(σ:St):St:=sub.map fun o=>o.bind fun i=>(σ[i]?).join
noncomputable def qVn(N:List Str)(sc:Scope)(N':List Str)(scope:Scope)(sub:List (Option Nat)):Bool :=
 scope.kind == .function && decide ((scope.names.map (·.1)).Nodup) && decide N'.Nodup && sub.length == N'.length &&
 (scope.names.all fun x=>!(x.2 == .free) || sc.names.lookup x.1 == some .cell || sc.names.lookup x.1 == some .free) &&
 ((sub.zip N').all fun p=>match p.1 with
  |none=>true
  |some i=>N[i]? == some p.2 && scope.names.lookup p.2 == some .free)
structure CmpOk(N:List Str)(sc:Scope)(N':List Str)(scope:Scope)(sub:List (Option Nat)):Prop where
 kind:scope.kind = .function
 nd:(scope.names.map (·.1)).Nodup
 nd':N'.Nodup
 len:sub.length=N'.length
 free:∀x∈scope.names,x.2 = .free->sc.names.lookup x.1=some .cell\/sc.names.lookup x.1=some .free
 sub:∀(j i:Nat) (x:Str),sub[j]?=some (some i)->N'[j]?=some x->N[i]?=some x/\scope.names.lookup x=some .free
theorem CmpOk.of{N:List Str}{sc:Scope}{N':List Str}{scope:Scope}{sub:List (Option Nat)}(h:qVn N sc N' scope sub=true):CmpOk N sc N' scope sub:=by
 unfold qVn at h;simp only[hB4]at h;obtain⟨⟨⟨⟨⟨h1,h2⟩,h3⟩,h4⟩,h5⟩,h6⟩:=h;refine⟨by simpa using h1,of_decide_eq_true h2,of_decide_eq_true h3,by simpa using h4,fun x hx hf=>?_,fun j i x hj hx=>?_⟩
 ·have q:=hD0.mp h5 x hx;rw[hf]at q;simp only[beq_self_eq_true,Bool.not_true,Bool.false_or,hDl]at q;rcases q with q|q
  ·exact .inl (by simpa using q)
  ·exact .inr (by simpa using q)
 ·have q:=hD0.mp h6 (some i,x) (by
   refine hAc (i:=j) ?_;rw[List.getElem?_zip_eq_some];exact⟨hj,hx⟩)
  simp only[hB4]at q;exact⟨by simpa using q.1,by simpa using q.2⟩
theorem qCc:∀ {l:List (Str×α)} {x:Str} {c:α},(l.map (·.1)).Nodup->(x,c)∈l->l.lookup x=some c
 |(y,d) :: r,x,c,nd,h=>by
  rw[hCz];rcases hAg.mp h with e|h
  ·cases e;simp
  ·have ne:x≠y:=fun e=>by
    rw[hB8]at nd;exact(hBp.mp nd).1 (by rw[<-e];exact hA3.mpr ⟨(x,c),h,rfl⟩)
   rw[show(x == y)=false from by simpa using ne];exact qCc (hBp.mp nd).2 h
theorem qFr{sc:Scope}:∀ {names:List (Str×NameKind)} {x:Str},
  ((names.map fun (n,k)=>if (k == NameKind.free && sc.kind == .function && sc.names.lookup n == some .cell) then (n,NameKind.cell) else (n,k)).lookup x) =
   (names.lookup x).map fun k=>if (k == NameKind.free && sc.kind == .function && sc.names.lookup x == some .cell) then NameKind.cell else k
 |[],x=>rfl
 |(n,k) :: r,x=>by
  have ih:=@qFr sc r x;rw[hB8];show List.lookup x ((if (k == NameKind.free && sc.kind == .function && sc.names.lookup n == some .cell)=true then (n,NameKind.cell) else (n,k)) :: _)=_;by_cases hc:(k == NameKind.free && sc.kind == .function && sc.names.lookup n == some .cell)=true
  ·rw[if_pos hc,hCz,hCz];by_cases hx:x=n
   ·subst hx;rw[show(x == x)=true from beq_self_eq_true x];show some NameKind.cell=Option.map _ (some k);rw[hDa,if_pos hc]
   ·rw[show(x == n)=false by simpa using hx];exact ih
  ·rw[if_neg hc,hCz,hCz];by_cases hx:x=n
   ·subst hx;rw[show(x == x)=true from beq_self_eq_true x];show some k=Option.map _ (some k);rw[hDa,if_neg hc]
   ·rw[show(x == n)=false by simpa using hx];exact ih
section
variable{X:Cx}{pins:List (Addr×Obj)}{σ:St}{H H':Hp}{s:Shared}
theorem qN6(I:Inv X pins σ H s)(hb:b∈frs X.stack)(n1:b≠X.env.locals):b∈X.fs:=(hAg.mp (I.stkSub b hb)).elim (fun e=>absurd e n1) id
theorem qLl{N':List Str}{scope:Scope}{sub:List (Option Nat)}{h3:Heap}(I:Inv X pins σ H s)(O:CmpOk X.N X.env.scope N' scope sub)
  (hk:∀b o,s.heap.get? b=some o->h3.get? b=some o) :
  (∀x c,(cellsFrom (h3.objs.size+1) scope.names (qCt X.env.cells scope.names [])).lookup x=some c ->
   (((pushCells (h3.push { cls:=.type "dict",data:=.dict #[] }) scope.names).IsCell c none/\h3.objs.size+1<=c/\(x,NameKind.cell)∈scope.names)\/((x,NameKind.free)∈scope.names/\X.env.cells.lookup x=some c))) /\
  (∀x y c,(cellsFrom (h3.objs.size+1) scope.names (qCt X.env.cells scope.names [])).lookup x=some c->(cellsFrom (h3.objs.size+1) scope.names (qCt X.env.cells scope.names [])).lookup y=some c->x=y):=by
 have hin:∀x c,(x,c)∈qCt X.env.cells scope.names []->(x,NameKind.free)∈scope.names/\X.env.cells.lookup x=some c:=fun x c h=>by
  rcases closL_mem h with q|⟨q,e⟩
  ·cases q
  ·have hx:∃c,X.env.cells.lookup x=some c:=by
    refine I.ok.has x ?_;rcases O.free _ q rfl with z|z
    ·exact .inl z
    ·exact .inr z
   obtain⟨c',hc'⟩:=hx;rw[hc']at e;exact⟨q,by rw[hc',e];rfl⟩
 have hlt:∀x c,(x,c)∈qCt X.env.cells scope.names []->c<h3.objs.size:=fun x c h=>by
  obtain⟨v,o,ho,_⟩:=I.cell x c (hin x c h).2;exact Heap.lt_size (hk _ _ ho)
 have two:=qC7 (acc0:=qCt X.env.cells scope.names []) scope.names (h3.push { cls:=.type "dict",data:=.dict #[] }) (h3.objs.size+1) (qCt X.env.cells scope.names [])
  ⟨fun x c h=>.inl h,fun x y c hc h1 _=>absurd (hlt x c h1) (Nat.not_lt.mpr (Nat.le_of_succ_le hc))⟩ (fun x c h=>by rw[Heap.size_push];exact hBk (hlt x c h)) (by rw[Heap.size_push];exact hA6 _)
 rw[Heap.size_push]at two;refine⟨fun x c h=>?_,fun x y c h1 h2=>?_⟩
 ·have m:=hC3 h;rcases two.part x c m with q|q
  ·exact .inr (hin x c q)
  ·refine .inl ⟨q.1,q.2,?_⟩;rcases cellsFrom_mem m with z|z
   ·exact absurd (hlt x c z) (Nat.not_lt.mpr (Nat.le_of_succ_le q.2))
   ·exact z
 ·have m1:=hC3 h1;have m2:=hC3 h2;by_cases hc:h3.objs.size+1<=c
  ·exact two.inj x y c hc m1 m2
  ·rcases two.part x c m1 with q1|q1
   ·rcases two.part y c m2 with q2|q2
    ·exact I.ok.inj x y c (hin x c q1).2 (hin y c q2).2
    ·exact absurd q2.2 hc
   ·exact absurd q1.2 hc
theorem qTy{N':List Str}{scope:Scope}{sub:List (Option Nat)}{fp:List Addr}(I:Inv X pins σ H s)(O:CmpOk X.N X.env.scope N' scope sub)(hf:∀b∈fp,qOd X pins H b)
  (hfl:∀b∈fp,b<s.heap.objs.size) :
  Inv (qDn X scope N' (s.heap.objs.size+1) s H fp) [(s.heap.objs.size,{ cls:=.type "list",data:=.seq #[] })] (subσ sub σ) H
   { s with heap:=pushCells ((s.heap.push { cls:=.type "list",data:=.seq #[] }).push { cls:=.type "dict",data:=.dict #[] }) scope.names }:=by
 have hk3:∀b o,s.heap.get? b=some o->(s.heap.push { cls:=.type "list",data:=.seq #[] }).get? b=some o:=fun b o e=>Heap.get?_push_of_some _ e
 have sz3:(s.heap.push { cls:=.type "list",data:=.seq #[] }).objs.size=s.heap.objs.size+1:=Heap.size_push ..;have hk:∀b o,s.heap.get? b=some o->(pushCells ((s.heap.push { cls:=.type "list",data:=.seq #[] }).push { cls:=.type "dict",data:=.dict #[] }) scope.names).get? b=some o :=
  fun b o e=>pushCells_keeps _ _ b o (Heap.get?_push_of_some _ (hk3 b o e))
 have cf:=qLl (h3:=s.heap.push { cls:=.type "list",data:=.seq #[] }) I O hk3;rw[sz3]at cf;have hC:H (s.heap.objs.size+1)=none:=I.hok.fresh (hB7 _);have nsC:(pushCells ((s.heap.push { cls:=.type "list",data:=.seq #[] }).push { cls:=.type "dict",data:=.dict #[] }) scope.names).Ns (s.heap.objs.size+1) (fun _=>none):=by
  rw[<-sz3];exact(Heap.Ns.new _ _).keeps (pushCells_keeps _ _)
 have has:∀x,(scope.names.lookup x=some .cell\/scope.names.lookup x=some .free)->∃c,(cellsFrom (s.heap.objs.size+1+1) scope.names (qCt X.env.cells scope.names [])).lookup x=some c:=fun x hx=>by
  refine Option.isSome_iff_exists.mp (hDu _ _ _ ?_);rcases hx with z|z
  ·exact .inl z
  ·exact .inr (qFi (.inl (hC3 z)))
 have kindB:∀x,(qDx X.env scope (s.heap.objs.size+1)).kindOf x=(scope.names.lookup x).map fun k=>if (k == NameKind.free && X.env.scope.kind == .function && X.env.scope.names.lookup x == some .cell) then NameKind.cell else k:=fun x=>qFr
 have cellOk:∀x c,(qDx X.env scope (s.heap.objs.size+1)).cells.lookup x=some c->∃v,(pushCells ((s.heap.push { cls:=.type "list",data:=.seq #[] }).push { cls:=.type "dict",data:=.dict #[] }) scope.names).IsCell c v:=fun x c h=>by
  rcases cf.1 x c h with q|q
  ·exact⟨_,q.1⟩
  ·obtain⟨v,z⟩:=I.cell x c q.2;exact⟨v,z.keeps hk⟩
 refine⟨⟨I.ok.mod,O.kind,I.ok.glob,I.ok.blt,hB7 _,fun x y c h1 h2=>cf.2 x y c h1 h2,fun x hx=>?_,fun x c hx h=>?_,I.ok.hd,I.ok.frames,.inl rfl,fun b hb=>?_,fun b o e=>I.bs b o e,hB2 I.ok.bsz I.sz,fun b o e hb=>?_,fun b hb=>?_,I.stack,I.stkFree⟩,
  rfl,I.bare,Un.kept hk,⟨fun _=>none,nsC,fun i x v h1 h2 h3=>?_⟩,cellOk,hC,fun x c h=>?_,fun p hp=>?_,I.hok.kept hk,?_⟩
 ·-- has
  refine has x ?_;have hx:(qDx X.env scope (s.heap.objs.size+1)).kindOf x=some .cell\/(qDx X.env scope (s.heap.objs.size+1)).kindOf x=some .free:=hx;rw[kindB]at hx;cases e:scope.names.lookup x with
  |none=>rw[e]at hx;rcases hx with z|z <;> cases z
  |some k =>
   rw[e]at hx;cases k with
   |cell=>exact .inl rfl
   |free=>exact .inr rfl
   |_=>exfalso;rcases hx with z|z <;> simp at z
 ·-- cab
  rcases cf.1 x c h with q|q
  ·have:=q.2.1;show s.heap.objs.size<=c;omega
  ·exfalso;have e:=qCc O.nd q.1;have hx':(!(scope.names.lookup x == some NameKind.free))=true:=hx;rw[e]at hx';exact absurd hx' (by decide)
 ·-- exf
  obtain⟨f0,f1,f2,f3,f4,f5⟩:=hf b hb;have lt:=hfl b hb;refine⟨fun e=>?_,fun x c h e=>?_⟩
  ·have e':b=s.heap.objs.size+1:=e;rw[e']at lt;exact absurd lt (Nat.not_lt.mpr (hB7 _))
  ·rcases cf.1 x c h with q|q
   ·have z:=q.2.1;rw[e]at z;exact absurd lt (Nat.not_lt.mpr (hB2 (hB2 (hB7 _) (hB7 _)) z))
   ·exact f4 x c q.2 e
 ·-- noex
  obtain⟨f0,f1,f2,f3,f4,f5⟩:=hf b hb;rcases f3 with z|z
  ·exact I.ok.noex b o e z
  ·exact absurd (hAm (Heap.lt_size (I.ok.bs b o e).1) z) (hD4 _)
 ·-- exfs
  obtain⟨f0,f1,f2,f3,f4,f5⟩:=hf b hb;exact fun z=>f2 (qN6 I z f1)
 ·-- loc
  have h1':N'[i]?=some x:=h1;have hsub:∃k,sub[i]?=some (some k)/\(σ[k]?).join=some v:=by
   unfold subσ at h2;rw[hAk]at h2;cases e:sub[i]? with
   |none=>rw[e]at h2;cases h2
   |some o =>
    rw[e]at h2;cases o with
    |none=>cases h2
    |some k=>exact⟨k,rfl,by simpa using h2⟩
  obtain⟨k,hk1,hk2⟩:=hsub;obtain⟨nk,fx⟩:=O.sub i k x hk1 h1';have sk:σ[k]?=some (some v):=by
   cases e:σ[k]? with
   |none=>rw[e]at hk2;cases hk2
   |some o=>rw[e]at hk2;cases o with
    |none=>cases hk2
    |some y=>cases hk2;rfl
  have cx:=O.free _ (hC3 fx) rfl;obtain⟨m,hn,hl⟩:=I.loc;obtain⟨u,ru,lk⟩:=hl k x v nk sk (by
   rcases cx with z|z
   ·exact .inr (.inl z)
   ·exact .inr (.inr z))
  refine⟨u,ru,.inr ⟨?_,?_⟩⟩
  ·show(qDx X.env scope (s.heap.objs.size+1)).kindOf x=some .cell\/(qDx X.env scope (s.heap.objs.size+1)).kindOf x=some .free;rw[kindB,fx];by_cases hc:(NameKind.free == NameKind.free && X.env.scope.kind == .function && X.env.scope.names.lookup x == some .cell)=true
   ·exact .inl (by rw[hDa,if_pos hc])
   ·exact .inr (by rw[hDa,if_neg hc])
  ·rcases lk with ⟨kl,_⟩|⟨_,c,hc,hcell⟩
   ·exfalso;have kl':X.env.scope.names.lookup x=some .local:=kl;rcases cx with z|z <;> rw[kl']at z <;> cases z
   ·obtain⟨c',hc'⟩:=has x (.inr fx);refine⟨c',hc',?_⟩;rcases cf.1 x c' hc' with q|q
    ·exfalso;have e:=qCc O.nd q.2.2;rw[fx]at e;cases e
    ·rw[hc]at q;have e:c=c':=hAt q.2;subst e;exact hcell.keeps hk
 ·-- freeC
  rcases cf.1 x c h with q|q
  ·exact I.hok.fresh (by have:=q.2.1;omega)
  ·exact I.freeC x c q.2
 ·-- pin
  have hp':p=(s.heap.objs.size,({ cls:=.type "list",data:=.seq #[] }:Obj)):=by
   have:p∈([]++[(s.heap.objs.size,({ cls:=.type "list",data:=.seq #[] }:Obj))]:List (Addr×Obj)):=hp
   simpa using this
  subst hp';refine⟨pushCells_keeps _ _ _ _ (Heap.get?_push_of_some _ (Heap.get?_push_size _ rfl)),I.hok.fresh (hA6 _),hAn (hBv _),fun z=>?_,fun v z=>?_⟩
  ·rcases hAg.mp (I.stkSub _ z) with e|e
   ·exact absurd I.lt (by rw[<-e];exact hD4 _)
   ·exact I.nofs (hA6 _) e
  ·cases z
 ·-- len
  show(subσ sub σ).length=N'.length;unfold subσ;rw[hA1,O.len]
end
def Sle(σ σ2:St):Prop:=σ2.length=σ.length/\∀(i:Nat) (v:V),σ[i]?=some (some v)->σ2[i]?=some (some v)
theorem Sle.refl(σ:St):Sle σ σ:=⟨rfl,fun _ _ h=>h⟩
theorem Sle.set(v:V)(h:Sle σ σ2)(hi:∀u,σ[i]?≠some (some u)):Sle σ (σ2.set i (some v)):=by
 refine⟨by rw[List.length_set];exact h.1,fun j u hj=>?_⟩;have ne:i≠j:=fun e=>hi u (by rw[e];exact hj)
 rw[List.getElem?_set_ne ne];exact h.2 j u hj
def PTs(X:Cx)(ifs:List Expr)(t:TT):Prop :=
 ∀(pins:List (Addr×Obj)) (s:Shared) (σ:St) (H:Hp) (Q:Bool->Hp->Prop),Inv X pins σ H s->t σ H Q ->
  wpAny (model X.prog X.w) X.A (forIn ifs true fun c r=>if r=true then do let ok ← isTrue c X.env (eval c X.env);pure (ForInStep.yield ok) else pure (ForInStep.yield r)) (TP X pins σ Q) X.xe s
def qOn:TT:=fun _ H Q=>Q true H
theorem qAy:PTs X [] qOn:=fun pins s σ H Q I h=>wpAny_tests_nil ⟨H,I,h⟩
theorem qB1(h:PT X c t):PTs X [c] t:=fun pins s σ H Q I hw=>wpAny_tests_one (h pins s σ H Q I hw)
def qEw(J:It)(σ0:St)(g:TG)(tt:TT)(te:TE)(Q:List V->Hp->Prop)(H1:Hp):Prop :=
 ∃W:Nat->Nat->List V->Hp->Prop,(∃m,W 0 m [] H1)/\∀i m ys H,W i m ys H ->
  (J.stop i H/\Q ys H) \/
  (J.go i H/\∀x H',J.yld i H x H'->g x σ0 H' fun σ2 H2=>Sle σ0 σ2/\tt σ2 H2 fun b H3 =>
   if b=true then te σ2 H3 (fun v H4=>ys.length<sizeLine/\∃m',m'<m/\W (i+1) m' (ys++[v]) H4) else ∃m',m'<m/\W (i+1) m' ys H3)
section
variable{X:Cx}{pins:List (Addr×Obj)}{σ:St}{H:Hp}{s:Shared}
theorem qJx{target iter elt:Expr}{ifs:List Expr}{scope:Scope}{pos:Pos}{N':List Str}{sub:List (Option Nat)}{J:It}{fp:List Addr}{it:Addr}{tn:Nat->Heap->Prop}{g:TG}{tt:TT}{te:TE}
  {Qe:List V->Hp->Prop} {E:Value->Shared->Prop} {RR:Value->Addr->Result->Shared->Prop}
  (hc:X.calm=true) (I:Inv X pins σ H s) (O:CmpOk X.N X.env.scope N' scope sub) (T:Turn X.prog X.w X.K target J fp it tn) (st:tn 0 s.heap) (hf:∀b∈fp,qOd X pins H b)
  (B:∀C s H fp,PG (qDn X scope N' C s H fp) target g/\PTs (qDn X scope N' C s H fp) ifs tt/\PE (qDn X scope N' C s H fp) elt te)
  (rd:qEw J (subσ sub σ) g tt te Qe H)
  (hRR:∀(acc C:Addr) (ys:List V) (H':Hp) (s':Shared),Inv X pins σ (upd H' acc (.lst ys)) s'->qOd X pins (upd H' acc (.lst ys)) C->(∃m,s'.heap.Ns C m)->H' acc=none->Qe ys H'->RR (.ref acc) C (.ok .next) s') :
  wpAny (model X.prog X.w) X.A (newList []) (fun acc s₃=>wpAny (model X.prog X.w) X.A (newFunctionEnv scope X.env.globals (qCt X.env.cells scope.names []) [] X.env.qual none .none (some X.env)) (fun cenv s₄ =>
   codeAny (model X.prog X.w) X.A (.compStart (.ListComp elt [⟨target,iter,ifs,0⟩] scope pos) 0 (.ref it) acc { cenv with scope:=relabel scope X.env }) (RR acc cenv.locals) s₄) E s₃) E s:=by
 refine wpAny_newObj_type (qHu ?_);have hfl:∀b∈fp,b<s.heap.objs.size:=fun b hb=>by
  obtain⟨o,e,_⟩:=T.obj _ _ st b hb;exact Heap.lt_size e
 have I0:=qTy (sub:=sub) I O hf hfl;have sz3:(s.heap.push { cls:=.type "list",data:=.seq #[] }).objs.size=s.heap.objs.size+1:=Heap.size_push ..;dsimp only;show codeAny _ _ (.compStart _ 0 (.ref it) (.ref s.heap.objs.size) { scope:=relabel scope X.env,locals:=(s.heap.push { cls:=.type "list",data:=.seq #[] }).objs.size,globals:=X.env.globals,cells:=cellsFrom ((s.heap.push { cls:=.type "list",data:=.seq #[] }).objs.size+1) scope.names (qCt X.env.cells scope.names []),qual:=X.env.qual,func:=none,code:=X.env.code,frame:=X.env.frame,builtins:=X.env.builtins })
  (RR (.ref s.heap.objs.size) (s.heap.push { cls:=.type "list",data:=.seq #[] }).objs.size) { s with heap:=pushCells ((s.heap.push { cls:=.type "list",data:=.seq #[] }).push { cls:=.type "dict",data:=.dict #[] }) scope.names }
 rw[sz3];show codeAny _ _ (.compStart _ 0 (.ref it) (.ref s.heap.objs.size) (qDx X.env scope (s.heap.objs.size+1))) (RR (.ref s.heap.objs.size) (s.heap.objs.size+1)) _;generalize hs0:({ s with heap:=pushCells ((s.heap.push { cls:=.type "list",data:=.seq #[] }).push { cls:=.type "dict",data:=.dict #[] }) scope.names }:Shared)=s0 at I0 ⊢;have hk0:∀b o,s.heap.get? b=some o->s0.heap.get? b=some o:=fun b o e=>by
  rw[<-hs0];exact pushCells_keeps _ _ b o (Heap.get?_push_of_some _ (Heap.get?_push_of_some _ e))
 have st0:tn 0 s0.heap:=T.keep _ _ _ st fun b hb o e=>hk0 b o e
 clear hs0 sz3;generalize hX:qDn X scope N' (s.heap.objs.size+1) s H fp=X' at I0;have xp:X'.prog=X.prog:=by rw[<-hX];rfl
 have xw:X'.w=X.w:=by rw[<-hX];rfl
 have xK:X'.K=X.K:=by rw[<-hX];rfl
 have xA:X'.A=X.A:=by rw[<-hX];rfl
 have xc:X'.calm=true:=by rw[<-hX];exact hc
 have xe:X'.env=qDx X.env scope (s.heap.objs.size+1):=by rw[<-hX];rfl
 have xx:X'.ex=fp:=by rw[<-hX];rfl
 have xo:X'.outer=X.stack:=by rw[<-hX];rfl
 have xf:X'.fs=frs X.stack:=by rw[<-hX];rfl
 have xpn:X'.pn=[]:=by rw[<-hX];rfl
 have x0:X'.s₀=s:=by rw[<-hX];rfl
 have xh:X'.H₀=H:=by rw[<-hX];rfl
 have xxe:X'.xe=fun _ _=>False:=by rw[<-hX];rfl
 obtain⟨hg,ht,he⟩:=B (s.heap.objs.size+1) s H fp;rw[hX]at hg ht he;clear hX;have stat:∀ {pl:List (Addr×Obj)} {H':Hp},(∀p∈pl,p.1=s.heap.objs.size)->(∀b∈fp,H' b=none)->∀b∈fp,qOd X' pl H' b:=fun {pl H'} hp hn b hb=>by
  obtain⟨f0,f1,f2,f3,f4,f5⟩:=hf b hb;refine⟨hn b hb,(I0.ok.exf b (by rw[xx];exact hb)).1,I0.ok.exfs b (by rw[xx];exact hb),.inl (by rw[xx];exact hb),(I0.ok.exf b (by rw[xx];exact hb)).2,fun p hp'=>?_⟩;rw[xpn,List.nil_append]at hp';rw[hp p hp'];exact hCo (hfl b hb)
 obtain⟨W,⟨m0,w0⟩,turn⟩:=rd;have loop:∀s3:Shared,s3=s0->codeAny (model X.prog X.w) X.A (.compLoop (.ListComp elt [⟨target,iter,ifs,0⟩] scope pos) 0 (.ref it) (.ref s.heap.objs.size) (qDx X.env scope (s.heap.objs.size+1))) (RR (.ref s.heap.objs.size) (s.heap.objs.size+1)) s3:=by
  intro s3 e3;refine qJy (fun n s'=>∃(i:Nat) (ys:List V) (H':Hp) (its:List Value) (k:Nat),Inv X' [(s.heap.objs.size,{ cls:=.type "list",data:=.seq its.toArray k })] (subσ sub σ) H' s'/\qA7 ys its/\ys.length<=sizeLine/\tn i s'.heap/\(∀b∈fp,H' b=none)/\W i n ys H') ?_ m0
   ⟨0,[],H,[],0,by rw[e3];exact I0,.nil,hAs _,by rw[e3];exact st0,fun b hb=>(hf b hb).1,w0⟩
  rintro n s4 ⟨i,ys,H4,its,k,I4,rv,hz,st4,fr4,w4⟩;have pe:∀p∈([(s.heap.objs.size,({ cls:=.type "list",data:=.seq its.toArray k }:Obj))]:List (Addr×Obj)),p.1=s.heap.objs.size:=fun p hp=>by
   rw[hA5]at hp;rw[hp]
  rcases turn i n ys H4 w4 with ⟨stop,q⟩|⟨go,step⟩
  ·-- the end
   have td:=T.done X' xp xw xK xc i _ s4 (subσ sub σ) H4 (fun _ _=>False) I4 (stat pe fr4) st4 stop;rw[xA]at td;refine thn td fun r s5 ⟨hr,I5⟩=>?_
   subst hr;have pa:=I5.pin (s.heap.objs.size,{ cls:=.type "list",data:=.seq its.toArray k }) (by rw[xpn];simp);have nacc:H4 s.heap.objs.size=none:=pa.2.1;have nC:H4 (s.heap.objs.size+1)=none:=by have z:=I5.free;rw[xe]at z;exact z
   have un:Un (frs X.stack) fp H H4 s.heap s5.heap:=by have z:=I5.base;rw[xf,xx,xh,x0]at z;exact z
   have un2:Un (frs X.stack) fp H (upd H4 s.heap.objs.size (.lst ys)) s.heap s5.heap:=by
    refine⟨un.keep,un.slot,fun b o e n hx=>?_,un.there,fun b xs e=>?_,fun b o u e=>?_,fun b ps e=>?_⟩
    ·rw[qAg (hAn (Heap.lt_size e))];exact un.free b o e n hx
    ·have z:=un.tups b xs e;rw[qAg (qAi z nacc)];exact z
    ·have z:=un.frzs b o u e;rw[qAg (qAi z nacc)];exact z
    ·obtain⟨more,z⟩:=un.tbls b ps e;exact⟨more,by rw[qAg (qAi z nacc)];exact z⟩
   have hok5:HOk X.prog X.w H4 s5.heap:=by have z:=I5.hok;rw[xp,xw]at z;exact z
   have hok2:HOk X.prog X.w (upd H4 s.heap.objs.size (.lst ys)) s5.heap:=fun b u e=>by
    by_cases hb:b=s.heap.objs.size
    ·subst hb;rw[upd_same]at e;cases e;exact⟨hz,its,k,rv,pa.1⟩
    ·rw[qAg hb]at e;exact(hok5 b u e).stay (fun _ _ _ q=>q) (fun c q=>by rw[qAg (qAi q nacc)];exact q) fun c xs q=>by rw[qAg (qAi q nacc)];exact q
   have os5:s5.os=s.os:=by have z:=I5.os;rw[x0]at z;exact z
   have J5:Inv X pins σ (upd H4 s.heap.objs.size (.lst ys)) s5:=I.call' os5 un2 hok2 I5.bare fun b hb=>by
    obtain⟨f0,f1,f2,f3,f4,f5⟩:=hf b hb;exact⟨f3,f1,f4,f5⟩
   refine hRR _ _ ys H4 s5 J5 (I.fpOk (hB7 _) ?_) ?_ nacc q
   ·rw[qAg (Nat.succ_ne_self _)];exact nC
   ·obtain⟨m,hn,_⟩:=I5.loc;rw[xe]at hn;exact⟨m,hn⟩
  ·-- one turn
   have ti:=T.item X' xp xw xK xc i _ s4 (subσ sub σ) H4 (fun _ _=>False) I4 (stat pe fr4) st4 go;rw[xA]at ti;refine thn ti fun r s5 ⟨u,hr,h5⟩=>?_
   subst hr;refine thn h5 fun _ s6 ⟨x,H6,I6,r6,y6,st6,fr6⟩=>?_
   have I6':=I6.pinned (stat pe fr6) (T.obj _ _ st6);have tg:=hg _ s6 (subσ sub σ) H6 x u _ I6' r6 (step x H6 y6);rw[xp,xw,xA,xe,xxe]at tg;refine thn tg fun _ s7 ⟨σ7,H7,I7,le7,q7⟩=>?_
   have tts:=ht _ s7 σ7 H7 _ I7 q7;rw[xp,xw,xA,xe,xxe]at tts;refine thn tts fun b s8 ⟨H8,I8,q8⟩=>?_
   cases b with
   |false =>
    rw[if_neg hAx]at q8 ⊢;obtain⟨m',hm',w8⟩:=q8;have I9:Inv X' ([(s.heap.objs.size,{ cls:=.type "list",data:=.seq its.toArray k })]++qHf fp s6.heap) (subσ sub σ) H8 s8:=I8.weak le7.1.symm le7.2;refine⟨m',hm',i+1,ys,H8,its,k,I9.unpinned,rv,hz,T.keep _ _ _ st6 fun b hb o e=>(I9.pin (b,o) (hAa _ (hAa _ (qCf hb e)))).1,fun b hb=>?_,w8⟩;obtain⟨o,e,d⟩:=T.obj _ _ st6 b hb;exact(I9.pin (b,o) (hAa _ (hAa _ (qCf hb e)))).2.1
   |true =>
    rw[if_pos rfl]at q8 ⊢;have tee:=he _ s8 σ7 H8 _ I8 q8;rw[xp,xw,xA,xe,xxe]at tee;refine thn tee fun vv s9 ⟨v,H9,I9,r9,lz,m',hm',w9⟩=>?_
    have I10:Inv X' ([(s.heap.objs.size,{ cls:=.type "list",data:=.seq its.toArray k })]++qHf fp s6.heap) (subσ sub σ) H9 s9:=I9.weak le7.1.symm le7.2;have pa:=I10.pin (s.heap.objs.size,{ cls:=.type "list",data:=.seq its.toArray k }) (by rw[xpn];simp);have hlen:=rv.length;refine wpAny_list_append_plain (items:=its.toArray) ⟨k,pa.1⟩ (fun h' pl sb=>?_) (by rw[hAd];omega);obtain⟨k',pl⟩:=pl;have keepIt:∀b∈fp,∀o,s6.heap.get? b=some o->h'.get? b=some o:=fun b hb o e=>by
     have nb:b≠s.heap.objs.size:=hAn (hfl b hb);exact(sb.2 b nb).trans (I10.pin (b,o) (hAa _ (hAa _ (qCf hb e)))).1
    have I11:Inv X' [] (subσ sub σ) H9 s9:=I10.pins_of fun p hp=>absurd hp (by simp)
    have sacc:s.heap.objs.size≠X'.env.locals:=pa.2.2.1;have I12:Inv X' [] (subσ sub σ) H9 { s9 with heap:=h' }:=I11.turned (t':=s9.toks) (it:=s.heap.objs.size) (fun b o hb e=>(sb.2 b hb).trans e) pa.2.1 sacc (.inr (by rw[x0];exact hA6 _))
     (fun y c hy z=>by
      obtain⟨w',o',ho',hd'⟩:=I10.cell y c hy;rw[z,pa.1]at ho';have z2:=hAt ho';rw[<-z2]at hd';cases hd') (fun p hp=>absurd hp (by rw[xpn];simp))
    refine⟨m',hm',i+1,ys++[v],H9,its++[vv],k',I12.pins_of (fun p hp=>?_),rv.append (.cons r9 .nil),by rw[hAj,List.length_singleton];omega,T.keep _ _ _ st6 keepIt,fun b hb=>?_,w9⟩
    ·rw[hA5]at hp;subst hp;refine⟨?_,pa.2.1,sacc,pa.2.2.2.1,fun v z=>by cases z⟩;show h'.get? s.heap.objs.size=_;rw[pl];simp
    ·obtain⟨o,e,d⟩:=T.obj _ _ st6 b hb;exact(I10.pin (b,o) (hAa _ (hAa _ (qCf hb e)))).2.1
 exact codeAny_compStart_list (loop _ rfl) (T.self _ 0 _ _ _ st0 (loop _ rfl))
end
def qSm(sub:List (Option Nat))(wi:TI)(g:TG)(tt:TT)(te:TE):TE:=fun σ H Q=>wi σ H fun J H1 =>
 qEw J (subσ sub σ) g tt te (fun ys H'=>∀r,H' r=none->Q (.ref r) (upd H' r (.lst ys))) H1
section
variable{X:Cx}{target iter elt:Expr}{ifs:List Expr}{scope:Scope}{pos:Pos}{N':List Str}{sub:List (Option Nat)}{wi:TI}{g:TG}{tt:TT}{te:TE}
theorem qRt(I:Inv X pins σ H s)(O:CmpOk X.N X.env.scope N' scope sub):closureFor scope X.env=pure (qCt X.env.cells scope.names []) :=
 qIr fun x hx hf=>I.ok.has x.1 (by rcases O.free x hx hf with z|z;exact .inl z;exact .inr z)
theorem qMs(O:CmpOk X.N X.env.scope N' scope sub):∀y∈scope.names,y.2 = .local->scope.names.lookup y.1=some .local:=fun y hy e=>by
 obtain⟨n,k⟩:=y;cases e;exact qCc O.nd hy
theorem qWw(hc:X.calm=true)(O:CmpOk X.N X.env.scope N' scope sub)(hi:PI X target iter wi)
  (B:∀C s H fp,PG (qDn X scope N' C s H fp) target g/\PTs (qDn X scope N' C s H fp) ifs tt/\PE (qDn X scope N' C s H fp) elt te)
  (hs:∀x,foldedSetIterable iter X.env x=pure x:=by intro _;rfl):PE X (.ListComp elt [⟨target,iter,ifs,0⟩] scope pos) (qSm sub wi g tt te):=by
 intro pins s σ H Q I h;rw[eval_ListComp];refine wpAny_comprehension_free (use:=none) rfl hs (qRt I O) O.kind (qMs O) (thn (hi pins s σ H _ I h) fun v s1 h1=>thn h1 fun itv s2 h2=>?_);obtain⟨it,fp,tn,J,H2,e,I2,T,st2,f2,rd⟩:=h2;subst e;refine qJx (RR:=fun acc C=>compPost (model X.prog X.w) X.A X.xe none (EP X pins σ Q) acc C) hc I2 O T st2 f2 B rd fun acc C ys H' s' I' fC hn na q=>?_
 obtain⟨m,hn⟩:=hn;obtain⟨f0,f1,f3,f4,f5,f6⟩:=fC;refine⟨m,hn,fun h' sb=>?_⟩;exact⟨.ref acc,upd H' acc (.lst ys),I'.turned (t':=s'.toks) (it:=C) (fun b o hb e=>(sb.2 b hb).trans e) f0 f1 f4 f5 f6,rfl,q acc na⟩
theorem qWt(hc:X.calm=true)(O:CmpOk X.N X.env.scope N' scope sub)(hi:PI X target iter wi)
  (B:∀C s H fp,PG (qDn X scope N' C s H fp) target g/\PTs (qDn X scope N' C s H fp) ifs tt/\PE (qDn X scope N' C s H fp) elt te)
  (hN:X.N.Nodup) (hy:X.N[i]?=some y) (hx:Loc X.env.scope y)
  (hsw:swapsWith (.ListComp elt [⟨target,iter,ifs,0⟩] scope pos) (some (.Name y py)) spos.line X.env=pure true)
  (hs:∀x,foldedSetIterable iter X.env x=pure x:=by intro _;rfl) (hf:X.fn y=true\/X.env.scope.names.lookup y=some .local:=by first|exact .inl rfl|exact .inr rfl|assumption) :
  PS X (.Assign [.Name y py] (.ListComp elt [⟨target,iter,ifs,0⟩] scope pos) spos) (qYo (qSm sub wi g tt te) (qQ6 i)):=by
 intro pins s σ H D I h;rw[exec_Assign_Name_used _ _ _ _ hsw];refine wpAny_bind (wpAny_standAt (wpAny_bind ?_));show wpAny _ _ (do let _ ← comprehension (.ListComp elt [⟨target,iter,ifs,0⟩] scope pos) scope X.env _ (newList []) false (eval iter X.env) (some (assign (.Name y py) X.env))) _ _ s;refine wpAny_bind (wpAny_mono (wpAny_comprehension_free (use:=some (assign (.Name y py) X.env)) (Q:=fun _ s'=>SP X pins D .next s') rfl hs (qRt I O) O.kind (qMs O)
  (thn (hi pins s σ H _ I h) fun v s1 h1=>thn h1 fun itv s2 h2=>?_)) (fun _ s' hq=>wpAny_pure (wpAny_pure hq)) fun _ _ e=>e)
 obtain⟨it,fp,tn,J,H2,e,I2,T,st2,f2,rd⟩:=h2;subst e;refine qJx (RR:=fun acc C=>compPost (model X.prog X.w) X.A X.xe (some (assign (.Name y py) X.env)) (fun _ s'=>SP X pins D .next s') acc C) hc I2 O T st2 f2 B rd fun acc C ys H' s' I' fC hn na q=>?_
 obtain⟨m,hn⟩:=hn;obtain⟨f0,f1,f3,f4,f5,f6⟩:=fC;show wpAny _ _ (assign (.Name y py) X.env (.ref acc)) _ _ s';refine wpAny_assign_Name (qI1 (v:=.ref acc) I' hN hy hx rfl (fun s'' I'' ⟨a,sb,ha⟩=>?_) hf);have nCa:C≠a:=by
  rcases ha with z|z
  ·rw[z];exact f1
  ·exact fun e=>f5 _ _ z e.symm
 refine⟨m,hn.sameBut sb nCa,fun h' sb'=>?_⟩;exact⟨_,upd H' acc (.lst ys),I''.turned (t':=s''.toks) (it:=C) (fun b o hb e=>(sb'.2 b hb).trans e) f0 f1 f4 f5 f6,q acc na⟩
end
section
variable{σ0:St}{g:TG}{tt:TT}{te:TE}{Q:List V->Hp->Prop}{H1:Hp}
def Nxt(n i:Nat)(Pv:Nat->List V->Hp->Prop)(ys:List V)(H:Hp):Prop:=∃m',m'<n - i/\m'=n - (i+1)/\i+1<=n/\Pv (i+1) ys H
theorem nxt(hi:i<n)(h:Pv (i+1) ys H):Nxt n i Pv ys H:=⟨_,by omega,rfl,hi,h⟩
theorem qAr{K:PySem.W.Frag}{a:Addr}{xs:List V}(Pv:Nat->List V->Hp->Prop)(h0:Pv 0 [] H1)(hl:∀i ys H,i<=xs.length->Pv i ys H->SqL K H a xs)
  (hs:∀i x ys H,xs[i]?=some x->Pv i ys H->g x σ0 H fun σ2 H2=>Sle σ0 σ2/\tt σ2 H2 fun b H3=>if b=true then te σ2 H3 (fun v H4=>ys.length<sizeLine/\Nxt xs.length i Pv (ys++[v]) H4) else Nxt xs.length i Pv ys H3)
  (hd:∀ys H,Pv xs.length ys H->Q ys H):qEw (Itl K a) σ0 g tt te Q H1:=by
 refine⟨fun i m ys H=>m=xs.length - i/\i<=xs.length/\Pv i ys H,⟨xs.length,by simp,hAs _,h0⟩,?_⟩;rintro i m ys H ⟨rfl,hi,p⟩;have q:=hl i ys H hi p;by_cases hlt:i<xs.length
 ·refine .inr ⟨⟨xs,xs[i],q,by simp[hlt]⟩,fun x H' y=>?_⟩;obtain⟨e,y⟩:=y;subst e;exact hs i x ys _ (y xs q) p
 ·have e:i=xs.length:=by omega
  subst e;exact .inl ⟨⟨xs,q,hA6 _⟩,hd ys H p⟩
theorem qCg{lo:Int}{n:Nat}(Pv:Nat->List V->Hp->Prop)(h0:Pv 0 [] H1)
  (hs:∀i ys H,i<n->Pv i ys H->g (.int (lo+i)) σ0 H fun σ2 H2=>Sle σ0 σ2/\tt σ2 H2 fun b H3=>if b=true then te σ2 H3 (fun v H4=>ys.length<sizeLine/\Nxt n i Pv (ys++[v]) H4) else Nxt n i Pv ys H3)
  (hd:∀ys H,Pv n ys H->Q ys H):qEw (Itr lo n) σ0 g tt te Q H1:=by
 refine⟨fun i m ys H=>m=n - i/\i<=n/\Pv i ys H,⟨n,by simp,hAs _,h0⟩,?_⟩;rintro i m ys H ⟨rfl,hi,p⟩;by_cases hlt:i<n
 ·refine .inr ⟨hlt,fun x H' y=>?_⟩;obtain⟨e,y⟩:=y;subst e y;exact hs i ys _ hlt p
 ·have e:i=n:=by omega
  subst e;exact .inl ⟨hA6 _,hd ys H p⟩
end
end L2
namespace L2
open PySem PySem.Spec PyProof.Rows PySem.SeqAt
mutual
inductive DR (K:PySem.W.Frag) (H:Hp):V->PyData->Prop
 |non:DR K H .non .none
 |bl (b:Bool):DR K H (.bl b) (.bool b)
 |int (i:Int):DR K H (.int i) (.int i)
 |str (x:Str):DR K H (.str x) (.str x)
 |lst {a:Addr} {xs:List V} {ds:List PyData}:SqL K H a xs->DRs K H xs ds->DR K H (.ref a) (.list ds)
 |tup {a:Addr} {xs:List V} {ds:List PyData}:SqT K H a xs->DRs K H xs ds->DR K H (.ref a) (.tuple ds)
inductive DRs (K:PySem.W.Frag) (H:Hp):List V->List PyData->Prop
 |nil:DRs K H [] []
 |cons {v:V} {d:PyData} {vs:List V} {ds:List PyData}:DR K H v d->DRs K H vs ds->DRs K H (v :: vs) (d :: ds)
end
section
variable{X:Cx}{pins:List (Addr×Obj)}{σ:St}{H:Hp}{s:Shared}
mutual
theorem DR.reads(I:Inv X pins σ H s):∀ {v:V} {d:PyData} {u:Value},DR X.K H v d->qBq v u->∃as,Reads s.heap u d as
 |_,_,_,.non,r=>by cases r;exact⟨_,.none⟩
 |_,_,_,.bl b,r=>by cases r;exact⟨_,.bool b⟩
 |_,_,_,.int i,r=>by obtain⟨t,rfl⟩:=r;exact⟨_,.int i t⟩
 |_,_,_,.str x,r=>by obtain⟨t,rfl⟩:=r;exact⟨_,.str x t⟩
 |_,_,_,.lst hq hd,r=>by
  cases r;obtain⟨its,rv,⟨o,n,e,c,_,dt⟩,_⟩:=I.list hq;obtain⟨as,ra⟩:=DRs.reads I hd rv;exact⟨_,.list e c dt ra⟩
 |_,_,_,.tup hq hd,r=>by
  cases r;obtain⟨its,rv,⟨o,e,c,n,dt⟩,_⟩:=I.tuple hq;obtain⟨as,ra⟩:=DRs.reads I hd rv;exact⟨_,.tuple e c dt ra⟩
theorem DRs.reads(I:Inv X pins σ H s):∀ {vs:List V} {ds:List PyData} {us:List Value},DRs X.K H vs ds->qA7 vs us->∃as,ReadsAll s.heap us ds as
 |_,_,_,.nil,r=>by cases r;exact⟨_,.nil⟩
 |_,_,_,.cons h t,r=>by
  cases r with
  |cons r rr =>
   obtain⟨a1,q1⟩:=DR.reads I h r;obtain⟨a2,q2⟩:=DRs.reads I t rr;exact⟨_,.cons q1 q2⟩
end
end
def zBv(K:PySem.W.Frag)(neg:Bool):R2:=fun x y H Q=>∃dx dy,DR K H x dx/\DR K H y dy/\shaped dx=true/\shaped dy=true/\Q (.bl (if neg then !PyData.eqv dx dy else PyData.eqv dx dy)) H
section
variable{X:Cx}
theorem qFp(hu:X.A.units+64<cLine):OpR X (compareOp .NotEq) (zBv X.K true):=by
 intro pins s σ H x y v u Q I rx ry h;obtain⟨dx,dy,hx,hy,sx,sy,q⟩:=h;obtain⟨a1,r1⟩:=DR.reads I hx rx;obtain⟨a2,r2⟩:=DR.reads I hy ry;exact ne_dataH r1 r2 sx sy hu ⟨.bl (!PyData.eqv dx dy),H,I,rfl,q⟩
theorem qCx:∀ {us:List Value},qA7 (ss.map V.str) us->StrsAre us ss:=by
 induction ss with
 |nil=>intro us r;cases r;exact .nil
 |cons a l ih =>
  intro us r;cases r with
  |cons r rr =>
   obtain⟨t,rfl⟩:=r;exact .cons a t (ih rr)
theorem qHj:∀ {us:List Value},StrsAre us ss->qA7 (ss.map V.str) us:=by
 induction ss with
 |nil=>intro us r;cases r;exact .nil
 |cons a l ih =>
  intro us r;cases r with
  |cons _ _ r=>exact .cons ⟨_,rfl⟩ (ih r)
theorem qJ0:qB7 X (.builtin "sorted") (fun xs H Q=>∃p ss,xs=[.ref p]/\SqL X.K H p (ss.map V.str)/\ss.length<64/\∀r ss',H r=none->ss'.Perm ss->sortedS ss'=true->Q (.ref r) (upd H r (.lst (ss'.map V.str)))):=by
 intro pins s σ H xs us Q I r h;obtain⟨p,ss,rfl,hq,h64,q⟩:=h;obtain⟨u,rfl,rx⟩:=qCv r;cases rx;obtain⟨its,rv,pl,hz⟩:=I.list hq;have hl:=rv.length;rw[hA1]at hl;refine sorted_strs pl.isList (qCx rv) (by omega) fun out ss' h1 h2 h3=>?_
 obtain⟨e,he⟩:=sortedAll_at s.heap its out;have nz:H (s.heap.objs.size+1)=none:=I.hok.fresh (hB7 _);refine⟨.ref (s.heap.objs.size+1),_,I.laid (t':=s.toks) (a:=s.heap.objs.size+1) (o:=.lst (ss'.map V.str)) (fun b o eb=>sortedAll_old eb) (hB7 _) ?_,rfl,q _ ss' nz h2 h3⟩;refine⟨?_,out.toList,e,qHj h1,by simpa using he⟩;rw[hA1,h2.length_eq];exact hBi (qAj (by omega))
end
section
variable{X:Cx}
theorem qUv:SlR X (fun x lo hi H Q=>∃z:Str,x = .str z/\z.length<=sizeLine/\Q (.str (Txt.slice z lo hi)) H):=by
 intro pins s σ H x v vl vu lo hi sl Q I rx hs pl pu h;obtain⟨z,rfl,hz,q⟩:=h;obtain⟨t,rfl⟩:=rx;refine⟨"str",_,F.slot_str_getitem.lookup,typeIs_str _ _ _,?_⟩;obtain⟨o,ho,hc,hd⟩:=hs;have fin:∀t' k,EP X pins σ Q (.str (Txt.slice z lo hi) t') { s with toks:=k }:=fun t' k=>⟨.str (Txt.slice z lo hi),H,I.tok k,⟨t',rfl⟩,q⟩
 cases pl with
 |none =>
  cases pu with
  |none=>exact wpAny_getItem_str_slice (l:=none) (u:=none) (st:=none) ⟨o,ho,hc,hd⟩ rfl (post_val_or_str ⟨hB2 (Txt.slice_le z _ _) hz,fin⟩)
  |int j uj=>exact wpAny_getItem_str_slice (l:=none) (u:=some (j,uj)) (st:=none) ⟨o,ho,hc,hd⟩ rfl (post_val_or_str ⟨hB2 (Txt.slice_le z _ _) hz,fin⟩)
 |int i ui =>
  cases pu with
  |none=>exact wpAny_getItem_str_slice (l:=some (i,ui)) (u:=none) (st:=none) ⟨o,ho,hc,hd⟩ rfl (post_val_or_str ⟨hB2 (Txt.slice_le z _ _) hz,fin⟩)
  |int j uj=>exact wpAny_getItem_str_slice (l:=some (i,ui)) (u:=some (j,uj)) (st:=none) ⟨o,ho,hc,hd⟩ rfl (post_val_or_str ⟨hB2 (Txt.slice_le z _ _) hz,fin⟩)
theorem qK3(h1:x.length<=100)(h2:0<=n)(h3:n<=100):PySem.MulOk x n:=by
 refine⟨?_,fun h _=>?_,fun h _=>?_⟩
 ·rw[Bool.or_eq_false_iff];exact⟨decide_eq_false (by omega),decide_eq_false (by omega)⟩
 ·have e:((2^63 - 1:Int) / n) >= 100:=by
   apply Int.le_ediv_of_mul_le (by omega);omega
  omega
 ·unfold Builtin.Str.tooLong;have:x.length*n.toNat<=100*100:=Nat.mul_le_mul h1 (by omega);exact decide_eq_false (by have:sizeLine > 10000:=(by decide);omega)
theorem qHi:OpR X (binaryOp .Mult) (fun x y H Q=>∃(z:Str) (n:Int),x = .str z/\y = .int n/\z.length<=100/\0<=n/\n<=100/\Q (.str (Txt.mul z n)) H):=by
 intro pins s σ H x y v u Q I rx ry h;obtain⟨z,n,rfl,rfl,h1,h2,h3,q⟩:=h;obtain⟨t,rfl⟩:=rx;obtain⟨t',rfl⟩:=ry;exact SB.mul (qK3 h1 h2 h3) fun t' k=>⟨.str (Txt.mul z n),H,I.tok k,⟨t',rfl⟩,q⟩
theorem qEa:qB7 X (.builtin "isinstance") (fun xs H Q=>∃x t c b,xs=[x,.ty c]/\TyOf X.K H x t/\PySem.W.kitOne X.K t (.type c)=some b/\Q (.bl b) H):=by
 intro pins s σ H xs us Q I r h;obtain⟨x,t,c,b,rfl,ty,e,q⟩:=h;obtain⟨u,w',rfl,rx,rc⟩:=qYb r;cases(show w'=Value.type c from rc);exact qQ2 I rx ty e fun tk=>⟨.bl b,H,I.tok tk,rfl,q⟩
noncomputable def Itk(kvs:List (Key×V))(d:Addr)(o:Obj):It :=
 ⟨fun i H=>i<kvs.length/\H d=some (.frz o (.dK kvs)),fun i H x H'=>H'=H/\∃p,kvs[i]?=some p/\x=kV p.1,fun i H=>kvs.length<=i/\H d=some (.frz o (.dK kvs))⟩
theorem qNo{P:Program}{w:World}{K:PySem.W.Frag}{tg:Expr}(it d:Addr)(o:Obj)(kvs:List (Key×V))(vs:List (Key×Value))(es:Array DictEntry)(ep:Nat)
  (hne:d≠it) (kv:KV kvs vs) (hx:o.ExactDict) (hd:o.data = .dict es ep) (hk:KeysOf (qA9 P w) es) (hp:Pairs (qA9 P w) es.toList vs) (nd:(vs.map (·.1)).Nodup) :
  Turn P w K tg (Itk kvs d o) [it] it (fun i h=>h.IsKeyIter it d i vs.length ep) where
 mem:=by simp
 obj:=fun i h st b hb=>by
  have e:b=it:=by simpa using hb
  subst e;obtain⟨o,e,c,d⟩:=st;exact⟨o,e,fun v z=>by rw[d]at z;cases z⟩
 keep:=fun i h h' st k=>st.at fun o e=>k it (by simp) o e
 item:=by
  intro X hP hw hK hc i pins s σ H E I hf st hg;subst hP hw hK;obtain⟨hi,hH⟩:=hg;have ho:s.heap.get? d=some o:=(I.hok d _ hH).1;have da:s.heap.DictAt (qA9 X.prog X.w) d vs ep:=⟨o,es,ho,hx,hd,hk,hp,nd⟩;obtain⟨⟨k,xv⟩,hkx⟩:∃p,kvs[i]?=some p:=⟨kvs[i],by simp[hi]⟩;have hvl:i<vs.length:=by have:=kv.length;omega
  obtain⟨⟨k',uv⟩,hkv⟩:∃p,vs[i]?=some p:=⟨vs[i],by simp[hvl]⟩;have ek:k=k':=by
   have e:=congrArg (fun l=>l[i]?) kv.keys;simp only[hAk,hkx,hkv]at e;exact hAt e
  subst ek;obtain⟨f0,f1,f2,f3,f4,f5⟩:=hf it (by simp);refine wpAny_pyNext_dict_item st da hkv fun key h' hkey hit' hs'=>?_
  have I1:Inv X pins σ H { s with heap:=h' }:=I.turned (t':=s.toks) (fun b o hb e=>(hs'.2 b hb).trans e) f0 f1 f3 f4 f5;obtain⟨oo,e,c,dd⟩:=id hit';refine⟨key,rfl,qXq (s:={ s with heap:=h' }) e c dd (by decide) ⟨kV k,H,I1,?_,⟨rfl,(k,xv),hkx,rfl⟩,hit',fun b hb=>(hf b hb).1⟩⟩;rcases keyIs_shape (show keyIs k key=true from hkey) with ⟨j,t,rfl,rfl⟩|⟨x,t,rfl,rfl⟩
  ·exact⟨t,rfl⟩
  ·exact⟨t,rfl⟩
 done:=by
  intro X hP hw hK hc i pins s σ H E I hf st hg;subst hP hw hK;obtain⟨hi,hH⟩:=hg;have ho:s.heap.get? d=some o:=(I.hok d _ hH).1;have da:s.heap.DictAt (qA9 X.prog X.w) d vs ep:=⟨o,es,ho,hx,hd,hk,hp,nd⟩;obtain⟨f0,f1,f2,f3,f4,f5⟩:=hf it (by simp);have hl:=kv.length;exact wpAny_pyNext_dict_end (I.ok.hd hc) st da (by simp;omega) fun h' eb=>⟨rfl,I.turned (t':=s.toks) (fun b o hb e=>eb b o hb e) f0 f1 f3 f4 f5⟩
 self:=fun _ _ _ _ _ st h=>wpAny_pyIter_keyiter st h
def zCb(td:TE):TI:=fun σ H R=>td σ H fun x H1=>∃d kvs,x = .ref d/\H1 d=some (.dK kvs)/\∀o,R (Itk kvs d o) (upd H1 d (.frz o (.dK kvs)))
theorem qWu{e tg:Expr}{td:TE}(he:PE X e td):PI X tg e (zCb td):=by
 intro pins s σ H R I h;refine thn (he pins s σ H _ I h) fun v s1 ⟨x,H1,I1,r1,q1⟩=>?_
 obtain⟨d,kvs,e,hH,q⟩:=q1;subst e;cases r1;obtain⟨hz,hsm,vs,kv,o,es,ep,ho,hx,hd,hk,hp,nd⟩:=zAk I1.hok hH;have I2:Inv X pins σ (upd H1 d (.frz o (.dK kvs))) s1:=by
  refine I1.write (t':=s1.toks) (h':=s1.heap) (x:=d) (e:=d) (by rw[hH];trivial) (.inl rfl) (fun _ _ _ q=>q) ⟨o,ho⟩ ⟨ho,?_⟩;exact⟨hz,hsm,vs,kv,o,es,ep,ho,hx,hd,hk,hp,nd⟩
 have da:s1.heap.DictAt (qA9 X.prog X.w) d vs ep:=⟨o,es,ho,hx,hd,hk,hp,nd⟩;refine wpAny_pyIter_dict hsm da ?_;have hne:d≠s1.heap.objs.size:=hAn (Heap.lt_size ho);refine⟨s1.heap.objs.size,[s1.heap.objs.size],_,_,_,rfl,I2.kept (t':=s1.toks) fun b o e=>Heap.get?_push_of_some _ e,qNo s1.heap.objs.size d o kvs vs es ep hne kv hx hd hk hp nd,⟨_,Heap.get?_push_size _ rfl,rfl,rfl⟩,fun b hb=>?_,q o⟩;have e:b=s1.heap.objs.size:=by simpa using hb
 subst e;exact I2.fpOk (hA6 _) (by rw[qAg (Ne.symm hne)];exact I1.hok.fresh (hA6 _))
theorem qNl(Pv:Nat->List V->Hp->Prop)(h0:Pv 0 [] H1)
  (hl:∀i ys H,i<=kvs.length->Pv i ys H->H d=some (.frz o (.dK kvs)))
  (hs:∀i p ys H,kvs[i]?=some p->Pv i ys H->g (kV p.1) σ0 H fun σ2 H2=>Sle σ0 σ2/\tt σ2 H2 fun b H3=>if b=true then te σ2 H3 (fun v H4=>ys.length<sizeLine/\Nxt kvs.length i Pv (ys++[v]) H4) else Nxt kvs.length i Pv ys H3)
  (hd:∀ys H,Pv kvs.length ys H->Q ys H):qEw (Itk kvs d o) σ0 g tt te Q H1:=by
 refine⟨fun i m ys H=>m=kvs.length - i/\i<=kvs.length/\Pv i ys H,⟨kvs.length,by simp,hAs _,h0⟩,?_⟩;rintro i m ys H ⟨rfl,hi,p⟩;have q:=hl i ys H hi p;by_cases hlt:i<kvs.length
 ·refine .inr ⟨⟨hlt,q⟩,fun x H' y=>?_⟩;obtain⟨e,pr,hpr,rfl⟩:=y;subst e;exact hs i pr ys _ hpr p
 ·have e:i=kvs.length:=by omega
  subst e;exact .inl ⟨⟨hA6 _,q⟩,hd ys H p⟩
end
section
variable{X:Cx}
theorem qT1(bs:List Bool)(d:Bool):(List.range bs.length).any (fun i=>bs.getD i d)=bs.any id:=by
 induction bs with
 |nil=>rfl
 |cons b r ih =>
  rw[hBc,List.range_succ_eq_map,hDe,List.any_map,hDe];have e:((fun i=>(b :: r).getD i d)∘Nat.succ)=fun i=>r.getD i d:=by
   funext i;simp
  rw[e,ih];simp
theorem qYe{P:Program}{w:World}{A:Around}{bs:List Bool}{its:List Value}(rv:qA7 (bs.map V.bl) its)(d:Bool):TruthOf P w A (fun i v=>its.toArray[i]?=some v) (fun i=>bs.getD i d):=by
 intro i v s Q E hv hQ;have hv':its[i]?=some v:=by simpa using hv
 have hi:i<its.length:=(hAq.mp hv').1;have hl:=rv.length;rw[hA1]at hl;have hb:(bs.map V.bl)[i]?=some (V.bl bs[i]):=by rw[hAk,hA2 (by omega)];rfl
 obtain⟨u,hu,ru⟩:=rv.get hb;rw[hv']at hu;have e:v=Value.bool bs[i]:=(hAt hu).trans ru;rw[e];have e2:bs.getD i d=bs[i]:=by rw[hAe,hA2 (by omega)];rfl
 have hQ:Q (bs.getD i d) s:=hQ;rw[e2]at hQ;exact wpAny_truthy_bool hQ
theorem qRy(hc:X.calm=true):qB7 X (.builtin "any") (fun xs H Q=>∃(p:Addr) (bs:List Bool),xs=[.ref p]/\SqL X.K H p (bs.map V.bl)/\Q (.bl (bs.any id)) H):=by
 intro pins s σ H xs us Q I r h;obtain⟨p,bs,rfl,hq,q⟩:=h;obtain⟨u,rfl,rx⟩:=qCv r;cases rx;obtain⟨its,rv,pl,hz⟩:=I.list hq;have hl:=rv.length;rw[hA1]at hl;have hne:p≠s.heap.objs.size:=by
  obtain⟨o,n,e,_⟩:=pl;exact hAn (Heap.lt_size e)
 have hh:=I.ok.hd hc;refine call_any_walk (wpAny_pyIter_list pl.isList ?_);refine⟨s.heap.objs.size,_,_,_,_,_,fun i=>bs.getD i true,rfl,Walks.list (by exact hh) _ p hne its.toArray,⟨⟨_,Heap.get?_push_size _ rfl,rfl,rfl⟩,pl.isList.at fun o e=>Heap.get?_push_of_some _ e⟩,qYe rv true,fun h' tk hk=>?_⟩;refine⟨.bl (bs.any id),H,I.kept (t':=tk) fun b o e=>hk b o ?_ (Heap.get?_push_of_some _ e),?_,q⟩
 ·intro z;rw[hA5]at z;exact absurd (Heap.lt_size e) (by rw[z];exact hD4 _)
 ·show Value.bool _=Value.bool _;rw[hAd,<-hl,qT1]
end
theorem qK2(t:SetTable)(n:Nat):(t.orStandIn n).led=t.led:=by
 unfold SetTable.orStandIn;split <;> rfl
theorem qN4(t:SetTable)(es:Array (Int×Value))(h:Int)(x:Value):(layNew t es h x).2.1.led=t.led:=by
 unfold layNew;split
 ·exact qK2 _ _
 ·rfl
theorem qPv(t:SetTable)(es:Array (Int×Value))(k:Nat):(relayAll t es k).2.1.led=t.led:=by
 unfold relayAll;split
 ·rename_i u order e;have eu:u.led=t.led:=by
   unfold SetTable.relaid SetTable.laid at e;cases hc:SetTable.layClean (SetTable.sizeAbove k - 1) (es.map (·.1)) with
   |none=>rw[hc]at e;cases e
   |some o =>
    rw[hc]at e;injection e with e
    injection e with e1 e2
    rw[<-e1]
  dsimp only;split
  ·exact eu
  ·rfl
 ·rfl
theorem qKv(t:SetTable)(es:Array (Int×Value))(k:Nat)(hp:t.plain=false):(relayAll t es k).2.1.plain=false:=by
 unfold relayAll;split
 ·rename_i u order e;have eu:u.plain=t.plain:=by
   unfold SetTable.relaid SetTable.laid at e;cases hc:SetTable.layClean (SetTable.sizeAbove k - 1) (es.map (·.1)) with
   |none=>rw[hc]at e;cases e
   |some o =>
    rw[hc]at e;injection e with e
    injection e with e1 e2
    rw[<-e1]
  dsimp only;split
  ·exact eu.trans hp
  ·rfl
 ·rfl
def qBu(P:Program)(w:World)(h:Heap)(a:Addr)(ss:List Str):Prop :=
 ∃(es:Array (Int×Value)) (ep:Nat) (t:SetTable),h.get? a=some { cls:=.type "set",dict:=none,data:=.set es ep t,slots:=#[] }/\ElemsOf (PySem.strKind P w) es.toList /\
  StrsAre (es.toList.map (·.2)) ss/\es.size<scanBound/\t.fits es.size=true/\t.led=!w.params.followText "set-order"/\(es.size≠0->t.plain=false)
theorem qHw:∀ {vs:List Value} {ss:List Str},StrsAre vs ss->((∃v∈vs,Value.isStrOf x v=true)↔x∈ss)
 |_,_,.nil=>by simp
 |_,_,.cons y t r=>by
  have ih:=qHw (x:=x) r;have hy:Value.isStrOf x (.str y t)=true↔x=y:=by
   constructor
   ·intro h;obtain⟨u,e⟩:=Value.isStrOf_shape h;cases e;rfl
   ·rintro rfl;simp[Value.isStrOf]
  constructor
  ·rintro⟨v,hv,hp⟩;rcases hAg.mp hv with rfl|hv
   ·rw[hy.mp hp];exact hA9
   ·exact hA8 _ (ih.mp ⟨v,hv,hp⟩)
  ·intro h;rcases hAg.mp h with h|h
   ·exact⟨_,hA9,hy.mpr h⟩
   ·obtain⟨v,hv,hp⟩:=ih.mpr h;exact⟨v,hA8 _ hv,hp⟩
theorem qOp{es es1:List (Int×Value)}{ss:List Str}{k:Int}{x:Str}{t:Tok}(hS:StrsAre (es.map (·.2)) ss)(p:es1.Perm (es++[(k,.str x t)])):∃ss1,StrsAre (es1.map (·.2)) ss1/\ss1.Perm (ss++[x]):=by
 have hall:∀v,v∈es1.map (·.2)->∃y u,v = .str y u:=by
  intro v hv;obtain⟨e,he,rfl⟩:=hA3.mp hv;rcases hAh.mp (p.mem_iff.mp he) with z|z
  ·exact hS.all _ (hCr z)
  ·rw[hA5]at z;subst z;exact⟨x,t,rfl⟩
 refine⟨_,strsAre_map _ hall,?_⟩;have q:=(p.map (·.2)).map strOf;rw[hA4,hA4,hS.strs]at q;exact q
theorem qE3{es es1:List (Int×Value)}{ss:List Str}(hS:StrsAre (es.map (·.2)) ss)(p:es1.Perm es):∃ss1,StrsAre (es1.map (·.2)) ss1/\ss1.Perm ss:=by
 have hall:∀v,v∈es1.map (·.2)->∃y u,v = .str y u:=by
  intro v hv;obtain⟨e,he,rfl⟩:=hA3.mp hv;exact hS.all _ (hCr (p.mem_iff.mp he))
 refine⟨_,strsAre_map _ hall,?_⟩;have q:=(p.map (·.2)).map strOf;rw[hS.strs]at q;exact q
section
variable{P:Program}{w:World}{A:Around}{E:Value->Shared->Prop}{s:Shared}{a:Addr}{ss:List Str}
theorem qHb(ho:s.heap.get? a=some { cls:=.type "set",dict:=none,data:=.set es ep t,slots:=#[] }) :
  (s.heap.update a (Obj.putSet es' t')).get? a=some { cls:=.type "set",dict:=none,data:=.set es' (ep+1) t',slots:=#[] }:=by
 have q:=Heap.get?_update_self (Obj.putSet es' t') ho (by rw[putSet_of es' t' rfl];rfl);rw[putSet_of es' t' rfl]at q;exact q
theorem qIz{g:Bool->Sem Unit}(hg:∀(b:Bool) (s1:Shared) (Q':Unit->Shared->Prop),Q' () s1->wpAny (model P w) A (g b) Q' E s1){es es1:Array (Int×Value)}{ep:Nat}{t t2:SetTable}{ss1:List Str}
  (ho:s.heap.get? a=some { cls:=.type "set",dict:=none,data:=.set es ep t,slots:=#[] }) (e1:ElemsOf (PySem.strKind P w) es1.toList) (e2:StrsAre (es1.toList.map (·.2)) ss1) (e3:es1.size<scanBound) (e4:t2.fits es1.size=true)
  (e5:t2.led=!w.params.followText "set-order") (e6:t2.plain=false) {wasD:Bool} {R:Option Bool->Shared->Prop} (h:∀h' ss',Heap.SameBut a s.heap h'->qBu P w h' a ss'->ss'.Perm ss1->R (some true) { s with heap:=h' }) :
  wpAny (model P w) A (do
    storeSet a es1 t2
    if (!wasD && t2.tooFull)=true then do
      g (relayAll t2 es1 (SetTable.grown es1.size)).2.2
      storeSet a (relayAll t2 es1 (SetTable.grown es1.size)).1 (relayAll t2 es1 (SetTable.grown es1.size)).2.1
      pure (some true)
     else pure (some true)) R E s:=by
 refine wpAny_bind (wpAny_storeSet_of ho rfl ?_ (fits_of_scanBound e3));have o1:(s.heap.update a (Obj.putSet es1 t2)).get? a=_:=qHb (s:=s) ho;have b1:=Heap.SameBut.update s.heap a (Obj.putSet es1 t2);split
 ·have p:=relayAll_perm t2 es1 (SetTable.grown es1.size);have f:=relayAll_fits t2 es1 (SetTable.grown es1.size);have l:=qPv t2 es1 (SetTable.grown es1.size);have pl:=qKv t2 es1 (SetTable.grown es1.size) e6;generalize relayAll t2 es1 (SetTable.grown es1.size)=Rl at p f l pl ⊢;obtain⟨es2,t3,gv⟩:=Rl;dsimp only at p f l pl ⊢;have z2:es2.size=es1.size:=by rw[<-hB3,p.length_eq,hB3]
  obtain⟨ss2,q1,q2⟩:=qE3 e2 p;refine wpAny_bind (hg _ _ _ (wpAny_bind (wpAny_storeSet_of o1 rfl ?_ (fits_of_scanBound (by rw[z2];exact e3)))));have o2:((s.heap.update a (Obj.putSet es1 t2)).update a (Obj.putSet es2 t3)).get? a=_:=qHb (s:={ s with heap:=s.heap.update a (Obj.putSet es1 t2) }) o1;exact wpAny_pure (h _ ss2 (b1.trans (Heap.SameBut.update _ a _)) ⟨es2,_,t3,o2,e1.perm p,q1,by rw[z2];exact e3,f,l.trans e5,fun _=>pl⟩ q2)
 ·exact wpAny_pure (h _ ss1 b1 ⟨es1,_,t2,o1,e1,e2,e3,e4,e5,fun _=>e6⟩ (hCd _))
theorem qSg(hS:qBu P w s.heap a ss)(room:ss.length+1<scanBound)
  (h:∀h' ss',Heap.SameBut a s.heap h'->qBu P w h' a ss'->(if x∈ss then ss'=ss else ss'.Perm (ss++[x]))->Q (!decide (x∈ss)) { s with heap:=h' }) :
  wpAny (model P w) A (setAddHashed a (.str x tk) ((PySem.strKind P w).hash x)) Q E s:=by
 obtain⟨es,ep,t,ho,e1,e2,e3,e4,e5,e6⟩:=hS;have hk:(PySem.strKind P w).is x (.str x tk)=true:=strKind_is P w x tk;have hsc:Value.scannable (.str x tk)=true:=rfl;have hz:ss.length=es.size:=by rw[<-e2.strs,hA1,hA1,hB3]
 unfold setAddHashed setAddHashedIn;refine wpAny_holding (wpAny_bind (wpAny_setState_of ho rfl e4 ?_));dsimp only;rw[byScan_of hsc e3 e1,if_pos rfl];unfold setAddByScan;refine wpAny_bind (wpAny_bind (wpAny_rule (wpAny_bind (wpAny_setScan_of hk ho rfl e4 e1 ?_))));cases hr:List.findIdx? (fun e=>(PySem.strKind P w).is x e.2) es.toList with
 |some j =>
  dsimp only;obtain⟨hj,hp,_⟩:=List.findIdx?_eq_some_iff_getElem.mp hr;have hm:x∈ss:=(qHw e2).mp ⟨_,hCr (hBn hj),hp⟩;have q:=h s.heap ss (Heap.SameBut.refl a _) ⟨es,ep,t,ho,e1,e2,e3,e4,e5,e6⟩ (by rw[if_pos hm]);rw[decide_eq_true hm]at q;exact wpAny_pure (wpAny_pure q)
 |none =>
  dsimp only;have hm:¬x∈ss:=fun z=>by
   obtain⟨v,hv,hp⟩:=(qHw e2).mpr z;obtain⟨e,he,rfl⟩:=hA3.mp hv;have q:=List.findIdx?_eq_none_iff.mp hr e he;rw[show(PySem.strKind P w).is x e.2=true from hp]at q;cases q
  have gw:∀(b:Bool) (s1:Shared) (Q':Unit->Shared->Prop),Q' () s1->wpAny (model P w) A (match b with|true=>rule "set.scan.the-table-gave-way" |false=>pure ()) Q' E s1:=fun b s1 Q' hq=>by
   cases b
   ·exact wpAny_pure hq
   ·exact wpAny_rule hq
  have p:=layNew_perm t es ((PySem.strKind P w).hash x) (.str x tk);have f:=layNew_fits t es ((PySem.strKind P w).hash x) (.str x tk);have l:=qN4 t es ((PySem.strKind P w).hash x) (.str x tk);generalize layNew t es ((PySem.strKind P w).hash x) (.str x tk)=L at p f l ⊢;obtain⟨es1,t1,wasD,gv⟩:=L;dsimp only at p f l ⊢;rw[hC6]at p;have d1:ElemsOf (PySem.strKind P w) es1.toList:=(e1.push hk hsc).perm p;obtain⟨ss1,d2,d3⟩:=qOp e2 p;have z1:es1.size=es.size+1:=by rw[<-hB3,p.length_eq,hAj,hB3];rfl
  have d4:es1.size<scanBound:=by rw[z1,<-hz];exact room
  have fin:∀h' ss',Heap.SameBut a s.heap h'->qBu P w h' a ss'->ss'.Perm ss1->Q true { s with heap:=h' }:=fun h' ss' b1 b2 b3=>by
   have q:=h h' ss' b1 b2 (by rw[if_neg hm];exact b3.trans d3);rw[decide_eq_false hm]at q;exact q
  refine wpAny_bind (gw _ _ _ ?_);split
  ·rename_i hpl;refine wpAny_bind ?_;rw[hashByValue_scannable 8 hsc];refine wpAny_pure ?_;refine qIz gw ho d1 d2 d4 (SetTable.fits_plain_off f) (l.trans e5) rfl fun h' ss' b1 b2 b3=>?_
   exact wpAny_pure (fin h' ss' b1 b2 b3)
  ·rename_i hpl;refine wpAny_bind (wpAny_pure ?_);rw[if_pos rfl];refine qIz gw ho d1 d2 d4 f (l.trans e5) (by simpa using hpl) fun h' ss' b1 b2 b3=>?_
   exact wpAny_pure (fin h' ss' b1 b2 b3)
end
theorem qBu.at(x:qBu P w h a ss)(k:∀o,h.get? a=some o->h'.get? a=some o):qBu P w h' a ss:=by
 obtain⟨es,ep,t,ho,r⟩:=x;exact⟨es,ep,t,k _ ho,r⟩
def qSd(val:Nat->Str)(i:Nat)(ss:List Str):Prop:=ss.Nodup/\ss.length<=i/\∀x,x∈ss↔∃j,j<i/\val j=x
theorem qSd.zero(val:Nat->Str):qSd val 0 []:=⟨hE7,hA6 _,fun x=>by simp⟩
theorem qSd.next(h:qSd val i ss)(e:if val i∈ss then ss'=ss else ss'.Perm (ss++[val i])):qSd val (i+1) ss':=by
 obtain⟨h1,h2,h3⟩:=h;by_cases hm:val i∈ss
 ·rw[if_pos hm]at e;subst e;refine⟨h1,by omega,fun x=>(h3 x).trans ⟨fun ⟨j,a,b⟩=>⟨j,by omega,b⟩,fun ⟨j,a,b⟩=>?_⟩⟩;by_cases hj:j<i
  ·exact⟨j,hj,b⟩
  ·have:j=i:=by omega
   subst this;subst b;exact(h3 _).mp hm
 ·rw[if_neg hm]at e;refine⟨e.nodup_iff.mpr ?_,?_,fun x=>?_⟩
  ·rw[hE1];exact⟨h1,by simp,fun y hy z hz=>by rw[hA5]at hz;subst hz;rintro rfl;exact hm hy⟩
  ·rw[e.length_eq,hAj]
   simpa using h2
  ·rw[e.mem_iff,hAh,h3 x,hA5];constructor
   ·rintro(⟨j,a,b⟩|rfl)
    ·exact⟨j,by omega,b⟩
    ·exact⟨i,by omega,rfl⟩
   ·rintro⟨j,a,b⟩;by_cases hj:j<i
    ·exact .inl ⟨j,hj,b⟩
    ·have:j=i:=by omega
     subst this;exact .inr b.symm
section
variable{P:Program}{w:World}{A:Around}{R:Result->Shared->Prop}{I:Addr}{fp wr:List Addr}{G:Array GenState->Array GenState->Prop}{n:Nat}{Pv:Nat->Value->Prop}{St:Nat->Shared->Prop}
theorem qOl(W:WalksS P w A.in1 I fp wr G n Pv St)(S:Addr)(nS:S∉fp)(val:Nat->Str)(hv:∀i v,Pv i v->∃t,v = .str (val i) t)(nb:n+1<scanBound):∀(k i:Nat) (s:Shared) (ss:List Str),n - i=k->i<=n->St i s->qBu P w s.heap S ss->qSd val i ss ->
  (∀s' ss',Moved (S :: wr) G s s'->qBu P w s'.heap S ss'->qSd val n ss'->R (.ok (.ret .none)) s')->codeAny (model P w) A (.builtin "set.update.loop" ⟨[.ref S,.ref I],[]⟩) R s:=by
 have nw:S∉wr:=fun z=>nS (W.sub _ z)
 have sub:∀b∈wr,b∈S :: wr:=fun b z=>hA8 _ z
 intro k
 induction k with
 |zero =>
  intro i s ss hk hi st hS ho r;have e:i=n:=by omega
  subst e;refine codeAny_builtin PyProof.Rows.F.entry_set_update_loop ?_;rw[Around.under_plainId PyProof.Rows.F.plain_set_update_loop _];show wpAny _ A.in1 (pyNext (.ref I) >>= _) _ _ _;refine wpAny_bind (W.done s _ _ st fun s1 m1=>wpAny_pure (r s1 ss (m1.mono sub) (hS.at fun o z=>m1.heap S o nw z) ho))
 |succ k ih =>
  intro i s ss hk hi st hS ho r;have lt:i<n:=by omega
  refine codeAny_builtin PyProof.Rows.F.entry_set_update_loop ?_;rw[Around.under_plainId PyProof.Rows.F.plain_set_update_loop _];show wpAny _ A.in1 (pyNext (.ref I) >>= _) _ _ _;refine wpAny_bind (W.item i s _ _ lt st fun v s1 pv st1 m1=>?_);obtain⟨t,rfl⟩:=hv i v pv;have hS1:qBu P w s1.heap S ss:=hS.at fun o z=>m1.heap S o nw z
  show wpAny _ A.in1 (holding [Value.str (val i) t] (setAdd S (.str (val i) t)) >>= _) _ _ s1;refine wpAny_bind (wpAny_holding ?_);unfold setAdd;refine wpAny_holding (wpAny_bind ((PySem.strKind P w).pyHash (strKind_is P w _ _) ?_));refine qSg (s:={ s1 with toks:=s1.toks+1 }) hS1 (by have:=ho.2.1;omega) fun h2 ss2 sb2 hS2 q2=>?_
  refine wpAny_pure ⟨plainId_quiet PyProof.Rows.F.plain_set_update_loop _,ih (i+1) _ ss2 (by omega) lt (W.frame _ s1 _ _ st1 (hB7 _) fun b hb o e=>?_) hS2 (ho.next q2) fun s3 ss3 m3 hS3 o3=>?_⟩
  ·rw[sb2.2 b (fun z:b=S=>nS (by rw[<-z];exact hb))];exact e
  ·refine r s3 ss3 (Moved.trans W.gtrans ((m1.mono sub).then_heap (hB7 _) fun b o hb e=>?_) m3) hS3 o3;rw[sb2.2 b (fun z:b=S=>hb (by rw[z];exact hA9))];exact e
end
section
variable{P:Program}{w:World}{A:Around}{E:Value->Shared->Prop}{s:Shared}
noncomputable abbrev qPa(w:World):Obj:={ cls:=.type "set",dict:=none,data:=.set #[] 0 (.fresh 0 0 (!w.params.followText "set-order")),slots:=#[] }
theorem qWa(P:Program)(w:World)(e:h.get? a=some (qPa w)):qBu P w h a []:=⟨#[],0,_,e,fun e he=>by simp at he,.nil,by show 0<scanBound;decide,by rfl,rfl,fun z=>absurd rfl z⟩
theorem qRr(v:Value)(h:Q1 (.ref s.heap.objs.size) { s with heap:=s.heap.push (qPa w) }):codeAny (model P w) A (.call (.builtin "set.__new__") ⟨[.type "set",v],[]⟩) (wants Q1 E) s:=by
 refine codeAny_of_tree ?_;show wpAny _ A.in1 (do checkBuiltinCall "set.__new__" ⟨[.type "set",v],[]⟩;again (.builtin "set.__new__" ⟨[.type "set",v],[]⟩)) _ _ s;refine wpAny_bind (wpAny_of_eq (PySem.F.newCall_set_1 v) (wpAny_pure ⟨plainId_quiet PySem.F.plain_set_new _,codeAny_builtin PySem.F.entry_set_new ?_⟩));rw[Around.under_plainId PySem.F.plain_set_new _];unfold Builtin.«set.__new__» Builtin.Frozenset.newClass;have hsub:=sub_set_self;obtain⟨hp,g,d,tk,os⟩:=s;dsimp only
 wp_walk
 refine wpAny_askSetting (wpAny_pure ?_);dsimp only;simp only[newObj];exact wpAny_bind (wpAny_alloc (wpAny_pure (wpAny_pure h)))
theorem qRu(hh:A.handled=none)(hl:s.heap.IsList l items)(hi:StrsAre items.toList ss0)(hb:items.size+1<scanBound)
  (h:∀(h':Heap) (tk:Nat) (ss:List Str),qBu P w h' s.heap.objs.size ss->qSd (fun i=>ss0.getD i default) items.size ss->(∀b o,b<s.heap.objs.size->s.heap.get? b=some o->h'.get? b=some o)->Q (.ref s.heap.objs.size) { s with heap:=h',toks:=tk }) :
  wpAny (model P w) A (call (.type "set") [.ref l]) Q E s:=by
 obtain⟨c,tl,hmro⟩:=hCm.mro;have hmade:=hCm.made;have hsub:=hCm.sub;refine wpAny_call (codeAny_of_tree ?_);show wpAny _ _ (callAny (.type "set") _) _ _ _;refine wpAny_pure ⟨Code.quiet_builtin _ (by decide +kernel),codeAny_builtin PySem.F.entry_type_call ?_⟩;rw[Around.under_plain (weight_type_call_type "set" [.ref l] []) rfl];have h1:=hCm.notType;have h2:=hCm.canCreate;have hct:=PySem.F.typeCall_set_1 (.ref l)
 repeat (any_goals (first|assumption|wp_step))
 refine codeAny_mono (qRr (.ref l) (E:=E) (Q1:=fun obj s1=>obj = .ref s.heap.objs.size/\s1={ s with heap:=s.heap.push (qPa w) }) ⟨rfl,rfl⟩) fun r s1 hr=>?_
 cases r with
 |error e=>exact hr
 |ok fl =>
  cases fl with
  |ret obj =>
   obtain⟨rfl,rfl⟩:=hr;have hS:(s.heap.push (qPa w)).get? s.heap.objs.size=some (qPa w):=Heap.get?_push_size _ rfl;have hT:Shared.TypeIs { s with heap:=s.heap.push (qPa w) } (.ref s.heap.objs.size) "set":=⟨_,hS,rfl⟩;have hli:=hCm.init.lookup;have hbi:=hCm.init.bind (.ref s.heap.objs.size)
   repeat (any_goals (first|assumption|wp_step))
   refine codeAny_mono (codeAny_call_builtin (R:=wants (fun r s2=>r = .none/\∃h' tk ss,s2={ s with heap:=h',toks:=tk }/\qBu P w h' s.heap.objs.size ss/\qSd (fun i=>ss0.getD i default) items.size ss /\
     (∀b o,b<s.heap.objs.size->s.heap.get? b=some o->h'.get? b=some o)) E) hCm.init.plain PySem.F.entry_set_init (check_set_init_1 hT ?_)) fun r2 s2 hr2=>?_
   ·obtain⟨ol,hol,hcl,nl,hdl⟩:=hl;obtain⟨ocls,odict,odata,oslots⟩:=ol;simp only at hcl hdl;subst hcl;subst hdl;have hol':(s.heap.push (qPa w)).get? l=some { cls:=.type "list",dict:=odict,data:=.seq items nl,slots:=oslots }:=Heap.get?_push_of_some _ hol;have hsls:=PySem.F.sub_list_set;have hslf:=PySem.F.sub_list_frozenset;have hne:(Value.type "list" == Value.type "dict")=false:=by decide
    have hl1:(s.heap.push (qPa w)).IsList l items:=⟨_,hol',rfl,nl,rfl⟩;unfold Builtin.«set.__init__» noKeywords Builtin.Frozenset.updateFrom;generalize hPI:pyIter=PI
    wp_walk
    subst hPI;refine wpAny_pyIter_list hl1 (wpAny_bind (wpAny_runValue ?_));have lS:l<s.heap.objs.size:=Heap.lt_size hol;have h3:A.in1.in1.in1.handled=none:=by simp[hh]
    have nI:l≠(s.heap.push (qPa w)).objs.size:=by
     rw[Heap.size_push];exact hAn (hBk lS)
    have nF:s.heap.objs.size∉[(s.heap.push (qPa w)).objs.size,l]:=by
     rw[Heap.size_push];simp only[hAg,hA5,hDr,or_false,not_or];exact⟨hAn (hBv _),hCo lS⟩
    have hval:∀(i:Nat) (v:Value),items[i]?=some v->∃t,v = .str ((fun i=>ss0.getD i default) i) t:=fun i v hv=>by
     have hv':items.toList[i]?=some v:=by rw[hAy];exact hv
     obtain⟨x,t,rfl⟩:=hi.all v (hAc hv');refine⟨t,?_⟩;have e:=congrArg (fun z=>z[i]?) hi.strs;simp only[hAk,hv']at e;show Value.str x t=Value.str (ss0.getD i default) t;rw[hAe,<-e];rfl
    refine qOl ((Walks.list h3 _ l nI items).toS) s.heap.objs.size nF (fun i=>ss0.getD i default) hval hb (items.size - 0) 0 _ [] (by omega) (hAs _) ⟨⟨_,Heap.get?_push_size _ rfl,rfl,rfl⟩,(hl1.push _)⟩ (qWa P w (Heap.get?_push_of_some _ hS)) (qSd.zero _) fun s' ss' hm hS' hO=>?_
    obtain⟨h',g',d',tk',os'⟩:=s';cases(show g'=s.gens from hm.gens);cases(show d'=s.drawn from hm.drawn);cases(show os'=s.os from hm.os);show wpAny _ _ _ _ _ _;refine wpAny_pure ?_;show wpAny _ _ (ret Value.none) _ _ _;refine wpAny_pure ⟨rfl,h',tk',ss',rfl,hS',hO,fun b o hb e=>?_⟩;have b1:b≠s.heap.objs.size:=hAn hb;have b2:b≠(s.heap.push (qPa w)).objs.size:=by
     rw[Heap.size_push];exact hAn (hBk hb)
    exact hm.heap b o (by simp only[hAg,hA5,hDr,or_false,not_or];exact⟨b1,b2⟩) (Heap.get?_push_of_some _ (Heap.get?_push_of_some _ e))
   ·cases r2 with
    |error e=>exact hr2
    |ok fl2 =>
     cases fl2 with
     |ret r =>
      obtain⟨rfl,h',tk,ss,rfl,hS',hO,hk'⟩:=hr2
      repeat (any_goals (first|assumption|wp_step))
      exact h _ _ _ hS' hO hk'
     |_=>exact hr2.elim
  |_=>exact hr.elim
end
namespace FS
theorem entry_set_iter':entryFor table "set.__iter__" = some Builtin.«frozenset.__iter__»:=entryFor_alias (id':="frozenset.__iter__") (by kernel_rfl) rfl (by decide +kernel) (by kernel_rfl)
theorem slot_sin:Slot "set_iterator" "__next__" "set_iterator.__next__":=.of (owner:="set_iterator") (n:="__next__") (by rw[typeLookup_type,builtinLookup_eq_fast];kernel_rfl) (by decide +kernel) (by decide +kernel) (by decide +kernel) (by first|exact .inl (by decide +kernel)|exact .inr (by decide +kernel)) (by rw[isSubtype_type];kernel_rfl)
theorem entry_sin:entryFor table "set_iterator.__next__" = some Builtin.«set_iterator.__next__»:=entryFor_of_tree (by kernel_rfl)
theorem qMp:Manifest.owners.lookup (String.ofList ['r','o','t','a','r','e','t','i','_','t','e','s'].reverse)=some Manifest.sig_set_iterator:=by kernel_rfl
theorem args_sin(a:Value):argsOk "set_iterator.__next__" ⟨[a],[]⟩:=by
 unfold argsOk;rw[signature?_of (id:="set_iterator.__next__") (n:=['_','_','t','x','e','n','_','_']) (o:=['r','o','t','a','r','e','t','i','_','t','e','s']) (by kernel_rfl) qMp];kernel_rfl
theorem slot_sii:Slot "set_iterator" "__iter__" "set_iterator.__iter__":=.of (owner:="set_iterator") (n:="__iter__") (by rw[typeLookup_type,builtinLookup_eq_fast];kernel_rfl) (by decide +kernel) (by decide +kernel) (by decide +kernel) (by first|exact .inl (by decide +kernel)|exact .inr (by decide +kernel)) (by rw[isSubtype_type];kernel_rfl)
theorem entry_sii:entryFor table "set_iterator.__iter__" = some Builtin.«dict_keyiterator.__iter__»:=entryFor_alias (id':="dict_keyiterator.__iter__") (by kernel_rfl) (by first|rfl|decide +kernel|(unfold String.splitOn;simp +decide [String.splitOnAux])) (by decide +kernel) (by kernel_rfl)
theorem args_sii(a:Value):argsOk "set_iterator.__iter__" ⟨[a],[]⟩:=by
 unfold argsOk;rw[signature?_of (id:="set_iterator.__iter__") (n:=['_','_','r','e','t','i','_','_']) (o:=['r','o','t','a','r','e','t','i','_','t','e','s']) (by kernel_rfl) qMp];kernel_rfl
end FS
theorem qFh:∀(l:List α) (i:Nat) (x:α),l[i]?=some x->(x :: l.eraseIdx i).Perm l
 |[],i,x,h=>by simp at h
 |y :: l,0,x,h=>by simp at h;subst h;exact hCd _
 |y :: l,i+1,x,h=>by
  have q:=qFh l i x (by simpa using h);rw[List.eraseIdx_cons_succ];exact(List.Perm.swap y x _).trans (q.cons y)
section
variable{M:Model}{A:Around}{E:Value->Shared->Prop}{s:Shared}
theorem qOf(hn:n≠0)(h:∀i d,i<n->Q i { s with drawn:=d }):wpAny M A (choose src n) Q E s:=fun Γ p _=>⟨hn,h _ _ (Nat.mod_lt _ (Nat.pos_of_ne_zero hn))⟩
theorem qFl:∀(n:Nat) (xs:List α) (s:Shared) (Q:List α->Shared->Prop),xs.length=n->(∀ys d,ys.Perm xs->Q ys { s with drawn:=d })->wpAny M A (drawOrder n xs) Q E s
 |0,xs,s,Q,hl,h=>by
  have e:xs=[]:=hBe.mp hl;subst e;exact wpAny_pure (h [] s.drawn (hCd _))
 |n+1,[],s,Q,hl,h=>by simp at hl
 |n+1,y :: ys,s,Q,hl,h=>by
  show wpAny M A (choose .order (y :: ys).length >>= _) Q E s;refine wpAny_bind (qOf (by simp) fun i d hi=>?_);have e:(y :: ys)[i]?=some (y :: ys)[i]:=hA2 hi;rw[e];dsimp only;have p:=qFh (y :: ys) i _ e;refine wpAny_bind (qFl n ((y :: ys).eraseIdx i) _ _ ?_ fun zs d2 pz=>wpAny_pure (h _ d2 ((pz.cons _).trans p)));have:=p.length_eq;simp only[hBc]at this hl ⊢;omega
end
theorem qP9(next:Nat->Nat):∀(n k:Nat) (left:List α) (out:Array α),left.length=n->(pickOrder.go next n k left out).toList.Perm (out.toList++left)
 |0,k,left,out,hl=>by
  have e:left=[]:=hBe.mp hl;subst e;rw[pickOrder.go,hBd]
 |n+1,k,left,out,hl=>by
  rw[pickOrder.go];have hi:next k % left.length<left.length:=Nat.mod_lt _ (by omega);have e:left[next k % left.length]?=some left[next k % left.length]:=hA2 hi;rw[e];dsimp only;have p:=qFh left _ _ e;have l:=p.length_eq;simp only[hBc]at l;refine(qP9 next n (k+1) _ _ (by omega)).trans ?_;rw[hC6,hBj];exact hCw _ p
theorem pick_perm(next:Nat->Nat)(xs:Array α):(pickOrder next xs).toList.Perm xs.toList:=by
 have q:=qP9 next xs.size 0 xs.toList #[] (by simp)
 simpa [pickOrder] using q
section
variable{P:Program}{w:World}{A:Around}{E:Value->Shared->Prop}{s:Shared}{a:Addr}{es:Array (Int×Value)}{ep:Nat}{t:SetTable}
theorem qKh(ho:s.heap.get? a=some { cls:=.type "set",dict:=none,data:=.set es ep t,slots:=#[] })(hf:t.fits es.size=true)(h:Q (!w.params.followText "set-order" && (!t.plain && decide (es.size > 1))) s):wpAny (model P w) A (setDrawn a) Q E s:=by
 unfold setDrawn;refine wpAny_bind (wpAny_setState_of ho rfl hf ?_);unfold setsByText;exact wpAny_bind (wpAny_bind (wpAny_askSetting (wpAny_pure (wpAny_pure h))))
theorem qKf(ho:s.heap.get? a=some { cls:=.type "set",dict:=none,data:=.set es ep t,slots:=#[] })(hf:t.fits es.size=true)(hb:w.params.followText "set-order" = true)
  (h:Q (((pickOrder (w.params.setOrder a ep) es)[i]?).map fun e=>(e.2,slot)) s):wpAny (model P w) A (setNext a slot i ep) Q E s:=by
 unfold setNext;refine wpAny_bind (wpAny_setState_of ho rfl hf ?_);unfold setsByText;refine wpAny_bind (wpAny_bind (wpAny_askSetting (wpAny_pure ?_)));show wpAny _ _ (if (w.params.followText "set-order")=true then _ else _) _ _ _;rw[if_pos hb];rw[if_neg (by simp)];unfold setWalk;refine wpAny_bind (wpAny_bind (wpAny_setState_of ho rfl hf ?_));unfold setsByText;refine wpAny_bind (wpAny_bind (wpAny_askSetting (wpAny_pure ?_)));show wpAny _ _ (if (w.params.followText "set-order")=true then _ else _) _ _ _;rw[if_pos hb];exact wpAny_bind (wpAny_askSetting (wpAny_pure (wpAny_pure h)))
theorem qKg(ho:s.heap.get? a=some { cls:=.type "set",dict:=none,data:=.set es ep t,slots:=#[] })(hf:t.fits es.size=true)(hb:w.params.followText "set-order" = false)(h1:es.size<=1)(hl:t.led=true)
  (h:Q (match es[SetTable.below t.place slot]?,t.place[SetTable.below t.place slot]? with|some (_,x),some j=>some (x,j+1)|_,_=>none) s):wpAny (model P w) A (setNext a slot i ep) Q E s:=by
 unfold setNext;refine wpAny_bind (wpAny_setState_of ho rfl hf ?_);unfold setsByText;refine wpAny_bind (wpAny_bind (wpAny_askSetting (wpAny_pure ?_)));show wpAny _ _ (if (w.params.followText "set-order")=true then _ else _) _ _ _;rw[if_neg (by rw[hb];exact hAx)];show wpAny _ _ (if (!t.plain && decide (es.size > 1))=true then _ else _) _ _ _;rw[if_neg (by rw[hB4];rintro⟨_,z⟩;have:=of_decide_eq_true z;omega)];refine wpAny_bind ?_;show wpAny _ _ (if (!t.led && !es.isEmpty)=true then _ else _) _ _ _;rw[if_neg (by rw[hl];simp)];exact wpAny_pure (wpAny_pure h)
end
end L2
namespace L2
open PySem PySem.Spec PyProof.Rows
noncomputable abbrev sIt(a:Addr)(f0:Value)(i n ep:Nat):Obj:={ cls:=.type "set_iterator",dict:=none,data:=.fields #[f0,rawInt i,.ref a,rawInt n,rawInt ep],slots:=#[] }
noncomputable abbrev sOb(es:Array (Int×Value))(ep:Nat)(t:SetTable):Obj:={ cls:=.type "set",dict:=none,data:=.set es ep t,slots:=#[] }
section
variable{P:Program}{w:World}{A:Around}{E:Value->Shared->Prop}{s:Shared}{a I:Addr}{es:Array (Int×Value)}{ep:Nat}{t:SetTable}
theorem qL1{T:Obj}{Q:Fin->Shared->Prop}{f0:Value}{i n:Nat}{pre:Sem Unit}(hh:A.handled=none)(hI:s.heap.get? I=some (sIt a f0 i n ep))
  (hp:∀ {Q':Unit->Shared->Prop},(∀h1,Heap.SameBut I s.heap h1->(∃g0,h1.get? I=some (sIt a g0 i n ep))->Q' () { s with heap:=h1 })->wpAny (model P w) A pre Q' E s)
  (hE:∀h' e,Heap.ExtBut I s.heap h'->(∃o,h'.get? e=some o/\o.cls = .type "StopIteration")->E (.ref e) { s with heap:=h' }) :
  wpAny (model P w) A (do pre;setField (.ref I) 2 .none;raiseNew (← newExc (.type "StopIteration") [])) Q E s:=by
 refine wpAny_bind (hp fun h1 b1 hg=>?_);obtain⟨g0,hI1⟩:=hg;refine wpAny_bind (wpAny_setField_rec hI1 (by simp) fun h2 hI2 b2=>?_);show wpAny _ _ (newExc (.type "StopIteration") [] >>= fun e=>raiseNew e) _ _ _;refine wpAny_bind ?_;simp only[newExc,newTuple];refine wpAny_bind (wpAny_newObj_type ?_ (by size_fits));refine wpAny_bind (m:=firstArgMember _ _) (wpAny_of_eq (a:=Value.none) (by first|rfl|(simp only[firstArgMember];rfl)) ?_);refine wpAny_newObj_type ?_ (by size_fits);simp only[raiseNew];refine wpAny_bind (wpAny_handled ?_);rw[hh];exact wpAny_bind (wpAny_pure (wpAny_throw (hE _ _ (((b1.trans b2).extBut.push _).push _) ⟨_,Heap.get?_push_size _ rfl,rfl⟩)))
end
section
variable{P:Program}{w:World}{a I:Addr}{es:Array (Int×Value)}{ep:Nat}{t:SetTable}
theorem qIx(hne:a≠I)(hf:t.fits es.size=true)(order:List Value)(sl:Nat->Nat)
  (nx:∀(A:Around) (E:Value->Shared->Prop) (s:Shared) (Q:Option (Value×Nat)->Shared->Prop) (i:Nat),i<=order.length->s.heap.get? a=some (sOb es ep t)->Q ((order[i]?).map fun x=>(x,sl (i+1))) s->wpAny (model P w) A (setNext a (sl i) i ep) Q E s) :
  ∀A:Around,A.handled=none->Walks P w A I [I,a] [I] order.length (fun i v=>order[i]?=some v) (fun i h=>h.get? I=some (sIt a (rawInt (sl i)) i es.size ep)/\h.get? a=some (sOb es ep t)):=fun A hh=>{
 sub:=fun b hb=>by simp at hb ⊢;exact .inl hb
 frame:=fun i h h' st k=>⟨k I (by simp) _ st.1,k a (by simp) _ st.2⟩
 item:=fun i s Q E hi st hQ=>by
  obtain⟨hI,ho⟩:=st;have hT:s.TypeIs (.ref I) "set_iterator":=⟨_,hI,rfl⟩;unfold pyNext;refine wpAny_bind (wpAny_attempt (wpAny_callSpecial?_slot (name:=Str.ofString "__next__") hT FS.slot_sin (wpAny_call_entry FS.slot_sin hT FS.entry_sin ?_ (FS.args_sin _))));unfold Builtin.«set_iterator.__next__»;refine wpAny_bind (wpAny_pure (wpAny_bind (wpAny_fieldsOf hI rfl ?_)));show wpAny _ _ (setEntries a >>= _) _ _ _;refine wpAny_bind (wpAny_setEntries_of ho rfl hf ?_);rw[if_neg (by simp)];show wpAny _ _ (setNext a (sl i) i ep >>= _) _ _ _;refine wpAny_bind (nx _ _ s _ i (hBi hi) ho ?_);rw[hA2 hi];show wpAny _ _ (setField (.ref I) 0 (rawInt (sl (i+1))) >>= _) _ _ _;refine wpAny_bind (wpAny_setField_rec hI (by simp) fun h1 hI1 b1=>wpAny_bind (wpAny_setField_rec hI1 (by simp) fun h2 hI2 b2=>?_));refine wpAny_pure ⟨_,rfl,wpAny_pure (hQ _ h2 s.toks (hA2 hi) ⟨hI2,?_⟩ fun b o hb e=>?_)⟩
  ·exact b2.extBut _ _ hne (b1.extBut _ _ hne ho)
  ·have nb:b≠I:=by simpa using hb
   exact b2.extBut _ _ nb (b1.extBut _ _ nb e)
 done:=fun s Q E st hQ=>by
  obtain⟨hI,ho⟩:=st;have hT:s.TypeIs (.ref I) "set_iterator":=⟨_,hI,rfl⟩;unfold pyNext;refine wpAny_bind (wpAny_attempt (wpAny_callSpecial?_slot (name:=Str.ofString "__next__") hT FS.slot_sin (wpAny_call_entry FS.slot_sin hT FS.entry_sin ?_ (FS.args_sin _))));unfold Builtin.«set_iterator.__next__»;refine wpAny_bind (wpAny_pure (wpAny_bind (wpAny_fieldsOf hI rfl ?_)));show wpAny _ _ (setEntries a >>= _) _ _ _;refine wpAny_bind (wpAny_setEntries_of ho rfl hf ?_);rw[if_neg (by simp)];show wpAny _ _ (setNext a (sl order.length) order.length ep >>= _) _ _ _;refine wpAny_bind (nx _ _ s _ order.length (hA6 _) ho ?_);rw[hBw (hA6 _)];refine qL1 (pre:=pure ()) (T:=sOb es ep t) (by exact hh) hI (fun q=>wpAny_pure (q _ (Heap.SameBut.refl ..) ⟨_,hI⟩)) fun h' e k he=>?_
  obtain⟨oe,h1,h2⟩:=he;refine wpAny_bind (wpAny_isInstance (T:="StopIteration") (b:=true) ⟨oe,h1,h2⟩ isSubtype_stop (wpAny_pure (hQ _ s.toks fun b o hb e=>k _ _ (by simpa using hb) e)))
 self:=fun i s Q E st hQ=>by
  have hT:s.TypeIs (.ref I) "set_iterator":=⟨_,st.1,rfl⟩;refine wpAny_pyIter_slot hT FS.slot_sii (wpAny_call_entry FS.slot_sii hT FS.entry_sii ?_ (FS.args_sii _));exact wpAny_pure ⟨_,rfl,"set_iterator",_,hT,FS.slot_sin.lookup,hQ⟩ }
end
noncomputable abbrev tOb(xs:Array Value):Obj:={ cls:=.type "tuple",data:=.seq xs }
section
variable{P:Program}{w:World}{a I T:Addr}{es:Array (Int×Value)}{ep:Nat}{t:SetTable}
theorem qOi(hne:a≠I)(hT0:T≠I)(hf:t.fits es.size=true)(ps:List Nat)(order:List Value)(hl:order.length=ps.length)(hp:∀(i p:Nat),ps[i]?=some p->∃k x,es[p]?=some (k,x)/\order[i]?=some x) :
  ∀A:Around,A.handled=none->Walks P w A I [I,a,T] [I] order.length (fun i v=>order[i]?=some v) (fun i h=>h.get? I=some (sIt a (.ref T) i es.size ep)/\h.get? a=some (sOb es ep t)/\h.get? T=some (tOb (ps.map fun (p:Nat)=>rawInt p).toArray)):=fun A hh=>{
 sub:=fun b hb=>by simp at hb ⊢;exact .inl hb
 frame:=fun i h h' st k=>⟨k I (by simp) _ st.1,k a (by simp) _ st.2.1,k T (by simp) _ st.2.2⟩
 item:=fun i s Q E hi st hQ=>by
  obtain⟨hI,ho,hTt⟩:=st;have hT:s.TypeIs (.ref I) "set_iterator":=⟨_,hI,rfl⟩;unfold pyNext;refine wpAny_bind (wpAny_attempt (wpAny_callSpecial?_slot (name:=Str.ofString "__next__") hT FS.slot_sin (wpAny_call_entry FS.slot_sin hT FS.entry_sin ?_ (FS.args_sin _))));unfold Builtin.«set_iterator.__next__»;refine wpAny_bind (wpAny_pure (wpAny_bind (wpAny_fieldsOf hI rfl ?_)));show wpAny _ _ (setEntries a >>= _) _ _ _;refine wpAny_bind (wpAny_setEntries_of ho rfl hf ?_);rw[if_neg (by simp)];show wpAny _ _ (seqItems? (.ref T) >>= _) _ _ _;refine wpAny_bind (wpAny_seqItems hTt rfl ?_);have hip:i<ps.length:=by rw[<-hl];exact hi
  obtain⟨k,x,h1,h2⟩:=hp i _ (hA2 hip);have e1:((ps.map fun (p:Nat)=>rawInt p).toArray)[i]?=some (rawInt ((ps[i]:Nat):Int)):=by simp[hip]
  show wpAny _ _ (match ((ps.map fun (p:Nat)=>rawInt p).toArray)[((i:Int)).toNat]? with|some (.int place _)=>_|some _=>_|none=>_) _ _ _;rw[hB1,e1];show wpAny _ _ (setNextDrawn a ps[i] ep >>= _) _ _ _;unfold setNextDrawn;refine wpAny_bind (wpAny_bind (wpAny_setState_of ho rfl hf ?_));dsimp only;rw[if_neg (by simp),h1];refine wpAny_pure (wpAny_bind (wpAny_setField_rec hI (by simp) fun h3 hI3 b3=>?_));refine wpAny_pure ⟨_,rfl,wpAny_pure (hQ _ h3 s.toks h2 ⟨hI3,b3.extBut _ _ hne ho,b3.extBut _ _ hT0 hTt⟩ fun b o hb e=>b3.extBut _ _ (by simpa using hb) e)⟩
 done:=fun s Q E st hQ=>by
  obtain⟨hI,ho,hTt⟩:=st;have hT:s.TypeIs (.ref I) "set_iterator":=⟨_,hI,rfl⟩;unfold pyNext;refine wpAny_bind (wpAny_attempt (wpAny_callSpecial?_slot (name:=Str.ofString "__next__") hT FS.slot_sin (wpAny_call_entry FS.slot_sin hT FS.entry_sin ?_ (FS.args_sin _))));unfold Builtin.«set_iterator.__next__»;refine wpAny_bind (wpAny_pure (wpAny_bind (wpAny_fieldsOf hI rfl ?_)));show wpAny _ _ (setEntries a >>= _) _ _ _;refine wpAny_bind (wpAny_setEntries_of ho rfl hf ?_);rw[if_neg (by simp)];show wpAny _ _ (seqItems? (.ref T) >>= _) _ _ _;refine wpAny_bind (wpAny_seqItems hTt rfl ?_);have e1:((ps.map fun (p:Nat)=>rawInt p).toArray)[order.length]?=none:=by simp[hl]
  show wpAny _ _ (match ((ps.map fun (p:Nat)=>rawInt p).toArray)[((order.length:Int)).toNat]? with|some (.int place _)=>_|some _=>_|none=>_) _ _ _;rw[hB1,e1];refine qL1 (pre:=setField (.ref I) 0 (rawInt 0)) (T:=sOb es ep t) (by exact hh) hI (fun q=>wpAny_setField_rec hI (by simp) fun h1 hI1 b1=>q _ b1 ⟨_,hI1⟩) fun h' e k he=>?_
  obtain⟨oe,h1,h2⟩:=he;refine wpAny_bind (wpAny_isInstance (T:="StopIteration") (b:=true) ⟨oe,h1,h2⟩ isSubtype_stop (wpAny_pure (hQ _ s.toks fun b o hb e=>k _ _ (by simpa using hb) e)))
 self:=fun i s Q E st hQ=>by
  have hT:s.TypeIs (.ref I) "set_iterator":=⟨_,st.1,rfl⟩;refine wpAny_pyIter_slot hT FS.slot_sii (wpAny_call_entry FS.slot_sii hT FS.entry_sii ?_ (FS.args_sii _));exact wpAny_pure ⟨_,rfl,"set_iterator",_,hT,FS.slot_sin.lookup,hQ⟩ }
end
theorem qUb(h:j<=p):SetTable.below #[p] j=0:=by
 unfold SetTable.below;show SetTable.below.go #[p] j 1 0 1=0;unfold SetTable.below.go;have e:¬(#[p]:Array Nat).getD ((0+1) / 2) j<j:=by show ¬p<j;omega
 rw[if_pos (by decide)];dsimp only;rw[if_neg e];rfl
theorem qUc(h:p<j):SetTable.below #[p] j=1:=by
 unfold SetTable.below;show SetTable.below.go #[p] j 1 0 1=1;unfold SetTable.below.go;have e:(#[p]:Array Nat).getD ((0+1) / 2) j<j:=by show p<j;omega
 rw[if_pos (by decide)];dsimp only;rw[if_pos e];rfl
theorem qR5(j:Nat):SetTable.below #[] j=0:=rfl
section
variable{P:Program}{w:World}{A:Around}{E:Value->Shared->Prop}{s:Shared}{a:Addr}{ss:List Str}
theorem qQ1(hS:qBu P w s.heap a ss)
  (h:∀(I:Addr) (fp:List Addr) (vs:List Value) (ss1:List Str) (St:Nat->Heap->Prop) (h1:Heap) (d:Drawn),StrsAre vs ss1->ss1.Perm ss->(∀b o,s.heap.get? b=some o->h1.get? b=some o)->(∀A:Around,A.handled=none->Walks P w A I fp [I] vs.length (fun i v=>vs[i]?=some v) St) ->
   St 0 h1->I∈fp->(∀b∈fp,b<h1.objs.size/\(b=a\/s.heap.objs.size<=b))->s.heap.objs.size<=I->s.heap.objs.size<=h1.objs.size->Q (.ref I) { s with heap:=h1,drawn:=d }):wpAny (model P w) A (pyIter (.ref a)) Q E s:=by
 obtain⟨es,ep,t,ho,e1,e2,e3,e4,e5,e6⟩:=hS;have hT:s.TypeIs (.ref a) "set":=⟨_,ho,rfl⟩;have ha:a<s.heap.objs.size:=Heap.lt_size ho;have hp4:t.place.size=es.size:=by
  unfold SetTable.fits at e4;rw[hB4]at e4;exact eq_of_beq e4.1
 refine wpAny_pyIter_slot hT PySem.F.slot_set_iter (wpAny_call_entry PySem.F.slot_set_iter hT FS.entry_set_iter' ?_ (PySem.F.args_set_iter_1 _));unfold Builtin.«frozenset.__iter__» Builtin.Frozenset.slot0;refine wpAny_bind (wpAny_bind (wpAny_pure (wpAny_pure ?_)));unfold Builtin.Frozenset.sizeOf;refine wpAny_bind (wpAny_bind (wpAny_setEntries_of ho rfl e4 (wpAny_pure ?_)));refine wpAny_bind (qKh ho e4 ?_);dsimp only;cases hb:w.params.followText "set-order" with
 |true =>
  rw[if_neg (by simp)];refine wpAny_bind (wpAny_pure (wpAny_bind (wpAny_setEpoch_of ho rfl e4 ?_)));show wpAny _ _ (newFields "set_iterator" _ >>= _) _ _ _;refine wpAny_bind (wpAny_newObj_type (wpAny_pure ⟨_,rfl,"set_iterator",_,⟨_,Heap.get?_push_size _ rfl,rfl⟩,FS.slot_sin.lookup,?_⟩) (by show 5<=_;decide));have p:=pick_perm (w.params.setOrder a ep) es;obtain⟨ss1,q1,q2⟩:=qE3 e2 p;refine h s.heap.objs.size [s.heap.objs.size,a] _ ss1 _ _ s.drawn q1 q2 (fun b o e=>Heap.get?_push_of_some _ e) (qIx (ep:=ep) (es:=es) (t:=t) (hAn ha) e4 _ (fun _=>0) ?_) ⟨Heap.get?_push_size _ rfl,Heap.get?_push_of_some _ ho⟩ (by simp) ?_ (hA6 _) (by rw[Heap.size_push];exact hB7 _)
  ·intro A' E' s' Q' i hi ho' hq;refine qKf ho' e4 hb ?_;rw[hAk,hAy,Option.map_map]at hq;exact hq
  ·intro b hbm;rw[Heap.size_push];simp at hbm;rcases hbm with rfl|rfl
   ·exact⟨hBv _,.inr (hA6 _)⟩
   ·exact⟨hBk ha,.inl rfl⟩
 |false =>
  have led:t.led=true:=by rw[e5,hb];rfl
  by_cases hz:es.size > 1
  ·have pl:t.plain=false:=e6 (by omega);rw[if_pos (by rw[pl,decide_eq_true hz];rfl)];refine wpAny_bind (qFl es.size (List.range es.size) s _ (by simp) fun ps d pp=>?_);refine wpAny_bind (wpAny_newTuple (s:={ s with drawn:=d }) ?_ (by rw[hA1,pp.length_eq,hAp];exact fits_of_scanBound e3));have ho1:(s.heap.push (tOb (ps.map fun (p:Nat)=>rawInt p).toArray)).get? a=some (sOb es ep t):=Heap.get?_push_of_some _ ho;refine wpAny_bind (wpAny_setEpoch_of (s:={ s with heap:=s.heap.push (tOb (ps.map fun (p:Nat)=>rawInt p).toArray),drawn:=d }) ho1 rfl e4 ?_);show wpAny _ _ (newFields "set_iterator" _ >>= _) _ _ _;refine wpAny_bind (wpAny_newObj_type (wpAny_pure ⟨_,rfl,"set_iterator",_,⟨_,Heap.get?_push_size _ rfl,rfl⟩,FS.slot_sin.lookup,?_⟩) (by show 5<=_;decide));have hlt:∀p∈ps,p<es.size:=fun p hm=>hAf.mp (pp.mem_iff.mp hm)
   have ep1:(ps.filterMap fun p=>es[p]?).Perm es.toList:=by
    have q:=pp.filterMap fun p=>es[p]?
    rw[filterMap_getElem?_range]at q;exact q
   have hfm:∀l:List Nat,(∀p∈l,p<es.size)->(l.filterMap fun p=>es[p]?).length=l.length/\∀(i p:Nat),l[i]?=some p->∃k x,es[p]?=some (k,x)/\((l.filterMap fun p=>es[p]?).map (·.2))[i]?=some x:=by
    intro l
    induction l with
    |nil=>intro _;exact⟨rfl,fun i p z=>by simp at z⟩
    |cons c l ih =>
     intro hm;obtain⟨i1,i2⟩:=ih fun p hp=>hm p (hA8 _ hp)
     have hcl:c<es.size:=hm c hA9;have hc:es[c]?=some es[c]:=hCt hcl;rw[hCq,hc];refine⟨by simp[i1],fun i p z=>?_⟩;cases i with
     |zero =>
      have e:c=p:=by simpa using z
      subst e;exact⟨_,_,hc,by simp⟩
     |succ i =>
      obtain⟨k,x,a1,a2⟩:=i2 i p (by simpa using z);exact⟨k,x,a1,by simpa using a2⟩
   obtain⟨f1,f2⟩:=hfm ps hlt;obtain⟨ss1,q1,q2⟩:=qE3 e2 ep1;have sz1:(s.heap.push (tOb (ps.map fun (p:Nat)=>rawInt p).toArray)).objs.size=s.heap.objs.size+1:=Heap.size_push ..;refine h (s.heap.push (tOb (ps.map fun (p:Nat)=>rawInt p).toArray)).objs.size [(s.heap.push (tOb (ps.map fun (p:Nat)=>rawInt p).toArray)).objs.size,a,s.heap.objs.size] _ ss1 _ _ d q1 q2 (fun b o e=>Heap.get?_push_of_some _ (Heap.get?_push_of_some _ e))
    (qOi (ep:=ep) (es:=es) (t:=t) (T:=s.heap.objs.size) ?_ ?_ e4 ps _ (by rw[hA1,f1]) f2) ⟨Heap.get?_push_size _ rfl,Heap.get?_push_of_some _ ho1,Heap.get?_push_of_some _ (Heap.get?_push_size _ rfl)⟩ (by simp) ?_ ?_ ?_
   ·rw[sz1];exact hAn (hBk ha)
   ·rw[sz1];exact hAn (hBv _)
   ·intro b hbm;rw[Heap.size_push,sz1];rw[sz1]at hbm;simp at hbm;rcases hbm with rfl|rfl|rfl
    ·exact⟨hBv _,.inr (hB7 _)⟩
    ·exact⟨hBk (hBk ha),.inl rfl⟩
    ·exact⟨hBk (hBv _),.inr (hA6 _)⟩
   ·rw[sz1];exact hB7 _
   ·rw[Heap.size_push,sz1];exact Nat.le_succ_of_le (hB7 _)
  ·rw[if_neg (by rw[decide_eq_false hz];simp)];refine wpAny_bind (wpAny_pure (wpAny_bind (wpAny_setEpoch_of ho rfl e4 ?_)));show wpAny _ _ (newFields "set_iterator" _ >>= _) _ _ _;refine wpAny_bind (wpAny_newObj_type (wpAny_pure ⟨_,rfl,"set_iterator",_,⟨_,Heap.get?_push_size _ rfl,rfl⟩,FS.slot_sin.lookup,?_⟩) (by show 5<=_;decide));refine h s.heap.objs.size [s.heap.objs.size,a] _ ss _ _ s.drawn e2 (hCd _) (fun b o e=>Heap.get?_push_of_some _ e) (qIx (ep:=ep) (es:=es) (t:=t) (hAn ha) e4 _ (fun i=>if i=0 then 0 else t.place.getD 0 0+1) ?_) ⟨Heap.get?_push_size _ rfl,Heap.get?_push_of_some _ ho⟩ (by simp) ?_ (hA6 _) (by rw[Heap.size_push];exact hB7 _)
   ·intro A' E' s' Q' i hi ho' hq;refine qKg ho' e4 hb (by omega) led ?_;rw[hA1,hB3]at hi;rcases hDx es.size 1 with z0|z1
    ·have e0:es=#[]:=Array.eq_empty_of_size_eq_zero (by omega);have p0:t.place=#[]:=Array.eq_empty_of_size_eq_zero (by omega);subst e0;rw[p0]at hq ⊢;rw[qR5]
     simpa using hq
    ·have z:es.size=1:=by omega
     obtain⟨x,e0⟩:∃x,es=#[x]:=by
      have:=Array.size_eq_one_iff.mp z;exact this
     obtain⟨p,p0⟩:∃p,t.place=#[p]:=Array.size_eq_one_iff.mp (by omega);subst e0;rw[p0]at hq ⊢;obtain⟨k,x⟩:=x;by_cases i0:i=0
     ·subst i0;rw[if_pos rfl,qUb (hAs _)]
      simpa using hq
     ·have i1:i=1:=by simp at hi;omega
      subst i1;rw[if_neg (by decide)];show Q' (match (#[(k,x)]:Array (Int×Value))[SetTable.below #[p] (p+1)]?,(#[p]:Array Nat)[SetTable.below #[p] (p+1)]? with|some (_,x),some j=>some (x,j+1)|_,_=>none) s';rw[qUc (hBv _)]
      simpa using hq
   ·intro b hbm;rw[Heap.size_push];simp at hbm;rcases hbm with rfl|rfl
    ·exact⟨hBv _,.inr (hA6 _)⟩
    ·exact⟨hBk ha,.inl rfl⟩
end
section
variable{X:Cx}{pins:List (Addr×Obj)}{σ:St}{H:Hp}{s:Shared}{h':Heap}
theorem Inv.turnedT{t':Nat}{d':Drawn}{ch:List Addr}{a:Addr}{o:HO}(I:Inv X pins σ H s)(k:∀b u,b∉ch->s.heap.get? b=some u->h'.get? b=some u)(f:∀b∈ch,qOd X pins H b)(hp:s.heap.objs.size<=a)(new:qBr X.prog X.w (upd H a o) h' a o) :
  Inv X pins σ (upd H a o) { s with heap:=h',toks:=t',drawn:=d' }:=by
 have nit:∀b u,H b=some u->b∉ch:=fun b u e z=>by rw[(f b z).1]at e;cases e
 have hn:H a=none:=I.hok.fresh hp;refine I.step (g':=s.gens) (d':=d') (ch:=ch) (fun b hb=>?_) (fun b u _ _ hc e _=>k b u hc e) (fun b u _ _ hc e _=>⟨u.slots,k b u hc e⟩) (fun b u _ e n=>?_) (fun b u hc e=>⟨u,k b u hc e⟩) (fun b xs q=>by rw[qAg (qAi q hn)];exact q) (fun b u v q=>by rw[qAg (qAi q hn)];exact q)
  (fun b ps q=>⟨#[],by rw[qAg (qAi q hn),q];simp⟩) (fun m hm=>?_) (fun b u e=>?_) I.bare
 ·obtain⟨_,f1,_,f3,f4,f5⟩:=f b hb;exact⟨f3,f1,f4,f5⟩
 ·rw[qAg (hAn (hAm (Heap.lt_size e) hp))];exact n
 ·obtain⟨ob,es,ep,ho,r⟩:=hm;exact⟨ob,es,ep,k _ ob (fun z=>(f _ z).2.1 rfl) ho,r⟩
 ·by_cases hb:b=a
  ·subst hb;rw[upd_same]at e;cases e;exact new
  ·rw[qAg hb]at e;refine(I.hok b u e).stay (fun c v hc q=>k c v ?_ q) (fun c q=>by rw[qAg (qAi q hn)];exact q) fun c xs q=>by rw[qAg (qAi q hn)];exact q
   rcases hc with z|z
   ·rw[z];exact nit b u e
   ·exact nit c _ z
end
section
variable{P:Program}{w:World}{A:Around}{E:Value->Shared->Prop}{s:Shared}{a:Addr}{ss:List Str}
theorem qJz(hh:A.handled=none)(hS:qBu P w s.heap a ss)
  (h:∀(vs:List Value) (ss1:List Str) (h1:Heap) (tk:Nat) (d:Drawn),StrsAre vs ss1->ss1.Perm ss->(∀b o,s.heap.get? b=some o->h1.get? b=some o)->s.heap.objs.size<=h1.objs.size->Q vs { s with heap:=h1,toks:=tk,drawn:=d }):wpAny (model P w) A (collect (.ref a)) Q E s:=by
 unfold collect;refine wpAny_bind (wpAny_runValue (codeAny_builtin PySem.F.entry_proto_collect ?_));rw[Around.under_plainId PySem.F.plain_proto_collect _];show wpAny _ A.in1 (newList [] >>= fun l=>again (.builtin "list.__iadd__" ⟨[l,.ref a],[]⟩)) _ _ _;refine wpAny_bind (wpAny_newObj_type ?_);refine wpAny_pure ⟨plainId_quiet PySem.F.plain_list_iadd _,codeAny_builtin PySem.F.entry_list_iadd ?_⟩;rw[Around.under_plainId PySem.F.plain_list_iadd _];have hS1:qBu P w (s.heap.push (seqObj "list" #[] 0)) a ss:=hS.at fun o e=>Heap.get?_push_of_some _ e
 have hL1:(s.heap.push (seqObj "list" #[] 0)).get? s.heap.objs.size=some (seqObj "list" #[] 0):=Heap.get?_push_size _ rfl;have hT:∀s':Shared,qBu P w s'.heap a ss->s'.TypeIs (.ref a) "set":=fun s' z=>by
  obtain⟨es,ep,t,ho,_⟩:=z;exact⟨_,ho,rfl⟩
 have ha:a<s.heap.objs.size:=by
  obtain⟨es,ep,t,ho,_⟩:=hS;exact Heap.lt_size ho
 have hz:ss.length<scanBound:=by
  obtain⟨es,ep,t,_,_,e2,e3,_⟩:=hS;rw[<-e2.strs,hA1,hA1,hB3];exact e3
 have hne:Builtin.List.listSameRef (.ref s.heap.objs.size) (.ref a)=false:=by
  show(s.heap.objs.size == a)=false;exact beq_eq_false_iff_ne.mpr (hCo ha)
 show wpAny _ A.in1 (Builtin.List.listExtendWith (.ref s.heap.objs.size) (.ref a) (.ref s.heap.objs.size)) _ _ { s with heap:=s.heap.push (seqObj "list" #[] 0) };unfold Builtin.List.listExtendWith;refine wpAny_bind (wpAny_typeOf (hT _ hS1) ?_);rw[if_neg (by rw[hne];decide)];refine wpAny_bind (qQ1 hS1 fun I fp vs ss1 St h1 d q1 q2 q3 W st hI hfp hge hsz=>?_);have hS2:qBu P w h1 a ss:=hS1.at fun o e=>q3 _ _ e
 have hL2:h1.get? s.heap.objs.size=some (seqObj "list" #[] 0):=q3 _ _ hL1;refine wpAny_bind (wpAny_holding ?_);unfold Builtin.List.listLengthHint;refine wpAny_bind (wpAny_specialOf (hT { s with heap:=h1,drawn:=d } hS2) PySem.F.slot_set_len.lookup ?_);dsimp only;rw[show splitId "set.__len__" = some ("set","__len__") from by decide +kernel];dsimp only;refine wpAny_bind (wpAny_isInstance (b:=true) (hT { s with heap:=h1,drawn:=d } hS2) sub_set_self ?_);rw[if_neg (by decide),if_pos (by decide +kernel)];refine wpAny_bind (wpAny_typeOf (hT { s with heap:=h1,drawn:=d } hS2) (wpAny_pure ?_));rw[if_pos (by decide +kernel)];refine wpAny_bind (wpAny_rule ?_);unfold Builtin.List.listTouch;have hL3:=get?_update_seq hL2 (·.push .none);have hL4:=get?_update_seq hL3 (·.pop);refine wpAny_bind (wpAny_bind (listUpdate_at (s:={ s with heap:=h1,drawn:=d }) hL2 rfl (listUpdate_at (s:={ s with heap:=h1.update s.heap.objs.size (Obj.mapSeq (·.push .none)),drawn:=d }) hL3 rfl ?_)));have nS:s.heap.objs.size∉fp:=fun z=>by
  rcases(hfp _ z).2 with e|e
  ·exact absurd e (hCo ha)
  ·rw[size_push']at e;exact absurd e (Nat.not_succ_le_self _)
 have upd2:∀b o,b≠s.heap.objs.size->h1.get? b=some o->((h1.update s.heap.objs.size (Obj.mapSeq (·.push .none))).update s.heap.objs.size (Obj.mapSeq (·.pop))).get? b=some o:=fun b o hb e=>by
  rw[Heap.get?_update_ne _ _ _ _ hb,Heap.get?_update_ne _ _ _ _ hb];exact e
 have hv:vs.length<=sizeLine:=by
  have e1:=q2.length_eq;have e2:vs.length=ss1.length:=by rw[<-q1.strs,hA1]
  rw[e2,e1];exact fits_of_scanBound hz
 have st3:=(W A.in1.in1.in1 (by exact hh)).frame 0 _ ((h1.update s.heap.objs.size (Obj.mapSeq (·.push .none))).update s.heap.objs.size (Obj.mapSeq (·.pop))) st fun b hb o e=>upd2 b o (fun z=>nS (z▸hb)) e
 refine wpAny_pure ⟨plainId_quiet PySem.F.plain_extend_loop _,codeAny_extend_loopS ((W _ (by exact hh)).toS) hv _ nS _ vs.length 0 _ _ _ rfl (hAs _) st3 hL4 (ItemsOf.nil _) fun s' acc' c' hm hS' hacc=>?_⟩;show wpAny _ A (load s.heap.objs.size >>= _) _ _ s';refine wpAny_bind (wpAny_load hS' ?_);have eacc:acc'.toList=vs:=by
  refine hD8 fun i=>?_
  by_cases hi:i<vs.length
  ·have hi':i<acc'.size:=by rw[hacc.1];exact hi
   rw[hAy,hCt hi'];exact(hacc.2 i _ (hCt hi')).symm
  ·rw[hAy,Array.getElem?_eq_none (by rw[hacc.1];omega),hBw (by omega)]
 show wpAny _ A (pure acc'.toList) _ _ s';rw[eacc];obtain⟨h5,g5,d5,tk5,os5⟩:=s';cases(show g5=s.gens from hm.gens);cases(show d5=d from hm.drawn);cases(show os5=s.os from hm.os);have keep:∀b o,h1.get? b=some o->b≠s.heap.objs.size->b≠I->h5.get? b=some o:=fun b o e n1 n2=>hm.heap b o (by simp only[hAg,hDr,or_false,not_or];exact⟨n1,n2⟩) (upd2 b o n1 e)
 refine wpAny_pure (h vs ss1 h5 tk5 d q1 q2 (fun b o e=>?_) ?_)
 ·have lt:=Heap.lt_size e;refine keep b o (q3 b o (Heap.get?_push_of_some _ e)) (hAn lt) (hAn (hAm lt ?_));rw[size_push']at hge;exact Nat.le_of_succ_le hge
 ·exact hBi (Heap.lt_size hS')
end
noncomputable def SetS(P:Program)(w:World)(a:Addr)(ss:List Str):HO:=.ext fun h=>qBu P w h a ss
section
variable{X:Cx}
theorem qRv(hc:X.calm=true):qB7 X (.type "set") (fun xs H Q=>∃(p:Addr) (ss0:List Str),xs=[.ref p]/\SqL X.K H p (ss0.map V.str)/\ss0.length<1000/\∀(r:Addr) (ss:List Str),H r=none->ss.Nodup->ss.length<=ss0.length->(∀x,x∈ss↔x∈ss0)->Q (.ref r) (upd H r (SetS X.prog X.w r ss))):=by
 intro pins s σ H xs us Q I r h;obtain⟨p,ss0,rfl,hq,hl,q⟩:=h;obtain⟨u,rfl,rx⟩:=qCv r;cases rx;obtain⟨its,rv,pl,hz⟩:=I.list hq;have hlen:=rv.length;rw[hA1]at hlen;refine qRu (I.ok.hd hc) pl.isList (by simpa using qCx rv) (by have:scanBound=4096:=rfl;simp;omega) fun h' tk ss hS hO hk=>?_
 obtain⟨o1,o2,o3⟩:=hO;rw[hAd,<-hlen]at o2 o3;refine⟨.ref s.heap.objs.size,_,I.laid (t':=tk) (a:=s.heap.objs.size) (o:=SetS X.prog X.w s.heap.objs.size ss) (fun b o e=>hk b o (Heap.lt_size e) e) (hA6 _) ⟨hS,?_,fun h1 h2 z k=>z.at k⟩,rfl,q _ ss (I.hok.fresh (hA6 _)) o1 o2 fun x=>?_⟩
 ·obtain⟨es,ep,t,ho,_⟩:=hS;exact⟨_,ho⟩
 ·rw[o3 x,List.mem_iff_getElem?];constructor
  ·rintro⟨j,hj,rfl⟩;exact⟨j,by show ss0[j]?=some (ss0.getD j default);rw[hAe,hA2 hj];rfl⟩
  ·rintro⟨j,hj⟩;exact⟨j,(hAq.mp hj).1,by show ss0.getD j default=x;rw[hAe,hj];rfl⟩
theorem qG9(hc:X.calm=true):qB7 X (.builtin "sorted") (fun xs H Q=>∃(p:Addr) (ss:List Str),xs=[.ref p]/\H p=some (SetS X.prog X.w p ss)/\ss.length<64/\∀(r:Addr) (ss':List Str),H r=none->ss'.Perm ss->sortedS ss'=true->Q (.ref r) (upd H r (.lst (ss'.map V.str)))):=by
 intro pins s σ H xs us Q I r h;obtain⟨p,ss,rfl,hp,h64,q⟩:=h;obtain⟨u,rfl,rx⟩:=qCv r;cases rx;have hS:qBu X.prog X.w s.heap p ss:=(I.hok p _ hp).1;refine Calls.call_function_entry kind_sorted plain_sorted entry_sorted (args_sorted1 _) ?_;unfold Builtin.«sorted»;refine wpAny_bind (m:=checkCount "sorted" 1 1 _) (wpAny_pure (wpAny_bind (qJz (I.ok.hd hc) hS fun vs ss1 h1 tk d a1 a2 a3 a4=>?_)));have hvl:vs.length=ss1.length:=by rw[<-a1.strs,hA1]
 have hl64:vs.length<64:=by rw[hvl,a2.length_eq];exact h64
 refine wpAny_bind (wpAny_newList ?_ (by have:sizeLine > 64:=(by decide);omega));have hoL:(h1.push (seqObj "list" vs.toArray 0)).get? h1.objs.size=some (seqObj "list" vs.toArray 0):=Heap.get?_push_size _ rfl;refine wpAny_bind (wpAny_holding (wpAny_call_entry slot_list_sort ⟨_,hoL,rfl⟩ entry_list_sort (list_sort_treeK strKind_oneLt hoL a1.keysOf (fun v1 v2 rest e=>keyKind_strs (by rw[<-e];exact a1)) hl64 fun st' b1 b2=>⟨_,rfl,?_⟩) (args_list_sort _)));obtain⟨ss',c1,c2,c3⟩:=sorted_out_str a1 b1 b2;refine wpAny_pure ⟨_,rfl,?_⟩;have nz:H h1.objs.size=none:=I.hok.fresh a4;obtain⟨e,he⟩:=sortedHeap_at (out:=(arrOf st').map (·.2)) hoL;refine⟨.ref h1.objs.size,_,I.turnedT (t':=tk) (d':=d) (ch:=[]) (a:=h1.objs.size) (o:=.lst (ss'.map V.str)) (fun b o _ eb=>?_) (fun b z=>nomatch z) a4 ?_,rfl,q _ ss' nz (c2.trans a2) c3⟩
 ·have e1:=a3 b o eb;have lt:=Heap.lt_size e1;rw[sortedHeap_old (hAn lt) (by rw[size_push'];exact hBk lt)];exact Heap.get?_push_of_some _ e1
 ·refine⟨?_,((arrOf st').map (·.2)).toList,e,qHj c1,he⟩;rw[hA1,c2.length_eq,a2.length_eq];exact hBi (qAj (by omega))
end
section
variable{X:Cx}{pins:List (Addr×Obj)}{σ:St}{H:Hp}{s:Shared}{h':Heap}
theorem Inv.turnedL{t':Nat}{ch:List Addr}(I:Inv X pins σ H s)(k:∀b u,b∉ch->s.heap.get? b=some u->h'.get? b=some u)(f:∀b∈ch,qOd X pins H b):Inv X pins σ H { s with heap:=h',toks:=t' }:=by
 have nit:∀b u,H b=some u->b∉ch:=fun b u e z=>by rw[(f b z).1]at e;cases e
 refine I.step (g':=s.gens) (d':=s.drawn) (ch:=ch) (fun b hb=>?_) (fun b u _ _ hc e _=>k b u hc e) (fun b u _ _ hc e _=>⟨u.slots,k b u hc e⟩) (fun b u _ e n=>n) (fun b u hc e=>⟨u,k b u hc e⟩) (fun b xs q=>q) (fun b u v q=>q) (fun b ps q=>⟨#[],by rw[q];simp⟩) (fun m hm=>?_) (fun b u e=>?_) I.bare
 ·obtain⟨_,f1,_,f3,f4,f5⟩:=f b hb;exact⟨f3,f1,f4,f5⟩
 ·obtain⟨ob,es,ep,ho,r⟩:=hm;exact⟨ob,es,ep,k _ ob (fun z=>(f _ z).2.1 rfl) ho,r⟩
 ·refine(I.hok b u e).stay (fun c v hc q=>k c v ?_ q) (fun c q=>q) fun c xs q=>q
  rcases hc with z|z
  ·rw[z];exact nit b u e
  ·exact nit c _ z
end
noncomputable def Itp(n:Nat)(Ls:Hp->Prop)(xv:Nat->List V):It:=⟨fun i H=>Ls H/\i<n,fun i H x H'=>∃T,H T=none/\H'=upd H T (.tup (xv i))/\x = .ref T,fun i H=>Ls H/\i=n⟩
theorem qNm{P:Program}{w:World}{K:PySem.W.Frag}{elts:List Expr}{ct:Nat}{pos:Pos}(it:Addr)(fp fpW wr:List Addr)(n:Nat)(Ls:Hp->Prop)(xv:Nat->List V)(tn:Nat->Heap->Prop)
  (hit:it∈fp) (hwr:∀b∈wr,b∈fp) (hobj:∀i h,tn i h->∀b∈fp,∃o,h.get? b=some o/\∀v,o.data≠.cell v) (hkeep:∀i h h',tn i h->(∀b∈fp,∀o,h.get? b=some o->h'.get? b=some o)->tn i h')
  (hx:∀i,(xv i).length<=sizeLine)
  (W:∀(X:Cx),X.prog=P->X.w=w->X.K=K->X.calm=true->∀(pins:List (Addr×Obj)) (s:Shared) (σ:L2.St) (H:Hp),Inv X pins σ H s->Ls H->∃(Pt:Nat->Array Value->Prop) (St:Nat->Heap->Prop) (Mid:Nat->Addr->Heap->Prop),WalksT P w X.A it fpW wr n Pt St Mid/\(∀i,tn i s.heap->St i s.heap)/\(∀i h,St i h->tn i h) /\
   (∀i vals,Pt i vals->qA7 (xv i) vals.toList))
  (hself:∀(A:Around) (i:Nat) (s:Shared) (Q:Value->Shared->Prop) (E:Value->Shared->Prop),tn i s.heap->Q (.ref it) s->wpAny (model P w) A (pyIter (.ref it)) Q E s):Turn P w K (.Tuple elts ct pos) (Itp n Ls xv) fp it tn where
 mem:=hit
 obj:=hobj
 keep:=hkeep
 item:=by
  intro X hP hw hK hc i pins s σ H E I hf st hg;obtain⟨hL,hi⟩:=hg;obtain⟨Pt,St,Mid,Wt,w1,w2,w3⟩:=W X hP hw hK hc pins s σ H I hL;subst hP hw hK;refine Wt.item i s _ _ hi (w1 i st) fun T vals h1 tk pv hT ht mid k1=>?_
  have hTw:T∉wr:=Wt.apart i T h1 mid;refine⟨_,rfl,Wt.go elts ct pos i T _ _ _ mid fun h2 st2 k2=>?_⟩;have ht2:IsTup h2 T (vals.toList).toArray:=by
   obtain⟨o,a1,a2,nn,a3⟩:=ht;exact⟨o,k2 _ _ hTw a1,a2,nn,by simpa using a3⟩
  refine⟨.ref T,upd H T (.tup (xv i)),I.turnedT (t':=tk) (d':=s.drawn) (ch:=wr) (fun b u hb e=>k2 b u hb (k1 b u hb e)) (fun b hb=>hf b (hwr b hb)) hT ⟨hx i,vals.toList,w3 i vals pv,ht2⟩,rfl,⟨T,I.hok.fresh hT,rfl,rfl⟩,w2 _ _ st2,fun b hb=>?_⟩;have e:b≠T:=by
   obtain⟨o,ho,_⟩:=hobj i _ st b hb;exact hAn (hAm (Heap.lt_size ho) hT)
  rw[qAg e];exact(hf b hb).1
 done:=by
  intro X hP hw hK hc i pins s σ H E I hf st hg;obtain⟨hL,hi⟩:=hg;obtain⟨Pt,St,Mid,Wt,w1,w2,w3⟩:=W X hP hw hK hc pins s σ H I hL;subst hP hw hK hi;exact Wt.done s _ _ (w1 _ st) fun h1 tk k1=>⟨rfl,I.turnedL (ch:=wr) (fun b u hb e=>k1 b u hb e) fun b hb=>hf b (hwr b hb)⟩
 self:=hself
section
variable{σ0:St}{g:TG}{tt:TT}{te:TE}{Q:List V->Hp->Prop}{H1:Hp}
theorem qOj(Pv:Nat->List V->Hp->Prop)(h0:Pv 0 [] H1)(hl:∀i ys H,i<=n->Pv i ys H->Ls H)
  (hs:∀i ys H T,i<n->Pv i ys H->H T=none->g (.ref T) σ0 (upd H T (.tup (xv i))) fun σ2 H2=>Sle σ0 σ2/\tt σ2 H2 fun b H3=>if b=true then te σ2 H3 (fun v H4=>ys.length<sizeLine/\Nxt n i Pv (ys++[v]) H4) else Nxt n i Pv ys H3)
  (hd:∀ys H,Pv n ys H->Q ys H):qEw (Itp n Ls xv) σ0 g tt te Q H1:=by
 refine⟨fun i m ys H=>m=n - i/\i<=n/\Pv i ys H,⟨n,by simp,hAs _,h0⟩,?_⟩;rintro i m ys H ⟨rfl,hi,p⟩;have q:=hl i ys H hi p;by_cases hlt:i<n
 ·refine .inr ⟨⟨q,hlt⟩,fun x H' y=>?_⟩;obtain⟨T,e1,e2,e3⟩:=y;subst e2 e3;exact hs i ys H T hlt p e1
 ·have e:i=n:=by omega
  subst e;exact .inl ⟨⟨q,rfl⟩,hd ys H p⟩
end
noncomputable def qRq(tpos:Pos)(it:Value)(target:Expr)(env:Env)(ifs:List Expr)(body:Sem Unit)(k:Sem Fin):Sem Fin:=do
 standAt tpos
 match ← pyNext it with
 |none=>pure (.done .next)
 |some v =>
  letOwnedTupleGo target it v
  assign target env v
  let mut ok:=true
  for c in ifs do
   if ok then ok ← isTrue c env (eval c env)
  if ok then
   body
  k
section
variable{AS:Type}
abbrev TB(AS:Type):=AS->St->Hp->(AS->St->Hp->Prop)->Prop
end
structure GC(P:Program)(w:World){AS:Type}(e target iter:Expr)(ifs:List Expr)(scope:Scope)(tpos:Pos)(newAcc:Sem Value)(body:Addr->Env->Sem Unit)(o0:Obj)(a0:AS)(AO:AS->Obj->Prop)(HOf:Addr->AS->HO):Prop where
 new:∀(A:Around) (s:Shared) (Q:Value->Shared->Prop) (E:Value->Shared->Prop),Q (.ref s.heap.objs.size) { s with heap:=s.heap.push o0 }->wpAny (model P w) A newAcc Q E s
 nf:o0.isFreed=false
 nc:∀a o,AO a o->∀v,o.data≠.cell v
 hA0:AO a0 o0
 hHO:∀(H':Hp) (h:Heap) (acc:Addr) (a:AS) (o:Obj),sysModules<acc->AO a o->h.get? acc=some o->qBr P w H' h acc (HOf acc a)
 cl:∃gs,clausesOf e=⟨target,iter,ifs,0⟩ :: gs
 dnS:∀(it acc:Value) (env:Env) (A:Around) (Q:PySem.Fin->Shared->Prop) (E:Value->Shared->Prop) (s:Shared),wpAny (model P w) A ((compStart e 0 it acc env).onRaise (fun x=>do noteFrame x env;standAt theWindowsPlace)) Q E s->wpAny (model P w) (A.under (.compStart e 0 it acc env)) ((model P w).den (.compStart e 0 it acc env)) Q E s
 dnL:∀(it acc:Value) (env:Env) (A:Around) (Q:PySem.Fin->Shared->Prop) (E:Value->Shared->Prop) (s:Shared),wpAny (model P w) A ((compTurn e 0 it acc env).onRaise (fun x=>do noteFrame x env;theTreesLotGoes x)) Q E s->wpAny (model P w) (A.under (.compLoop e 0 it acc env)) ((model P w).den (.compLoop e 0 it acc env)) Q E s
 q:∀it acc env,(Code.compLoop e 0 it acc env).quiet=true
 sh:∀(it acc:Addr) (env:Env),compTurn e 0 (.ref it) (.ref acc) env=qRq tpos (.ref it) target env ifs (body acc env) (again (.compLoop e 0 (.ref it) (.ref acc) env))
end L2
namespace L2
open PySem PySem.Spec PyProof.Rows PySem.W
noncomputable abbrev Rng(n:Nat):Array Nat:=List.toArray (List.range n)
def Gd(n:Nat)(p:Array Nat):Prop:=p.Perm (Rng n)
theorem Gd.lt(h:Gd n p)(h0:0<n)(i:Nat):p.getD i 0<n:=by
 by_cases hi:i<p.size
 ·have e:p.getD i 0=p[i]:=by simp[Array.getD,hi]
  rw[e];have m:p[i]∈p.toList:=by simp
  have m2:=(hC2.mp h).mem_iff.mp m
  simpa using m2
 ·have e:p.getD i 0=0:=by simp[Array.getD,hi]
  rw[e];exact h0
theorem Gd.rev(h:Gd n p)(i j:Nat):Gd n (kas_rev p i j):=(mirror_perm _ _ _ _).trans h
theorem Gd.bub(h:Gd n p)(i j:Nat):Gd n (bubble p i j):=(bubble_perm _ _ _).trans h
section
variable{n:Nat}{cmp:Nat->Nat->(Bool->Shared->Prop)->Shared->Prop}{s:Shared}(hask:∀i j C,i<n->j<n->(∀b,C b s)->cmp i j C s)(h0:0<n)
include hask h0
end
section
variable{X:Cx}
theorem refs_of:∀ {as:List Addr} {us:List Value},qA7 (as.map V.ref) us->us=as.map Value.ref
 |[],_,r=>by cases r;rfl
 |a :: as,_,r=>by
  cases r with
  |cons h t=>cases h;rw[refs_of t];rfl
theorem qEc:∀as:List Addr,qA7 (as.map V.ref) (as.map Value.ref)
 |[]=>.nil
 |a :: as=>.cons rfl (qEc as)
end
section
variable{X:Cx}
theorem qJ2:qB7 X (.type "range") (fun xs H Q=>∃j:Int,xs=[.int j]/\0<=j/\j<=1000/\∀r,H r=none->Q (.ref r) (upd H r (.rng 0 j))):=by
 intro pins s σ H xs us Q I r h;obtain⟨j,rfl,h0,h1,q⟩:=h;obtain⟨u,rfl,t,rfl⟩:=qCv r;refine call_range_1 ?_;exact⟨.ref s.heap.objs.size,_,I.laid (a:=s.heap.objs.size) (o:=.rng 0 j) (fun b o e=>Heap.get?_push_of_some _ e) (hA6 _) ⟨_,_,_,Heap.get?_push_size _ rfl⟩,rfl,q _ (I.hok.fresh (hA6 _))⟩
theorem qJs:∀ {its:List Value} {n:Nat} (k:Nat),its.length=n->(∀i v,its[i]?=some v->∃t,v=Value.int ((k+i:Nat):Int) t)->qA7 ((List.range' k n).map fun (i:Nat)=>V.int (i:Int)) its
 |[],n,k,hl,_=>by
  have e:n=0:=hl.symm;subst e;exact .nil
 |v :: r,n,k,hl,h=>by
  obtain⟨m,rfl⟩:∃m,n=m+1:=⟨n - 1,by simp at hl;omega⟩;rw[List.range'_succ,hB8];refine .cons ?_ (qJs (k+1) (by simpa using hl) fun i v hv=>?_)
  ·obtain⟨t,e⟩:=h 0 v rfl;exact⟨t,by rw[e,Nat.add_zero]⟩
  ·obtain⟨t,e⟩:=h (i+1) v (by simpa using hv);exact⟨t,by rw[e,show k+(i+1)=k+1+i by omega]⟩
theorem qIu(hc:X.calm=true):qB7 X (.type "list") (fun xs H Q=>∃(r:Addr) (j:Int),xs=[.ref r]/\H r=some (.rng 0 j)/\0<=j/\j<=1000/\∀l,H l=none->Q (.ref l) (upd H l (.lst ((List.range j.toNat).map fun (i:Nat)=>V.int (i:Int))))):=by
 intro pins s σ H xs us Q I r h;obtain⟨p,j,rfl,hp,h0,h1,q⟩:=h;obtain⟨u,rfl,rx⟩:=qCv r;cases rx;obtain⟨t,u,v,e⟩:=I.hok p _ hp;refine call_list_range (n:=j.toNat) (a:=0) (b:=j) (c:=1) (I.ok.hd hc) e (small_one (by decide) (by decide) (by omega) (by omega)) (by rw[rangeSize_one];split <;> omega) (by omega) fun h' tk acc' c' hk hS hacc=>?_
 refine⟨.ref s.heap.objs.size,_,I.laid (t':=tk) (a:=s.heap.objs.size) (o:=.lst ((List.range j.toNat).map fun (i:Nat)=>V.int (i:Int))) (fun b o e=>hk b o e) (hA6 _) ⟨?_,acc'.toList,c',?_,by rw[Array.toArray_toList];exact hS⟩,rfl,q _ (I.hok.fresh (hA6 _))⟩
 ·rw[hA1,hAp];exact hBi (qAj (by omega))
 ·rw[List.range_eq_range'];refine qJs 0 (by rw[hB3];exact hacc.1) fun i v hv=>?_
  obtain⟨t,e⟩:=hacc.2 i v (by rw[<-hAy];exact hv);exact⟨t,by rw[e];congr 1;omega⟩
end
structure Ordr(lt:Nat->Nat->Bool):Prop where
 asym:∀a b,lt a b=true->lt b a=false
 tr:∀a b c,lt b a=false->lt c b=false->lt c a=false
theorem Ordr.irr(o:Ordr lt)(a:Nat):lt a a=false:=by
 cases h:lt a a with
 |false=>rfl
 |true=>exact(o.asym a a h).symm.trans h▸rfl
def SPk(lt:Nat->Nat->Bool)(p:Array Nat)(k:Nat):Prop:=∀i j,i<j->j<k->lt (p.getD j 0) (p.getD i 0)=false
def DPk(lt:Nat->Nat->Bool)(p:Array Nat)(k:Nat):Prop:=∀i j,i<j->j<k->lt (p.getD i 0) (p.getD j 0)=false
def ERk(lt:Nat->Nat->Bool)(p:Array Nat)(a b:Nat):Prop:=∀i j,a<=i->i<b->a<=j->j<b->lt (p.getD i 0) (p.getD j 0)=false
theorem Gd.size(h:Gd n p):p.size=n:=by
 have:=Array.Perm.size_eq h
 simpa using this
theorem qHd(hj:j<=p.size)(k:Nat):(kas_rev p i j).getD k 0=if i<=k/\k<j then p.getD (i+j - 1 - k) 0 else p.getD k 0:=by
 unfold kas_rev;rw[hCa,getElem?_mirror_all hj];split <;> rw[<-hCa]
theorem qVp(hk:k<p.size)(hl:l<=k)(i:Nat):(bubble p k (k - l)).getD i 0=if i=l then p.getD k 0 else if l<i/\i<=k then p.getD (i - 1) 0 else p.getD i 0:=by
 rw[hCa,getElem?_bubble hk _ (by omega)];have e:k - (k - l)=l:=by omega
 rw[e];by_cases e1:i=l
 ·rw[if_pos e1,if_pos e1,<-hCa]
 ·rw[if_neg e1,if_neg e1];by_cases e2:l<i/\i<=k
  ·rw[if_pos e2,if_pos e2,<-hCa]
  ·rw[if_neg e2,if_neg e2,<-hCa]
section
variable{lt:Nat->Nat->Bool}(o:Ordr lt)
include o
theorem SPk.snoc(h:SPk lt p k)(h1:1<=k)(hk:lt (p.getD k 0) (p.getD (k - 1) 0)=false):SPk lt p (k+1):=fun i j hij hj=>by
 by_cases e:j=k
 ·subst e;by_cases e2:i=j - 1
  ·subst e2;exact hk
  ·exact o.tr _ _ _ (h i (j - 1) (by omega) (by omega)) hk
 ·exact h i j hij (by omega)
theorem DPk.snoc(h:DPk lt p k)(h1:1<=k)(hk:lt (p.getD (k - 1) 0) (p.getD k 0)=false):DPk lt p (k+1):=fun i j hij hj=>by
 by_cases e:j=k
 ·subst e;by_cases e2:i=j - 1
  ·subst e2;exact hk
  ·exact o.tr _ _ _ hk (h i (j - 1) (by omega) (by omega))
 ·exact h i j hij (by omega)
omit o in
theorem DPk.rev(h:DPk lt p k)(hb:b<=p.size)(hbk:b<=k)(e:ERk lt p a b):DPk lt (kas_rev p a b) k:=fun i j hij hj=>by
 rw[qHd hb,qHd hb];split
 ·split
  ·exact e _ _ (by omega) (by omega) (by omega) (by omega)
  ·exact h _ _ (by omega) (by omega)
 ·split
  ·exact h _ _ (by omega) (by omega)
  ·exact h _ _ (by omega) (by omega)
omit o in
theorem DPk.turn(h:DPk lt p k)(hk:k<=p.size):SPk lt (kas_rev p 0 k) k:=fun i j hij hj=>by
 rw[qHd hk,qHd hk,if_pos (by omega),if_pos (by omega)];exact h _ _ (by omega) (by omega)
variable{n:Nat}{cmp:Nat->Nat->(Bool->Shared->Prop)->Shared->Prop}{s:Shared}(hask:∀i j C,i<n->j<n->C (lt i j) s->cmp i j C s)(h0:0<n)
include hask h0
theorem qO7(g:Gd n p)(N:Nat)(hq:∀m,SPk lt p m->1<=m->m<=N->(m<N->lt (p.getD m 0) (p.getD (m - 1) 0)=true)->Q m s):∀f m,1<=m->m+f=N->SPk lt p m->(kas_asc p f m).kasWp cmp Q s
 |0,m,h1,hN,sp=>hq m sp h1 (by omega) (fun z=>by omega)
 |f+1,m,h1,hN,sp=>by
  refine hask _ _ _ (g.lt h0 _) (g.lt h0 _) ?_;dsimp only;split
  ·rename_i c;exact hq m sp h1 (by omega) fun _=>c
  ·rename_i c;exact qO7 g N hq f (m+1) (by omega) (by omega) (sp.snoc o h1 (by simpa using c))
theorem qH4(N:Nat)(hN:N<=n)(hq:∀p m q,Gd n p->1<=m->q+1<=m->m<=N->DPk lt p m->ERk lt p (m - (q+1)) m->Q (p,m,q) s):∀f p m q,Gd n p->1<=m->q+1<=m->m+f=N->DPk lt p m->ERk lt p (m - (q+1)) m->(kas_desc f p m q).kasWp cmp Q s
 |0,p,m,q,g,h1,h2,h3,dp,er=>hq p m q g h1 h2 (by omega) dp er
 |f+1,p,m,q,g,h1,h2,h3,dp,er=>by
  have sz:=g.size;refine hask _ _ _ (g.lt h0 _) (g.lt h0 _) ?_;dsimp only;split
  ·rename_i c;have dp':=dp.snoc o h1 (o.asym _ _ c);have one:∀p':Array Nat,ERk lt p' (m+1 - (0+1)) (m+1):=fun p' i j hi hi' hj hj'=>by
    have e1:i=m:=by omega
    have e2:j=m:=by omega
    subst e1 e2;exact o.irr _
   split
   ·exact qH4 N hN hq f _ (m+1) 0 (g.rev _ _) (by omega) (by omega) (by omega) (dp'.rev (by omega) (by omega) er) (one _)
   ·exact qH4 N hN hq f p (m+1) 0 g (by omega) (by omega) (by omega) dp' (one _)
  ·rename_i c;refine hask _ _ _ (g.lt h0 _) (g.lt h0 _) ?_;dsimp only;split
   ·exact hq p m q g h1 h2 (by omega) dp er
   ·rename_i d;have c':lt (p.getD m 0) (p.getD (m - 1) 0)=false:=by simpa using c
    have d':lt (p.getD (m - 1) 0) (p.getD m 0)=false:=by simpa using d
    refine qH4 N hN hq f p (m+1) (q+1) g (by omega) (by omega) (by omega) (dp.snoc o h1 d') fun i j hi hi' hj hj'=>?_
    by_cases ei:i=m
    ·subst ei;by_cases ej:j=i
     ·subst ej;exact o.irr _
     ·exact o.tr _ _ _ (er (i - 1) j (by omega) (by omega) (by omega) (by omega)) c'
    ·by_cases ej:j=m
     ·subst ej;exact o.tr _ _ _ d' (er i (j - 1) (by omega) (by omega) (by omega) (by omega))
     ·exact er i j (by omega) (by omega) (by omega) (by omega)
theorem qL0(g:Gd n p)(N:Nat)(hN:N<=n)(hq:∀m p,Gd n p->SPk lt p m->1<=m->m<=N->Q (m,p) s)(m:Nat)(h1:1<=m)(h2:m<=N)(dp:DPk lt p m):(kas_tail3 m N p).kasWp cmp Q s:=by
 unfold kas_tail3;rw[KasT.kasWp_bind];have sz:=g.size;exact qO7 o hask h0 (g.rev _ _) N (fun m' sp a b _=>hq m' _ (g.rev _ _) sp a b) _ _ h1 (by omega) (dp.turn (by omega))
theorem qGf(g:Gd n p)(N:Nat)(hN:N<=n)(hq:∀m p,Gd n p->SPk lt p m->1<=m->m<=N->Q (m,p) s)(m:Nat)(h2:m+1<=N)(dp:DPk lt p (m+1)):(kas_descPart m N p).kasWp cmp Q s:=by
 unfold kas_descPart;rw[KasT.kasWp_bind];refine qH4 o hask h0 N hN (fun p' m' q g' a b c dp' er=>?_) _ _ _ _ g (by omega) (by omega) (by omega) dp fun i j hi hi' hj hj'=>?_
 ·have sz:=g'.size;dsimp only;split
  ·exact qL0 o hask h0 (g'.rev _ _) N hN hq _ a c (dp'.rev (by omega) (hA6 _) er)
  ·exact qL0 o hask h0 g' N hN hq _ a c dp'
 ·have e1:i=m:=by omega
  have e2:j=m:=by omega
  subst e1 e2;exact o.irr _
theorem qSs(g:Gd n p)(hq:∀m p,Gd n p->SPk lt p m->1<=m->m<=n->Q (m,p) s):(kas_count n p).kasWp cmp Q s:=by
 unfold kas_count;rw[KasT.kasWp_bind];have sz:=g.size;refine qO7 o hask h0 g n (fun m sp m1 mn st=>?_) _ _ (hA6 _) (by omega) (fun i j hij hj=>by omega);split
 ·exact hq _ _ g sp m1 mn
 ·rename_i c;have c':m≠n:=by simpa using c
  have lt1:=st (by omega);have ge1:=o.asym _ _ lt1;split
  ·refine hask _ _ _ (g.lt h0 _) (g.lt h0 _) ?_;dsimp only;split
   ·exact hq _ _ g sp m1 mn
   ·rename_i d;have d':lt (p.getD 0 0) (p.getD (m - 1) 0)=false:=by simpa using d
    have lo:∀i,i<m->lt (p.getD (m - 1) 0) (p.getD i 0)=false:=fun i hi=>by
     by_cases e:i=m - 1
     ·subst e;exact o.irr _
     ·exact sp i (m - 1) (by omega) (by omega)
    have hi0:∀j,j<m->lt (p.getD j 0) (p.getD 0 0)=false:=fun j hj=>by
     by_cases e:j=0
     ·subst e;exact o.irr _
     ·exact sp 0 j (by omega) hj
    have er:ERk lt p 0 m:=fun i j _ hi _ hj=>o.tr _ _ _ (o.tr _ _ _ (lo j hj) d') (hi0 i hi)
    refine qGf o hask h0 (g.rev _ _) n (hA6 _) hq m (by omega) fun i j hij hj=>?_
    rw[qHd (by omega),qHd (by omega)];by_cases ej:j=m
    ·subst ej;rw[if_pos (by omega),if_neg (by omega)];exact o.tr _ _ _ ge1 (er _ _ (by omega) (by omega) (by omega) (by omega))
    ·rw[if_pos (by omega),if_pos (by omega)];exact er _ _ (by omega) (by omega) (by omega) (by omega)
  ·have e:m=1:=by omega
   subst e;refine qGf o hask h0 g n (hA6 _) hq 1 (by omega) fun i j hij hj=>?_
   have e1:i=0:=by omega
   have e2:j=1:=by omega
   subst e1 e2;exact ge1
theorem qH3(g:Gd n p)(k:Nat)(sp:SPk lt p k)(hq:∀l,l<=k->(∀i,i<l->lt (p.getD k 0) (p.getD i 0)=false)->(∀i,l<=i->i<k->lt (p.getD i 0) (p.getD k 0)=false)->Q l s) :
  ∀f l r,l<=r->r<=k->r - l<=f->(∀i,i<l->lt (p.getD k 0) (p.getD i 0)=false)->(∀i,r<=i->i<k->lt (p.getD i 0) (p.getD k 0)=false)->(kas_place p k f l r).kasWp cmp Q s
 |0,l,r,h1,h2,h3,a,b=>hq l (by omega) a fun i hi hk=>b i (by omega) hk
 |f+1,l,r,h1,h2,h3,a,b=>by
  unfold kas_place;split
  ·exact hq l (by omega) a fun i hi hk=>b i (by omega) hk
  ·refine hask _ _ _ (g.lt h0 _) (g.lt h0 _) ?_;dsimp only;split
   ·rename_i c;have c':=o.asym _ _ c;refine qH3 g k sp hq f l ((l+r) / 2) (by omega) (by omega) (by omega) a fun i hi hk=>?_
    by_cases e:i=(l+r) / 2
    ·subst e;exact c'
    ·exact o.tr _ _ _ c' (sp _ _ (by omega) hk)
   ·rename_i c;have c':lt (p.getD k 0) (p.getD ((l+r) / 2) 0)=false:=by simpa using c
    refine qH3 g k sp hq f ((l+r) / 2+1) r (by omega) h2 (by omega) (fun i hi=>?_) b;by_cases e:i=(l+r) / 2
    ·subst e;exact c'
    ·exact o.tr _ _ _ (sp i ((l+r) / 2) (by omega) (by omega)) c'
theorem qUw(hq:∀p,Gd n p->SPk lt p n->Q p s):∀f p k,Gd n p->k+f=n->SPk lt p k->(kas_bin f p k).kasWp cmp Q s
 |0,p,k,g,h1,sp=>hq p g (by rw[<-h1];exact sp)
 |f+1,p,k,g,h1,sp=>by
  unfold kas_bin;rw[KasT.kasWp_bind];have sz:=g.size;refine qH3 o hask h0 g k sp (fun l hl a b=>qUw hq f _ _ (g.bub _ _) (by omega) fun i j hij hj=>?_) k 0 k (by omega) (hA6 _) (by omega) (fun i hi=>by omega) (fun i hi hk=>by omega);rw[qVp (by omega) hl,qVp (by omega) hl];by_cases ej:j=l
  ·rw[if_pos ej,if_neg (by omega),if_neg (by omega)];exact a i (by omega)
  ·rw[if_neg ej];by_cases ej2:l<j/\j<=k
   ·rw[if_pos ej2];by_cases ei:i=l
    ·rw[if_pos ei];exact b (j - 1) (by omega) (by omega)
    ·rw[if_neg ei];split
     ·exact sp _ _ (by omega) (by omega)
     ·exact sp _ _ (by omega) (by omega)
   ·rw[if_neg ej2,if_neg (by omega),if_neg (by omega)];exact sp _ _ hij (by omega)
theorem qV8(hq:∀p,Gd n p->SPk lt p n->Q p s):(kas_sort n).kasWp cmp Q s:=by
 unfold kas_sort;rw[KasT.kasWp_bind];refine qSs o hask h0 (Array.Perm.refl _) (fun m p g sp m1 mn=>?_);dsimp only;have e:max m 1=m:=by omega
 rw[e];split
 ·exact qUw o hask h0 hq _ _ _ g (by omega) sp
 ·have e2:m=n:=by omega
  subst e2;exact hq _ g sp
end
theorem txTri:∀a b:List Nat,a<b\/a=b\/b<a
 |[],[]=>.inr (.inl rfl)
 |[],_ :: _=>.inl (List.nil_lt_cons _ _)
 |_ :: _,[]=>.inr (.inr (List.nil_lt_cons _ _))
 |x :: a,y :: b=>by
  rcases hE2 x y with h|h|h
  ·exact .inl (hCb.mpr (.inl h))
  ·subst h;rcases txTri a b with h|h|h
   ·exact .inl (hCb.mpr (.inr ⟨rfl,h⟩))
   ·exact .inr (.inl (by rw[h]))
   ·exact .inr (.inr (hCb.mpr (.inr ⟨rfl,h⟩)))
  ·exact .inr (.inr (hCb.mpr (.inl h)))
theorem zA6{x y:Str}(h:x.cps.toList=y.cps.toList):x=y:=by
 cases x;cases y;simp only[Str.mk.injEq];exact hDs.mp h
noncomputable def qS1(x y:Str):Bool:=decide (x.cps.toList<y.cps.toList)
theorem qEi(x:Str):qS1 x x=false:=decide_eq_false (List.lt_irrefl _)
theorem qE7(h:qS1 x y=true)(h':qS1 y z=true):qS1 x z=true:=decide_eq_true (List.lt_trans (of_decide_eq_true h) (of_decide_eq_true h'))
theorem sLtB_tri(x y:Str):qS1 x y=true\/x=y\/qS1 y x=true:=by
 rcases txTri x.cps.toList y.cps.toList with h|h|h
 ·exact .inl (decide_eq_true h)
 ·exact .inr (.inl (zA6 h))
 ·exact .inr (.inr (decide_eq_true h))
noncomputable def ltL:List Str->List Str->Bool
 |[],[]=>false
 |[],_ :: _=>true
 |_ :: _,[]=>false
 |x :: r,y :: t=>if x=y then ltL r t else qS1 x y
theorem qK9:∀a:List Str,ltL a a=false
 |[]=>rfl
 |x :: r=>by unfold ltL;rw[if_pos rfl];exact qK9 r
theorem ltL_tri:∀a b:List Str,ltL a b=true\/a=b\/ltL b a=true
 |[],[]=>.inr (.inl rfl)
 |[],_ :: _=>.inl rfl
 |_ :: _,[]=>.inr (.inr rfl)
 |x :: r,y :: t=>by
  unfold ltL;by_cases e:x=y
  ·subst e;rw[if_pos rfl,if_pos rfl];rcases ltL_tri r t with h|h|h
   ·exact .inl h
   ·exact .inr (.inl (by rw[h]))
   ·exact .inr (.inr h)
  ·rw[if_neg e,if_neg (fun z=>e z.symm)];rcases sLtB_tri x y with h|h|h
   ·exact .inl h
   ·exact absurd h e
   ·exact .inr (.inr h)
theorem qEr:∀a b c:List Str,ltL a b=true->ltL b c=true->ltL a c=true
 |[],_,[],h,h'=>by
  rename_i b;cases b with
  |nil=>exact h
  |cons _ _=>cases h'
 |[],_,_ :: _,_,_=>rfl
 |_ :: _,[],_,h,_=>by cases h
 |_ :: _,_ :: _,[],_,h'=>by cases h'
 |x :: r,y :: t,z :: u,h,h'=>by
  unfold ltL at h h' ⊢;by_cases e1:x=y
  ·subst e1;rw[if_pos rfl]at h;by_cases e2:x=z
   ·subst e2;rw[if_pos rfl]at h' ⊢;exact qEr r t u h h'
   ·rw[if_neg e2]at h' ⊢;exact h'
  ·rw[if_neg e1]at h;by_cases e2:y=z
   ·subst e2;rw[if_neg e1];exact h
   ·rw[if_neg e2]at h';have q:=qE7 h h';have e3:¬x=z:=fun e=>by rw[e,qEi]at q;cases q
    rw[if_neg e3];exact q
theorem qMx(a b:List Str)(h:ltL a b=true):ltL b a=false:=by
 cases q:ltL b a with
 |false=>rfl
 |true=>have:=qEr a b a h q;rw[qK9]at this;cases this
noncomputable def ltI(ts:List (List Str))(i j:Nat):Bool:=ltL (ts.getD i []) (ts.getD j [])
theorem qXk(ts:List (List Str)):Ordr (ltI ts):=⟨fun a b h=>qMx _ _ h,fun a b c h h'=>by
 have h1:ltL (ts.getD b []) (ts.getD a [])=false:=h;have h2:ltL (ts.getD c []) (ts.getD b [])=false:=h';show ltL (ts.getD c []) (ts.getD a [])=false;rcases ltL_tri (ts.getD a []) (ts.getD b []) with q|q|q
 ·rcases ltL_tri (ts.getD b []) (ts.getD c []) with r|r|r
  ·exact qMx _ _ (qEr _ _ _ q r)
  ·rw[<-r];exact h1
  ·rw[h2]at r;cases r
 ·rw[q];exact h2
 ·rw[h1]at q;cases q⟩
theorem qHm(vs:List Value):(List.range vs.length).map (fun i=>vs.getD i Value.none)=vs:=by
 refine hD8 fun i=>?_
 by_cases hi:i<vs.length
 ·rw[hAk,hCs hi,hA2 hi];show some (vs.getD i Value.none)=_;rw[hAe,hA2 hi];rfl
 ·rw[hBw (by simp;omega),hBw (by omega)]
theorem qVd(g:Gd n o)(hi:i∈o.toList):i<n:=by
 have:=(hC2.mp g).mem_iff.mp hi
 simpa using this
theorem zAe(g:Gd n o):o.toList.length=n:=by
 have:=g.size
 simpa using this
theorem qQe{as:List Addr}{l:List Nat}(h:∀i∈l,i<as.length):l.map (fun i=>(as.map Value.ref).getD i Value.none)=(l.map fun i=>as.getD i 0).map Value.ref:=by
 rw[hAr];refine hBq fun i hi=>?_
 have:=h i hi;show(as.map Value.ref).getD i Value.none=Value.ref (as.getD i 0);rw[hAe,hAe,hAk,hA2 this];rfl
end L2
namespace L2
open PySem PySem.Spec PyProof.Rows PySem.W
open AutoSeq1 (wpAny_loadPart')
open MeetsSeq MeetsSeq2 MeetsSeq3 SeqRoads2
theorem qHx(h:StrsAre vs x):∀ {i:Nat},i<vs.length->∃t,vs[i]?=some (.str (x.getD i "") t):=by
 induction h with
 |nil=>intro i hi;exact absurd hi (hCx _)
 |cons p t r ih =>
  intro i hi;cases i with
  |zero=>exact⟨t,rfl⟩
  |succ i=>simpa using ih (i:=i) (by simpa using hi)
theorem qRe{x:List Str}{i:Nat}(h:i<x.length):x.drop i=x.getD i "" :: x.drop (i+1):=by
 rw[hDg h,hAe,hA2 h];rfl
theorem qTt(l b:Addr)(items items2:Array Value)(n n2:Nat)(dd dd2:Option Addr)(sl sl2:Array (Option Value))(x y:List Str)(hx:StrsAre items.toList x)(hy:StrsAre items2.toList y):∀(k i:Nat),items.size - i=k->i<=items.size->i<=items2.size ->
  Meets (Builtin.«list.__eq__.loop» ⟨[.ref l,.ref b,rawInt i,rawInt 0],[]⟩)
   (fun A R s=>(s.heap.get? l=some { cls:=.type "list",dict:=dd,data:=.seq items n,slots:=sl }/\s.heap.get? b=some { cls:=.type "list",dict:=dd2,data:=.seq items2 n2,slots:=sl2 })/\R (.ok (.ret (.bool (ltL (x.drop i) (y.drop i))))) s):=by
 have lx:items.size=x.length:=by rw[<-hx.strs];simp
 have ly:items2.size=y.length:=by rw[<-hy.strs];simp
 intro k
 induction k with
 |zero =>
  intro i hk h1 h2 prog w A R s h;obtain⟨hp,g,d,tk,os⟩:=s;obtain⟨⟨hl,hb⟩,h⟩:=h;have e1:i=items.size:=by omega
  have q1:items[((i:Nat):Int).toNat]?=none:=by simp;omega
  wp_walk using wpAny_loadPart' hl,wpAny_loadPart' hb
  rw[q1]
  wp_walk using wpAny_loadPart' hl,wpAny_loadPart' hb
  have dx:x.drop i=[]:=by simp;omega
  rw[dx]at h;show R (.ok (.ret (.bool (decide (items.size<items2.size))))) _;cases hd:y.drop i with
  |nil =>
   rw[hd]at h;have:y.length<=i:=by simpa using hd
   rw[decide_eq_false (by omega)];exact h
  |cons a r =>
   rw[hd]at h;have:i<y.length:=by
    have:=congrArg List.length hd;rw[hCj,hBc]at this;omega
   rw[decide_eq_true (by omega)];exact h
 |succ k ih =>
  intro i hk h1 h2 prog w A R s h;obtain⟨hp,g,d,tk,os⟩:=s;obtain⟨⟨hl,hb⟩,h⟩:=h;have hlt:i<items.size:=by omega
  obtain⟨t1,q1⟩:=qHx hx (i:=i) (by simpa using hlt);rw[hAy]at q1;have q1':items[((i:Nat):Int).toNat]?=some (.str (x.getD i "") t1):=q1;have dx:=qRe (x:=x) (i:=i) (by omega)
  wp_walk using wpAny_loadPart' hl,wpAny_loadPart' hb
  rw[q1'];by_cases hlt2:i<items2.size
  ·obtain⟨t2,q2⟩:=qHx hy (i:=i) (by simpa using hlt2);rw[hAy]at q2;have q2':items2[((i:Nat):Int).toNat]?=some (.str (y.getD i "") t2):=q2;have dy:=qRe (x:=y) (i:=i) (by omega);have hc:((i:Int)+1)=((i+1:Nat):Int):=by push_cast;rfl
   rw[dx,dy]at h;unfold ltL at h;rw[q2'];refine wpAny_bind (wpAny_eqBool_str ?_);by_cases e:x.getD i "" = y.getD i ""
   ·rw[if_pos e]at h;rw[decide_eq_true e]
    wp_walk
    rw[hc];exact⟨plainId_quiet plain_eq_loop _,codeAny_builtin entry_eq_loop (by
     rw[Around.under_plainId plain_eq_loop _];exact ih (i+1) (by omega) (by omega) (by omega) prog w A R _ ⟨⟨hl,hb⟩,h⟩)⟩
   ·rw[if_neg e]at h;rw[decide_eq_false e]
    wp_walk using wpAny_loadPart' hl,wpAny_loadPart' hb
    rw[q1',q2'];refine wpAny_bind (richCompare_gives (op:=.Lt) (typeIs_str _ _ _) (typeIs_str _ _ _) F.slot_str_lt F.entry_str_lt (F.args_str_lt_2 _ _) (gives_str_lt _ _ _ _) (fun e=>nomatch e) ?_);exact wpAny_pure h
  ·have q2':items2[((i:Nat):Int).toNat]?=none:=by simp;omega
   rw[q2']
   wp_walk using wpAny_loadPart' hl,wpAny_loadPart' hb
   have dy:y.drop i=[]:=by simp;omega
   rw[dx,dy]at h;show R (.ok (.ret (.bool (decide (items.size<items2.size))))) _;rw[decide_eq_false (by omega)];exact h
theorem qM0(l b:Addr)(items items2:Array Value)(n n2:Nat)(dd dd2:Option Addr)(sl sl2:Array (Option Value))(x y:List Str)(hx:StrsAre items.toList x)(hy:StrsAre items2.toList y) :
  Meets (Builtin.«list.__lt__» ⟨[.ref l,.ref b],[]⟩)
   (fun A R s=>(s.heap.get? l=some { cls:=.type "list",dict:=dd,data:=.seq items n,slots:=sl }/\s.heap.get? b=some { cls:=.type "list",dict:=dd2,data:=.seq items2 n2,slots:=sl2 })/\R (.ok (.ret (.bool (ltL x y)))) s):=by
 intro prog w A R s h;obtain⟨hp,g,d,tk,os⟩:=s;obtain⟨⟨hl,hb⟩,h⟩:=h;have f3:=AutoSeq1.sub_list_list
 wp_walk using wpAny_loadPart' hl,wpAny_loadPart' hb
 exact⟨plainId_quiet plain_eq_loop _,codeAny_builtin entry_eq_loop (by
  rw[Around.under_plainId plain_eq_loop _];exact qTt l b items items2 n n2 dd dd2 sl sl2 x y hx hy _ 0 rfl (hAs _) (hAs _) prog w A R _ ⟨⟨hl,hb⟩,h⟩)⟩
theorem qLc(hu:A.units<cLine)(hl:s.heap.IsList l items)(hb:s.heap.IsList b items2)(hx:StrsAre items.toList x)(hy:StrsAre items2.toList y)
  (h:Q (ltL x y) s):wpAny (model P w) A (keyLt' oneType' (.ref l) (.ref b)) Q E s:=by
 obtain⟨⟨cls,dd,data,sl⟩,ho,hc,n,hd⟩:=hl;obtain⟨⟨cls2,dd2,data2,sl2⟩,ho2,hc2,n2,hd2⟩:=hb;simp only at hc hd hc2 hd2;subst hc hd hc2 hd2;rw[keyLt'_oneType,oneLt'_eq];simp only[if_true];refine wpAny_bind (wpAny_cRoomFor hu ?_);refine wpAny_bind (wpAny_callSpecialIfBound?_slot (⟨_,ho,rfl⟩:s.TypeIs (.ref l) "list") F.slot_list_lt (call_meets F.slot_list_lt ⟨_,ho,rfl⟩ F.entry_list_lt (F.args_list_lt_2 _ _) (qM0 l b items items2 n n2 dd dd2 sl sl2 x y hx hy) ⟨⟨ho,ho2⟩,?_⟩));exact wpAny_truthy_bool h
def zAr(h:Heap)(v:Value)(t:List Str):Prop:=∃a its,v = .ref a/\h.IsList a its/\StrsAre its.toList t
theorem qJh:∀ {vs:List Value} {ts:List (List Str)},Paired (zAr h) vs ts->∀v∈vs,∃t∈ts,zAr h v t
 |_,_,.nil,v,hv=>by cases hv
 |_,_,.cons x r,v,hv=>by
  rcases hAg.mp hv with z|z
  ·subst z;exact⟨_,hA9,x⟩
  ·obtain⟨t,ht,q⟩:=qJh r v z;exact⟨t,hA8 _ ht,q⟩
section
variable{P:Program}{w:World}{A:Around}{E:Value->Shared->Prop}{s:Shared}
theorem qGr{h h':Heap}{a:Addr}(k:∀b o,b≠a->h.get? b=some o->h'.get? b=some o):∀ {vs:List Value} {ts:List (List Str)} {i:Nat},Paired (zAr h) vs ts->(∀v∈vs,v≠.ref a)->i<vs.length->∃(b:Addr) (its:Array Value),h'.IsList b its/\vs.getD i Value.none = .ref b/\StrsAre its.toList (ts.getD i [])
 |_,_,i,.nil,_,hi=>absurd hi (hCx _)
 |_,_,0,@Paired.cons _ _ _ v t l1 l2 hh tt,hn,_=>by
  obtain⟨b,its,rfl,⟨o,g,c,n,d⟩,st⟩:=hh;have nb:b≠a:=fun z=>hn _ hA9 (by rw[z])
  exact⟨b,its,⟨o,k b o nb g,c,n,d⟩,rfl,st⟩
 |_,_,i+1,@Paired.cons _ _ _ v t l1 l2 hh tt,hn,hi=>qGr (i:=i) k tt (fun u hu=>hn u (hA8 _ hu)) (by simpa using hi)
theorem qKo(hu:A.units<cLine)(ho:s.heap.get? a=some (seqObj "list" vs.toArray n))(ht:Paired (zAr s.heap) vs ts)(h64:vs.length<64)(hna:∀v∈vs,v≠.ref a)
  (h:∀(out:List Value) (p:Array Nat),out.Perm vs->Gd vs.length p->SPk (ltI ts) p vs.length->out=p.toList.map (fun i=>vs.getD i Value.none)->R (.done (.ret .none)) { s with heap:=sortedHeap s.heap a vs out.toArray }):wpAny (model P w) A (Builtin.«list.sort» ⟨[.ref a],[]⟩) R E s:=by
 rw[list_sort_plain];have ha:a<s.heap.objs.size:=Heap.lt_size ho;refine wpAny_bind (listItems_at ho rfl (wpAny_bind (listUpdate_at ho rfl ?_ (by rw[hAd,sizeLine_eq];omega) (hAs _))));obtain⟨e1,ho1⟩:∃e1,(s.heap.update a (Obj.mapSeq fun _=>#[])).get? a=some (seqObj "list" #[] e1):=⟨_,get?_update_seq ho (fun _=>#[])⟩;refine wpAny_bind (seqEpoch_at ho1 rfl (wpAny_bind (wpAny_newTuple ?_ (by show vs.length<=_;rw[sizeLine_eq];omega))));refine wpAny_bind (wpAny_newList ?_ (hAs _));refine wpAny_holding ?_;have ho6:(((s.heap.update a (Obj.mapSeq fun _=>#[])).push (seqObj "tuple" vs.toArray 0)).push (seqObj "list" #[] 0)).get? a=some (seqObj "list" #[] e1):=Heap.get?_push_of_some _ (Heap.get?_push_of_some _ ho1);have keep:∀b o,b≠a->s.heap.get? b=some o->(((s.heap.update a (Obj.mapSeq fun _=>#[])).push (seqObj "tuple" vs.toArray 0)).push (seqObj "list" #[] 0)).get? b=some o:=fun b o hb e=>by
  refine Heap.get?_push_of_some _ (Heap.get?_push_of_some _ ?_);rw[Heap.get?_update_ne _ _ _ _ hb];exact e
 show wpAny (model P w) A _ R E { s with heap:=((s.heap.update a (Obj.mapSeq fun _=>#[])).push (seqObj "tuple" vs.toArray 0)).push (seqObj "list" #[] 0) };dsimp only;have fin:∀(st':SortSt) (out:List Value),(arrOf st').map (·.2)=out.toArray->failedOf st'=none->out.Perm vs->(∃p,Gd vs.length p/\SPk (ltI ts) p vs.length/\out=p.toList.map (fun i=>vs.getD i Value.none))->wpAny (model P w) A (do
   let touched:=(← seqEpoch a) != e1
   Builtin.List.listUpdate (.ref a) fun _=>(arrOf st').map (·.2)
   if let some e:=failedOf st' then rule "list.sort.comparison-raised";throw e
   if touched then rule "list.sort.modified";raiseError "ValueError" "list modified during sort"
   ret .none) R E { s with heap:=((s.heap.update a (Obj.mapSeq fun _=>#[])).push (seqObj "tuple" vs.toArray 0)).push (seqObj "list" #[] 0) }:=by
  intro st' out e hf hp ⟨p,hg,hsp,ep⟩;refine wpAny_bind (seqEpoch_at ho6 rfl ?_);refine wpAny_bind (listUpdate_at ho6 rfl ?_ (hAs _) (by rw[e,hAd,hp.length_eq,sizeLine_eq];omega));rw[hf];simp only[bne_self_eq_false,hC1,if_false];rw[e];exact wpAny_pure (h out p hp hg hsp ep)
 by_cases h2:vs.toArray.size<2
 ·rw[if_pos h2,if_pos h2];refine wpAny_bind (wpAny_pure ?_);rw[StateT.run_pure];refine wpAny_bind (wpAny_pure (fin _ vs ?_ rfl (hCd _) ⟨Rng vs.length,Array.Perm.refl _,fun i j hij hj=>absurd hj (by rw[hAd]at h2;omega),(qHm vs).symm⟩));show(vs.toArray.zip vs.toArray).map (·.2)=vs.toArray;apply hDs.mp;rw[hDt,hE8];exact hDb (hA6 _)
 ·rw[if_neg h2,if_neg h2];have hl2:2<=vs.length:=by rw[hAd]at h2;omega
  refine wpAny_bind (kas_kind (T:=.type "list") hl2 (fun v hv=>?_) (by decide) (by decide) ?_)
  ·obtain⟨t,_,b,its,rfl,⟨o,g,c,_⟩,st⟩:=qJh ht v hv;have nb:b≠a:=fun z=>hna _ hv (by rw[z])
   exact kitAt_ty _ _ ⟨o,keep b o nb g,c⟩
  refine wpAny_bind (wpAny_mono (kat_run (ks:=vs) (Q:=fun st' s'=>s'={ s with heap:=((s.heap.update a (Obj.mapSeq fun _=>#[])).push (seqObj "tuple" vs.toArray 0)).push (seqObj "list" #[] 0) }/\∃out:List Value,(arrOf st').map (·.2)=out.toArray/\failedOf st'=none/\out.Perm vs/\∃p,Gd vs.length p/\SPk (ltI ts) p vs.length/\out=p.toList.map (fun i=>vs.getD i Value.none)) (G:=fun p s'=>s'={ s with heap:=((s.heap.update a (Obj.mapSeq fun _=>#[])).push (seqObj "tuple" vs.toArray 0)).push (seqObj "list" #[] 0) }/\Gd vs.length p/\SPk (ltI ts) p vs.length) rfl hl2 h64 (fun p st' s' a1 a2 a3 a4=>?_) ?_) ?_ fun _ _ e=>e)
  ·obtain⟨rfl,g,sp⟩:=a4;refine⟨rfl,_,kat_snds rfl a2,a3,?_,p,g,sp,rfl⟩;have q:=(hC2.mp g).map fun i=>vs.getD i Value.none
   exact q.trans (List.Perm.of_eq (qHm vs))
  ·refine qV8 (qXk ts) (fun i j C hi hj hC=>?_) (by omega) fun p g sp=>⟨rfl,g,sp⟩
   obtain⟨x1,y1,z1,v1,w1⟩:=qGr keep ht hna hi;obtain⟨x2,y2,z2,v2,w2⟩:=qGr keep ht hna hj;show wpAny _ _ (keyLt' _ (vs.getD i Value.none) (vs.getD j Value.none)) C _ _;rw[v1,v2];exact qLc hu z1 z2 w1 w2 hC
  ·rintro⟨⟨⟩,st'⟩ s' ⟨rfl,out,q1,q2,q3,q4⟩;exact fin st' out q1 q2 q3 q4
end
section
variable{X:Cx}
theorem qMy(I:Inv X pins σ H s)(k:∀b o,s.heap.get? b=some o->h'.get? b=some o):∀ {as:List Addr} {ts:List (List Str)},Paired (fun a t=>SqL X.K H a (t.map V.str)) as ts->Paired (zAr h') (as.map Value.ref) ts
 |_,_,.nil=>.nil
 |_,_,.cons h t=>by
  obtain⟨its,rv,⟨o,n,e,c,_,dt⟩,_⟩:=I.list h;exact .cons ⟨_,its.toArray,rfl,⟨o,k _ _ e,c,_,dt⟩,by simpa using qCx rv⟩ (qMy I k t)
theorem qMz(I:Inv X pins σ H s):∀ {as:List Addr} {ts:List (List Str)},Paired (fun a t=>SqL X.K H a (t.map V.str)) as ts->∀b∈as,b<s.heap.objs.size
 |_,_,.nil,b,hb=>by cases hb
 |_,_,.cons h t,b,hb=>by
  rcases hAg.mp hb with z|z
  ·subst z;obtain⟨its,rv,⟨o,n,e,_⟩,_⟩:=I.list h;exact Heap.lt_size e
  ·exact qMz I t b z
theorem qIs(hu:X.A.units+2<cLine):qB7 X (.builtin "sorted") (fun xs H Q=>∃(p:Addr) (as:List Addr) (ts:List (List Str)),xs=[.ref p]/\SqL X.K H p (as.map V.ref)/\Paired (fun a t=>SqL X.K H a (t.map V.str)) as ts/\as.length<64/\∀(r:Addr) (o:Array Nat),H r=none->Gd as.length o->SPk (ltI ts) o as.length->Q (.ref r) (upd H r (.lst ((o.toList.map fun i=>as.getD i 0).map V.ref)))):=by
 intro pins s σ H xs us Q I r h;obtain⟨p,as,ts,rfl,hq,ht,h64,q⟩:=h;obtain⟨u,rfl,rx⟩:=qCv r;cases rx;obtain⟨its,rv,pl,hz⟩:=I.list hq;have ei:=refs_of rv;subst ei;refine Calls.call_function_entry kind_sorted plain_sorted entry_sorted (args_sorted1 _) ?_;unfold Builtin.«sorted»;refine wpAny_bind (m:=checkCount "sorted" 1 1 _) (wpAny_pure (wpAny_bind (collect_list pl.isList ?_ (by rw[hA1,sizeLine_eq];omega))));refine wpAny_bind (wpAny_newList ?_ (by rw[hA1,sizeLine_eq];omega));have hsz:((s.heap.push (seqObj "list" #[] 0)).update s.heap.objs.size (Obj.mapSeq (·++(as.map Value.ref).toArray))).objs.size=s.heap.objs.size+1:=by rw[Heap.size_update,size_push']
 have hoL:(((s.heap.push (seqObj "list" #[] 0)).update s.heap.objs.size (Obj.mapSeq (·++(as.map Value.ref).toArray))).push (seqObj "list" (as.map Value.ref).toArray 0)).get? (s.heap.objs.size+1)=some (seqObj "list" (as.map Value.ref).toArray 0):=by
  rw[<-hsz];exact Heap.get?_push_size _ rfl
 have keep:∀b o,s.heap.get? b=some o->(((s.heap.push (seqObj "list" #[] 0)).update s.heap.objs.size (Obj.mapSeq (·++(as.map Value.ref).toArray))).push (seqObj "list" (as.map Value.ref).toArray 0)).get? b=some o:=fun b o e=>by
  have hlt:b<s.heap.objs.size:=Heap.lt_size e;rw[Heap.get?_push_ne _ _ _ (by rw[hsz];exact hAn (hBk hlt)),Heap.get?_update_ne _ _ _ _ (hAn hlt),Heap.get?_push_ne _ _ _ (hAn hlt)];exact e
 show wpAny _ _ _ _ _ { s with heap:=((s.heap.push (seqObj "list" #[] 0)).update s.heap.objs.size (Obj.mapSeq (·++(as.map Value.ref).toArray))).push (seqObj "list" (as.map Value.ref).toArray 0) };rw[hsz];have tp:=qMy (h':=((s.heap.push (seqObj "list" #[] 0)).update s.heap.objs.size (Obj.mapSeq (·++(as.map Value.ref).toArray))).push (seqObj "list" (as.map Value.ref).toArray 0)) I keep ht;refine wpAny_bind (wpAny_holding (wpAny_call_entry slot_list_sort ⟨_,hoL,rfl⟩ entry_list_sort (qKo ?hu hoL tp (by rw[hA1];exact h64) (fun v hv z=>?_) fun out o hp hg hsp eo=>⟨_,rfl,?_⟩) (args_list_sort _)))
 case hu=>omega
 ·obtain⟨b,hb,e⟩:=hA3.mp hv;rw[<-e]at z;injection z with z
  have lt:=qMz I ht b hb;exact absurd lt (by rw[z];exact Nat.not_lt_of_le (hB7 _))
 rw[hA1]at hg hsp;rw[qQe fun i hi=>qVd hg hi]at eo;subst eo;have nz:H (s.heap.objs.size+1)=none:=I.hok.fresh (hB7 _);obtain⟨e,he⟩:=sortedAll_at s.heap (as.map Value.ref) ((o.toList.map fun i=>as.getD i 0).map Value.ref).toArray;refine wpAny_pure ⟨_,rfl,.ref (s.heap.objs.size+1),_,I.laid (t':=s.toks) (a:=s.heap.objs.size+1) (o:=.lst ((o.toList.map fun i=>as.getD i 0).map V.ref)) (h':=sortedAll s.heap (as.map Value.ref) ((o.toList.map fun i=>as.getD i 0).map Value.ref).toArray) (fun b o eb=>sortedAll_old eb) (hB7 _) ⟨?_,(o.toList.map fun i=>as.getD i 0).map Value.ref,e,qEc _,he⟩,rfl,q _ o nz hg hsp⟩;rw[hA1,hA1,zAe hg];exact hBi (qAj (by omega))
end
abbrev Srt(a:List (List Str)):Prop:=a.Pairwise fun x y=>ltL y x=false
theorem qLe(ts:List (List Str)):(List.range ts.length).map (fun i=>ts.getD i [])=ts:=by
 refine hD8 fun i=>?_
 by_cases hi:i<ts.length
 ·rw[hAk,hCs hi,hA2 hi];show some (ts.getD i [])=_;rw[hAe,hA2 hi];rfl
 ·rw[hBw (by simp;omega),hBw (by omega)]
theorem qN1(g:Gd ts.length o)(sp:SPk (ltI ts) o ts.length):Srt (o.toList.map fun i=>ts.getD i [])/\(o.toList.map fun i=>ts.getD i []).Perm ts:=by
 have sz:=g.size;refine⟨?_,?_⟩
 ·rw[Srt,hDh];intro i j hi hj hij;rw[hA1]at hi hj;have h:=sp i j hij (by simpa [sz] using hj);rw[List.getElem_map,List.getElem_map];have e:∀k (hk:k<o.toList.length),o.getD k 0=o.toList[k]:=fun k hk=>by
   have hk':k<o.size:=by simpa using hk
   simp[Array.getD,hk']
  rw[e i hi,e j hj]at h;exact h
 ·have q:=(hC2.mp g).map fun i=>ts.getD i []
  exact q.trans (List.Perm.of_eq (qLe ts))
theorem qBo{X:Cx}{target iter elt:Expr}{ifs:List Expr}{scope sc:Scope}{pos:Pos}{N N':List Str}{sub:List (Option Nat)}{wi:TI}{g:TG}{tt:TT}{te:TE}(hN:X.N=N)(hsc:X.env.scope=sc)
  (O:CmpOk N sc N' scope sub) (hc:X.calm=true) (hi:PI X target iter wi)
  (B:∀C s H fp,PG (qDn X scope N' C s H fp) target g/\PTs (qDn X scope N' C s H fp) ifs tt/\PE (qDn X scope N' C s H fp) elt te)
  (hs:∀x,foldedSetIterable iter X.env x=pure x:=by intro _;rfl):PE X (.ListComp elt [⟨target,iter,ifs,0⟩] scope pos) (qSm sub wi g tt te) :=
 qWw hc (by rw[hN,hsc];exact O) hi B hs
theorem qG7{X:Cx}{target iter elt:Expr}{ifs:List Expr}{scope sc:Scope}{pos:Pos}{N N':List Str}{sub:List (Option Nat)}{wi:TI}{g:TG}{tt:TT}{te:TE}{i:Nat}{y:Str}{py spos:Pos}(hN:X.N=N)(hsc:X.env.scope=sc)
  (O:CmpOk N sc N' scope sub) (hc:X.calm=true) (hi:PI X target iter wi)
  (B:∀C s H fp,PG (qDn X scope N' C s H fp) target g/\PTs (qDn X scope N' C s H fp) ifs tt/\PE (qDn X scope N' C s H fp) elt te)
  (nd:X.N.Nodup) (hy:X.N[i]?=some y) (hx:Loc X.env.scope y)
  (hsw:swapsWith (.ListComp elt [⟨target,iter,ifs,0⟩] scope pos) (some (.Name y py)) spos.line X.env=pure true:=by rfl)
  (hs:∀x,foldedSetIterable iter X.env x=pure x:=by intro _;rfl) (hf:X.fn y=true\/X.env.scope.names.lookup y=some .local:=by first|exact .inl rfl|exact .inr rfl|assumption) :
  PS X (.Assign [.Name y py] (.ListComp elt [⟨target,iter,ifs,0⟩] scope pos) spos) (qYo (qSm sub wi g tt te) (qQ6 i)) :=
 qWt hc (by rw[hN,hsc];exact O) hi B nd hy hx hsw hs hf
end L2
namespace My
open PySem L2
structure Cl(P:Program)(w:World)(K:PySem.W.Frag)(mg:Str->Option Value)(base:Heap)(CX:CXT)(k:Nat)(f:Addr)(fd:FuncData)(ps:List Str)(sp:Sp)(n:Str):Prop where
 g:FnOk P w K mg base CX k f fd ps sp
 b:qKa K fd ps []
 k:PySem.W.keepIn K (.ref f)=true
 m:mg n=some (.ref f)
theorem qAt{X:Cx}{CX:CXT}{k:Nat}{f:Addr}{fd:FuncData}{ps:List Str}{sp:Sp}{x:Str}{dvs:List V}{E:XK}{e:Expr}{es:List Expr}{t:TA}{p pos:Pos}(G:Cl X.prog X.w X.K X.mg X.base CX k f fd ps sp x)(hr:Room k X.A)(hg:Gl X x)(hd:qA7 dvs [])(hx:qNh CX X E)
  (ha:PA X (e :: es) t) (hdb:(x == ("__debug__" : Str))=false:=by decide) (he:starEach (e :: es) X.env=(false,eval e X.env) :: starEach es X.env:=by rfl) (hpl:(backTo pos (starEach es X.env)).any (·.1)=false:=by rfl):PE X (.Call (.Name x p) (e :: es) [] pos) (qYn sp dvs E t):=qK0 G.g hr hg G.m G.k G.b hd hx ha hdb he hpl
noncomputable def top(i:Nat):Stmt:=PySem.Challenge.pw_roundsalone_k50_whole_stars_are_quiet.main.body.getD i (.Pass ⟨0,0,0,0⟩)
noncomputable abbrev qWf:Stmt:=top 1
noncomputable abbrev qL7:Stmt:=top 2
noncomputable abbrev qWg:Stmt:=top 3
noncomputable abbrev qSz:Stmt:=top 4
noncomputable abbrev qSy:Stmt:=top 5
noncomputable abbrev qWh:Stmt:=top 6
noncomputable abbrev qZb:Stmt:=top 7
noncomputable abbrev qNs:Stmt:=top 8
noncomputable abbrev qSx:Stmt:=top 9
noncomputable abbrev qL5:Stmt:=top 11
noncomputable abbrev qPo:Stmt:=top 12
noncomputable abbrev qPm:Stmt:=top 17
noncomputable abbrev qD1:Stmt:=top 19
noncomputable abbrev qFn:Stmt:=top 21
noncomputable abbrev qS0:Stmt:=top 22
noncomputable abbrev qH6:Stmt:=top 23
noncomputable abbrev qPk:Stmt:=top 24
noncomputable abbrev zBm:Stmt:=top 26
noncomputable abbrev qL8:Stmt:=top 27
noncomputable abbrev qWi:Stmt:=top 29
noncomputable abbrev qPl:Stmt:=top 30
noncomputable abbrev qWe:Stmt:=top 31
noncomputable abbrev qHc:Stmt:=top 32
noncomputable abbrev zBl:Stmt:=top 33
noncomputable abbrev zAw:Stmt:=top 34
noncomputable abbrev zAx:Stmt:=top 35
noncomputable abbrev zAv:Stmt:=top 36
noncomputable abbrev qL6:Stmt:=top 37
noncomputable abbrev zBk:Stmt:=top 38
noncomputable abbrev qS2:Stmt:=top 39
noncomputable abbrev zBj:Stmt:=top 40
noncomputable abbrev qS3:Stmt:=top 41
noncomputable abbrev qS4:Stmt:=top 42
noncomputable abbrev qX4:Stmt:=top 43
noncomputable abbrev qSb:Stmt:=top 44
noncomputable abbrev qZc:Stmt:=top 45
noncomputable abbrev qPn:Stmt:=top 46
def Ext(H H':Hp):Prop:=∀b o,H b=some o->H' b=some o
theorem Ext.refl(H:Hp):Ext H H:=fun _ _ h=>h
theorem Ext.trans{H H1 H2:Hp}(a:Ext H H1)(b:Ext H1 H2):Ext H H2:=fun c o h=>b c o (a c o h)
theorem Ext.new{H:Hp}{p:Addr}(h:H p=none)(o:HO):Ext H (upd H p o):=fun b u q=>by rw[qAg (qAi q h)];exact q
theorem Ext.none{H H':Hp}(e:Ext H H'){p:Addr}(h:H' p=none):H p=none:=by
 cases q:H p with
 |none=>rfl
 |some o=>rw[e p o q]at h;cases h
def qUu(K:PySem.W.Frag):Sp:=fun vs H Q _=>∃(a:Addr) (ns:List Int) (k:Int),vs=[.ref a,.int k]/\SqL K H a (ns.map V.int)/\0<=k/\∀v,Q (.int v) H
section
variable{P:Program}{w:World}{K:PySem.W.Frag}{mg:Str->Option Value}{base:Heap}{f f1:Addr}{fd fd1:FuncData}
theorem qZa:FnScope ["_law_script","_law_k"] ["_law_script","_law_k"] (qAd qWi):=⟨rfl,rfl,rfl,by decide +kernel,rfl,by decide +kernel,by decide +kernel⟩
theorem qW9(F:Fun K "_law_cell_at" "_law_cell_at" qWi f fd)(ml:mg "len" = none):FnOk P w K mg base CX0 1 f fd ["_law_script","_law_k"] (qUu K):=by
 refine F.ok qZa (fun vs H Q E h=>?_) (fun cdv A outer s H vs Q E hr h=>?_)
 ·obtain⟨a,ns,k,rfl,_⟩:=h;rfl
 obtain⟨a,ns,k,rfl,hS,h0,q⟩:=h;refine⟨_,qAc (qB2 (qAp qQf (pv 1) (qAn qAo rfl ml hBf (qAa (pv 0) qAb)) (qAx _)) (qAf (qAv (qCm qC4 (pv 0) (pv 1) (fun _ _=>rfl)))) qA4) (qAf (qAv qAe)),?_⟩;try dsimp only[Cx.wish,qCd]
 refine⟨_,rfl,_,rfl,a,_,rfl,.inl hS,_,_,rfl,rfl,_,rfl,?_⟩;refine qDa (fun c=>?_) (fun c=>q 0);have c':k<(((ns.map V.int).length:Nat):Int):=of_decide_eq_true c;rw[hA1]at c';have hk:k.toNat<ns.length:=by omega
 have hv:atI (ns.map V.int) ((k.toNat:Nat):Int)=some (.int ns[k.toNat]):=atI_nat (by rw[hAk,hA2 hk] <;> rfl);rw[Int.toNat_of_nonneg h0]at hv;exact⟨_,rfl,_,rfl,a,_,_,_,rfl,rfl,hS,hv,q _⟩
end
theorem qEb:bootBuiltins "isinstance" = some (.builtin "isinstance"):=by decide +kernel
theorem kit_same(K:PySem.W.Frag)(t:Value):PySem.W.kitOne K t t=some true:=by unfold PySem.W.kitOne;rw[if_pos (beq_self_eq_true t)]
theorem qLm:bootBuiltins "range" = some (.type "range"):=by decide +kernel
theorem qR3:bootBuiltins "any" = some (.builtin "any"):=by decide +kernel
theorem qFg(n:Str):∀other:List Str,inV (.str n) (other.map V.str)=decide (n∈other)
 |[]=>by simp[inV]
 |x :: r=>by
  have ih:=qFg n r;unfold inV at ih ⊢;rw[hB8,hDe,ih];show(x == n || decide (n∈r))=_;by_cases e:n=x
  ·subst e;simp
  ·have e':¬x=n:=fun z=>e z.symm
   simp[e,e']
theorem flat_strs:∀other:List Str,(other.map V.str).all qG8=true:=fun other=>by
 rw[hD0];intro x hx;obtain⟨y,_,rfl⟩:=hA3.mp hx;rfl
def LsS(H:Hp)(a:Addr)(ss:List Str):Prop:=H a=some (.lst (ss.map V.str))
noncomputable abbrev sg:Str:="abcdefghijklmnopqrstuvwxyz0123456789"
noncomputable def sgC(n:Nat):Nat:=sg.cps.toList.getD n 0
theorem qL2:sg.cps.toList.length=36:=by decide +kernel
theorem zBf:sg.cps.toList.Nodup:=by decide +kernel
theorem qSu:∀c∈sg.cps.toList,c<128:=by decide +kernel
theorem qSv{i:Int}(h0:0<=i)(h1:i<36):atI sg.cps.toList i=some (sgC i.toNat):=by
 have hk:i.toNat<sg.cps.toList.length:=by rw[qL2];omega
 have:=atI_nat (xs:=sg.cps.toList) (j:=i.toNat) (v:=sgC i.toNat) (by
  unfold sgC;rw[hAe,hA2 hk];rfl)
 rw[Int.toNat_of_nonneg h0]at this;exact this
theorem qO9{i j:Nat}(hi:i<36)(hj:j<36)(e:sgC i=sgC j):i=j:=by
 have hi':i<sg.cps.toList.length:=by rw[qL2];exact hi
 have hj':j<sg.cps.toList.length:=by rw[qL2];exact hj
 unfold sgC at e;rw[hAe,hAe,hA2 hi',hA2 hj']at e;exact(hDq zBf).mp e
theorem qEg{i:Nat}(hi:i<36):sgC i<128:=by
 have hi':i<sg.cps.toList.length:=by rw[qL2];exact hi
 unfold sgC;rw[hAe,hA2 hi'];exact qSu _ (hBn hi')
def Sm(x:Str):Prop:=∀c∈x.cps.toList,c<128
theorem Sm.ok{x:Str}(h:Sm x):PyData.strOk x=true:=by
 unfold PyData.strOk;rw[Array.all_eq_true_iff_forall_mem];intro c hc;have:=h c (by simpa using hc);exact decide_eq_true (by omega)
theorem Sm.app{x y:Str}(h:Sm x)(h':Sm y):Sm (x++y):=fun c hc=>by
 rw[Str.cps_append,hBx,hAh]at hc;exact hc.elim (h c) (h' c)
theorem Sm.one{c:Nat}(h:c<128):Sm ⟨#[c]⟩:=fun d hd=>by
 have:d=c:=by simpa using hd
 omega
theorem Sm.nil:Sm "":=fun c hc=>by
 have:c∈([]:List Nat):=hc;cases this
theorem Sm.slice{x:Str}(h:Sm x)(l u:Option Int):Sm (Txt.slice x l u):=fun c hc=>by
 unfold Txt.slice at hc;split at hc
 ·exact h c hc
 ·simp only[hDd]at hc;obtain⟨i,_,hi⟩:=hc;exact h c (by simpa using Array.mem_of_getElem? hi)
noncomputable def qF0(r:List Str):PyData:=.list (r.map .str)
noncomputable def qNu(F:List (List Str)):PyData:=.list (F.map qF0)
theorem qM9:∀a b:List Str,PyData.eqvAll (a.map .str) (b.map .str)=decide (a=b)
 |[],[]=>rfl
 |[],_ :: _=>rfl
 |_ :: _,[]=>rfl
 |x :: a,y :: b=>by
  show(x == y && PyData.eqvAll (a.map .str) (b.map .str))=_;rw[qM9 a b];by_cases e:x=y
  ·subst e;simp
  ·simp[e]
theorem qIo(a b:List Str):PyData.eqv (qF0 a) (qF0 b)=decide (a=b):=qM9 a b
def SOk(r:List Str):Prop:=∀x∈r,PyData.strOk x=true
theorem qIk:∀ {r:List Str},SOk r->PyData.canLayAll0 (r.map .str)=true/\PyData.depthAll (r.map .str)=0
 |[],_=>⟨rfl,rfl⟩
 |x :: r,h=>by
  obtain⟨h1,h2⟩:=qIk (r:=r) fun y hy=>h y (hA8 _ hy)
  refine⟨?_,?_⟩
  ·show(PyData.strOk x && PyData.canLayAll0 (r.map .str))=true;rw[h1,h x hA9];rfl
  ·show max 0 (PyData.depthAll (r.map .str))=0;rw[h2];rfl
theorem shaped_row{r:List Str}(h:SOk r):SeqAt.shaped (qF0 r)=true:=by
 obtain⟨h3,h4⟩:=qIk h;show(PyData.canLayAll0 (r.map .str) && decide (PyData.depthAll (r.map .str)+1<=64))=true;rw[h3,h4];rfl
theorem qRf{K:PySem.W.Frag}{H:Hp}:∀r:List Str,DRs K H (r.map V.str) (r.map .str)
 |[]=>.nil
 |x :: r=>.cons (.str x) (qRf r)
theorem qGx{K:PySem.W.Frag}{H:Hp}{a:Addr}{r:List Str}(h:LsS H a r):DR K H (.ref a) (qF0 r):=.lst (SqL.of h) (qRf r)
theorem qFo{k:Nat}{A:Around}(hr:Room k A):A.units+64<cLine:=by have:=hr.un;omega
theorem qBt:bootBuiltins "list" = some (.type "list"):=by decide +kernel
theorem qB5:bootBuiltins "sorted" = some (.builtin "sorted"):=by decide +kernel
theorem qEe{α:Type}{P:List α->Prop}(h0:P [])(hs:∀l t,P l->P (l++[t]))(l:List α):P l:=by
 have:∀r:List α,P r.reverse:=fun r=>by
  induction r with
  |nil=>exact h0
  |cons a r ih=>rw[List.reverse_cons];exact hs _ _ ih
 have q:=this l.reverse
 rwa [List.reverse_reverse]at q
abbrev Tr:=Str×Str×Str
noncomputable abbrev lab(f:Str->Str)(t:Tr):Str->Str:=fun p=>if f p=f t.2.2 then f t.2.1 else f p
noncomputable def zCv(net:List Tr):Str->Str:=net.foldl lab id
def zDj(net:List Tr)(x:Str):Prop:=∃t∈net,x=t.2.1\/x=t.2.2
noncomputable def zA5(kept:List Tr)(t:Tr):List Tr:=if zCv kept t.2.1=zCv kept t.2.2 then kept else kept++[t]
noncomputable def zA4(net:List Tr):List Tr:=net.foldl zA5 []
abbrev qNg(l:List Str):Prop:=l.Pairwise fun a b=>qS1 a b=true
theorem qMe:∀ {a b:List Str},qNg a->qNg b->(∀x,x∈a↔x∈b)->a=b
 |[],[],_,_,_=>rfl
 |[],y :: b,_,_,h=>by have:=(h y).mpr hA9;cases this
 |x :: a,[],_,_,h=>by have:=(h x).mp hA9;cases this
 |x :: a,y :: b,ha,hb,h=>by
  obtain⟨a1,a2⟩:=hBl.mp ha;obtain⟨b1,b2⟩:=hBl.mp hb;have e:x=y:=by
   rcases hAg.mp ((h x).mp hA9) with z|z
   ·exact z
   ·rcases hAg.mp ((h y).mpr hA9) with w|w
    ·exact w.symm
    ·have q:=qE7 (b1 x z) (a1 y w);rw[qEi]at q;cases q
  subst e;refine congrArg _ (qMe a2 b2 fun z=>⟨fun hz=>?_,fun hz=>?_⟩)
  ·rcases hAg.mp ((h z).mp (hA8 _ hz)) with w|w
   ·have:=a1 z hz;rw[w,qEi]at this;cases this
   ·exact w
  ·rcases hAg.mp ((h z).mpr (hA8 _ hz)) with w|w
   ·have:=b1 z hz;rw[w,qEi]at this;cases this
   ·exact w
theorem qBm{α β:Type}{R:α->β->Prop}:∀ {as:List α} {bs:List β} {i:Nat} {a:α},Paired R as bs->as[i]?=some a->∃b,bs[i]?=some b/\R a b
 |_,_,_,_,.nil,e=>by simp at e
 |_,_,0,_,.cons h _,e=>by simp at e;subst e;exact⟨_,rfl,h⟩
 |_,_,i+1,_,.cons _ t,e=>by
  obtain⟨b,h1,h2⟩:=qBm (i:=i) t (by simpa using e);exact⟨b,by simpa using h1,h2⟩
theorem qAm{α:Type}{l:List α}{i:Nat}{t:α}(h:l[i]?=some t):l.take (i+1)=l.take i++[t]:=by rw[List.take_add_one,h];rfl
theorem at_lt{α:Type}{l:List α}{i:Nat}{t:α}(h:l[i]?=some t):i<l.length:=(hAq.mp h).1
theorem qPu:∀(l:List Str) (p:Str),PyProof.Rows.risingS p l=true->(p :: l).Nodup->qNg (p :: l)
 |[],p,_,_=>hC4 _ _
 |x :: r,p,h,nd=>by
  have h':(!PySem.Spec.ltCps x.cps.toList p.cps.toList && PyProof.Rows.risingS x r)=true:=h;rw[hB4]at h';have nd':=hBp.mp nd;have ih:=qPu r x h'.2 nd'.2;have px:qS1 p x=true:=by
   have z:=h'.1;rw[PyProof.Rows.ltCps_eq]at z;rcases sLtB_tri p x with t|t|t
   ·exact t
   ·exact absurd t (fun e=>nd'.1 (by rw[e];exact hA9))
   ·rw[decide_eq_true (of_decide_eq_true t)]at z;cases z
  refine hBl.mpr ⟨fun y hy=>?_,ih⟩;rcases hAg.mp hy with e|hy
  ·rw[e];exact px
  ·exact qE7 px ((hBl.mp ih).1 y hy)
theorem qPt{l:List Str}(h:PyProof.Rows.sortedS l=true)(nd:l.Nodup):qNg l:=by
 cases l with
 |nil=>exact List.Pairwise.nil
 |cons x r=>exact qPu r x h nd
def qX2(net:List Tr)(ps:List Str):Prop:=ps.Nodup/\∀x,x∈ps↔zDj net x
theorem Ext.over{H H':Hp}{d:Addr}(e:Ext H H')(h:H d=Option.none)(o:HO):Ext H (upd H' d o):=fun b u q=>by rw[qAg (qAi q h)];exact e b u q
noncomputable def hD(ps:List Str)(f:Str->Str):List (Key×V):=ps.map fun p=>(Sum.inr p,V.str (f p))
theorem zBp{k:Nat}{A:Around}(hr:Room k A):A.units+2<cLine:=by have:=hr.un;omega
def qDb(H:Hp)(p:Addr)(F:List (List Str)):Prop:=∃as:List Addr,H p=some (.lst (as.map V.ref))/\Paired (LsS H) as F
theorem qDb.ext{H H':Hp}{p:Addr}{F:List (List Str)}(h:qDb H p F)(e:Ext H H'):qDb H' p F:=by
 obtain⟨as,h1,h2⟩:=h;exact⟨as,e _ _ h1,Paired.mapP h2 fun a r z=>e _ _ z⟩
def qR8(H0 H:Hp)(fo:Addr)(F:List (List Str)):Prop:=∃as:List Addr,H fo=some (.lst (as.map V.ref))/\Paired (fun a r=>LsS H a r/\H0 a=none/\a≠fo) as F
theorem qR8.rows{H0 H:Hp}{p:Addr}{F:List (List Str)}(h:qR8 H0 H p F):qDb H p F:=by
 obtain⟨as,h1,h2⟩:=h;exact⟨as,h1,Paired.mapP h2 fun a r z=>z.1⟩
def zCi(H0 H:Hp)(fo:Addr)(F:List (List Str)):Prop:=∃as:List Addr,as.Nodup/\H fo=some (.lst (as.map V.ref))/\Paired (fun a r=>LsS H a r/\H0 a=none/\a≠fo) as F
theorem qCk{α β:Type}{R:α->β->Prop}:∀ {as:List α} {bs:List β},Paired R as bs->∀a∈as,∃b∈bs,R a b
 |_,_,.nil,a,h=>by cases h
 |_,_,.cons h t,a,ha=>by
  rcases hAg.mp ha with rfl|z
  ·exact⟨_,hA9,h⟩
  ·obtain⟨b,hb,hr⟩:=qCk t a z;exact⟨b,hA8 _ hb,hr⟩
theorem qGw(as:List Addr):(List.range as.length).map (fun i=>as.getD i 0)=as:=by
 refine hD8 fun i=>?_
 by_cases hi:i<as.length
 ·rw[hAk,hCs hi,hA2 hi];show some (as.getD i 0)=_;rw[hAe,hA2 hi];rfl
 ·rw[hBw (by simp;omega),hBw (by omega)]
theorem pick_perm{as:List Addr}{o:Array Nat}(g:Gd as.length o):(o.toList.map fun i=>as.getD i 0).Perm as :=
 ((hC2.mp g).map fun i=>as.getD i 0).trans (List.Perm.of_eq (qGw as))
theorem qJb{R:Addr->List Str->Prop}:∀ {as:List Addr} {ts:List (List Str)} {i:Nat},Paired R as ts->i<as.length->R (as.getD i 0) (ts.getD i [])
 |_,_,i,.nil,hi=>absurd hi (hCx _)
 |_,_,0,.cons h _,_=>h
 |_,_,i+1,.cons _ t,hi=>by simpa using qJb (i:=i) t (by simpa using hi)
theorem qGq{R:Addr->List Str->Prop}{as:List Addr}{ts:List (List Str)}(pr:Paired R as ts):∀ {l:List Nat},(∀i∈l,i<as.length)->Paired R (l.map fun i=>as.getD i 0) (l.map fun i=>ts.getD i [])
 |[],_=>.nil
 |i :: l,h=>.cons (qJb pr (h i hA9)) (qGq pr fun j hj=>h j (hA8 _ hj))
noncomputable abbrev enV(e:Int×Int):List V:=[.int e.1,.int e.2]
def zAt(H:Hp)(p:Addr)(es:List (Int×Int)):Prop:=∃as:List Addr,H p=some (.lst (as.map V.ref))/\Paired (fun a e=>H a=some (.tup (enV e))) as es
def zDo(sp:Int)(e:Int×Int):Prop:=(0<=e.1/\e.1<sp)/\0<=e.2/\e.2<sp
section
variable{P:Program}{w:World}{K:PySem.W.Frag}{mg:Str->Option Value}{base:Heap}{f f1 f2:Addr}{fd fd1 fd2:FuncData}
structure EI(H:Hp)(sp n:Int)(i:Nat)(σ:St)(H':Hp)(b' h:Int)(hp fo:Addr)(hs:List Int)(es:List (Int×Int)):Prop where
 st:∃x6 x7 x8 x9:Option V,σ=[some (.int b'),some (.int n),some (.int sp),some (.ref hp),some (.ref fo),some (.int h),x6,x7,x8,x9]
 ext:Ext H H'
 fo0:H fo=none
 ne:hp≠fo
 hsA:H' hp=some (.lst (hs.map V.int))
 hsl:(hs.length:Int)=sp
 esA:zAt H' fo es
 esl:es.length<=i
 esi:∀e∈es,zDo sp e
end
end My
namespace L2
open PySem PySem.Spec PyProof.Rows
theorem qQ8{n:Nat}{Ls:Hp->Prop}{xv:Nat->List V}{g:TG}{tb:TS}{D:Ends}{σ:St}{H:Hp}(Pv:Nat->St->Hp->Prop)(h0:Pv 0 σ H)(hl:∀i σ H,i<=n->Pv i σ H->Ls H)
  (hs:∀i σ H T,i<n->Pv i σ H->H T=none->g (.ref T) σ (upd H T (.tup (xv i))) fun σ2 H2=>tb { D with nx:=Pv (i+1),ct:=Pv (i+1),bk:=D.nx } σ2 H2) (hd:∀σ H,Pv n σ H->D.nx σ H) :
  ∃W:Nat->Nat->St->Hp->Prop,(∃m,W 0 m σ H)/\∀i m σ H,W i m σ H ->
   ((Itp n Ls xv).stop i H/\D.nx σ H)\/((Itp n Ls xv).go i H/\∃N:St->Hp->Prop,(∀σ' H',N σ' H'->∃m',m'<m/\W (i+1) m' σ' H')/\∀x H',(Itp n Ls xv).yld i H x H'->g x σ H' fun σ2 H2=>tb { D with nx:=N,ct:=N,bk:=D.nx } σ2 H2):=by
 refine⟨fun i m σ H=>m=n - i/\i<=n/\Pv i σ H,⟨n,by simp,hAs _,h0⟩,?_⟩;rintro i m σ H ⟨rfl,hi,p⟩;have q:=hl i σ H hi p;by_cases hlt:i<n
 ·refine .inr ⟨⟨q,hlt⟩,Pv (i+1),fun σ' H' p'=>⟨n - (i+1),by omega,rfl,hlt,p'⟩,fun x H' y=>?_⟩;obtain⟨T,e1,e2,e3⟩:=y;subst e2 e3;exact hs i σ H T hlt p e1
 ·have e:i=n:=by omega
  subst e;exact .inl ⟨⟨q,rfl⟩,hd σ H p⟩
end L2
namespace My
open PySem L2
theorem paired_mem{α β:Type}{R:α->β->Prop}:∀ {as:List α} {bs:List β},Paired R as bs->∀a∈as,∃b∈bs,R a b
 |_,_,.nil,a,h=>by cases h
 |_,_,.cons h t,a,ha=>by
  rcases hAg.mp ha with rfl|z
  ·exact⟨_,hA9,h⟩
  ·obtain⟨b,hb,hr⟩:=paired_mem t a z;exact⟨b,hA8 _ hb,hr⟩
noncomputable def t0:Tr:=("","","")
theorem qDc{x i:Nat}(h:x<2^i){j:Nat}(hj:i<=j):x.testBit j=false :=
 Nat.testBit_lt_two_pow (hAm h (hBt (by decide) hj))
theorem qYg{x i:Nat}(h:x.testBit i=true):2^i<=x:=by
 rcases hDx x (2^i) with z|z
 ·rw[Nat.testBit_lt_two_pow z]at h;cases h
 ·exact z
theorem qLa{x i:Nat}(h1:x.testBit i=true)(h2:x<2^(i+1)):x.log2=i:=by
 have g:=qYg h1;have nz:x≠0:=fun z=>by subst z;simp at h1
 have a:=(Nat.log2_lt nz).mpr h2;have b:=(Nat.le_log2 nz).mpr g;omega
theorem qYf{x i:Nat}(h:x.testBit i=true):i<=x.log2:=by
 have nz:x≠0:=fun z=>by subst z;simp at h
 exact(Nat.le_log2 nz).mpr (qYg h)
theorem qSh{x i:Nat}(h:x.log2<i):x.testBit i=false:=qDc hE9 h
theorem qFk{n:Nat}(h:n % 2=0):n^^^1=n+1:=by
 have d:(n^^^1) / 2=n / 2:=by rw[Nat.xor_div_two];simp
 have b:(n^^^1).testBit 0=true:=by rw[hAu,hAw,hAw];simp[h]
 rw[hAw]at b;have b':=of_decide_eq_true b;omega
theorem qKd{n:Nat}(h:n % 2=1):n^^^1=n - 1:=by
 have d:(n^^^1) / 2=n / 2:=by rw[Nat.xor_div_two];simp
 have b:(n^^^1).testBit 0=false:=by rw[hAu,hAw,hAw];simp[h]
 rw[hAw]at b;have b':=of_decide_eq_false b;omega
theorem qSt{s:Nat}(hs:s≠0):s >>> s.log2=1:=by
 rw[hDi];have a:=Nat.log2_self_le hs;have b:s<2^(s.log2+1):=hE9;rw[Nat.pow_succ]at b;have p:0<2^s.log2:=hDj (by decide);exact Nat.div_eq_of_lt_le (by omega) (by omega)
theorem qHa(x:Nat){s:Nat}(hs:s≠0):x^^^s<x↔x.testBit s.log2=true:=by
 have e:(x^^^s) >>> s.log2=(x >>> s.log2)^^^1:=by rw[Nat.shiftRight_xor_distrib,qSt hs]
 have tb:x.testBit s.log2=decide ((x >>> s.log2) % 2=1):=by rw[Nat.testBit_eq_decide_div_mod_eq,hDi]
 rw[tb];have lt:∀ {a b:Nat},a >>> s.log2<b >>> s.log2->a<b:=fun {a b} h=>by
  rw[hDi,hDi]at h;rcases hDx a b with z|z
  ·exact z
  ·have:=Nat.div_le_div_right (c:=2^s.log2) z;omega
 rcases hBu (x >>> s.log2) with h|h
 ·rw[qFk h]at e;have:x<x^^^s:=lt (by omega);constructor
  ·intro z;omega
  ·intro z;rw[h]at z;simp at z
 ·rw[qKd h]at e;have:x^^^s<x:=lt (by rw[e];exact Nat.sub_one_lt fun z=>by rw[z]at h;cases h);exact⟨fun _=>by simp[h],fun _=>this⟩
noncomputable def rd1(x s:Nat):Nat:=if x.testBit s.log2=true then x^^^s else x
theorem qXh(x:Nat){s:Nat}(hs:s≠0):(if x^^^s<x then x^^^s else x)=rd1 x s:=by
 unfold rd1;by_cases h:x.testBit s.log2=true
 ·rw[if_pos h,if_pos ((qHa x hs).mpr h)]
 ·rw[if_neg h,if_neg (fun z=>h ((qHa x hs).mp z))]
theorem qCq(x s i:Nat):(rd1 x s).testBit i=(x.testBit i ^^ (x.testBit s.log2 && s.testBit i)):=by
 unfold rd1;by_cases h:x.testBit s.log2=true
 ·rw[if_pos h,hAu,h,hBg]
 ·rw[if_neg h];have:x.testBit s.log2=false:=by simpa using h
  rw[this];simp
theorem qTb(s:Nat):rd1 0 s=0:=by unfold rd1;simp
theorem qWq(x y s:Nat):rd1 (x^^^y) s=rd1 x s^^^rd1 y s:=by
 refine hAo fun i=>?_
 rw[qCq,hAu,hAu,hAu,qCq,qCq];cases x.testBit i <;> cases y.testBit i <;> cases x.testBit s.log2 <;> cases y.testBit s.log2 <;> cases s.testBit i <;> rfl
noncomputable def red1(k:List Nat)(x:Nat):Nat:=k.foldl rd1 x
theorem qGk:∀k:List Nat,red1 k 0=0
 |[]=>rfl
 |s :: k=>by show red1 k (rd1 0 s)=0;rw[qTb];exact qGk k
theorem qMh:∀(k:List Nat) (x y:Nat),red1 k (x^^^y)=red1 k x^^^red1 k y
 |[],_,_=>rfl
 |s :: k,x,y=>by show red1 k (rd1 (x^^^y) s)=red1 k (rd1 x s)^^^red1 k (rd1 y s);rw[qWq];exact qMh k _ _
structure RR(k:List Nat):Prop where
 nz:∀s∈k,s≠0
 ap:k.Pairwise fun s t=>t.testBit s.log2=false/\s.testBit t.log2=false
theorem RR.nil:RR []:=⟨fun s h=>(by cases h),.nil⟩
theorem RR.tl{s:Nat}{k:List Nat}(h:RR (s :: k)):RR k:=⟨fun t ht=>h.nz t (hA8 _ ht),(hBl.mp h.ap).2⟩
theorem RR.hd{s:Nat}{k:List Nat}(h:RR (s :: k)):∀t∈k,t.testBit s.log2=false/\s.testBit t.log2=false:=(hBl.mp h.ap).1
theorem RR.ne:∀ {k:List Nat},RR k->∀ {s t:Nat},s∈k->t∈k->s≠t->s.testBit t.log2=false
 |[],_,_,_,hs,_,_=>by cases hs
 |a :: k,h,s,t,hs,ht,e=>by
  rcases hAg.mp hs with rfl|zs
  ·rcases hAg.mp ht with rfl|zt
   ·exact absurd rfl e
   ·exact(h.hd t zt).2
  ·rcases hAg.mp ht with rfl|zt
   ·exact(h.hd s zs).1
   ·exact RR.ne h.tl zs zt e
theorem RR.self{k:List Nat}(h:RR k){s:Nat}(hs:s∈k):s.testBit s.log2=true:=hCk (h.nz s hs)
theorem qEl:∀ {k:List Nat} {x i:Nat},RR k->(∀s∈k,x.testBit s.log2=true->s.testBit i=false)->(red1 k x).testBit i=x.testBit i
 |[],_,_,_,_=>rfl
 |s :: k,x,i,h,hx=>by
  show(red1 k (rd1 x s)).testBit i=_;have b1:(rd1 x s).testBit i=x.testBit i:=by
   rw[qCq];cases q:x.testBit s.log2 with
   |false=>simp
   |true=>rw[hx s hA9 q];simp
  rw[qEl h.tl fun t ht hb=>?_,b1];refine hx t (hA8 _ ht) ?_;rw[qCq,(h.hd t ht).2]at hb
  simpa using hb
theorem qEk:∀ {k:List Nat} {x:Nat},RR k->∀s∈k,(red1 k x).testBit s.log2=false
 |[],_,_,_,hs=>by cases hs
 |a :: k,x,h,s,hs=>by
  show(red1 k (rd1 x a)).testBit s.log2=false;rcases hAg.mp hs with rfl|z
  ·rw[qEl h.tl fun t ht _=>(h.hd t ht).1,qCq,h.self hA9];cases x.testBit s.log2 <;> rfl
  ·exact qEk h.tl s z
theorem qMg:∀ {k:List Nat},RR k->∀s∈k,red1 k s=0
 |[],_,_,hs=>by cases hs
 |a :: k,h,s,hs=>by
  show red1 k (rd1 s a)=0;rcases hAg.mp hs with rfl|z
  ·have:rd1 s s=0:=by unfold rd1;rw[if_pos (h.self hA9),hEb]
   rw[this];exact qGk k
  ·have:rd1 s a=s:=by unfold rd1;rw[if_neg (by rw[(h.hd s z).1];decide)]
   rw[this];exact qMg h.tl s z
theorem qPw{k:List Nat}(h:RR k){x:Nat}(hx:∀s∈k,x.testBit s.log2=false):red1 k x=x :=
 hAo fun i=>qEl h fun s hs z=>by rw[hx s hs]at z;cases z
inductive Spn (l:List Nat):Nat->Prop
 |zero:Spn l 0
 |add {x y:Nat}:x∈l->Spn l y->Spn l (x^^^y)
theorem Spn.mem{l:List Nat}{x:Nat}(h:x∈l):Spn l x:=by
 have:=Spn.add h Spn.zero
 rwa [Nat.xor_zero]at this
theorem Spn.xor{l:List Nat}{x y:Nat}(h:Spn l x)(h':Spn l y):Spn l (x^^^y):=by
 induction h with
 |zero=>rwa [hDy]
 |add m _ ih=>rw[hCn];exact .add m ih
theorem Spn.mono{l l':List Nat}(h:∀x∈l,Spn l' x){y:Nat}(hy:Spn l y):Spn l' y:=by
 induction hy with
 |zero=>exact .zero
 |add m _ ih=>exact(h _ m).xor ih
theorem Spn.lt{l:List Nat}{m:Nat}(h:∀x∈l,x<2^m){y:Nat}(hy:Spn l y):y<2^m:=by
 induction hy with
 |zero=>exact hDj (by decide)
 |add hm _ ih=>exact hC9 (h _ hm) ih
theorem qBb(x y:Nat):(x^^^y)^^^y=x:=by rw[hCn,hEb,Nat.xor_zero]
theorem qWp{k:List Nat}{x s:Nat}(hs:s∈k):Spn k (rd1 x s^^^x):=by
 unfold rd1;split
 ·rw[Nat.xor_comm x s,qBb];exact .mem hs
 ·rw[hEb];exact .zero
theorem qF1(k:List Nat):∀(k':List Nat),(∀s∈k',s∈k)->∀x,Spn k (red1 k' x^^^x)
 |[],_,x=>by show Spn k (x^^^x);rw[hEb];exact .zero
 |s :: k',h,x=>by
  have a:=qF1 k k' (fun t ht=>h t (hA8 _ ht)) (rd1 x s);have b:=qWp (x:=x) (h s hA9);have c:=a.xor b;rw[<-hCn,qBb]at c;exact c
theorem qLy{k:List Nat}(h:RR k){y:Nat}(hy:Spn k y):red1 k y=0:=by
 induction hy with
 |zero=>exact qGk k
 |add m _ ih=>rw[qMh,qMg h _ m,ih];rfl
theorem qSo{k:List Nat}(h:RR k){y:Nat}(hy:Spn k y)(hx:∀s∈k,y.testBit s.log2=false):y=0:=(qPw h hx).symm.trans (qLy h hy)
theorem qSq{k:List Nat}(h:RR k){y:Nat}(hy:Spn k y)(nz:y≠0):∃s∈k,s.log2=y.log2:=by
 refine hCi fun no=>?_
 have e:(red1 k y).testBit y.log2=y.testBit y.log2:=qEl h fun s hs hb=>by
  have le:=qYf hb;have ne:s.log2≠y.log2:=fun z=>no ⟨s,hs,z⟩
  exact qSh (by omega)
 rw[qLy h hy,hCk nz]at e;simp at e
noncomputable def qNv(k:List Nat)(x:Nat):List Nat:=if red1 k x=0 then k else k.map (fun s=>rd1 s (red1 k x))++[red1 k x]
noncomputable def red(xs:List Nat):List Nat:=xs.foldl qNv []
theorem qDq(xs:List Nat)(x:Nat):red (xs++[x])=qNv (red xs) x:=by unfold red;rw[hC7];rfl
theorem qMi{s f:Nat}(hs:s≠0)(hf:f≠0)(h:f.testBit s.log2=false):(rd1 s f).log2=s.log2/\rd1 s f≠0:=by
 have ss:=hCk hs;have bit:(rd1 s f).testBit s.log2=true:=by rw[qCq,ss,h];simp
 refine⟨qLa bit ?_,fun z=>by rw[z]at bit;simp at bit⟩;unfold rd1;split
 ·rename_i q;have le:=qYf q;exact hC9 hE9 (hAm hE9 (hBt (by decide) (by omega)))
 ·exact hE9
theorem RR.step{k:List Nat}(h:RR k)(x:Nat):RR (qNv k x):=by
 unfold qNv;by_cases z:red1 k x=0
 ·rw[if_pos z];exact h
 rw[if_neg z];have ld:=fun s hs=>qEk (x:=x) h s hs
 generalize red1 k x=f at z ld;have l2:∀s∈k,(rd1 s f).log2=s.log2/\rd1 s f≠0:=fun s hs=>qMi (h.nz s hs) z (ld s hs)
 have ff:=hCk z;refine⟨fun s hs=>?_,?_⟩
 ·rcases hAh.mp hs with w|w
  ·obtain⟨u,hu,rfl⟩:=hA3.mp w;exact(l2 u hu).2
  ·rw[hA5]at w;rw[w];exact z
 ·rw[hAz];refine⟨?_,hC4 _ _,fun a ha b hb=>?_⟩
  ·rw[hAv];refine hBz (fun {a b} ha hb r=>?_) h.ap;rw[(l2 a ha).1,(l2 b hb).1,qCq,qCq,r.1,r.2,ld a ha,ld b hb];simp
  ·rw[hA5]at hb;obtain⟨u,hu,rfl⟩:=hA3.mp ha;subst hb;refine⟨by rw[(l2 u hu).1];exact ld u hu,?_⟩;rw[qCq,ff];cases u.testBit b.log2 <;> rfl
theorem qS9{k:List Nat}(x y:Nat):Spn (qNv k x) y↔Spn (k++[x]) y:=by
 have rx:=qF1 k k (fun _ h=>h) x;unfold qNv;have inl:∀ {z},Spn k z->Spn (k++[x]) z:=fun {z} hz=>hz.mono fun u hu=>.mem (hAi _ hu)
 have xm:Spn (k++[x]) x:=.mem (by simp);by_cases z:red1 k x=0
 ·rw[if_pos z];rw[z,hDy]at rx;refine⟨inl,fun h=>h.mono fun u hu=>?_⟩;rcases hAh.mp hu with w|w
  ·exact .mem w
  ·rw[hA5]at w;rw[w];exact rx
 rw[if_neg z];have fm:Spn (k++[x]) (red1 k x):=by
  have:=(inl rx).xor xm
  rwa [qBb]at this
 revert rx fm;generalize red1 k x=f;intro rx fm;have ff:Spn (k.map (fun s=>rd1 s f)++[f]) f:=.mem (by simp);have sk:∀s∈k,Spn (k.map (fun s=>rd1 s f)++[f]) s:=fun s hs=>by
  have a:Spn (k.map (fun s=>rd1 s f)++[f]) (rd1 s f):=.mem (hAi _ (hCr (f:=fun s=>rd1 s f) hs));by_cases q:s.testBit f.log2=true
  ·have b:=a.xor ff;rw[show rd1 s f=s^^^f from if_pos q,qBb]at b;exact b
  ·rw[show rd1 s f=s from if_neg q]at a;exact a
 constructor
 ·intro h;refine h.mono fun u hu=>?_
  rcases hAh.mp hu with w|w
  ·obtain⟨s,hs,rfl⟩:=hA3.mp w;unfold rd1;split
   ·exact(inl (.mem hs)).xor fm
   ·exact inl (.mem hs)
  ·rw[hA5]at w;rw[w];exact fm
 ·intro h;refine h.mono fun u hu=>?_
  rcases hAh.mp hu with w|w
  ·exact sk u w
  ·rw[hA5]at w;subst w;have b:=ff.xor (rx.mono sk);rw[<-hCn,hEb,hDy]at b;exact b
theorem qEf{P:List Nat->Prop}(h0:P [])(hs:∀l t,P l->P (l++[t]))(l:List Nat):P l:=by
 have:∀r:List Nat,P r.reverse:=fun r=>by
  induction r with
  |nil=>exact h0
  |cons a r ih=>rw[List.reverse_cons];exact hs _ _ ih
 have q:=this l.reverse
 rwa [List.reverse_reverse]at q
theorem qC9(xs:List Nat):RR (red xs):=qEf (P:=fun xs=>RR (red xs)) RR.nil (fun l t ih=>by rw[qDq];exact ih.step t) xs
theorem qCj(xs:List Nat):∀y,Spn (red xs) y↔Spn xs y:=by
 refine qEf (P:=fun xs=>∀y,Spn (red xs) y↔Spn xs y) (fun y=>Iff.rfl) (fun l t ih y=>?_) xs;rw[qDq,qS9];constructor
 ·exact fun h=>h.mono fun u hu=>by
   rcases hAh.mp hu with w|w
   ·exact((ih u).mp (.mem w)).mono fun v hv=>.mem (hAi _ hv)
   ·exact .mem (hAa _ w)
 ·exact fun h=>h.mono fun u hu=>by
   rcases hAh.mp hu with w|w
   ·exact((ih u).mpr (.mem w)).mono fun v hv=>.mem (hAi _ hv)
   ·exact .mem (hAa _ w)
theorem qGi{xs:List Nat}{m:Nat}(h:∀x∈xs,x<2^m):∀s∈red xs,s<2^m:=fun s hs=>Spn.lt h ((qCj xs s).mp (.mem hs))
def Fsh(xs:List Nat):Prop:=∀i x,xs[i]?=some x->∃j,x.testBit j=true/\∀y∈xs.take i,y.testBit j=false
theorem qHz{l:List Nat}{j:Nat}(h:∀x∈l,x.testBit j=false){y:Nat}(hy:Spn l y):y.testBit j=false:=by
 induction hy with
 |zero=>simp
 |add m _ ih=>rw[hAu,h _ m,ih];rfl
theorem qWn(xs:List Nat):Fsh xs->(red xs).length=xs.length:=by
 refine qEf (P:=fun xs=>Fsh xs->(red xs).length=xs.length) (fun _=>rfl) (fun l t ih h=>?_) xs;have ih':=ih fun i x hx=>by
  have hi:i<l.length:=(hAq.mp hx).1;obtain⟨j,h1,h2⟩:=h i x (by rw[hDf hi];exact hx);exact⟨j,h1,fun y hy=>h2 y (by rw[List.take_append_of_le_length (by omega)];exact hy)⟩
 obtain⟨j,h1,h2⟩:=h l.length t (by simp);rw[List.take_append_of_le_length (hA6 _),hA7 (hA6 _)]at h2;rw[qDq];unfold qNv;have nz:red1 (red l) t≠0:=fun z=>by
  have rx:=qF1 (red l) (red l) (fun _ h=>h) t;rw[z,hDy]at rx;have:=qHz h2 ((qCj l t).mp rx);rw[this]at h1;cases h1
 rw[if_neg nz,hAj,hA1,hAj,ih'];rfl
noncomputable def xsum:Nat->(Nat->Bool)->Bool
 |0,_=>false
 |m+1,f=>xsum m f ^^ f m
theorem qBs{f g:Nat->Bool}:∀ {m:Nat},(∀j,j<m->f j=g j)->xsum m f=xsum m g
 |0,_=>rfl
 |m+1,h=>by unfold xsum;rw[qBs fun j hj=>h j (by omega),h m (by omega)]
theorem qHr(f g:Nat->Bool):∀m:Nat,xsum m (fun j=>f j ^^ g j)=(xsum m f ^^ xsum m g)
 |0=>rfl
 |m+1=>by
  unfold xsum;rw[qHr f g m];show((xsum m f ^^ xsum m g) ^^ (f m ^^ g m))=_;cases xsum m f <;> cases xsum m g <;> cases f m <;> cases g m <;> rfl
theorem qEy:∀m:Nat,xsum m (fun _=>false)=false
 |0=>rfl
 |m+1=>by unfold xsum;rw[qEy m];rfl
theorem qHt{f:Nat->Bool}{l:Nat}:∀ {m:Nat},(∀j,j<m->j≠l->f j=false)->xsum m f=(decide (l<m) && f l)
 |0,_=>by simp[xsum]
 |m+1,h=>by
  unfold xsum;rw[qHt (m:=m) fun j hj=>h j (by omega)];by_cases e:l=m
  ·subst e;simp
  ·have n:=h m (by omega) (fun z=>e z.symm);rw[n];have:decide (l<m)=decide (l<m+1):=by
    by_cases q:l<m
    ·rw[decide_eq_true q,decide_eq_true (by omega)]
    ·rw[decide_eq_false q,decide_eq_false (by omega)]
   rw[this];simp
theorem qIw(f:Nat->Bool):∀m:Nat,xsum (m+1) f=(f 0 ^^ xsum m fun j=>f (j+1))
 |0=>by simp[xsum]
 |m+1=>by
  rw[xsum,qIw f m,xsum];cases f 0 <;> cases xsum m (fun j=>f (j+1)) <;> cases f (m+1) <;> rfl
theorem qLp(f:Nat->Bool):∀m:Nat,xsum m (fun j=>f (m - 1 - j))=xsum m f
 |0=>rfl
 |m+1=>by
  rw[qIw];have:xsum m (fun j=>f (m+1 - 1 - (j+1)))=xsum m fun j=>f (m - 1 - j):=qBs fun j hj=>by
   rw[show m+1 - 1 - (j+1)=m - 1 - j by omega]
  rw[this,qLp f m];show(f m ^^ xsum m f)=(xsum m f ^^ f m);cases f m <;> cases xsum m f <;> rfl
noncomputable def dot(m x y:Nat):Bool:=xsum m fun j=>x.testBit j && y.testBit j
theorem qF8(m x x' y:Nat):dot m (x^^^x') y=(dot m x y ^^ dot m x' y):=by
 unfold dot;rw[<-qHr];refine qBs fun j _=>?_
 rw[hAu];cases x.testBit j <;> cases x'.testBit j <;> cases y.testBit j <;> rfl
theorem qRh(m x y y':Nat):dot m x (y^^^y')=(dot m x y ^^ dot m x y'):=by
 unfold dot;rw[<-qHr];refine qBs fun j _=>?_
 rw[hAu];cases x.testBit j <;> cases y.testBit j <;> cases y'.testBit j <;> rfl
theorem qT4(m y:Nat):dot m 0 y=false:=by
 unfold dot;rw[qBs (g:=fun _=>false) fun j _=>by simp,qEy]
theorem qGy(m y:Nat):dot m y 0=false:=by
 unfold dot;rw[qBs (g:=fun _=>false) fun j _=>by simp,qEy]
theorem qXs{m p y:Nat}(hp:p<m):dot m (2^p) y=y.testBit p:=by
 unfold dot;rw[qHt (l:=p) fun j _ ne=>by rw[hB0,decide_eq_false (fun z=>ne z.symm)];rfl];rw[hB0];simp[hp]
theorem qIp{m x s l:Nat}(hl:l<m)(hs:s.testBit l=true)(h:∀j,j<m->j≠l->(x.testBit j && s.testBit j)=false):dot m x s=x.testBit l:=by
 unfold dot;rw[qHt (l:=l) h,decide_eq_true hl,hs];simp
theorem qBz{l:List Nat}{m y:Nat}(h:∀s∈l,dot m y s=false){z:Nat}(hz:Spn l z):dot m y z=false:=by
 induction hz with
 |zero=>exact qGy m y
 |add hm _ ih=>rw[qRh,h _ hm,ih];rfl
theorem qHy{l:List Nat}{m s:Nat}(h:∀x∈l,dot m x s=false){z:Nat}(hz:Spn l z):dot m z s=false:=by
 induction hz with
 |zero=>exact qT4 m s
 |add hm _ ih=>rw[qF8,h _ hm,ih];rfl
theorem qG4:∀(l x:Nat),x.testBit l=false->2^l+x=2^l^^^x
 |0,x,h=>by
  have e:x % 2=0:=by
   rw[hAw]at h;have:=of_decide_eq_false h;omega
  show 1+x=1^^^x;rw[Nat.xor_comm,qFk e,Nat.add_comm]
 |l+1,x,h=>by
  rw[hCl]at h;have ih:=qG4 l (x / 2) h;have d:(2^(l+1)^^^x) / 2=2^l+x / 2:=by
   rw[Nat.xor_div_two,ih,Nat.pow_succ,Nat.mul_div_cancel _ (by decide)]
  have b:(2^(l+1)^^^x).testBit 0=x.testBit 0:=by rw[hAu,hB0];simp
  rw[hAw,hAw]at b;have b':(2^(l+1)^^^x) % 2=1↔x % 2=1:=by simpa using b
  have p:=Nat.pow_succ (n:=2) (m:=l);rcases hBu x with q|q
  ·have:¬(2^(l+1)^^^x) % 2=1:=fun z=>by have:=b'.mp z;omega
   omega
  ·have:=b'.mpr q;omega
theorem qCi:∀(L:List Nat),L.Nodup->∀j,((L.map fun l=>2^l).sum).testBit j=decide (j∈L)
 |[],_,j=>by simp
 |l :: L,nd,j=>by
  obtain⟨n1,n2⟩:=hBp.mp nd;have ih:=qCi L n2;rw[hB8,List.sum_cons,qG4 l _ (by rw[ih l,decide_eq_false n1]),hAu,ih j,hB0];by_cases e:l=j
  ·subst e;simp[n1]
  ·have e':¬j=l:=fun z=>e z.symm
   simp[e,e']
noncomputable def crM(S:List Nat)(p:Nat):Nat:=2^p+((S.filter fun s:Nat=>s.testBit p).map fun s:Nat=>2^s.log2).sum
def isLd(S:List Nat)(p:Nat):Prop:=∃s∈S,s.log2=p
instance (S:List Nat):DecidablePred (isLd S):=fun p=>inferInstanceAs (Decidable (∃s∈S,s.log2=p))
theorem qN3:∀ {S:List Nat},RR S->(S.map Nat.log2).Nodup
 |[],_=>hE7
 |s :: S,h=>by
  rw[hB8];refine hBp.mpr ⟨fun z=>?_,qN3 h.tl⟩;obtain⟨t,ht,e⟩:=hA3.mp z;have a:=(h.hd t ht).1;rw[<-e,h.self (hA8 _ ht)]at a;cases a
theorem qEs{S:List Nat}(h:RR S)(p j:Nat):(((S.filter fun s:Nat=>s.testBit p).map fun s:Nat=>2^s.log2).sum).testBit j=decide (∃s∈S,s.testBit p=true/\s.log2=j):=by
 have e:((S.filter fun s:Nat=>s.testBit p).map fun s:Nat=>2^s.log2)=((S.filter fun s:Nat=>s.testBit p).map Nat.log2).map fun l=>2^l:=by rw[hAr];rfl
 rw[e,qCi _ ((qN3 h).sublist (hB9.map _))];refine decide_eq_decide.mpr ?_;rw[hA3];constructor
 ·rintro⟨s,hs,rfl⟩;exact⟨s,(hAb.mp hs).1,(hAb.mp hs).2,rfl⟩
 ·rintro⟨s,hs,h1,rfl⟩;exact⟨s,hAb.mpr ⟨hs,h1⟩,rfl⟩
theorem qQp{S:List Nat}(h:RR S)(j:Nat):((S.map fun s:Nat=>2^s.log2).sum).testBit j=decide (isLd S j):=by
 have e:(S.map fun s:Nat=>2^s.log2)=(S.map Nat.log2).map fun l=>2^l:=by rw[hAr];rfl
 rw[e,qCi _ (qN3 h)];refine decide_eq_decide.mpr ?_;rw[hA3];exact Iff.rfl
theorem qGz{S:List Nat}(h:RR S){p:Nat}(np:¬isLd S p)(j:Nat):(crM S p).testBit j=(decide (p=j) ^^ decide (∃s∈S,s.testBit p=true/\s.log2=j)):=by
 unfold crM;rw[qG4 _ _ (by rw[qEs h];exact decide_eq_false fun ⟨s,hs,_,e⟩=>np ⟨s,hs,e⟩),hAu,hB0,qEs h]
theorem qVj{S:List Nat}{m:Nat}(h:RR S)(hm:∀s∈S,s<2^m){p:Nat}(hp:p<m)(np:¬isLd S p):crM S p<2^m:=by
 refine hBh _ fun i hi=>?_
 rw[qGz h np,decide_eq_false (by omega:¬p=i),decide_eq_false]
 ·rfl
 ·rintro⟨s,hs,_,e⟩;have:=h.self hs;rw[e,qDc (hm s hs) hi]at this;cases this
theorem qLj{S:List Nat}{m:Nat}(h:RR S)(hm:∀s∈S,s<2^m){p:Nat}(hp:p<m)(np:¬isLd S p):∀s∈S,dot m (crM S p) s=false:=fun s hs=>by
 have e:crM S p=2^p^^^((S.filter fun s:Nat=>s.testBit p).map fun s:Nat=>2^s.log2).sum:=by
  unfold crM;exact qG4 _ _ (by rw[qEs h];exact decide_eq_false fun ⟨s,hs,_,e⟩=>np ⟨s,hs,e⟩)
 have ls:s.log2<m:=by
  have:=h.self hs;rcases hDx s.log2 m with z|z
  ·exact z
  ·rw[qDc (hm s hs) z]at this;cases this
 rw[e,qF8,qXs hp,qIp (l:=s.log2) ls (h.self hs) fun j hj ne=>?_,qEs h]
 ·have:decide (∃t∈S,t.testBit p=true/\t.log2=s.log2)=s.testBit p:=by
   cases q:s.testBit p with
   |true=>exact decide_eq_true ⟨s,hs,q,rfl⟩
   |false =>
    refine decide_eq_false ?_;rintro⟨t,ht,h1,h2⟩;by_cases z:t=s
    ·subst z;rw[q]at h1;cases h1
    ·have a:=h.ne hs ht (fun w=>z w.symm);rw[h2,h.self hs]at a;cases a
  rw[this];cases s.testBit p <;> rfl
 ·rw[qEs h];by_cases q:∃t∈S,t.testBit p=true/\t.log2=j
  ·obtain⟨t,ht,h1,h2⟩:=q;have z:s≠t:=fun w=>ne (by rw[w,h2])
   have a:=h.ne hs ht z;rw[h2]at a;rw[a];simp
  ·rw[decide_eq_false q];rfl
noncomputable def crAll(S:List Nat)(m:Nat):List Nat:=((List.range m).filter fun p=>!decide (isLd S p)).map (crM S)
noncomputable def xl(L:List Nat):Nat:=L.foldr (·^^^·) 0
theorem qX6{l L:List Nat}(h:∀x∈L,x∈l):Spn l (xl L):=by
 induction L with
 |nil=>exact .zero
 |cons a L ih=>exact .add (h a hA9) (ih fun x hx=>h x (hA8 _ hx))
theorem qX7{S:List Nat}(h:RR S):∀(L:List Nat),L.Nodup->(∀p∈L,¬isLd S p)->∀j,¬isLd S j->(xl (L.map (crM S))).testBit j=decide (j∈L)
 |[],_,_,j,_=>by simp[xl]
 |p :: L,nd,np,j,nj=>by
  obtain⟨n1,n2⟩:=hBp.mp nd;show(crM S p^^^xl (L.map (crM S))).testBit j=_;rw[hAu,qX7 h L n2 (fun q hq=>np q (hA8 _ hq)) j nj,qGz h (np p hA9),decide_eq_false (p:=∃s∈S,s.testBit p=true/\s.log2=j) fun ⟨s,hs,_,e⟩=>nj ⟨s,hs,e⟩];by_cases e:p=j
  ·subst e;simp[n1]
  ·have e':¬j=p:=fun z=>e z.symm
   simp[e,e']
theorem qJw{S:List Nat}{m:Nat}(h:RR S)(hm:∀s∈S,s<2^m)(y:Nat):Spn (crAll S m) y↔y<2^m/\∀s∈S,dot m y s=false:=by
 have mem:∀x,x∈crAll S m↔∃p,p<m/\¬isLd S p/\crM S p=x:=fun x=>by
  unfold crAll;rw[hA3];constructor
  ·rintro⟨p,hp,rfl⟩;obtain⟨h1,h2⟩:=hAb.mp hp;exact⟨p,hAf.mp h1,by simpa using h2,rfl⟩
  ·rintro⟨p,h1,h2,rfl⟩;exact⟨p,hAb.mpr ⟨hAf.mpr h1,by simpa using h2⟩,rfl⟩
 constructor
 ·intro hy;refine⟨Spn.lt (fun x hx=>?_) hy,fun s hs=>qHy (fun x hx=>?_) hy⟩
  ·obtain⟨p,h1,h2,rfl⟩:=(mem x).mp hx;exact qVj h hm h1 h2
  ·obtain⟨p,h1,h2,rfl⟩:=(mem x).mp hx;exact qLj h hm h1 h2 s hs
 ·rintro⟨hy,hd⟩;have hL:∀p∈(List.range m).filter (fun p=>!decide (isLd S p) && y.testBit p),p<m/\¬isLd S p/\y.testBit p=true:=fun p hp=>by
   obtain⟨h1,h2⟩:=hAb.mp hp;rw[hB4]at h2;exact⟨hAf.mp h1,by simpa using h2.1,h2.2⟩
  have nd:((List.range m).filter (fun p=>!decide (isLd S p) && y.testBit p)).Nodup:=hC5.sublist hB9;have cov:∀j,j<m->¬isLd S j->(j∈(List.range m).filter (fun p=>!decide (isLd S p) && y.testBit p)↔y.testBit j=true):=fun j hj nj=>by
   rw[hAb,hAf];simp[hj,nj]
  generalize (List.range m).filter (fun p=>!decide (isLd S p) && y.testBit p)=L at hL nd cov;have sp:Spn (crAll S m) (xl (L.map (crM S))):=qX6 fun x hx=>by
   obtain⟨p,hp,rfl⟩:=hA3.mp hx;exact(mem _).mpr ⟨p,(hL p hp).1,(hL p hp).2.1,rfl⟩
  have lt1:xl (L.map (crM S))<2^m:=Spn.lt (fun x hx=>by
   obtain⟨p,h1,h2,rfl⟩:=(mem x).mp hx;exact qVj h hm h1 h2) sp
  have dz:∀s∈S,dot m (y^^^xl (L.map (crM S))) s=false:=fun s hs=>by
   rw[qF8,hd s hs,qHy (fun x hx=>?_) sp]
   ·rfl
   ·obtain⟨p,h1,h2,rfl⟩:=(mem x).mp hx;exact qLj h hm h1 h2 s hs
  have non:∀j,¬isLd S j->(y^^^xl (L.map (crM S))).testBit j=false:=fun j nj=>by
   rw[hAu,qX7 h L nd (fun p hp=>(hL p hp).2.1) j nj];by_cases hj:j<m
   ·cases q:y.testBit j with
    |true=>rw[decide_eq_true ((cov j hj nj).mpr q)];rfl
    |false=>rw[decide_eq_false fun z=>by rw[(cov j hj nj).mp z]at q;cases q];rfl
   ·rw[qDc hy (by omega),decide_eq_false fun z=>hj (hL j z).1];rfl
  have z0:y^^^xl (L.map (crM S))=0:=by
   refine hAo fun j=>?_
   rw[hB6];by_cases q:isLd S j
   ·obtain⟨s,hs,rfl⟩:=q;have ls:s.log2<m:=by
     have:=h.self hs;rcases hDx s.log2 m with z|z
     ·exact z
     ·rw[qDc (hm s hs) z]at this;cases this
    rw[<-qIp (m:=m) (s:=s) ls (h.self hs) fun j hj ne=>?_]
    ·exact dz s hs
    ·by_cases q:isLd S j
     ·obtain⟨t,ht,rfl⟩:=q;rw[h.ne hs ht (fun w=>ne (by rw[w]))];simp
     ·rw[non j q];rfl
   ·exact non j q
  have:y=xl (L.map (crM S)):=by
   have q:=qBb y (xl (L.map (crM S)));rw[z0,hDy]at q;exact q.symm
  rw[this];exact sp
theorem qR6:∀(n a b:Nat),a<n->a+b=(a^^^b)+2*(a&&&b)
 |0,_,_,h=>absurd h (hCx _)
 |n+1,a,b,h=>by
  by_cases a0:a=0
  ·subst a0;simp
  have ih:=qR6 n (a / 2) (b / 2) (by omega);have d1:(a^^^b) / 2=a / 2^^^b / 2:=Nat.xor_div_two;have d2:(a&&&b) / 2=a / 2&&&b / 2:=Nat.and_div_two;have b1:(a^^^b).testBit 0=(a.testBit 0 ^^ b.testBit 0):=hAu ..;have b2:(a&&&b).testBit 0=(a.testBit 0 && b.testBit 0):=hBa ..;rw[hAw,hAw,hAw]at b1 b2;rw[<-d1,<-d2]at ih;generalize a^^^b=X at b1 ih ⊢;generalize a&&&b=Y at b2 ih ⊢;rcases hBu a with p|p <;> rcases hBu b with q|q <;> rw[p,q]at b1 b2 <;> simp at b1 b2 <;> omega
theorem qBy(a b:Nat):Builtin.bitAnd (a:Int) (b:Int)=((a&&&b:Nat):Int):=by
 unfold Builtin.bitAnd;rw[decide_eq_true (Int.natCast_nonneg a),decide_eq_true (Int.natCast_nonneg b)];simp
theorem qB3(a b:Nat):Builtin.bitXor (a:Int) (b:Int)=((a^^^b:Nat):Int):=by
 have e:=qR6 (a+1) a b (hBv a);have h:Builtin.bitXor (a:Int) (b:Int)=(a:Int)+b - 2*Builtin.bitAnd a b:=by
  have x:∀x y:Int,Builtin.bitNot (Builtin.bitNot x)=x:=fun x y=>by unfold Builtin.bitNot;omega
  unfold Builtin.bitXor Builtin.bitOr;have na:¬(0:Int)<=Builtin.bitNot (a:Int):=by unfold Builtin.bitNot;omega
  have nb:¬(0:Int)<=Builtin.bitNot (b:Int):=by unfold Builtin.bitNot;omega
  have o:Builtin.bitAnd (Builtin.bitNot (a:Int)) (Builtin.bitNot (b:Int))=Builtin.bitNot ((a ||| b:Nat):Int):=by
   unfold Builtin.bitAnd;rw[decide_eq_false na,decide_eq_false nb];show Builtin.bitNot _=_;rw[x a 0,x b 0];simp
  rw[o,x _ 0,qBy];have e2:(a ||| b)+(a&&&b)=a+b:=by
   have:=add_or (a+1) a b (hBv a);omega
  omega
 rw[h,qBy];omega
where
 add_or:∀(n a b:Nat),a<n->(a ||| b)+(a&&&b)=a+b
 |0,_,_,h=>absurd h (hCx _)
 |n+1,a,b,h=>by
  by_cases a0:a=0
  ·subst a0;simp
  have ih:=add_or n (a / 2) (b / 2) (by omega);have d1:(a ||| b) / 2=a / 2 ||| b / 2:=Nat.or_div_two
  have d2:(a&&&b) / 2=a / 2&&&b / 2:=Nat.and_div_two;have b1:(a ||| b).testBit 0=(a.testBit 0 || b.testBit 0):=hD7 ..;have b2:(a&&&b).testBit 0=(a.testBit 0 && b.testBit 0):=hBa ..;rw[hAw,hAw,hAw]at b1 b2;rw[<-d1,<-d2]at ih;generalize a ||| b=X at b1 ih ⊢
  generalize a&&&b=Y at b2 ih ⊢;rcases hBu a with p|p <;> rcases hBu b with q|q <;> rw[p,q]at b1 b2 <;> simp at b1 b2 <;> omega
theorem qU5:∀(n f:Nat),f<n->f≠0->∃i,f.testBit i=true/\∀j,j<i->f.testBit j=false
 |0,_,h,_=>absurd h (hCx _)
 |n+1,f,h,nz=>by
  rcases hBu f with p|p
  ·obtain⟨i,h1,h2⟩:=qU5 n (f / 2) (by omega) (by omega);refine⟨i+1,by rw[hCl];exact h1,fun j hj=>?_⟩;cases j with
   |zero=>rw[hAw,p];rfl
   |succ j=>rw[hCl];exact h2 j (by omega)
  ·exact⟨0,by rw[hAw,p];rfl,fun j hj=>absurd hj (hCx _)⟩
noncomputable def lo(f:Nat):Nat:=Classical.epsilon fun i=>f.testBit i=true/\∀j,j<i->f.testBit j=false
theorem qLb{f:Nat}(h:f≠0):f.testBit (lo f)=true/\∀j,j<lo f->f.testBit j=false :=
 Classical.epsilon_spec (qU5 (f+1) f (hBv _) h)
theorem qMl:∀(i f:Nat),f.testBit i=true->(∀j,j<i->f.testBit j=false)->∀j,(f - 1).testBit j=(decide (j<i) || (decide (i<j) && f.testBit j))
 |0,f,h1,_,j=>by
  rw[hAw]at h1;have p:=of_decide_eq_true h1;cases j with
  |zero=>rw[hAw];simp;omega
  |succ j=>rw[hCl,hCl,show(f - 1) / 2=f / 2 by omega];simp
 |i+1,f,h1,h2,j=>by
  have z:=h2 0 (by omega);rw[hAw]at z;have p:=of_decide_eq_false z;rw[hCl]at h1;have nz:f / 2≠0:=fun w=>by rw[w]at h1;simp at h1
  cases j with
  |zero=>rw[hAw];simp;omega
  |succ j =>
   rw[hCl,hCl,show(f - 1) / 2=f / 2 - 1 by omega,qMl i (f / 2) h1 (fun k hk=>by have:=h2 (k+1) (by omega);rwa [hCl]at this) j];simp
theorem qXl{f:Nat}(nz:f≠0):Builtin.bitAnd (f:Int) (-(f:Int))=((2^lo f:Nat):Int):=by
 obtain⟨h1,h2⟩:=qLb nz;have ev:Builtin.bitAnd (f:Int) (-(f:Int))=(f:Int) - ((f&&&(f - 1):Nat):Int):=by
  unfold Builtin.bitAnd;rw[decide_eq_true (Int.natCast_nonneg _),decide_eq_false (by omega:¬(0:Int)<=-(f:Int))];show(f:Int) - ((((f:Int).toNat)&&&(Builtin.bitNot (-(f:Int))).toNat:Nat):Int)=_;rw[show(Builtin.bitNot (-(f:Int))).toNat=f - 1 by unfold Builtin.bitNot;omega,hB1]
 rw[ev];have pb:=qMl (lo f) f h1 h2;have e:f=2^lo f+(f&&&(f - 1)):=by
  rw[qG4 _ _ (by rw[hBa,pb];simp)];refine hAo fun j=>?_
  rw[hAu,hB0,hBa,pb j];rcases hE2 j (lo f) with z|z|z
  ·have:¬lo f=j:=by omega
   rw[h2 j z];simp[this]
  ·subst z;rw[h1];simp
  ·have n1:¬lo f=j:=by omega
   simp[z,n1];exact fun h=>.inr h
 omega
theorem qFj(x p:Nat):x&&&2^p≠0↔x.testBit p=true:=by
 constructor
 ·intro ne;cases q:x.testBit p with
  |true=>rfl
  |false =>
   refine absurd (hAo fun j=>?_) ne;rw[hBa,hB0,hB6];by_cases e:p=j
   ·subst e;rw[q];rfl
   ·simp[e]
 ·intro q z;have:=congrArg (fun x:Nat=>x.testBit p) z;simp[hBa,q]at this
noncomputable def rv(m x:Nat):Nat:=((((List.range m).filter fun i=>x.testBit i).map fun i=>m - 1 - i).map fun l=>2^l).sum
theorem qBe(m x j:Nat):(rv m x).testBit j=(decide (j<m) && x.testBit (m - 1 - j)):=by
 have nd:(((List.range m).filter fun i=>x.testBit i).map fun i=>m - 1 - i).Nodup:=by
  have h:((List.range m).filter fun i=>x.testBit i).Pairwise fun a b=>m - 1 - a≠m - 1 - b:=by
   have:(List.range m).Pairwise fun a b=>a≠b:=hC5
   refine hBz (fun {a b} ha hb ne=>?_) (this.sublist hB9);have a1:=hAf.mp (hAb.mp ha).1;have b1:=hAf.mp (hAb.mp hb).1;omega
  rw[List.Nodup,hAv];exact h
 unfold rv;rw[qCi _ nd];by_cases hj:j<m
 ·rw[decide_eq_true hj,hBg];cases q:x.testBit (m - 1 - j) with
  |true=>exact decide_eq_true (hA3.mpr ⟨m - 1 - j,hAb.mpr ⟨hAf.mpr (by omega),q⟩,by omega⟩)
  |false =>
   refine decide_eq_false fun z=>?_
   obtain⟨i,hi,e⟩:=hA3.mp z;obtain⟨h1,h2⟩:=hAb.mp hi;have:=hAf.mp h1;rw[show m - 1 - j=i by omega,h2]at q;cases q
 ·rw[decide_eq_false hj,Bool.false_and];refine decide_eq_false fun z=>?_
  obtain⟨i,hi,e⟩:=hA3.mp z;have:=hAf.mp (hAb.mp hi).1;omega
theorem qG6(m x:Nat):rv m x<2^m:=hBh _ fun i hi=>by rw[qBe,decide_eq_false (by omega)];rfl
theorem qMa(m x y:Nat):rv m (x^^^y)=rv m x^^^rv m y:=hAo fun j=>by
 rw[hAu,qBe,qBe,qBe,hAu];cases decide (j<m) <;> simp
theorem qC2{m x:Nat}(h:x<2^m):rv m (rv m x)=x:=hAo fun j=>by
 rw[qBe,qBe];by_cases hj:j<m
 ·rw[decide_eq_true hj,decide_eq_true (by omega),show m - 1 - (m - 1 - j)=j by omega];rfl
 ·rw[decide_eq_false hj,qDc h (Nat.le_of_not_lt hj)];rfl
theorem qD2(m:Nat):rv m 0=0:=hAo fun j=>by rw[qBe];simp
theorem qNt{m x:Nat}(h:x<2^m)(nz:x≠0):rv m x≠0:=fun z=>nz (by rw[<-qC2 h,z,qD2])
theorem qJg{m x:Nat}(h:x<2^m)(nz:x≠0):lo x<m:=by
 rcases hDx (lo x) m with z|z
 ·exact z
 ·have:=(qLb nz).1;rw[qDc h z]at this;cases this
theorem qDd{m x:Nat}(h:x<2^m)(nz:x≠0):(rv m x).log2=m - 1 - lo x:=by
 obtain⟨h1,h2⟩:=qLb nz;have l:=qJg h nz;refine qLa ?_ (hBh _ fun i hi=>?_)
 ·rw[qBe,decide_eq_true (by omega),show m - 1 - (m - 1 - lo x)=lo x by omega,h1];rfl
 ·rw[qBe];by_cases q:i<m
  ·rw[h2 (m - 1 - i) (by omega)];simp
  ·rw[decide_eq_false q];rfl
noncomputable def rdL(x s:Nat):Nat:=if x.testBit (lo s)=true then x^^^s else x
theorem qPp{m x s:Nat}(hs:s<2^m)(nz:s≠0):rv m (rdL x s)=rd1 (rv m x) (rv m s):=by
 have l:=qJg hs nz;unfold rdL rd1;have b:(rv m x).testBit (rv m s).log2=x.testBit (lo s):=by
  rw[qDd hs nz,qBe,decide_eq_true (by omega),show m - 1 - (m - 1 - lo s)=lo s by omega];rfl
 rw[b];split
 ·exact qMa m x s
 ·rfl
theorem qUz{m x s:Nat}(hx:x<2^m)(hs:s<2^m):rdL x s<2^m:=by
 unfold rdL;split
 ·exact hC9 hx hs
 ·exact hx
noncomputable def redL1(k:List Nat)(x:Nat):Nat:=k.foldl rdL x
def Gm(m:Nat)(k:List Nat):Prop:=∀s∈k,s<2^m/\s≠0
theorem qH9{m:Nat}:∀ {k:List Nat} {x:Nat},Gm m k->x<2^m->redL1 k x<2^m/\rv m (redL1 k x)=red1 (k.map (rv m)) (rv m x)
 |[],x,_,hx=>⟨hx,rfl⟩
 |s :: k,x,h,hx=>by
  obtain⟨h1,h2⟩:=h s hA9;have ih:=qH9 (x:=rdL x s) (fun t ht=>h t (hA8 _ ht)) (qUz hx h1);refine⟨ih.1,?_⟩;show rv m (redL1 k (rdL x s))=red1 (k.map (rv m)) (rd1 (rv m x) (rv m s));rw[ih.2,qPp h1 h2]
noncomputable def qKw(k:List Nat)(x:Nat):List Nat:=if redL1 k x=0 then k else k.map (fun s=>rdL s (redL1 k x))++[redL1 k x]
noncomputable def redL(xs:List Nat):List Nat:=xs.foldl qKw []
theorem qGj(xs:List Nat)(x:Nat):redL (xs++[x])=qKw (redL xs) x:=by unfold redL;rw[hC7];rfl
theorem qCp{m:Nat}(xs:List Nat):(∀x∈xs,x<2^m)->Gm m (redL xs)/\(redL xs).map (rv m)=red (xs.map (rv m)):=by
 refine qEf (P:=fun xs=>(∀x∈xs,x<2^m)->Gm m (redL xs)/\(redL xs).map (rv m)=red (xs.map (rv m))) (fun _=>⟨fun s hs=>(by cases hs),rfl⟩) (fun l t ih h=>?_) xs;obtain⟨g,e⟩:=ih fun x hx=>h x (hAi _ hx)
 have ht:=h t (by simp);obtain⟨l1,l2⟩:=qH9 g ht;have sp:∀s∈redL l,rv m s≠0:=fun s hs=>qNt (g s hs).1 (g s hs).2
 rw[hA4,List.map_singleton,qDq,qGj,<-e];unfold qKw qNv;rw[<-l2];by_cases z:redL1 (redL l) t=0
 ·rw[if_pos z,z,qD2,if_pos rfl];exact⟨g,rfl⟩
 ·have z':=qNt l1 z;rw[if_neg z,if_neg z'];have rr:=qC9 (l.map (rv m));rw[<-e]at rr;refine⟨fun s hs=>?_,?_⟩
  ·rcases hAh.mp hs with w|w
   ·obtain⟨u,hu,rfl⟩:=hA3.mp w;refine⟨qUz (g u hu).1 l1,fun q=>?_⟩;have q2:=qPp (x:=u) l1 z;rw[q,qD2]at q2;have ld:=qEk (x:=rv m t) rr (rv m u) (hCr hu);rw[<-l2]at ld;exact(qMi (sp u hu) z' ld).2 q2.symm
   ·rw[hA5]at w;rw[w];exact⟨l1,z⟩
  ·rw[hA4,List.map_singleton,hAr,hAr];congr 1;refine hBq fun s hs=>?_
   exact qPp l1 z
noncomputable def bd(V:Nat->Nat):Nat->Nat->Nat
 |0,_=>0
 |m+1,y=>bd V m y^^^(if y.testBit m=true then V m else 0)
noncomputable def el1(v f:Nat×Nat):Nat×Nat:=if v.1.testBit (lo f.1)=true then (v.1^^^f.1,v.2^^^f.2) else v
noncomputable def el(k:List (Nat×Nat))(v:Nat×Nat):Nat×Nat:=k.foldl el1 v
abbrev Ech(k:List (Nat×Nat)):Prop:=k.Pairwise fun a b=>b.1.testBit (lo a.1)=false
structure EIv(V:Nat->Nat)(m j:Nat)(K:List (Nat×Nat))(F:List Nat):Prop where
 k1:∀f∈K,f.1≠0/\f.1=bd V m f.2
 kl:∀f∈K,f.2<2^j
 k2:Ech K
 f1:∀y∈F,y<2^j/\bd V m y=0
 cov:∀y,y<2^j->Spn (F++K.map (·.2)) y
 len:F.length+K.length=j
 fsh:Fsh F
end My
namespace L2
open PySem PySem.Spec PyProof.Rows
section
variable{X:Cx}
theorem qLd:∀ {us:List Value},qA7 (ns.map V.int) us->∃xs:List (Int×Tok),us=xs.map (fun p=>Value.int p.1 p.2)/\xs.map (·.1)=ns:=by
 induction ns with
 |nil=>intro us r;cases r;exact⟨[],rfl,rfl⟩
 |cons a l ih =>
  intro us r;cases r with
  |cons r rr =>
   obtain⟨t,rfl⟩:=r;obtain⟨xs,rfl,rfl⟩:=ih rr;exact⟨(a,t) :: xs,rfl,rfl⟩
theorem qG0(hc:X.calm=true):qB7 X (.builtin "sum") (fun xs H Q=>∃(p:Addr) (ns:List Int),xs=[.ref p]/\SqL X.K H p (ns.map V.int)/\Q (.int ns.sum) H):=by
 intro pins s σ H xs us Q I r h;obtain⟨p,ns,rfl,hq,q⟩:=h;obtain⟨u,rfl,rx⟩:=qCv r;cases rx;obtain⟨its,rv,pl,hz⟩:=I.list hq;obtain⟨ys,rfl,rfl⟩:=qLd rv;have e:(ys.map (fun p=>Value.int p.1 p.2)).toArray=intItems ys.toArray:=by unfold intItems;simp
 have pl':=pl.isList;rw[e]at pl';refine sum_intListG (I.ok.hd hc) pl' fun h' tk t' hk=>⟨.int _,H,I.kept (t':=tk) hk,⟨t',rfl⟩,?_⟩
 rw[preSum_eq,hA7 (by simp)];exact q
theorem qD8:∀ {us:List Value},qA7 (ns.map V.int) us->IntsAre us ns:=by
 induction ns with
 |nil=>intro us r;cases r;exact .nil
 |cons a l ih =>
  intro us r;cases r with
  |cons r rr =>
   obtain⟨t,rfl⟩:=r;exact .cons a t (ih rr)
theorem qHk:∀ {us:List Value},IntsAre us ns->qA7 (ns.map V.int) us:=by
 induction ns with
 |nil=>intro us r;cases r;exact .nil
 |cons a l ih =>
  intro us r;cases r with
  |cons _ _ r=>exact .cons ⟨_,rfl⟩ (ih r)
def qSj(K:PySem.W.Frag)(t:TA):TE:=fun σ H Q=>t σ H fun vs H1=>∃(p:Addr) (ns:List Int),vs=[.ref p]/\SqL K H1 p (ns.map V.int)/\ns.length<64/\∀(r:Addr) (ns':List Int),H1 r=none->ns'.Perm ns->Ordered true ns'->Q (.ref r) (upd H1 r (.lst (ns'.map V.int)))
theorem qNz(hg:Gl X "sorted")(hm:X.mg "sorted" = none)(ha:PA X [e] t)
  (he:backTo pos (starEach [e] X.env)=(false,eval e X.env) :: backTo pos (starEach [] X.env):=by rfl)
  (hplain:(backTo pos (starEach [e] X.env)).any (·.1)=false:=by rfl):PE X (.Call (.Name "sorted" p) [e] [⟨some "reverse",.Constant (.bool true) j cp,kp⟩] pos) (qSj X.K t):=by
 intro pins s σ H Q I h;refine wpAny_Call_Name_kw (qEt I hg hm (by decide +kernel:bootBuiltins "sorted" = some (.builtin "sorted")) ?_ (by decide) (by decide));refine PyProof.Rows.callWith_kw (thn (ha pos pins s σ H _ I h) fun us s1 ⟨vs,H1,I1,r1,q1⟩=>?_) he hplain;obtain⟨a,ns,rfl,hq,h64,q⟩:=q1;obtain⟨u,rfl,rx⟩:=qCv r1;cases rx;refine hDz (Constant_bool (hE5 ?_));obtain⟨its,rv,pl,hz⟩:=I1.list hq;have hl:=rv.length;rw[hA1]at hl;refine sorted_ints_rev (b:=true) pl.isList (qD8 rv) (by omega) fun out ns' h1 h2 h3=>?_
 obtain⟨e,he⟩:=sortedAll_at s1.heap its out;have nz:H1 (s1.heap.objs.size+1)=none:=I1.hok.fresh (hB7 _);refine⟨.ref (s1.heap.objs.size+1),_,I1.laid (t':=s1.toks) (a:=s1.heap.objs.size+1) (o:=.lst (ns'.map V.int)) (fun b o eb=>sortedAll_old eb) (hB7 _) ?_,rfl,q _ ns' nz h2 h3⟩;refine⟨?_,out.toList,e,qHk h1,by simpa using he⟩;rw[hA1,h2.length_eq];exact hBi (qAj (by omega))
def zBw:V->List V->Hp->VK->Prop:=fun x vs H Q=>∃i:Int,x = .int i/\vs=[]/\Q (.int (Builtin.Int.intBits i:Nat)) H
theorem qXf:MtR X "int.bit_length" zBw:=by
 intro pins s σ H x vs v us Q I rx rv h;obtain⟨i,rfl,rfl,q⟩:=h;obtain⟨t,rfl⟩:=rx;have hus:=rv.zero;subst hus;exact call_int_bit_length ⟨.int _,H,I.tok _,⟨_,rfl⟩,q⟩
end
section
variable{X:Cx}
def zCc(K:PySem.W.Frag)(ta:TA):TI:=fun σ H R=>ta σ H fun vs H1=>∃(a:Addr) (xs:List V),vs=[.ref a]/\SqL K H1 a xs/\R (Itp xs.length (fun H=>SqL K H a xs) (fun i=>[.int (i:Nat),xs.getD i .non])) H1
theorem qR2:bootBuiltins "enumerate" = some (.type "enumerate"):=by decide +kernel
theorem qQa(hg:Gl X "enumerate")(hm:X.mg "enumerate" = none)(ha:PA X [a] ta)(hs:starEach [a] X.env=[(false,eval a X.env)]:=by rfl) :
  PI X (.Tuple elts ct tpos) (.Call (.Name "enumerate" p) [a] [] pos) (zCc X.K ta):=by
 intro pins s σ H R I h;refine Call_ (qEt I hg hm qR2 (hD9 (thn (ha pos pins s σ H _ I h) fun us s1 ⟨vs,H1,I1,r1,q1⟩=>?_) (by rw[hs];rfl) (by rfl)));obtain⟨l,xs,e,hx,q⟩:=q1;subst e;obtain⟨u,rfl,rx⟩:=qCv r1;cases rx;obtain⟨it1,rv1,pl1,hz1⟩:=I1.list hx;have b1:l<s1.heap.objs.size:=by obtain⟨o,n,e,_⟩:=pl1;exact Heap.lt_size e
 refine call_enumerate_list pl1.isList fun h1 z1 z2 z3 z7=>?_
 refine wpAny_pyIter_enum z1 ?_;have hfp:∀b∈[s1.heap.objs.size+1,s1.heap.objs.size],s1.heap.objs.size<=b:=fun b hb=>by
  simp only[hAg,hDr,or_false]at hb;rcases hb with rfl|rfl
  ·exact Nat.le_add_right _ _
  ·exact hA6 _
 refine⟨s1.heap.objs.size+1,[s1.heap.objs.size+1,s1.heap.objs.size],
  fun i h=>(∃old,IsEnum h (s1.heap.objs.size+1) s1.heap.objs.size i old)/\h.IsListIter s1.heap.objs.size l i,
  _,H1,rfl,I1.kept (t':=s1.toks) z7,
  qNm (s1.heap.objs.size+1) _ [s1.heap.objs.size+1,s1.heap.objs.size,l] [s1.heap.objs.size+1,s1.heap.objs.size] _ _ _ _ (by simp) (fun b hb=>hb) (fun i h st b hb=>?_) (fun i h h' st k=>?_) (fun i=>by show 2<=sizeLine;decide) ?_ (fun A i s' Q E st hQ=>by
   obtain⟨⟨old,he⟩,_⟩:=st;exact wpAny_pyIter_enum he hQ),
  ⟨⟨_,z1⟩,z2⟩,fun b hb=>I1.fpOk (hfp b hb) (I1.hok.fresh (hfp b hb)),q⟩
 ·obtain⟨⟨old,a1⟩,⟨o4,a4,c4,d4⟩⟩:=st;simp only[hAg,hDr,or_false]at hb;rcases hb with rfl|rfl
  ·exact⟨_,a1,fun v z=>by cases z⟩
  ·exact⟨_,a4,fun v z=>by rw[d4]at z;cases z⟩
 ·obtain⟨⟨old,a1⟩,a4⟩:=st;exact⟨⟨old,k _ (by simp) _ a1⟩,a4.at fun o e=>k _ (by simp) o e⟩
 ·intro X' hP hw hK hc pins' s' σ' H' I' hL;rw[<-hK]at hL;obtain⟨jt1,sv1,ql1,_⟩:=I'.list hL;have m1:=sv1.length;have ne1:l≠s1.heap.objs.size:=hAn b1;have Wz:=WalksT.enumerateD (A:=X'.A) (Draws.list (prog:=X.prog) (w:=X.w) (A:=X'.A.in1) (I'.ok.hd hc) s1.heap.objs.size l ne1 jt1.toArray) (s1.heap.objs.size+1) (Nat.succ_ne_self _) (fun z=>by
   simp only[hAg,hDr,or_false]at z;rcases z with z|z
   ·exact Nat.succ_ne_self _ z
   ·exact absurd b1 (by rw[<-z];exact Nat.not_lt_of_le (hB7 _))) (by simp)
  rw[show jt1.toArray.size=xs.length by show jt1.length=_;rw[m1]]at Wz;refine⟨_,_,_,Wz,fun i st=>?_,fun i h st=>?_,fun i vals pv=>?_⟩
  ·exact⟨st.1,st.2,ql1.isList⟩
  ·exact⟨st.1,st.2.1⟩
  ·obtain⟨t,x,e1,rfl⟩:=pv;have e1:jt1[i]?=some x:=by simpa using e1
   have c1:i<xs.length:=by rw[m1];exact(hAq.mp e1).1
   obtain⟨u,d1,d2⟩:=sv1.get (hA2 c1);rw[e1]at d1;cases d1;show qA7 [.int (i:Nat),xs.getD i .non] [.int i t,x];rw[hAe,hA2 c1];exact .cons ⟨t,rfl⟩ (.cons d2 .nil)
end
end L2
namespace My
open PySem L2
noncomputable abbrev iV(n:Nat):V:=.int (n:Int)
def LsN(H:Hp)(a:Addr)(ms:List Nat):Prop:=H a=some (.lst (ms.map iV))
theorem qEx:bootBuiltins "min" = some (.builtin "min"):=by decide +kernel
theorem qG2:bootBuiltins "sum" = some (.builtin "sum"):=by decide +kernel
theorem qDz{as:List Str}{i:Nat}{x:V}(e:(as.map V.str)[i]?=some x):∃a,x = .str a/\as[i]?=some a:=by
 rw[hAk]at e;cases ha:as[i]? with
 |none=>rw[ha]at e;cases e
 |some a=>rw[ha]at e;exact⟨a,(hAt e).symm,rfl⟩
theorem qE8{as:List Addr}{i:Nat}{x:V}(e:(as.map V.ref)[i]?=some x):∃a,x = .ref a/\as[i]?=some a:=by
 rw[hAk]at e;cases ha:as[i]? with
 |none=>rw[ha]at e;cases e
 |some a=>rw[ha]at e;exact⟨a,(hAt e).symm,rfl⟩
theorem qBn{ms:List Nat}{i:Nat}{x:V}(e:(ms.map iV)[i]?=some x):∃n,x=iV n/\ms[i]?=some n:=by
 rw[hAk]at e;cases ha:ms[i]? with
 |none=>rw[ha]at e;cases e
 |some a=>rw[ha]at e;exact⟨a,(hAt e).symm,rfl⟩
theorem qCs(ms:List Nat):ms.map iV=(ms.map fun n:Nat=>(n:Int)).map V.int:=by rw[hAr];rfl
noncomputable def qAu(names row:List Str):Nat:=names.foldl (fun m n=>2*m+(if n∈row then 1 else 0)) 0
theorem qFc(names row:List Str)(n:Str):qAu (names++[n]) row=2*qAu names row+(if n∈row then 1 else 0):=by unfold qAu;rw[hC7];rfl
theorem qA1(row:List Str)(names:List Str):∀j,(qAu names row).testBit j=(decide (j<names.length) && decide (∃n,names[names.length - 1 - j]?=some n/\n∈row)):=by
 refine qEe (P:=fun names=>∀j,(qAu names row).testBit j=(decide (j<names.length) && decide (∃n,names[names.length - 1 - j]?=some n/\n∈row))) (fun j=>by simp[qAu]) (fun l n ih j=>?_) names;rw[qFc,hAj];show _=(decide (j<l.length+1) && decide (∃m,(l++[n])[l.length+1 - 1 - j]?=some m/\m∈row));cases j with
 |zero =>
  rw[hAw,decide_eq_true (by omega:0<l.length+1),hBg];refine decide_eq_decide.mpr ?_;rw[show l.length+1 - 1 - 0=l.length by omega,hCf (hA6 _)];simp;by_cases h:n∈row
  ·simp[h]
  ·simp[h]
 |succ j =>
  rw[hCl,show(2*qAu l row+(if n∈row then 1 else 0)) / 2=qAu l row by split <;> omega,ih j];by_cases hj:j<l.length
  ·rw[decide_eq_true hj,decide_eq_true (by omega:j+1<l.length+1),show l.length+1 - 1 - (j+1)=l.length - 1 - j by omega,hDf (by omega)]
  ·rw[decide_eq_false hj,decide_eq_false (by omega:¬j+1<l.length+1)];rfl
theorem qEp(names row:List Str):qAu names row<2^names.length:=hBh _ fun i hi=>by rw[qA1,decide_eq_false (by omega)];rfl
def qO2:Sp:=fun vs H Q _=>∃(pn pr:Addr) (names row:List Str),vs=[.ref pn,.ref pr]/\LsS H pn names/\LsS H pr row/\Q (iV (qAu names row)) H
noncomputable def rowM(names:List Str)(x:Nat):List Str:=(List.range names.length).filterMap fun i=>if x.testBit (names.length - 1 - i)=true then names[i]? else none
def qGe:Sp:=fun vs H Q _=>∃(pn:Addr) (names:List Str) (x:Nat),vs=[.ref pn,iV x]/\LsS H pn names/\names.length<=12/\∀r H',Ext H H'->H r=none->LsS H' r (rowM names x)->Q (.ref r) H'
theorem qGg(x k:Nat):Builtin.bitAnd ((x:Int) / 2^k) 1=if x.testBit k=true then 1 else 0:=by
 have e:(x:Int) / 2^k=((x / 2^k:Nat):Int):=by rw[Int.natCast_ediv,Int.natCast_pow];rfl
 have e1:(1:Int)=((1:Nat):Int):=rfl;rw[e];show Builtin.bitAnd _ ((1:Nat):Int)=_;rw[qBy,Nat.and_one_is_mod,Nat.testBit_eq_decide_div_mod_eq];rcases hBu (x / 2^k) with h|h <;> rw[h] <;> rfl
def qUp:Sp:=fun vs H Q _=>∃(x:Nat) (p:Addr) (k:List Nat),vs=[iV x,.ref p]/\LsN H p k/\(∀s∈k,s≠0)/\Q (iV (red1 k x)) H
theorem qQl(x:Nat){s:Nat}(hs:s≠0):(if Builtin.bitXor (x:Int) (s:Int)<(x:Int) then Builtin.bitXor (x:Int) (s:Int) else (x:Int))=((rd1 x s:Nat):Int):=by
 rw[qB3,<-qXh x hs];by_cases h:x^^^s<x
 ·rw[if_pos h,if_pos (by omega)]
 ·rw[if_neg h,if_neg (by omega)]
def qOz:Sp:=fun vs H Q _=>∃(p:Addr) (ms:List Nat),vs=[.ref p]/\LsN H p ms/\ms.length<=24/\∀(r:Addr) (M:List Nat) (H':Hp),Ext H H'->H r=none->LsN H' r M->M.Perm (red ms)->M.Pairwise (fun a b=>b<=a)->Q (.ref r) H'
def qUr:Sp:=fun vs H Q _=>∃x:Nat,vs=[iV x]/\x≠0/\x<2^24/\Q (iV (2^x.log2)) H
theorem qTa(k:List Nat)(x:Nat):(qNv k x).length<=k.length+1:=by
 unfold qNv;split
 ·omega
 ·rw[hAj,hA1];exact hA6 _
theorem qI6(xs:List Nat):(red xs).length<=xs.length:=by
 refine qEf (P:=fun xs=>(red xs).length<=xs.length) (hA6 _) (fun l t ih=>?_) xs;rw[qDq,hAj];have:=qTa (red l) t;show _<=l.length+1;omega
section
variable{P:Program}{w:World}{K:PySem.W.Frag}{mg:Str->Option Value}{base:Heap}{f f1 f2:Addr}{fd fd1 fd2:FuncData}
noncomputable abbrev maN:List Str:=["names","row","mask","name"]
theorem qL4:FnScope maN ["names","row"] (qAd qWf):=⟨rfl,rfl,rfl,by decide +kernel,rfl,by decide +kernel,by decide +kernel⟩
theorem qW3(F:Fun K "mask_of" "mask_of" qWf f fd):FnOk P w K mg base CX0 1 f fd ["names","row"] qO2:=by
 refine F.ok qL4 (fun vs H Q E h=>?_) (fun cdv A outer s H vs Q E hr h=>?_)
 ·obtain⟨pn,pr,names,row,rfl,_⟩:=h;rfl
 obtain⟨pn,pr,names,row,rfl,hn,hw,q⟩:=h;refine⟨_,qAc (qAl (i:=2) qL4.nd rfl (Or.inl rfl) qAe)
  (qAc (qA8 PassesOwn.never rfl (qAq (pv 0)) (qAh (i:=3) qL4.nd rfl (Or.inl rfl))
   (qAf (qAl (i:=2) qL4.nd rfl (Or.inl rfl) (qAk qA0 (qAk qDi qAe (pv 2)) (qTd (qAp qJd (pv 3) (pv 1) (by with_unfolding_all rfl)) qAe qAe)))))
  (qAf (qAv (pv 2)))),?_⟩
 try dsimp only[Cx.wish,qCd]
 refine⟨_,rfl,pn,rfl,⟨_,SqL.of hn⟩,?_⟩;refine qBh (xs:=names.map V.str) (fun i σ H'=>H'=H/\∃x3:Option V,σ=[some (.ref pn),some (.ref pr),some (iV (qAu (names.take i) row)),x3]) ⟨rfl,none,rfl⟩ (fun i σ H' _ h=>by rw[h.1];exact SqL.of hn) ?_ ?_
 ·rintro i x σ H' hx ⟨rfl,x3,rfl⟩;obtain⟨y,rfl,hy⟩:=qDz hx;refine⟨_,rfl,_,_,rfl,rfl,.inl ⟨by decide,by decide⟩,_,rfl,_,rfl,pr,_,rfl,.inl (SqL.of hw),rfl,flat_strs _,_,rfl,?_⟩;rw[if_neg (by decide),qFg];refine qDa (fun c=>?_) (fun c=>?_)
  ·have c':y∈row:=by simpa using c
   refine⟨_,_,rfl,rfl,rfl,some (.str y),?_⟩;rw[show iV (qAu (names.take (i+1)) row)=V.int (2*((qAu (names.take i) row:Nat):Int)+1) by rw[qAm hy,qFc,if_pos c'];rfl];rfl
  ·have c':¬y∈row:=by simpa using c
   refine⟨_,_,rfl,rfl,rfl,some (.str y),?_⟩;rw[show iV (qAu (names.take (i+1)) row)=V.int (2*((qAu (names.take i) row:Nat):Int)+0) by rw[qAm hy,qFc,if_neg c'];rfl];rfl
 ·rintro σ H' ⟨rfl,x3,rfl⟩;rw[hA1,hA7 (hA6 _)];exact⟨_,rfl,q⟩
theorem qPd:FnScope ["names","mask","last"] ["names","mask"] (qAd qL7):=⟨rfl,rfl,rfl,by decide +kernel,rfl,by decide +kernel,by decide +kernel⟩
noncomputable abbrev roN:List Str:=["at","name","mask","last"]
theorem qTj(F:Fun K "row_of" "row_of" qL7 f fd)(ml:mg "len" = none)(me:mg "enumerate" = none):FnOk P w K mg base CX0 1 f fd ["names","mask"] qGe:=by
 refine F.ok qPd (fun vs H Q E h=>?_) (fun cdv A outer s H vs Q E hr h=>?_)
 ·obtain⟨pn,names,x,rfl,_⟩:=h;rfl
 obtain⟨pn,names,x,rfl,hn,ln,q⟩:=h;refine⟨_,qAc (qAl (i:=2) qPd.nd rfl (Or.inr rfl) (qAk qHh (qAn qAo rfl ml hBf (qAa (pv 0) qAb)) qAe))
  (qAf (qAv (qBo (N:=["names","mask","last"]) (sc:=qAd qL7) (N':=roN) (sub:=[none,none,some 1,some 2]) rfl rfl (CmpOk.of (by decide +kernel)) rfl (qQa rfl me (qAa (pv 0) qAb))
   (fun C s H fp=>⟨(show PG _ _ (zA1 K 2 _) from qGm rfl (qBf (qAh (i:=0) (by show roN.Nodup;decide) rfl (Or.inl rfl)) (qBf (qAh (i:=1) (by show roN.Nodup;decide) rfl (Or.inl rfl)) qD3))),
    qB1 (qAp qDj (qAk qCl (qAk qJc (pv 2) (qAk qHh (pv 3) (pv 0))) qAe) qAe (qAx _)),pv 1⟩)))),?_⟩
 try dsimp only[Cx.wish,qCd]
 refine⟨_,rfl,pn,_,rfl,.inl (SqL.of hn),_,_,rfl,rfl,?_⟩;refine⟨_,rfl,pn,_,rfl,SqL.of hn,?_⟩;rw[hA1];refine qOj (fun i ys H'=>Ext H H'/\ys=((List.range i).filterMap fun i=>if x.testBit (names.length - 1 - i)=true then names[i]? else none).map V.str) ⟨Ext.refl _,rfl⟩ (fun i ys H' _ p=>SqL.of (p.1 _ _ hn)) ?_ ?_
 ·rintro i ys H' T hi ⟨e,rfl⟩ hT;have gd:(names.map V.str).getD i .non = .str names[i]:=by rw[hAe,hAk,hA2 hi];rfl
  have e2:=e.trans (Ext.new hT (.tup [V.int (i:Nat),(names.map V.str).getD i .non]));refine⟨T,_,rfl,SqT.of upd_same,rfl,_,_,rfl,_,_,rfl,rfl,?_⟩;refine⟨Sle.set _ (Sle.set _ (Sle.refl _) (fun u z=>by cases z)) (fun u z=>by cases z),?_⟩;have k:(((names.length:Nat):Int) - 1 - (i:Nat))=((names.length - 1 - i:Nat):Int):=by omega
  refine⟨_,rfl,_,rfl,_,rfl,_,_,rfl,rfl,_,_,rfl,rfl,(by show(0:Int)<=_;omega),_,_,rfl,rfl,rfl,_,rfl,?_⟩;have fm:((List.range (i+1)).filterMap fun i=>if x.testBit (names.length - 1 - i)=true then names[i]? else none)=((List.range i).filterMap fun i=>if x.testBit (names.length - 1 - i)=true then names[i]? else none)++(if x.testBit (names.length - 1 - i)=true then [names[i]] else []):=by
   rw[hCc,List.filterMap_append];congr 1;by_cases b:x.testBit (names.length - 1 - i)=true
   ·simp[b,hA2 hi]
   ·simp[b]
  have sz:=List.length_filterMap_le (fun i=>if x.testBit (names.length - 1 - i)=true then names[i]? else none) (List.range i);rw[hAp]at sz;have key:(decide (V.int (Builtin.bitAnd ((x:Int) / 2^(((names.length:Nat):Int) - 1 - (i:Nat)).toNat) 1)=V.int 1)=true)↔x.testBit (names.length - 1 - i)=true:=by
   rw[decide_eq_true_iff,V.int.injEq,k,hB1,qGg];by_cases b:x.testBit (names.length - 1 - i)=true
   ·simp[b]
   ·simp[b]
  refine qDa (fun c=>?_) (fun c=>?_)
  ·have b:=key.mp c;refine⟨_,rfl,by rw[hA1];exact qAj (by omega),nxt hi ⟨e2,?_⟩⟩;rw[fm,if_pos b,hA4,gd];rfl
  ·have b:¬x.testBit (names.length - 1 - i)=true:=fun z=>c (key.mpr z)
   refine nxt hi ⟨e2,?_⟩;rw[fm,if_neg b,hBd]
 ·rintro ys H' ⟨e,rfl⟩ r hr';exact q r _ (e.trans (Ext.new hr' _)) (e.none hr') upd_same
theorem qPf:FnScope ["mask","kept","step"] ["mask","kept"] (qAd qWg):=⟨rfl,rfl,rfl,by decide +kernel,rfl,by decide +kernel,by decide +kernel⟩
theorem qW4(F:Fun K "lessened" "lessened" qWg f fd)(mmi:mg "min" = none):FnOk P w K mg base CX0 1 f fd ["mask","kept"] qUp:=by
 refine F.ok qPf (fun vs H Q E h=>?_) (fun cdv A outer s H vs Q E hr h=>?_)
 ·obtain⟨x,p,k,rfl,_⟩:=h;rfl
 obtain⟨x,p,k,rfl,hk,nz,q⟩:=h;refine⟨_,qAc (qA8 PassesOwn.never rfl (qAq (pv 1)) (qAh (i:=2) qPf.nd rfl (Or.inl rfl))
   (qAf (qAl (i:=0) qPf.nd rfl (Or.inl rfl) (qAn (qG1 rfl) rfl mmi qEx (qAa (pv 0) (qAa (qAk qDw (pv 0) (pv 2)) qAb))))))
  (qAf (qAv (pv 0))),?_⟩
 try dsimp only[Cx.wish,qCd]
 refine⟨_,rfl,p,rfl,⟨_,SqL.of hk⟩,?_⟩;refine qBh (xs:=k.map iV) (fun i σ H'=>H'=H/\∃x2:Option V,σ=[some (iV (red1 (k.take i) x)),some (.ref p),x2]) ⟨rfl,none,rfl⟩ (fun i σ H' _ h=>by rw[h.1];exact SqL.of hk) ?_ ?_
 ·rintro i v σ H' hx ⟨rfl,x2,rfl⟩;obtain⟨s,rfl,hs⟩:=qBn hx;refine⟨_,rfl,_,rfl,_,rfl,_,_,rfl,rfl,_,_,rfl,rfl,some (iV s),?_⟩;rw[qQl _ (nz s (hAc hs)),show red1 (k.take (i+1)) x=rd1 (red1 (k.take i) x) s by rw[qAm hs];unfold red1;rw[hC7];rfl];rfl
 ·rintro σ H' ⟨rfl,x2,rfl⟩;rw[hA1,hA7 (hA6 _)];exact⟨_,rfl,q⟩
theorem qI4:FnScope ["masks","kept","mask","fresh"] ["masks"] (qAd qSz):=⟨rfl,rfl,rfl,by decide +kernel,rfl,by decide +kernel,by decide +kernel⟩
theorem qW2(F:Fun K "reduced" "reduced" qSz f fd)(G:Cl P w K mg base CX0 1 f1 fd1 ["mask","kept"] qUp "lessened")(mmi:mg "min" = none)(mso:mg "sorted" = none):FnOk P w K mg base CX0 2 f fd ["masks"] qOz:=by
 refine F.ok qI4 (fun vs H Q E h=>?_) (fun cdv A outer s H vs Q E hr h=>?_)
 ·obtain⟨p,ms,rfl,_⟩:=h;rfl
 obtain⟨p,ms,rfl,hp,lm,q⟩:=h;refine⟨_,qAc (qAl (i:=1) qI4.nd rfl (Or.inl rfl) (qA6 qAb))
  (qAc (qA8 PassesOwn.never rfl (qAq (pv 0)) (qAh (i:=2) qI4.nd rfl (Or.inl rfl))
   (qAc (qAl (i:=3) qI4.nd rfl (Or.inr rfl) (qAt G hr rfl .nil qAs (qAa (pv 2) (qAa (pv 1) qAb))))
   (qAf (qB2 (qAp qId (pv 3) qAe (qAx _))
    (qAf (qAl (i:=1) qI4.nd rfl (Or.inl rfl) (qAk qC0 (qBo (N:=["masks","kept","mask","fresh"]) (sc:=qAd qSz) (N':=["step","fresh"]) (sub:=[none,some 3]) rfl rfl (CmpOk.of (by decide +kernel)) rfl (qAq (pv 1))
     (fun C s H fp=>⟨qAh (i:=0) (by show(["step","fresh"]:List Str).Nodup;decide) rfl (Or.inl rfl),qAy,qAn (qG1 rfl) rfl mmi qEx (qAa (pv 0) (qAa (qAk qDw (pv 0) (pv 1)) qAb))⟩)) (qA6 (qAa (pv 3) qAb)))))
    qA4))))
  (qAf (qAv (qNz rfl mso (qAa (pv 1) qAb))))),?_⟩
 try dsimp only[Cx.wish,qCd]
 refine⟨hAs _,fun ke ke0=>?_⟩;have X0:=Ext.new ke0 (.lst []);refine⟨_,rfl,p,rfl,⟨_,SqL.of (X0 _ _ hp)⟩,?_⟩;refine qBh (xs:=ms.map iV) (fun i σ H'=>∃(ke:Addr) (x2 x3:Option V),σ=[some (.ref p),some (.ref ke),x2,x3]/\Ext H H'/\LsN H' ke (red (ms.take i))) ⟨ke,none,none,rfl,X0,upd_same⟩ (fun i σ H' _ h=>by obtain⟨_,_,_,_,e,_⟩:=h;exact SqL.of (e _ _ hp)) ?_ ?_
 ·rintro i v σ H' hx ⟨ke,x2,x3,rfl,e,hk⟩;obtain⟨m,rfl,hm⟩:=qBn hx;have hi:i<ms.length:=at_lt hm;have rr:=qC9 (ms.take i);have lr:=qI6 (ms.take i);rw[hAl]at lr;refine⟨_,rfl,_,rfl,m,ke,_,rfl,hk,rr.nz,?_⟩;have sn:red (ms.take (i+1))=qNv (red (ms.take i)) m:=by rw[qAm hm,qDq]
  refine⟨_,rfl,rfl,_,rfl,?_⟩;refine qDa (fun c=>?_) (fun c=>?_)
  ·have c':red1 (red (ms.take i)) m≠0:=fun z=>by rw[z]at c;simp at c
   refine⟨_,rfl,ke,rfl,⟨_,SqL.of hk⟩,?_⟩;refine qAr (xs:=(red (ms.take i)).map iV) (fun j ys H2=>H2=H'/\ys=(((red (ms.take i)).take j).map fun s=>rd1 s (red1 (red (ms.take i)) m)).map iV) ⟨rfl,rfl⟩ (fun j ys H2 _ h=>by rw[h.1];exact SqL.of hk) ?_ ?_
   ·rintro j x ys H2 hx2 ⟨rfl,rfl⟩;obtain⟨s,rfl,hs⟩:=qBn hx2;have hj:=at_lt hs;refine⟨Sle.set _ (Sle.refl _) (fun u z=>by cases z),iteT (B:=False) ⟨_,rfl,_,rfl,_,rfl,_,_,rfl,rfl,_,_,rfl,?_,nxt (at_lt hx2) ⟨rfl,?_⟩⟩⟩
    ·rw[hA1,hA1,hAl];exact qAj (by omega)
    ·rw[qQl _ c',qAm hs,hA4,hA4];rfl
   ·rintro ys H2 ⟨rfl,rfl⟩ l hl;rw[hA1,hA7 (hA6 _)];have n1:=Ext.new hl (.lst (((red (ms.take i)).map fun s=>rd1 s (red1 (red (ms.take i)) m)).map iV));refine⟨_,rfl,(by show 1<=sizeLine;decide),fun l2 hl2=>?_⟩;have n2:=Ext.new hl2 (.lst [iV (red1 (red (ms.take i)) m)]);refine⟨l,l2,_,_,rfl,rfl,n2 _ _ upd_same,upd_same,?_,fun l3 hl3=>?_⟩
    ·rw[hA1,hA1];show _+1<=sizeLine;exact hBi (qAj (by omega))
    ·refine⟨l3,_,_,rfl,((e.trans n1).trans n2).trans (Ext.new hl3 _),?_⟩;rw[sn];unfold qNv LsN;rw[if_neg c',upd_same,hA4];rfl
  ·have c':red1 (red (ms.take i)) m=0:=by
    have:(red1 (red (ms.take i)) m:Int)=0:=by simpa using c
    omega
   refine⟨ke,_,_,rfl,e,?_⟩;rw[sn];unfold qNv;rw[if_pos c'];exact hk
 ·rintro σ H' ⟨ke,x2,x3,rfl,e,hk⟩;rw[hA1,hA7 (hA6 _)]at hk;have lr:=qI6 ms;refine⟨_,rfl,ke,(red ms).map (fun n:Nat=>(n:Int)),rfl,by rw[<-qCs];exact SqL.of hk,by rw[hA1];omega,fun r ns hr' pm od=>?_⟩;have od':ns.Pairwise fun a b=>a >= b:=od
  obtain⟨M,rfl⟩:∃M:List Nat,ns=M.map (fun n:Nat=>(n:Int)):=by
   refine⟨ns.map Int.toNat,?_⟩;rw[hAr];refine(hDp _).symm.trans (hBq fun a ha=>?_);obtain⟨n,_,rfl⟩:=hA3.mp (pm.mem_iff.mp ha);simp
  have pm':M.Perm (red ms):=by
   have:=pm.map Int.toNat;rw[hAr,hAr]at this;have idn:(Int.toNat∘fun n:Nat=>(n:Int))=id:=by funext n;simp
   rw[idn,hDp,hDp]at this;exact this
  refine q r M _ (e.trans (Ext.new hr' _)) (e.none hr') (by unfold LsN;rw[upd_same,qCs]) pm' ?_;rw[hAv]at od';exact List.Pairwise.imp (fun {a b} h=>by omega) od'
theorem qY6:FnScope ["mask"] ["mask"] (qAd qWh):=⟨rfl,rfl,rfl,by decide +kernel,rfl,by decide +kernel,by decide +kernel⟩
theorem qW6(F:Fun K "lead_of" "lead_of" qWh f fd):FnOk P w K mg base CX0 1 f fd ["mask"] qUr:=by
 refine F.ok qY6 (fun vs H Q E h=>?_) (fun cdv A outer s H vs Q E hr h=>?_)
 ·obtain⟨x,rfl,_⟩:=h;rfl
 obtain⟨x,rfl,nz,lt,q⟩:=h;refine⟨_,qAf (qAv (qAk qEn qAe (qAk qHh (qZk PySem.F.plainAttrs_int PySem.F.slot_int_bit_length PySem.F.type_int_bit_length qXf (pv 0)) qAe))),?_⟩;try dsimp only[Cx.wish,qCd]
 have l24:x.log2<24:=(Nat.log2_lt nz).mpr lt;have ib:Builtin.Int.intBits (x:Int)=x.log2+1:=by
  unfold Builtin.Int.intBits;rw[if_neg (by simpa using nz)];simp
 refine⟨_,rfl,rfl,x,rfl,rfl,_,_,rfl,rfl,_,_,rfl,rfl,?_⟩;rw[ib];have e:((x.log2+1:Nat):Int) - 1=(x.log2:Nat):=by omega
 rw[e];refine⟨⟨by omega,by omega,by decide⟩,?_⟩;dsimp only;rw[hB1,Int.one_mul];have p2:((2:Int)^x.log2)=((2^x.log2:Nat):Int):=by rw[Int.natCast_pow];rfl
 rw[p2];exact q
end
theorem RR.perm{a b:List Nat}(h:RR a)(p:b.Perm a):RR b:=⟨fun s hs=>h.nz s (p.mem_iff.mp hs),(p.pairwise_iff (fun {x y} z=>⟨z.2,z.1⟩)).mpr h.ap⟩
theorem qFy:∀l:List Nat,(l.map fun n:Nat=>(n:Int)).sum=((l.sum:Nat):Int)
 |[]=>rfl
 |a :: l=>by rw[hB8,List.sum_cons,List.sum_cons,qFy l];omega
theorem qE4(p:Nat):(1:Int)*2^((p:Int)).toNat=((2^p:Nat):Int):=by
 rw[hB1,Int.one_mul,Int.natCast_pow];rfl
def qY0:Sp:=fun vs H Q _=>∃(p:Addr) (S:List Nat) (m:Nat),vs=[.ref p,iV m]/\LsN H p S/\RR S/\(∀s∈S,s<2^m)/\m<=12/\S.length<=24/\∀r H',Ext H H'->H r=none->LsN H' r (crAll S m)->Q (.ref r) H'
def qC8(H:Hp)(T:Addr)(names:List Str)(rows:List (List Str)):Prop:=∃a b,H T=some (.tup [.ref a,.ref b])/\LsS H a names/\qDb H b rows
def qVt(H0 H:Hp)(T:Addr)(names:List Str)(rows:List (List Str)):Prop:=∃a b,H T=some (.tup [.ref a,.ref b])/\LsS H a names/\H0 a=none/\qR8 H0 H b rows/\H0 b=none
theorem qC8.ext{H H':Hp}{T:Addr}{names:List Str}{rows:List (List Str)}(h:qC8 H T names rows)(e:Ext H H'):qC8 H' T names rows:=by
 obtain⟨a,b,h1,h2,h3⟩:=h;exact⟨a,b,e _ _ h1,e _ _ h2,h3.ext e⟩
theorem qVt.tin{H0 H:Hp}{T:Addr}{names:List Str}{rows:List (List Str)}(h:qVt H0 H T names rows):qC8 H T names rows:=by
 obtain⟨a,b,h1,h2,h3,h4,h5⟩:=h;exact⟨a,b,h1,h2,h4.rows⟩
theorem qVt.down{H0 H1 H:Hp}{T:Addr}{names:List Str}{rows:List (List Str)}(h:qVt H1 H T names rows)(e:Ext H0 H1):qVt H0 H T names rows:=by
 obtain⟨a,b,h1,h2,h3,⟨as,h4,h6⟩,h5⟩:=h;exact⟨a,b,h1,h2,e.none h3,⟨as,h4,Paired.mapP h6 fun a r z=>⟨z.1,e.none z.2.1,z.2.2⟩⟩,e.none h5⟩
def qOy:Sp:=fun vs H Q _=>∃(pn pm:Addr) (names:List Str) (ms:List Nat),vs=[.ref pn,.ref pm]/\LsS H pn names/\names.length<=12/\LsN H pm ms/\ms.length<=24/\∀(T:Addr) (M:List Nat) (H':Hp),Ext H H'->H T=none->qVt H H' T names (M.map (rowM names))->M.Perm (red ms)->M.Pairwise (fun a b=>b<=a)->Q (.ref T) H'
def qGd:Sp:=fun vs H Q _=>∃(T:Addr) (names:List Str) (rows:List (List Str)),vs=[.ref T]/\qC8 H T names rows/\rows.length<=24/\∀(r:Addr) (M:List Nat) (H':Hp),Ext H H'->H r=none->LsN H' r M->M.Perm (red (rows.map (qAu names)))->M.Pairwise (fun a b=>b<=a)->Q (.ref r) H'
def qO5:Sp:=fun vs H Q _=>∃(T:Addr) (names:List Str) (rows:List (List Str)),vs=[.ref T]/\qC8 H T names rows/\names.length<=12/\rows.length<=24/\∀(T':Addr) (S M:List Nat) (H':Hp),Ext H H'->H T'=none->qVt H H' T' names (M.map (rowM names))->S.Perm (red (rows.map (qAu names)))->M.Perm (red (crAll S names.length))->M.Pairwise (fun a b=>b<=a)->Q (.ref T') H'
noncomputable def zCs(net:List Tr)(x:Str):List Str:=(net.filter fun t=>decide (t.2.1=x) != decide (t.2.2=x)).map (·.1)
section
variable{P:Program}{w:World}{K:PySem.W.Frag}{mg:Str->Option Value}{base:Heap}{f f1 f2 f3 f4:Addr}{fd fd1 fd2 fd3 fd4:FuncData}
noncomputable abbrev crN:List Str:=["steps","width","leads","told","place","bit"]
theorem qPi:FnScope crN ["steps","width"] (qAd qZb):=⟨rfl,rfl,rfl,by decide +kernel,rfl,by decide +kernel,by decide +kernel⟩
theorem qZ0(F:Fun K "crossed_masks" "crossed_masks" qZb f fd)(G:Cl P w K mg base CX0 1 f1 fd1 ["mask"] qUr "lead_of")(msu:mg "sum" = none)(mr:mg "range" = none):FnOk P w K mg base CX0 2 f fd ["steps","width"] qY0:=by
 refine F.ok qPi (fun vs H Q E h=>?_) (fun cdv A outer s H vs Q E hr h=>?_)
 ·obtain⟨p,S,m,rfl,_⟩:=h;rfl
 obtain⟨p,S,m,rfl,hp,rr,lt,m12,lS,q⟩:=h;refine⟨_,qAc (qAl (i:=2) qPi.nd rfl (Or.inl rfl) (qAn (qG0 rfl) rfl msu qG2 (qAa (qBo (N:=crN) (sc:=qAd qZb) (N':=["step"]) (sub:=[none]) rfl rfl (CmpOk.of (by decide +kernel)) rfl (qAq (pv 0))
   (fun C s H fp=>⟨qAh (i:=0) (by show(["step"]:List Str).Nodup;decide) rfl (Or.inl rfl),qAy,qAt G hr rfl .nil qAs (qAa (pv 0) qAb)⟩)) qAb)))
  (qAc (qAl (i:=3) qPi.nd rfl (Or.inl rfl) (qA6 qAb))
  (qAc (qA8 PassesOwn.never rfl (qAw rfl mr (qAa (pv 1) qAb)) (qAh (i:=4) qPi.nd rfl (Or.inl rfl))
   (qAc (qAl (i:=5) qPi.nd rfl (Or.inr rfl) (qAk qEn qAe (pv 4)))
   (qAf (qB2 (qAp qDj (qAk qCl (pv 2) (pv 5)) qAe (qAx _))
    (qAf (qC3 (qFv hBb hBr hBs qBx (pv 3) (qAa
     (qAk qA0 (pv 5) (qAn (qG0 rfl) rfl msu qG2 (qAa (qBo (N:=crN) (sc:=qAd qZb) (N':=["step","bit"]) (sub:=[none,some 5]) rfl rfl (CmpOk.of (by decide +kernel)) rfl (qAq (pv 0))
      (fun C s H fp=>⟨qAh (i:=0) (by show(["step","bit"]:List Str).Nodup;decide) rfl (Or.inl rfl),qB1 (qAp qId (qAk qCl (pv 0) (pv 1)) qAe (qAx _)),qAt G hr rfl .nil qAs (qAa (pv 0) qAb)⟩)) qAb))) qAb))))
    qA4))))
  (qAf (qAv (pv 3))))),?_⟩
 try dsimp only[Cx.wish,qCd]
 have l24:∀s∈S,s<2^24:=fun s hs=>hAm (lt s hs) (hBt (by decide) (by omega))
 refine⟨_,rfl,p,rfl,⟨_,SqL.of hp⟩,?_⟩;refine qAr (xs:=S.map iV) (fun j ys H2=>H2=H/\ys=((S.take j).map fun s:Nat=>2^s.log2).map iV) ⟨rfl,rfl⟩ (fun j ys H2 _ h=>by rw[h.1];exact SqL.of hp) ?_ ?_
 ·rintro j v ys H2 hx ⟨rfl,rfl⟩;obtain⟨s,rfl,hs⟩:=qBn hx;have hj:=at_lt hs;have sm:=hAc hs;refine⟨Sle.set _ (Sle.refl _) (fun u z=>by cases z),iteT (B:=False) ⟨_,rfl,s,rfl,rr.nz s sm,l24 s sm,?_,nxt (at_lt hx) ⟨rfl,?_⟩⟩⟩
  ·rw[hA1,hA1,hAl];exact qAj (by omega)
  ·rw[qAm hs,hA4,hA4];rfl
 rintro ys H2 ⟨rfl,rfl⟩ l1 hl1;rw[hA1,hA7 (hA6 _)];have n1:=Ext.new hl1 (.lst ((S.map fun s:Nat=>2^s.log2).map iV));refine⟨l1,(S.map fun s:Nat=>2^s.log2).map (fun n:Nat=>(n:Int)),rfl,SqL.of (by rw[upd_same,qCs]),?_⟩;rw[qFy];refine⟨hAs _,fun to to1=>?_⟩;have to0:=n1.none to1;have n2:=n1.trans (Ext.new to1 (.lst []));refine⟨_,rfl,(m:Int),rfl,by omega,by omega,?_⟩;refine qBd (lo:=0) (n:=((m:Int)).toNat) (fun i σ H'=>∃(x4 x5:Option V),σ=[some (.ref p),some (iV m),some (iV (S.map fun s:Nat=>2^s.log2).sum),some (.ref to),x4,x5]/\Ext H2 H'/\LsN H' to (((List.range i).filter fun p=>!decide (isLd S p)).map (crM S))) ⟨none,none,rfl,n2,upd_same⟩ ?_ ?_
 ·rintro i σ H' hi ⟨x4,x5,rfl,e,ht⟩;have hi':i<m:=by omega
  refine⟨_,rfl,_,_,rfl,rfl,⟨by omega,by omega,by decide⟩,?_⟩;have bv:(fun i j:Int=>V.int (i*2^j.toNat)) 1 (0+(i:Int))=iV (2^i):=by
   show V.int (1*2^(0+(i:Int)).toNat)=_;rw[show(0+(i:Int))=(i:Nat) by omega,qE4]
  rw[bv];have sn:((List.range (i+1)).filter fun p=>!decide (isLd S p)).map (crM S)=((List.range i).filter fun p=>!decide (isLd S p)).map (crM S)++(if isLd S i then [] else [crM S i]):=by
   rw[hCc,hBm,hA4];congr 1;by_cases b:isLd S i
   ·simp[b]
   ·simp[b]
  have lb:=qQp rr i;refine⟨_,rfl,_,rfl,_,_,rfl,rfl,rfl,_,rfl,?_⟩;refine qDa (fun c=>?_) (fun c=>?_)
  ·have nl:¬isLd S i:=fun z=>by
    rw[decide_eq_true z]at lb;have ne:=(qFj _ i).mpr lb;have:Builtin.bitAnd (((S.map fun s:Nat=>2^s.log2).sum:Nat):Int) ((2^i:Nat):Int)=0:=by simpa using c
    rw[qBy]at this;omega
   refine⟨_,rfl,.inl ⟨rfl,_,SqL.of ht⟩,_,rfl,?_⟩;refine⟨_,rfl,p,rfl,⟨_,SqL.of (e _ _ hp)⟩,?_⟩;refine qAr (xs:=S.map iV) (fun j ys H3=>H3=H'/\ys=(((S.take j).filter fun s:Nat=>s.testBit i).map fun s:Nat=>2^s.log2).map iV) ⟨rfl,rfl⟩ (fun j ys H3 _ h=>by rw[h.1];exact SqL.of (e _ _ hp)) ?_ ?_
   ·rintro j v ys H3 hx ⟨rfl,rfl⟩;obtain⟨s,rfl,hs⟩:=qBn hx;have hj:=at_lt hs;have sm:=hAc hs;refine⟨Sle.set _ (Sle.refl _) (fun u z=>by cases z),_,rfl,_,rfl,_,_,rfl,rfl,rfl,_,rfl,?_⟩;have key:((!decide (V.int (Builtin.bitAnd (s:Int) ((2^i:Nat):Int))=V.int 0))=true)↔s.testBit i=true:=by
     rw[<-qFj s i,qBy];simp
    refine qDa (fun c3=>?_) (fun c3=>?_)
    ·have b:=key.mp c3;refine⟨_,rfl,s,rfl,rr.nz s sm,l24 s sm,?_,nxt (at_lt hx) ⟨rfl,?_⟩⟩
     ·have:=hB5 (fun s:Nat=>s.testBit i) (S.take j);rw[hAl]at this;rw[hA1,hA1];exact qAj (by omega)
     ·rw[qAm hs,hBm,hA4,hA4];simp[b]
    ·have b:¬s.testBit i=true:=fun z=>c3 (key.mpr z)
     refine nxt (at_lt hx) ⟨rfl,?_⟩;rw[qAm hs,hBm];simp[b]
   ·rintro ys H3 ⟨rfl,rfl⟩ l2 hl2;rw[hA1,hA7 (hA6 _)];have n3:=Ext.new hl2 (.lst (((S.filter fun s:Nat=>s.testBit i).map fun s:Nat=>2^s.log2).map iV));refine⟨l2,((S.filter fun s:Nat=>s.testBit i).map fun s:Nat=>2^s.log2).map (fun n:Nat=>(n:Int)),rfl,SqL.of (by rw[upd_same,qCs]),?_⟩;rw[qFy];refine⟨_,_,rfl,rfl,to,_,_,rfl,rfl,n3 _ _ ht,?_,?_⟩
    ·have:=hB5 (fun p=>!decide (isLd S p)) (List.range i);rw[hAp]at this;rw[hA1,hA1];exact qAj (by omega)
    ·refine⟨_,_,rfl,(e.trans n3).over to0 _,?_⟩;rw[sn,if_neg nl];unfold LsN;rw[upd_same,hA4];rfl
  ·have il:isLd S i:=hCi fun z=>by
    rw[decide_eq_false z]at lb;refine c ?_;have:(S.map fun s:Nat=>2^s.log2).sum&&&2^i=0:=hCi fun y=>by
     have:=(qFj _ i).mp y;rw[lb]at this;cases this
    show decide (V.int (Builtin.bitAnd (((S.map fun s:Nat=>2^s.log2).sum:Nat):Int) ((2^i:Nat):Int))=V.int 0)=true;rw[qBy,this];rfl
   refine⟨_,_,rfl,e,?_⟩;rw[sn,if_pos il,hBd];exact ht
 ·rintro σ H' ⟨x4,x5,rfl,e,ht⟩;rw[hB1]at ht;exact⟨_,rfl,q to _ e to0 ht⟩
theorem qY5:FnScope ["names","masks"] ["names","masks"] (qAd qSx):=⟨rfl,rfl,rfl,by decide +kernel,rfl,by decide +kernel,by decide +kernel⟩
theorem qWz(F:Fun K "table_from" "table_from" qSx f fd)(G1:Cl P w K mg base CX0 1 f1 fd1 ["names","mask"] qGe "row_of")
  (G2:Cl P w K mg base CX0 2 f2 fd2 ["masks"] qOz "reduced") (mL:mg "list" = none):FnOk P w K mg base CX0 3 f fd ["names","masks"] qOy:=by
 refine F.ok qY5 (fun vs H Q E h=>?_) (fun cdv A outer s H vs Q E hr h=>?_)
 ·obtain⟨pn,pm,names,ms,rfl,_⟩:=h;rfl
 obtain⟨pn,pm,names,ms,rfl,hn,ln,hm,lm,q⟩:=h;have hr1:=hr.mono (j:=1) (by decide);refine⟨_,qAf (qAv (qBk (qAa (qBp qB4 rfl mL qBt (qAa (pv 0) qAb)) (qAa
  (qBo (N:=["names","masks"]) (sc:=qAd qSx) (N':=["mask","names"]) (sub:=[none,some 0]) rfl rfl (CmpOk.of (by decide +kernel)) rfl (qAq (qAt G2 hr rfl .nil qAs (qAa (pv 1) qAb)))
   (fun C s H fp=>⟨qAh (i:=0) (by show(["mask","names"]:List Str).Nodup;decide) rfl (Or.inl rfl),qAy,qAt G1 hr1 rfl .nil qAs (qAa (pv 1) (qAa (pv 0) qAb))⟩)) qAb)))),?_⟩
 try dsimp only[Cx.wish,qCd]
 refine⟨_,rfl,pn,_,rfl,.inl (SqL.of hn),fun l1 hl1=>?_⟩;have n1:=Ext.new hl1 (.lst (names.map V.str));refine⟨_,rfl,pm,ms,rfl,n1 _ _ hm,lm,fun r M H1 e1 r0 hM pM dM=>?_⟩;have E1:=n1.trans e1;have lM:M.length<=24:=by rw[pM.length_eq];exact hB2 (qI6 ms) lm
 refine⟨r,rfl,⟨_,SqL.of hM⟩,?_⟩;refine qAr (xs:=M.map iV) (fun j ys H2=>Ext H1 H2/\∃as,ys=as.map V.ref/\Paired (fun a r=>LsS H2 a r/\H a=none) as ((M.take j).map (rowM names))) ⟨Ext.refl _,[],rfl,.nil⟩ (fun j ys H2 _ h=>SqL.of (h.1 _ _ hM)) ?_ ?_
 ·rintro j v ys H2 hx ⟨e2,as,rfl,pr⟩;obtain⟨x,rfl,hx'⟩:=qBn hx;have hj:=at_lt hx';have la:as.length=_:=pr.length;rw[hA1,hAl]at la;refine⟨Sle.set _ (Sle.refl _) (fun u z=>by cases z),iteT (B:=False) ⟨_,rfl,_,rfl,pn,names,x,rfl,(E1.trans e2) _ _ hn,ln,fun r3 H3 e3 r30 h3=>⟨?_,nxt (at_lt hx) ⟨e2.trans e3,as++[r3],by rw[hA4];rfl,?_⟩⟩⟩⟩
  ·rw[hA1];exact qAj (by omega)
  ·rw[qAm hx',hA4];exact Paired.snoc (Paired.mapP pr fun a t z=>⟨e3 _ _ z.1,z.2⟩) ⟨h3,(E1.trans e2).none r30⟩
 ·rintro ys H2 ⟨e2,as,rfl,pr⟩ b hb;rw[hA1,hA7 (hA6 _)]at pr;have E2:=E1.trans e2;have Xb:=Ext.new hb (.lst (as.map V.ref));refine⟨(by show 2<=sizeLine;decide),fun T hT=>?_⟩;have XT:=Xb.trans (Ext.new hT (.tup [V.ref l1,V.ref b]));refine q T M _ (E2.trans XT) ((E2.trans Xb).none hT) ⟨l1,b,upd_same,XT _ _ (e2 _ _ (e1 _ _ upd_same)),hl1,⟨as,(Ext.new hT _) _ _ upd_same,Paired.mapP pr fun a t z=>⟨XT _ _ z.1,z.2,qAi z.1 hb⟩⟩,E2.none hb⟩ pM dM
theorem qKq:FnScope ["table","names","rows"] ["table"] (qAd qL5):=⟨rfl,rfl,rfl,by decide +kernel,rfl,by decide +kernel,by decide +kernel⟩
theorem qTi(F:Fun K "step_masks" "step_masks" qL5 f fd)(G1:Cl P w K mg base CX0 1 f1 fd1 ["names","row"] qO2 "mask_of")
  (G2:Cl P w K mg base CX0 2 f2 fd2 ["masks"] qOz "reduced"):FnOk P w K mg base CX0 3 f fd ["table"] qGd:=by
 refine F.ok qKq (fun vs H Q E h=>?_) (fun cdv A outer s H vs Q E hr h=>?_)
 ·obtain⟨T,names,rows,rfl,_⟩:=h;rfl
 obtain⟨T,names,rows,rfl,⟨a,b,hT,ha,⟨as,hb,pr⟩⟩,lr,q⟩:=h;have hr1:=hr.mono (j:=1) (by decide);refine⟨_,qAc (qI8 (pv 0) (qGm rfl (qBf (qAh (i:=1) qKq.nd rfl (Or.inr rfl)) (qBf (qAh (i:=2) qKq.nd rfl (Or.inl rfl)) qD3))))
  (qAf (qAv (qAt G2 hr rfl .nil qAs (qAa (qBo (N:=["table","names","rows"]) (sc:=qAd qL5) (N':=["row","names"]) (sub:=[none,some 1]) rfl rfl (CmpOk.of (by decide +kernel)) rfl (qAq (pv 2))
   (fun C s H fp=>⟨qAh (i:=0) (by show(["row","names"]:List Str).Nodup;decide) rfl (Or.inl rfl),qAy,qAt G1 hr1 rfl .nil qAs (qAa (pv 1) (qAa (pv 0) qAb))⟩)) qAb)))),?_⟩
 try dsimp only[Cx.wish,qCd]
 have la:as.length=rows.length:=pr.length;refine⟨_,rfl,T,_,rfl,SqT.of hT,rfl,_,_,rfl,_,_,rfl,rfl,?_⟩;refine⟨_,rfl,b,rfl,⟨_,SqL.of hb⟩,?_⟩;refine qAr (xs:=as.map V.ref) (fun j ys H2=>H2=H/\ys=((rows.take j).map (qAu names)).map iV) ⟨rfl,rfl⟩ (fun j ys H2 _ h=>by rw[h.1];exact SqL.of hb) ?_ ?_
 ·rintro j v ys H2 hx ⟨rfl,rfl⟩;obtain⟨c,rfl,hc⟩:=qE8 hx;obtain⟨rw1,hrw,hc1⟩:=qBm pr hc;have hj:=at_lt hrw;refine⟨Sle.set _ (Sle.refl _) (fun u z=>by cases z),iteT (B:=False) ⟨_,rfl,_,rfl,a,c,names,rw1,rfl,ha,hc1,?_,nxt (at_lt hx) ⟨rfl,?_⟩⟩⟩
  ·rw[hA1,hA1,hAl];exact qAj (by omega)
  ·rw[qAm hrw,hA4,hA4];rfl
 ·rintro ys H2 ⟨rfl,rfl⟩ l hl;rw[hA1,la,hA7 (hA6 _)];have n1:=Ext.new hl (.lst ((rows.map (qAu names)).map iV));refine⟨l,_,rfl,upd_same,by rw[hA1];exact lr,fun r M H1 e1 r0 hM pM dM=>?_⟩;exact q r M H1 (n1.trans e1) (n1.none r0) hM pM dM
theorem qPh:FnScope ["table","names"] ["table"] (qAd qPo):=⟨rfl,rfl,rfl,by decide +kernel,rfl,by decide +kernel,by decide +kernel⟩
theorem qTn(F:Fun K "crossed" "crossed" qPo f fd)(G1:Cl P w K mg base CX0 3 f1 fd1 ["names","masks"] qOy "table_from")
  (G2:Cl P w K mg base CX0 2 f2 fd2 ["steps","width"] qY0 "crossed_masks")
  (G3:Cl P w K mg base CX0 3 f3 fd3 ["table"] qGd "step_masks") (ml:mg "len" = none):FnOk P w K mg base CX0 4 f fd ["table"] qO5:=by
 refine F.ok qPh (fun vs H Q E h=>?_) (fun cdv A outer s H vs Q E hr h=>?_)
 ·obtain⟨T,names,rows,rfl,_⟩:=h;rfl
 obtain⟨T,names,rows,rfl,ht,ln,lr,q⟩:=h;have hr2:=hr.mono (j:=2) (by decide);refine⟨_,qAc (qAl (i:=1) qPh.nd rfl (Or.inl rfl) (qCm qEv (pv 0) qAe (fun _ _=>rfl)))
  (qAf (qAv (qAt G1 hr rfl .nil qAs (qAa (pv 1) (qAa (qAt G2 hr2 rfl .nil qAs (qAa (qAt G3 hr rfl .nil qAs (qAa (pv 0) qAb)) (qAa (qAn qAo rfl ml hBf (qAa (pv 1) qAb)) qAb))) qAb))))),?_⟩
 try dsimp only[Cx.wish,qCd]
 obtain⟨a,b,hT,ha,hb⟩:=id ht;refine⟨_,rfl,T,_,_,_,rfl,rfl,SqT.of hT,(by exact atI_nat (j:=0) rfl),?_⟩;refine⟨_,rfl,_,rfl,T,names,rows,rfl,ht,lr,fun r S H1 e1 r0 hS pS dS=>?_⟩;have rrS:RR S:=(qC9 _).perm pS;have ltS:∀s∈S,s<2^names.length:=fun s hs=>qGi (fun x hx=>by
  obtain⟨rw1,_,rfl⟩:=hA3.mp hx;exact qEp names rw1) s (pS.mem_iff.mp hs)
 have lS:S.length<=24:=by
  have:=qI6 (rows.map (qAu names));rw[hA1]at this;rw[pS.length_eq];omega
 refine⟨_,rfl,a,_,rfl,.inl (SqL.of (e1 _ _ ha)),r,S,names.length,(by rw[hA1];rfl),hS,rrS,ltS,ln,lS,fun r2 H2 e2 r20 h2=>?_⟩;have lc:(crAll S names.length).length<=24:=by
  unfold crAll;rw[hA1];have:=hB5 (fun p=>!decide (isLd S p)) (List.range names.length);rw[hAp]at this;omega
 have E2:=e1.trans e2;refine⟨a,r2,names,_,rfl,E2 _ _ ha,ln,h2,lc,fun T' M H3 e3 t0 tf pM dM=>?_⟩;exact q T' S M H3 (E2.trans e3) (E2.none t0) (tf.down E2) pS pM dM
end
noncomputable def ixF(ps:List Str)(x:Str):Nat:=ps.findIdx fun y=>decide (y=x)
theorem qJp{ps:List Str}{x:Str}(h:x∈ps):ps[ixF ps x]?=some x/\(∀k,k<ixF ps x->ps[k]?≠some x)/\ixF ps x<ps.length:=by
 have lt:ixF ps x<ps.length:=List.findIdx_lt_length_of_exists ⟨x,h,by simp⟩;have at_:ps[ixF ps x]=x:=by
  have:=List.findIdx_getElem (w:=lt);exact of_decide_eq_true this
 refine⟨by rw[hA2 lt,at_],fun k hk e=>?_,lt⟩;have:=List.not_of_lt_findIdx hk;have kl:k<ps.length:=Nat.lt_trans hk lt;rw[hA2 kl]at e;have e':=hAt e;simp[e']at this
noncomputable def vT(ps:List Str)(t:Tr):Nat:=2^ixF ps t.2.1^^^2^ixF ps t.2.2
noncomputable def vF(net:List Tr)(ps:List Str)(i:Nat):Nat:=match net[i]? with|some t=>vT ps t|none=>0
theorem qNw(k:List Nat)(s x:Nat):redL1 (k++[s]) x=rdL (redL1 k x) s:=by unfold redL1;rw[hC7];rfl
theorem qWo(xs:List Nat):(redL xs).length<=xs.length:=by
 refine qEf (P:=fun xs=>(redL xs).length<=xs.length) (hA6 _) (fun l t ih=>?_) xs;rw[qGj,hAj];unfold qKw;split
 ·exact hB2 ih (Nat.le_add_right _ _)
 ·rw[hAj,hA1];exact Nat.add_le_add_right ih _
def qB6(H:Hp)(p:Addr)(K:List (Nat×Nat)):Prop:=∃as:List Addr,H p=some (.lst (as.map V.ref))/\Paired (fun a f=>H a=some (.tup [iV f.1,iV f.2])) as K
noncomputable def rowL(names:List Str)(x:Nat):List Str:=(List.range names.length).filterMap fun i=>if x.testBit i=true then names[i]? else none
def qYw:Sp:=fun vs H Q _=>∃(pn:Addr) (names:List Str) (x:Nat),vs=[.ref pn,iV x]/\LsS H pn names/\names.length<=12/\∀r H',Ext H H'->H r=none->LsS H' r (rowL names x)->Q (.ref r) H'
noncomputable abbrev nmS(net:List Tr):List Str:=net.map fun t=>t.1
theorem qM7{α β:Type}{f g:α->Option β}:∀ {l:List α},(∀i∈l,f i=g i)->l.filterMap f=l.filterMap g
 |[],_=>rfl
 |a :: l,h=>by rw[hCq,hCq,h a hA9,qM7 fun i hi=>h i (hA8 _ hi)]
noncomputable def atX(x:Str)(t:Tr):Bool:=decide (t.2.1=x) ^^ decide (t.2.2=x)
theorem qOv{m:Nat}{F:List Nat}(hF:∀x∈F,x<2^m)(z:Nat):Spn (F.map (rv m)) z↔z<2^m/\Spn F (rv m z):=by
 constructor
 ·intro h;refine⟨Spn.lt (fun x hx=>?_) h,?_⟩
  ·obtain⟨y,_,rfl⟩:=hA3.mp hx;exact qG6 m y
  ·induction h with
   |zero=>rw[qD2];exact .zero
   |add hm _ ih =>
    obtain⟨y,hy,rfl⟩:=hA3.mp hm;rw[qMa,qC2 (hF y hy)];exact .add hy ih
 ·rintro⟨hz,h⟩;rw[<-qC2 hz];generalize rv m z=y at h
  induction h with
  |zero=>rw[qD2];exact .zero
  |add hm _ ih=>rw[qMa];exact .add (hCr hm) ih
theorem qDf{names:List Str}(x:Nat):rowM names (rv names.length x)=rowL names x:=by
 unfold rowM rowL;have:∀i∈List.range names.length,(if (rv names.length x).testBit (names.length - 1 - i)=true then names[i]? else none)=(if x.testBit i=true then names[i]? else none):=fun i hi=>by
  have hi':=hAf.mp hi;rw[qBe,decide_eq_true (by omega),hBg,show names.length - 1 - (names.length - 1 - i)=i by omega]
 exact qM7 this
structure Made(net:List Tr)(ps ps':List Str)(S M:List Nat)(K:List (Nat×Nat))(F:List Nat):Prop where
 rs:qNg (nmS net)
 pk:qX2 net ps
 pk':qX2 net ps'
 pS:S.Perm (red (ps.map fun x=>qAu (nmS net) (zCs net x)))
 pM:M.Perm (red (crAll S net.length))
 dM:M.Pairwise fun a b=>b<=a
 ei:EIv (vF net ps') net.length net.length K F
 kw:K.length=(zA4 net).length
theorem qDv{l:List Str}(h:qNg l):l.Nodup:=List.Pairwise.imp (fun {a b} z e=>by rw[e,qEi]at z;cases z) h
theorem zAg{α:Type}{p:α->Bool}{l:List α}{i:Nat}{t:α}(h:l[i]?=some t)(c:p t=true):(l.take (i+1)).filter p=(l.take i).filter p++[t]:=by rw[qAm h,hBm];simp[c]
theorem zAh{α:Type}{p:α->Bool}{l:List α}{i:Nat}{t:α}(h:l[i]?=some t)(c:p t=false):(l.take (i+1)).filter p=(l.take i).filter p:=by rw[qAm h,hBm];simp[c]
theorem qJu:∀a b:List (List Str),PyData.eqvAll (a.map qF0) (b.map qF0)=decide (a=b)
 |[],[]=>rfl
 |[],_ :: _=>rfl
 |_ :: _,[]=>rfl
 |x :: a,y :: b=>by
  show(PyData.eqv (qF0 x) (qF0 y) && PyData.eqvAll (a.map qF0) (b.map qF0))=_;rw[qJu a b,qIo];by_cases e:x=y
  ·subst e;simp
  ·simp[e]
theorem qT3(a b:List (List Str)):PyData.eqv (qNu a) (qNu b)=decide (a=b):=qJu a b
theorem qM1:∀ {F:List (List Str)},(∀r∈F,SOk r)->PyData.canLayAll0 (F.map qF0)=true/\PyData.depthAll (F.map qF0)<=1
 |[],_=>⟨rfl,by decide⟩
 |x :: r,h=>by
  obtain⟨h1,h2⟩:=qM1 (F:=r) fun y hy=>h y (hA8 _ hy)
  obtain⟨h3,h4⟩:=qIk (h x hA9);refine⟨?_,?_⟩
  ·show(PyData.canLayAll0 (x.map .str) && PyData.canLayAll0 (r.map qF0))=true;rw[h1,h3];rfl
  ·show max (PyData.depthAll (x.map .str)+1) (PyData.depthAll (r.map qF0))<=1;rw[h4];omega
theorem qGh{F:List (List Str)}(h:∀r∈F,SOk r):SeqAt.shaped (qNu F)=true:=by
 obtain⟨h3,h4⟩:=qM1 h;show(PyData.canLayAll0 (F.map qF0) && decide (PyData.depthAll (F.map qF0)+1<=64))=true;rw[h3,decide_eq_true (by omega)];rfl
theorem qNa{K:PySem.W.Frag}{H:Hp}:∀ {as:List Addr} {F:List (List Str)},Paired (LsS H) as F->DRs K H (as.map V.ref) (F.map qF0)
 |_,_,.nil=>.nil
 |_,_,.cons h t=>.cons (qGx h) (qNa t)
theorem qRg{K:PySem.W.Frag}{H:Hp}{p:Addr}{F:List (List Str)}(h:qDb H p F):DR K H (.ref p) (qNu F):=by
 obtain⟨as,h1,h2⟩:=h;exact .lst (SqL.of h1) (qNa h2)
theorem qF6{names:List Str}{z:Nat}{n:Str}:n∈rowM names z↔∃i,i<names.length/\names[i]?=some n/\z.testBit (names.length - 1 - i)=true:=by
 unfold rowM;rw[hDd];constructor
 ·rintro⟨i,hi,e⟩;split at e
  ·rename_i b;exact⟨i,hAf.mp hi,e,b⟩
  ·cases e
 ·rintro⟨i,hi,e,b⟩;exact⟨i,hAf.mpr hi,by rw[if_pos b];exact e⟩
theorem qMc{names:List Str}{z:Nat}{n:Str}(h:n∈rowM names z):n∈names:=by
 obtain⟨i,_,e,_⟩:=qF6.mp h;exact hAc e
theorem qGv{names:List Str}(nd:names.Nodup){i j:Nat}{n:Str}(hi:names[i]?=some n)(hj:names[j]?=some n):i=j :=
 (List.getElem?_inj (hAq.mp hi).1 nd).mp (hi.trans hj.symm)
noncomputable abbrev chi(names:List Str)(z:Nat):Str->Bool:=fun n=>decide (n∈rowM names z)
theorem qHo{names:List Str}(nd:names.Nodup){z i:Nat}{n:Str}(hi:names[i]?=some n):chi names z n=z.testBit (names.length - 1 - i):=by
 have il:=(hAq.mp hi).1;cases q:z.testBit (names.length - 1 - i) with
 |true=>exact decide_eq_true (qF6.mpr ⟨i,il,hi,q⟩)
 |false =>
  refine decide_eq_false fun m=>?_
  obtain⟨j,_,ej,bj⟩:=qF6.mp m;rw[qGv nd ej hi,q]at bj;cases bj
theorem qDk{names:List Str}(nd:names.Nodup){z:Nat}(hz:z<2^names.length):qAu names (rowM names z)=z:=by
 refine hAo fun j=>?_
 rw[qA1];by_cases hj:j<names.length
 ·rw[decide_eq_true hj,hBg];have hi:names.length - 1 - j<names.length:=by omega
  have e:=hA2 hi;have c:=qHo nd (z:=z) e;rw[show names.length - 1 - (names.length - 1 - j)=j by omega]at c;rw[<-c];refine decide_eq_decide.mpr ⟨fun ⟨n,h1,h2⟩=>?_,fun h=>⟨_,e,h⟩⟩;rw[e]at h1;cases h1;exact h2
 ·rw[decide_eq_false hj,qDc hz (by omega)];rfl
theorem qNe{names:List Str}(nd:names.Nodup)(r:List Str){n:Str}(hn:n∈names):chi names (qAu names r) n=decide (n∈r):=by
 obtain⟨i,hi,e⟩:=hBy hn;have e':names[i]?=some n:=by rw[hA2 hi,e]
 rw[qHo nd e',qA1,decide_eq_true (by omega:names.length - 1 - i<names.length),hBg,show names.length - 1 - (names.length - 1 - i)=i by omega];refine decide_eq_decide.mpr ⟨fun ⟨m,h1,h2⟩=>?_,fun h=>⟨n,e',h⟩⟩;rw[e']at h1;cases h1;exact h2
theorem qXz{names:List Str}(nd:names.Nodup)(z z':Nat){n:Str}(hn:n∈names):chi names (z^^^z') n=(chi names z n ^^ chi names z' n):=by
 obtain⟨i,hi,e⟩:=hBy hn;have e':names[i]?=some n:=by rw[hA2 hi,e]
 rw[qHo nd e',qHo nd e',qHo nd e',hAu]
theorem qTs{names:List Str}{r r':List Str}(h:∀n∈names,(n∈r↔n∈r')):qAu names r=qAu names r':=by
 refine hAo fun j=>?_
 rw[qA1,qA1];congr 1;refine decide_eq_decide.mpr ⟨fun ⟨n,h1,h2⟩=>⟨n,h1,(h n (hAc h1)).mp h2⟩,fun ⟨n,h1,h2⟩=>⟨n,h1,(h n (hAc h1)).mpr h2⟩⟩
theorem qMu{names rest:List Str}(nd:names.Nodup)(sub:∀n∈rest,n∈names)(z z':Nat):qAu rest (rowM names (z^^^z'))=qAu rest (rowM names z)^^^qAu rest (rowM names z'):=by
 refine hAo fun j=>?_
 rw[hAu,qA1,qA1,qA1];by_cases hj:j<rest.length
 ·rw[decide_eq_true hj,hBg,hBg,hBg];have hi:rest.length - 1 - j<rest.length:=by omega
  have e:=hA2 hi;have f:∀w,decide (∃n,rest[rest.length - 1 - j]?=some n/\n∈rowM names w)=chi names w rest[rest.length - 1 - j]:=fun w=>decide_eq_decide.mpr ⟨fun ⟨n,h1,h2⟩=>by rw[e]at h1;cases h1;exact h2,fun h=>⟨_,e,h⟩⟩
  rw[f,f,f];exact qXz nd z z' (sub _ (hBn hi))
 ·rw[decide_eq_false hj];rfl
theorem qMb(names:List Str):rowM names 0=[]:=by
 cases q:rowM names 0 with
 |nil=>rfl
 |cons n r =>
  have:n∈rowM names 0:=by rw[q];exact hA9
  obtain⟨i,_,_,b⟩:=qF6.mp this;simp at b
theorem qIi(names:List Str):qAu names []=0:=by
 refine hAo fun j=>?_
 rw[qA1];simp
structure Tb(net:List Tr)(ps:List Str)(S M:List Nat):Prop where
 rs:qNg (nmS net)
 pk:qX2 net ps
 pS:S.Perm (red (ps.map fun x=>qAu (nmS net) (zCs net x)))
 pM:M.Perm (red (crAll S net.length))
 dM:M.Pairwise fun a b=>b<=a
noncomputable def lackF(ms:List Nat)(q:Nat):List Nat:=(ms.filter fun z=>!z.testBit q)++((ms.filter fun z=>z.testBit q).drop 1).map fun z=>z^^^(ms.filter fun z=>z.testBit q).headD 0
theorem qTv(ms:List Nat)(q:Nat)(z:Nat):Spn (lackF ms q) z↔Spn ms z/\z.testBit q=false:=by
 have hmem:∀y∈ms.filter (fun z=>z.testBit q),y∈ms/\y.testBit q=true:=fun y hy=>⟨(hAb.mp hy).1,(hAb.mp hy).2⟩
 have bitF:∀y∈lackF ms q,y.testBit q=false:=fun y hy=>by
  unfold lackF at hy;rcases hAh.mp hy with w|w
  ·simpa using (hAb.mp w).2
  ·obtain⟨u,hu,rfl⟩:=hA3.mp w;have h1:=(hmem u (hD1 hu)).2;have h2:((ms.filter fun z=>z.testBit q).headD 0).testBit q=true:=by
    cases e:ms.filter (fun z=>z.testBit q) with
    |nil=>rw[e]at hu;simp at hu
    |cons a l=>exact(hmem a (by rw[e];exact hA9)).2
   rw[hAu,h1,h2];rfl
 constructor
 ·intro h;refine⟨h.mono fun y hy=>?_,qHz bitF h⟩;unfold lackF at hy;rcases hAh.mp hy with w|w
  ·exact .mem (hAb.mp w).1
  ·obtain⟨u,hu,rfl⟩:=hA3.mp w;have h1:=(hmem u (hD1 hu)).1;cases e:ms.filter (fun z=>z.testBit q) with
   |nil=>rw[e]at hu;simp at hu
   |cons a l=>exact(Spn.mem h1).xor (.mem (hmem a (by rw[e];exact hA9)).1)
 ·rintro⟨h,hb⟩;have key:Spn (lackF ms q) z\/(Spn (lackF ms q) (z^^^(ms.filter fun z=>z.testBit q).headD 0)/\((ms.filter fun z=>z.testBit q).headD 0).testBit q=true):=by
   clear hb
   induction h with
   |zero=>exact .inl .zero
   |add m _ ih =>
    rename_i x y _;by_cases b:x.testBit q=true
    ·have xm:x∈ms.filter (fun z=>z.testBit q):=hAb.mpr ⟨m,b⟩;have hh:((ms.filter fun z=>z.testBit q).headD 0).testBit q=true:=by
      cases e:ms.filter (fun z=>z.testBit q) with
      |nil=>rw[e]at xm;cases xm
      |cons a l=>exact(hmem a (by rw[e];exact hA9)).2
     have xh:Spn (lackF ms q) (x^^^(ms.filter fun z=>z.testBit q).headD 0):=by
      cases e:ms.filter (fun z=>z.testBit q) with
      |nil=>rw[e]at xm;cases xm
      |cons a l =>
       rw[e]at xm;rcases hAg.mp xm with w|w
       ·subst w;show Spn _ (x^^^x);rw[hEb];exact .zero
       ·refine .mem ?_;unfold lackF;rw[e];exact hAa _ (hA3.mpr ⟨x,w,rfl⟩)
     rcases ih with ih|⟨ih,_⟩
     ·refine .inr ⟨?_,hh⟩;have:=xh.xor ih;rw[hCn,Nat.xor_comm _ y,<-hCn]at this;exact this
     ·refine .inl ?_;have:=xh.xor ih;rw[Nat.xor_comm y,<-hCn,qBb]at this;exact this
    ·have xm:x∈lackF ms q:=by
      unfold lackF;exact hAi _ (hAb.mpr ⟨m,by simpa using b⟩)
     rcases ih with ih|⟨ih,hh⟩
     ·exact .inl (.add xm ih)
     ·refine .inr ⟨?_,hh⟩;rw[hCn];exact .add xm ih
  rcases key with k|⟨k,hh⟩
  ·exact k
  ·have:=qHz bitF k;rw[hAu,hb,hh]at this;cases this
theorem qMv{names:List Str}(nd:names.Nodup){i:Nat}{n:Str}(hi:names[i]?=some n):qAu names [n]=2^(names.length - 1 - i):=by
 have il:=(hAq.mp hi).1;refine hAo fun j=>?_
 rw[qA1,hB0];by_cases hj:j<names.length
 ·rw[decide_eq_true hj,hBg];refine decide_eq_decide.mpr ⟨fun ⟨m,h1,h2⟩=>?_,fun e=>⟨n,?_,by simp⟩⟩
  ·rw[hA5]at h2;rw[h2]at h1;have:=qGv nd hi h1;omega
  ·rw[<-e,show names.length - 1 - (names.length - 1 - i)=i by omega];exact hi
 ·rw[decide_eq_false hj,decide_eq_false (fun e:names.length - 1 - i=j=>hj (by omega))];rfl
noncomputable def qEu(names:List Str)(S:List Nat)(taken:List Str):List Nat:=taken.foldl (fun ms n=>lackF ms (qAu names [n]).log2) S
theorem qFe(names:List Str)(S:List Nat)(taken:List Str)(n:Str):qEu names S (taken++[n])=lackF (qEu names S taken) (qAu names [n]).log2:=by unfold qEu;rw[hC7];rfl
theorem qQg{names:List Str}(nd:names.Nodup){i:Nat}{n:Str}(hi:names[i]?=some n):(qAu names [n]).log2=names.length - 1 - i:=by
 rw[qMv nd hi];refine qLa ?_ (hE6 (by decide) (by omega));rw[hB0];simp
theorem qJm{names:List Str}(nd:names.Nodup)(S:List Nat)(taken:List Str):(∀n∈taken,n∈names)->∀z,Spn (qEu names S taken) z↔Spn S z/\∀n∈taken,chi names z n=false:=by
 refine qEe (P:=fun taken=>(∀n∈taken,n∈names)->∀z,Spn (qEu names S taken) z↔Spn S z/\∀n∈taken,chi names z n=false) (fun _ z=>⟨fun h=>⟨h,fun n hn=>(by cases hn)⟩,fun h=>h.1⟩) (fun l n ih h z=>?_) taken;have ih':=ih (fun m hm=>h m (hAi _ hm)) z;obtain⟨i,hi,e⟩:=hBy (h n (by simp));have e':names[i]?=some n:=by rw[hA2 hi,e]
 rw[qFe,qTv,ih',qQg nd e',<-qHo nd e',and_assoc];refine and_congr_right fun _=>⟨fun ⟨a,b⟩ m hm=>?_,fun a=>⟨fun m hm=>a m (hAi _ hm),a n (by simp)⟩⟩
 rcases hAh.mp hm with w|w
 ·exact a m w
 ·rw[hA5]at w;rw[w];exact b
noncomputable abbrev piM(names rest:List Str)(z:Nat):Nat:=qAu rest (rowM names z)
theorem qZh{names rest:List Str}(nd:names.Nodup)(sub:∀n∈rest,n∈names)(P:List Nat)(y:Nat):Spn (P.map (piM names rest)) y↔∃z,Spn P z/\y=piM names rest z:=by
 constructor
 ·intro h
  induction h with
  |zero=>exact⟨0,.zero,by show 0=qAu rest (rowM names 0);rw[qMb,qIi]⟩
  |add m _ ih =>
   obtain⟨u,hu,rfl⟩:=hA3.mp m;obtain⟨z,hz,rfl⟩:=ih;exact⟨u^^^z,.add hu hz,(qMu nd sub u z).symm⟩
 ·rintro⟨z,hz,rfl⟩
  induction hz with
  |zero=>show Spn _ (qAu rest (rowM names 0));rw[qMb,qIi];exact .zero
  |add m _ ih =>
   rename_i u v _;show Spn _ (qAu rest (rowM names (u^^^v)));rw[qMu nd sub];exact .add (hCr m) ih
noncomputable def kap(p:Tr)(e:Str):Str:=if e=p.2.2 then p.2.1 else e
structure CnR(p t t':Tr):Prop where
 nm:t'.1=t.1
 at_:∀x,atX x t'=(decide (kap p t.2.1=x) ^^ decide (kap p t.2.2=x))
theorem qBi{n:Nat}(h:n<=5000):n<sizeLine:=hC8 h (by decide)
theorem qT9(xs:List V):cutV xs (some 1) none=xs.drop 1:=by
 cases xs with
 |nil=>rfl
 |cons a r=>cases r <;> simp[cutV,HT.sIx]
def qUs:Sp:=fun vs H Q _=>∃(p:Addr) (ms:List Nat) (q:Nat),vs=[.ref p,iV (2^q)]/\LsN H p ms/\ms.length<=24/\∀r H',Ext H H'->H r=none->LsN H' r (lackF ms q)->Q (.ref r) H'
theorem qJl(ms:List Nat)(q:Nat):(lackF ms q).length<=ms.length:=by
 unfold lackF;rw[hAj,hA1,hCj];have:(ms.filter fun z=>!z.testBit q).length+(ms.filter fun z=>z.testBit q).length=ms.length:=by
  induction ms with
  |nil=>rfl
  |cons a l ih =>
   rw[List.filter_cons,List.filter_cons];cases a.testBit q <;> simp <;> omega
 omega
theorem qJn(names:List Str)(S:List Nat)(taken:List Str):(qEu names S taken).length<=S.length:=by
 refine qEe (P:=fun taken=>(qEu names S taken).length<=S.length) (hA6 _) (fun l n ih=>?_) taken;rw[qFe];exact hB2 (qJl _ _) ih
noncomputable def restF(names gone:List Str):List Str:=names.filter fun n=>!decide (n∈gone)
def qUq:Sp:=fun vs H Q _=>∃(T pt ph:Addr) (names:List Str) (rows:List (List Str)) (taken shr:List Str),vs=[.ref T,.ref pt,.ref ph]/\qC8 H T names rows/\LsS H pt taken/\LsS H ph shr/\names.Nodup/\(∀n∈taken,n∈names)/\(∀n∈shr,n∈names)/\names.length<=12/\rows.length<=24/\taken.length<=12/\shr.length<=12 /\
 ∀(T':Addr) (S M:List Nat) (H':Hp),Ext H H'->H T'=none->qVt H H' T' (restF names (taken++shr)) (M.map (rowM (restF names (taken++shr))))->S.Perm (red (rows.map (qAu names)))->M.Perm (red ((qEu names S taken).map (piM names (restF names (taken++shr)))))->M.Pairwise (fun a b=>b<=a)->Q (.ref T') H'
section
variable{P:Program}{w:World}{K:PySem.W.Frag}{mg:Str->Option Value}{base:Heap}{f f1 f2 f3 f4 f5:Addr}{fd fd1 fd2 fd3 fd4 fd5:FuncData}
noncomputable abbrev lkN:List Str:=["masks","bit","having","without"]
theorem qPg:FnScope lkN ["masks","bit"] (qAd qNs):=⟨rfl,rfl,rfl,by decide +kernel,rfl,by decide +kernel,by decide +kernel⟩
theorem qCe{ms:List Nat}{Q:List V->Hp->Prop}{H1:Hp}{σ0:St}{g:TG}{tt:TT}{te:TE}{p:Addr}(pr:Nat->Bool)(h:Nat->Nat)(hp:LsN H1 p ms)(ln:ms.length<=5000)
  (hs:∀z∈ms,∀(C:V->Hp->Prop) (B:Hp->Prop),(pr z=true->C (iV (h z)) H1)->(pr z=false->B H1)->g (iV z) σ0 H1 fun σ2 H2=>Sle σ0 σ2/\tt σ2 H2 fun b H3=>if b=true then te σ2 H3 C else B H3)
  (hd:Q (((ms.filter pr).map h).map iV) H1):qEw (Itl K p) σ0 g tt te Q H1:=by
 refine qAr (xs:=ms.map iV) (fun j ys H2=>H2=H1/\ys=(((ms.take j).filter pr).map h).map iV) ⟨rfl,rfl⟩ (fun j ys H2 _ h=>by rw[h.1];exact SqL.of hp) ?_ ?_
 ·rintro j x ys H2 hx ⟨rfl,rfl⟩;obtain⟨z,rfl,hz⟩:=qBn hx;have hj:=at_lt hz;have sz:=hB5 pr (ms.take j);rw[hAl]at sz;refine hs z (hAc hz) _ _ (fun b=>⟨?_,nxt (at_lt hx) ⟨rfl,?_⟩⟩) (fun b=>nxt (at_lt hx) ⟨rfl,?_⟩)
  ·rw[hA1,hA1];exact qBi (by omega)
  ·rw[qAm hz,hBm,hA4,hA4];simp[b]
  ·rw[qAm hz,hBm];simp[b]
 ·rintro ys H2 ⟨rfl,rfl⟩;rw[hA1,hA7 (hA6 _)];exact hd
theorem qIv(z q:Nat):((!decide (V.int (Builtin.bitAnd (z:Int) ((2^q:Nat):Int))=V.int 0))=true)↔z.testBit q=true:=by
 rw[<-qFj z q,qBy];simp
theorem qW8(F:Fun K "lacking" "lacking" qNs f fd):FnOk P w K mg base CX0 1 f fd ["masks","bit"] qUs:=by
 refine F.ok qPg (fun vs H Q E h=>?_) (fun cdv A outer s H vs Q E hr h=>?_)
 ·obtain⟨p,ms,q,rfl,_⟩:=h;rfl
 obtain⟨p,ms,q,rfl,hp,lm,qq⟩:=h;refine⟨_,qAc (qAl (i:=2) qPg.nd rfl (Or.inr rfl) (qBo (N:=lkN) (sc:=qAd qNs) (N':=["mask","bit"]) (sub:=[none,some 1]) rfl rfl (CmpOk.of (by decide +kernel)) rfl (qAq (pv 0))
   (fun C s H fp=>⟨qAh (i:=0) (by show(["mask","bit"]:List Str).Nodup;decide) rfl (Or.inl rfl),qB1 (qAp qId (qAk qCl (pv 0) (pv 1)) qAe (qAx _)),pv 0⟩)))
  (qAc (qG7 (i:=3) (N:=lkN) (sc:=qAd qNs) (N':=["mask","bit"]) (sub:=[none,some 1]) rfl rfl (CmpOk.of (by decide +kernel)) rfl (qAq (pv 0))
   (fun C s H fp=>⟨qAh (i:=0) (by show(["mask","bit"]:List Str).Nodup;decide) rfl (Or.inl rfl),qB1 (qAp qDj (qAk qCl (pv 0) (pv 1)) qAe (qAx _)),pv 0⟩) qPg.nd rfl (Or.inl rfl))
  (qAf (qAv (qAk qC0 (pv 3) (qBo (N:=lkN) (sc:=qAd qNs) (N':=["mask","having"]) (sub:=[none,some 2]) rfl rfl (CmpOk.of (by decide +kernel)) rfl (qAq (qF3 qO6 (pv 2) (qIb qAe) qIc))
   (fun C s H fp=>⟨qAh (i:=0) (by show(["mask","having"]:List Str).Nodup;decide) rfl (Or.inl rfl),qAy,qAk qDw (pv 0) (qCm (show IxR _ (zBu K) from qC4) (pv 1) qAe (fun _ _=>rfl))⟩)))))),?_⟩
 try dsimp only[Cx.wish,qCd]
 refine⟨_,rfl,p,rfl,⟨_,SqL.of hp⟩,?_⟩;refine qCe (fun z=>z.testBit q) id hp (by omega) (fun z hz C B c b=>⟨Sle.set _ (Sle.refl _) (fun u z=>by cases z),?_⟩) ?_
 ·refine⟨_,rfl,_,rfl,_,_,rfl,rfl,rfl,_,rfl,?_⟩;refine qDa (fun cc=>⟨_,rfl,c ((qIv z q).mp cc)⟩) (fun cc=>b ?_);cases e:z.testBit q with
  |false=>rfl
  |true=>exact absurd ((qIv z q).mpr e) cc
 intro l1 hl1;rw[hDp];have n1:=Ext.new hl1 (.lst ((ms.filter fun z=>z.testBit q).map iV));refine⟨_,rfl,p,rfl,⟨_,SqL.of (n1 _ _ hp)⟩,?_⟩;refine qCe (fun z=>!z.testBit q) id (n1 _ _ hp) (by omega) (fun z hz C B c b=>⟨Sle.set _ (Sle.refl _) (fun u z=>by cases z),?_⟩) ?_
 ·refine⟨_,rfl,_,rfl,_,_,rfl,rfl,rfl,_,rfl,?_⟩;have key:(decide (V.int (Builtin.bitAnd (z:Int) ((2^q:Nat):Int))=V.int 0)=true)↔z.testBit q=false:=by
   have:=qIv z q;cases e:z.testBit q with
   |true=>rw[e]at this;have:=this.mpr rfl;simp at this ⊢;exact this
   |false =>
    rw[e]at this;refine⟨fun _=>rfl,fun _=>?_⟩;cases d:decide (V.int (Builtin.bitAnd (z:Int) ((2^q:Nat):Int))=V.int 0) with
    |true=>rfl
    |false=>rw[d]at this;exact absurd (this.mp rfl) (by decide)
  refine qDa (fun cc=>⟨_,rfl,c (by rw[key.mp cc];rfl)⟩) (fun cc=>b ?_);cases e:z.testBit q with
  |true=>rfl
  |false=>exact absurd (key.mpr e) cc
 intro l2 hl2;rw[hDp];have n2:=n1.trans (Ext.new hl2 (.lst ((ms.filter fun z=>!z.testBit q).map iV)));have h1:LsN (upd (upd H l1 (.lst ((ms.filter fun z=>z.testBit q).map iV))) l2 (.lst ((ms.filter fun z=>!z.testBit q).map iV))) l1 (ms.filter fun z=>z.testBit q):=(Ext.new hl2 _) _ _ upd_same;have h2:LsN (upd (upd H l1 (.lst ((ms.filter fun z=>z.testBit q).map iV))) l2 (.lst ((ms.filter fun z=>!z.testBit q).map iV))) l2 (ms.filter fun z=>!z.testBit q):=upd_same;revert n2 h1 h2;generalize upd (upd H l1 (.lst ((ms.filter fun z=>z.testBit q).map iV))) l2 (.lst ((ms.filter fun z=>!z.testBit q).map iV))=H2;intro n2 h1 h2;have lh:=hB5 (fun z:Nat=>z.testBit q) ms;refine⟨_,rfl,_,rfl,_,rfl,l1,_,rfl,SqL.of h1,fun l3 hl3=>?_⟩;rw[qT9,<-List.map_drop];have n3:=Ext.new hl3 (.lst (((ms.filter fun z=>z.testBit q).drop 1).map iV));refine⟨l3,rfl,⟨_,SqL.of upd_same⟩,?_⟩;refine qCe (ms:=(ms.filter fun z=>z.testBit q).drop 1) (fun _=>true) (fun z=>z^^^(ms.filter fun z=>z.testBit q).headD 0) upd_same (by rw[hCj];omega) (fun z hz C B c b=>⟨Sle.set _ (Sle.refl _) (fun u z=>by cases z),?_⟩) ?_
 ·have hd:atI ((ms.filter fun z=>z.testBit q).map iV) 0=some (iV ((ms.filter fun z=>z.testBit q).headD 0)):=by
   cases e:ms.filter (fun z=>z.testBit q) with
   |nil=>rw[e]at hz;simp at hz
   |cons a l=>exact atI_nat (j:=0) rfl
  refine iteT (B:=B (upd H2 l3 (.lst (((ms.filter fun z=>z.testBit q).drop 1).map iV)))) ⟨_,rfl,_,rfl,l1,_,_,_,rfl,rfl,SqL.of (n3 _ _ h1),hd,_,_,rfl,rfl,?_⟩;have:=c rfl;rw[show iV (z^^^(ms.filter fun z=>z.testBit q).headD 0)=V.int (Builtin.bitXor (z:Int) (((ms.filter fun z=>z.testBit q).headD 0:Nat):Int)) by rw[qB3]]at this;exact this
 intro l4 hl4;have ft:((ms.filter fun z=>z.testBit q).drop 1).filter (fun _=>true)=(ms.filter fun z=>z.testBit q).drop 1:=List.filter_eq_self.mpr fun _ _=>rfl
 rw[ft];have n4:=n3.trans (Ext.new hl4 (.lst ((((ms.filter fun z=>z.testBit q).drop 1).map fun z=>z^^^(ms.filter fun z=>z.testBit q).headD 0).map iV)));refine⟨l2,l4,_,_,rfl,rfl,n4 _ _ h2,upd_same,?_,fun l5 hl5=>?_⟩
 ·have:=qJl ms q;unfold lackF at this;rw[hAj]at this;rw[hA1,hA1];exact hBi (qAj (by omega))
 ·refine qq l5 _ ((n2.trans n4).trans (Ext.new hl5 _)) ((n2.trans n4).none hl5) ?_;unfold LsN lackF;rw[upd_same,hA4]
noncomputable abbrev lfN:List Str:=["table","taken","shrunk_ones","names","gone","name","masks","rest"]
theorem qFm:FnScope lfN ["table","taken","shrunk_ones"] (qAd qPm):=⟨rfl,rfl,rfl,by decide +kernel,rfl,by decide +kernel,by decide +kernel⟩
noncomputable abbrev lfC:List Str:=["mask","rest","names"]
theorem qW5(F:Fun K "left" "left" qPm f fd)
  (G1:Cl P w K mg base CX0 3 f1 fd1 ["table"] qGd "step_masks")
  (G2:Cl P w K mg base CX0 1 f2 fd2 ["masks","bit"] qUs "lacking")
  (G3:Cl P w K mg base CX0 1 f3 fd3 ["names","row"] qO2 "mask_of")
  (G4:Cl P w K mg base CX0 1 f4 fd4 ["names","mask"] qGe "row_of")
  (G5:Cl P w K mg base CX0 3 f5 fd5 ["names","masks"] qOy "table_from"):FnOk P w K mg base CX0 4 f fd ["table","taken","shrunk_ones"] qUq:=by
 refine F.ok qFm (fun vs H Q E h=>?_) (fun cdv A outer s H vs Q E hr h=>?_)
 ·obtain⟨T,pt,ph,names,rows,taken,shr,rfl,_⟩:=h;rfl
 obtain⟨T,pt,ph,names,rows,taken,shr,rfl,ti,ht,hs,nd,tsub,ssub,ln,lr,lt,lsr,q⟩:=h;have hr1:=hr.mono (j:=1) (by decide);refine⟨_,qAc (qAl (i:=3) qFm.nd rfl (Or.inr rfl) (qCm qEv (pv 0) qAe (fun _ _=>rfl)))
  (qAc (qAl (i:=4) qFm.nd rfl (Or.inr rfl) (qAk qC0 (pv 1) (pv 2)))
  (qAc (qA8 PassesOwn.never rfl (qAq (pv 4)) (qAh (i:=5) qFm.nd rfl (Or.inl rfl)) (qAf (qB2 (qAp qCo (pv 5) (pv 3) (by with_unfolding_all rfl)) (qAf qTc) qA4)))
  (qAc (qAl (i:=6) qFm.nd rfl (Or.inl rfl) (qAt G1 hr rfl .nil qAs (qAa (pv 0) qAb)))
  (qAc (qA8 PassesOwn.never rfl (qAq (pv 1)) (qAh (i:=5) qFm.nd rfl (Or.inl rfl))
   (qAf (qAl (i:=6) qFm.nd rfl (Or.inl rfl) (qAt G2 hr1 rfl .nil qAs (qAa (pv 6) (qAa (qAt G3 hr1 rfl .nil qAs (qAa (pv 3) (qAa (qA6 (qAa (pv 5) qAb)) qAb))) qAb))))))
  (qAc (qAl (i:=7) qFm.nd rfl (Or.inr rfl) (qBo (N:=lfN) (sc:=qAd qPm) (N':=["name","gone"]) (sub:=[none,some 4]) rfl rfl (CmpOk.of (by decide +kernel)) rfl (qAq (pv 3))
   (fun C s H fp=>⟨qAh (i:=0) (by show(["name","gone"]:List Str).Nodup;decide) rfl (Or.inl rfl),qB1 (qAp (show OpR _ (compareOp .NotIn) (rIn K true) from qCo) (pv 0) (pv 1) (by with_unfolding_all rfl)),pv 0⟩)))
  (qAf (qAv (qAt G5 hr rfl .nil qAs (qAa (pv 7) (qAa (qBo (N:=lfN) (sc:=qAd qPm) (N':=lfC) (sub:=[none,some 7,some 3]) rfl rfl (CmpOk.of (by decide +kernel)) rfl (qAq (pv 6))
   (fun C s H fp=>⟨qAh (i:=0) (by show lfC.Nodup;decide) rfl (Or.inl rfl),qAy,qAt G3 hr1 rfl .nil qAs (qAa (pv 1) (qAa (qAt G4 hr1 rfl .nil qAs (qAa (pv 2) (qAa (pv 0) qAb))) qAb))⟩)) qAb)))))))))),?_⟩
 try dsimp only[Cx.wish,qCd]
 obtain⟨a,b,hT,ha,hb⟩:=id ti;refine⟨_,rfl,T,_,_,_,rfl,rfl,SqT.of hT,(by exact atI_nat (j:=0) rfl),?_⟩;refine⟨_,rfl,_,rfl,pt,ph,_,_,rfl,rfl,ht,hs,?_,fun go hgo=>?_⟩
 ·rw[hA1,hA1];exact hBi (qAj (by omega))
 have X1:=Ext.new hgo (.lst (taken.map V.str++shr.map V.str));have hg1:LsS (upd H go (.lst (taken.map V.str++shr.map V.str))) go (taken++shr):=by unfold LsS;rw[upd_same,hA4]
 revert X1 hg1;generalize upd H go (.lst (taken.map V.str++shr.map V.str))=H1;intro X1 hg1;refine⟨_,rfl,go,rfl,⟨_,SqL.of hg1⟩,?_⟩;refine qBh (xs:=(taken++shr).map V.str) (fun i σ H'=>H'=H1/\∃x5:Option V,σ=[some (.ref T),some (.ref pt),some (.ref ph),some (.ref a),some (.ref go),x5,none,none]) ⟨rfl,none,rfl⟩ (fun i σ H' _ h=>by rw[h.1];exact SqL.of hg1) ?_ ?_
 ·rintro i v σ H' hx ⟨rfl,x5,rfl⟩;obtain⟨n,rfl,hn⟩:=qDz hx;have nm:n∈names:=by
   rcases hAh.mp (hAc hn) with z|z
   ·exact tsub n z
   ·exact ssub n z
  refine⟨_,rfl,_,rfl,a,_,rfl,.inl (SqL.of (X1 _ _ ha)),rfl,flat_strs _,_,rfl,?_⟩;rw[if_pos rfl,qFg,decide_eq_true nm];exact iteF ⟨rfl,_,rfl⟩
 rintro σ H' ⟨rfl,x5,rfl⟩;refine⟨_,rfl,T,names,rows,rfl,ti.ext X1,lr,fun ms S H2 e2 ms0 hS pS dS=>?_⟩;have lS:S.length<=24:=by
  rw[pS.length_eq];have:=qI6 (rows.map (qAu names));rw[hA1]at this;omega
 have E2:=X1.trans e2;refine⟨_,rfl,pt,rfl,⟨_,SqL.of (E2 _ _ ht)⟩,?_⟩;refine qBh (xs:=taken.map V.str) (fun i σ H3=>∃(ms:Addr) (x5:Option V),σ=[some (.ref T),some (.ref pt),some (.ref ph),some (.ref a),some (.ref go),x5,some (.ref ms),none]/\Ext H2 H3/\LsN H3 ms (qEu names S (taken.take i))) ⟨ms,_,rfl,Ext.refl _,hS⟩ (fun i σ H3 _ h=>by obtain⟨_,_,_,e,_⟩:=h;exact SqL.of ((E2.trans e) _ _ ht)) ?_ ?_
 ·rintro i v σ H3 hx ⟨ms,x5,rfl,e3,hm⟩;obtain⟨n,rfl,hn⟩:=qDz hx;have nm:=tsub n (hAc hn);obtain⟨k,hk,ek⟩:=hBy nm;have ek':names[k]?=some n:=by rw[hA2 hk,ek]
  refine⟨_,rfl,_,rfl,_,rfl,(by show 1<=sizeLine;decide),fun l hl=>?_⟩;have Xl:=Ext.new hl (.lst [V.str n]);have E3:=(E2.trans e3).trans Xl;refine⟨a,l,names,[n],rfl,E3 _ _ ha,upd_same,?_⟩;have lA:=qJn names S (taken.take i);refine⟨ms,qEu names S (taken.take i),names.length - 1 - k,(by rw[qMv nd ek'];rfl),Xl _ _ hm,by omega,fun r H4 e4 r0 h4=>?_⟩;refine⟨r,_,rfl,e3.trans (Xl.trans e4),?_⟩;rw[qAm hn,qFe,qQg nd ek'];exact h4
 rintro σ H3 ⟨ms,x5,rfl,e3,hm⟩;rw[hA1,hA7 (hA6 _)]at hm;have E3:=E2.trans e3;have hg3:=(e2.trans e3) _ _ hg1;have ha3:=E3 _ _ ha;refine⟨_,rfl,a,rfl,⟨_,SqL.of ha3⟩,?_⟩;refine qAr (xs:=names.map V.str) (fun j ys H4=>H4=H3/\ys=(restF (names.take j) (taken++shr)).map V.str) ⟨rfl,rfl⟩ (fun j ys H4 _ h=>by rw[h.1];exact SqL.of ha3) ?_ ?_
 ·rintro j v ys H4 hx ⟨rfl,rfl⟩;obtain⟨n,rfl,hn⟩:=qDz hx;have hj:=at_lt hn;have sz:=hB5 (fun n=>!decide (n∈taken++shr)) (names.take j);rw[hAl]at sz;refine⟨Sle.set _ (Sle.refl _) (fun u z=>by cases z),_,rfl,_,rfl,go,_,rfl,.inl (SqL.of hg3),rfl,flat_strs _,_,rfl,?_⟩;rw[if_pos rfl,qFg];refine qDa (fun c=>?_) (fun c=>?_)
  ·refine⟨_,rfl,?_,nxt (at_lt hx) ⟨rfl,?_⟩⟩
   ·unfold restF;rw[hA1];exact qAj (by omega)
   ·unfold restF;rw[zAg hn c,hA4];rfl
  ·refine nxt (at_lt hx) ⟨rfl,?_⟩;unfold restF;rw[zAh hn (by simpa using c)]
 rintro ys H4 ⟨rfl,rfl⟩ rl hrl;rw[hA1,hA7 (hA6 _)];have X4:=Ext.new hrl (.lst ((restF names (taken++shr)).map V.str));have hr4:LsS (upd H4 rl (.lst ((restF names (taken++shr)).map V.str))) rl (restF names (taken++shr)):=upd_same;have ha4:=X4 _ _ ha3;have hm4:=X4 _ _ hm;have E4:=E3.trans X4;revert hr4 ha4 hm4 E4;generalize upd H4 rl (.lst ((restF names (taken++shr)).map V.str))=H5;intro hr4 ha4 hm4 E4;have lA:=qJn names S taken;refine⟨_,rfl,_,rfl,ms,rfl,⟨_,SqL.of hm4⟩,?_⟩;refine qAr (xs:=(qEu names S taken).map iV) (fun j ys H6=>Ext H5 H6/\ys=(((qEu names S taken).take j).map (piM names (restF names (taken++shr)))).map iV) ⟨Ext.refl _,rfl⟩ (fun j ys H6 _ h=>SqL.of (h.1 _ _ hm4)) ?_ ?_
 ·rintro j v ys H6 hx ⟨e6,rfl⟩;obtain⟨z,rfl,hz⟩:=qBn hx;have hj:=at_lt hz;refine⟨Sle.set _ (Sle.refl _) (fun u z=>by cases z),iteT (B:=False) ⟨_,rfl,_,rfl,_,rfl,a,names,z,rfl,e6 _ _ ha4,ln,fun r7 H7 e7 r70 h7=>?_⟩⟩;refine⟨rl,r7,restF names (taken++shr),rowM names z,rfl,(e6.trans e7) _ _ hr4,h7,?_,nxt (at_lt hx) ⟨e6.trans e7,?_⟩⟩
  ·rw[hA1,hA1,hAl];exact qAj (by omega)
  ·rw[qAm hz,hA4,hA4];rfl
 rintro ys H6 ⟨e6,rfl⟩ pl hpl;rw[hA1,hA7 (hA6 _)];have X6:=e6.trans (Ext.new hpl (.lst (((qEu names S taken).map (piM names (restF names (taken++shr)))).map iV)));have E6:=E4.trans X6;have lrest:(restF names (taken++shr)).length<=12:=hB2 (hB5 _ _) ln;refine⟨rl,pl,restF names (taken++shr),_,rfl,X6 _ _ hr4,lrest,upd_same,by rw[hA1];omega,fun T' M H7 e7 t0 tf pM dM=>?_⟩;exact q T' S M H7 (E6.trans e7) (E6.none t0) (tf.down E6) pS pM dM
end
end My
namespace L2
open PySem PySem.Spec PyProof.Rows
end L2
namespace My
open PySem L2
noncomputable def qJf(names row:List Str):Nat:=(row.map fun n=>2^ixF names n).sum
theorem zAa{names:List Str}(nd:names.Nodup){i:Nat}{n:Str}(h:names[i]?=some n):ixF names n=i:=qGv nd (qJp (hAc h)).1 h
theorem qBg{names:List Str}{z:Nat}{n:Str}:n∈rowL names z↔∃i,i<names.length/\names[i]?=some n/\z.testBit i=true:=by
 unfold rowL;rw[hDd];constructor
 ·rintro⟨i,hi,e⟩;split at e
  ·rename_i b;exact⟨i,hAf.mp hi,e,b⟩
  ·cases e
 ·rintro⟨i,hi,e,b⟩;exact⟨i,hAf.mpr hi,by rw[if_pos b];exact e⟩
theorem qPs{names:List Str}(nd:names.Nodup)(x:Nat):(rowL names x).Nodup:=by
 rw[<-qDf];have:(rowM names (rv names.length x)).Nodup:=by
  unfold rowM;have h:∀l:List Nat,l.Nodup->(l.filterMap fun i=>if (rv names.length x).testBit (names.length - 1 - i)=true then names[i]? else none).Nodup:=fun l=>by
   induction l with
   |nil=>intro _;exact hE7
   |cons a l ih =>
    intro hn;obtain⟨h1,h2⟩:=hBp.mp hn;rw[hCq];split
    ·exact ih h2
    ·rename_i b e;refine hBp.mpr ⟨fun m=>?_,ih h2⟩;obtain⟨c,hc,ec⟩:=hDd.mp m;split at e
     ·split at ec
      ·have:=qGv nd e ec;subst this;exact h1 hc
      ·cases ec
     ·cases e
  exact h _ hC5
 exact this
theorem qJe{names:List Str}(nd:names.Nodup){row:List Str}(rn:row.Nodup)(sub:∀n∈row,n∈names)(j:Nat):(qJf names row).testBit j=decide (∃n∈row,ixF names n=j):=by
 unfold qJf;have e:(row.map fun n=>2^ixF names n)=(row.map (ixF names)).map fun l=>2^l:=by rw[hAr];rfl
 have nd2:(row.map (ixF names)).Nodup:=by
  rw[List.Nodup,hAv];refine hBz (fun {a b} ha hb ne q=>ne ?_) rn;have h1:=(qJp (sub a ha)).1;have h2:=(qJp (sub b hb)).1;rw[q,h2]at h1;exact(hAt h1).symm
 rw[e,qCi _ nd2];refine decide_eq_decide.mpr ?_;rw[hA3]
theorem qMw{names:List Str}(nd:names.Nodup){row:List Str}(rn:row.Nodup)(sub:∀n∈row,n∈names):qJf names row<2^names.length/\rv names.length (qJf names row)=qAu names row:=by
 refine⟨hBh _ fun i hi=>?_,hAo fun j=>?_⟩
 ·rw[qJe nd rn sub];refine decide_eq_false ?_;rintro⟨n,hn,e⟩;have:=(qJp (sub n hn)).2.2;omega
 ·rw[qBe,qA1,qJe nd rn sub];by_cases hj:j<names.length
  ·rw[decide_eq_true hj,hBg,hBg];refine decide_eq_decide.mpr ⟨fun ⟨n,hn,e⟩=>⟨n,by rw[<-e];exact(qJp (sub n hn)).1,hn⟩,fun ⟨n,h1,h2⟩=>⟨n,h2,zAa nd h1⟩⟩
  ·rw[decide_eq_false hj];rfl
theorem qA3{m:Nat}{F:List Nat}(hF:∀x∈F,x<2^m){z:Nat}(hz:z<2^m):Spn (F.map (rv m)) (rv m z)↔Spn F z:=by
 rw[qOv hF,qC2 hz];exact⟨fun h=>h.2,fun h=>⟨qG6 _ _,h⟩⟩
structure TabOk(names:List Str)(rows:List (List Str)):Prop where
 rn:qNg names
 ok:SOk names
 ln:names.length<=12
 lr:rows.length<=16
 rw:∀r∈rows,∃x,r=rowL names x
section
variable{names:List Str}{rows:List (List Str)}
theorem TabOk.masks(h:TabOk names rows):(∀x∈rows.map (qJf names),x<2^names.length)/\(rows.map (qJf names)).map (rv names.length)=rows.map (qAu names):=by
 have nd:=qDv h.rn;refine⟨fun x hx=>?_,?_⟩
 ·obtain⟨r,hr,rfl⟩:=hA3.mp hx;obtain⟨x,rfl⟩:=h.rw r hr;exact(qMw nd (qPs nd x) fun n hn=>by obtain⟨i,_,e,_⟩:=qBg.mp hn;exact hAc e).1
 ·rw[hAr];refine hBq fun r hr=>?_
  obtain⟨x,rfl⟩:=h.rw r hr;exact(qMw nd (qPs nd x) fun n hn=>by obtain⟨i,_,e,_⟩:=qBg.mp hn;exact hAc e).2
noncomputable abbrev numL(names:List Str)(rows:List (List Str)):List Nat:=redL (rows.map (qJf names))
theorem TabOk.num(h:TabOk names rows):Gm names.length (numL names rows)/\(numL names rows).map (rv names.length)=red (rows.map (qAu names)):=by
 obtain⟨a,b⟩:=h.masks;obtain⟨c,d⟩:=qCp (m:=names.length) (rows.map (qJf names)) a;exact⟨c,by rw[d,b]⟩
end
end My
namespace L2
open PySem PySem.Spec PyProof.Rows
end L2
namespace My
open PySem L2
theorem zAn(xs:List V)(p:Nat):cutV xs none (some (p:Int))=xs.take p:=by
 unfold cutV;rw[HT.sIx_nat,HT.sIx_none,List.drop_zero,Nat.sub_zero];rcases Nat.le_total p xs.length with h|h
 ·rw[Nat.min_eq_left h]
 ·rw[Nat.min_eq_right h,hA7 (hA6 _),hA7 h]
def qUt:Sp:=fun vs H Q _=>∃(T:Addr) (names:List Str) (rows:List (List Str)),vs=[.ref T]/\qC8 H T names rows/\rows.length<=24/\∀T' H',Ext H H'->H T'=none->qC8 H' T' names rows->Q (.ref T') H'
def zDf(K:PySem.W.Frag):List V->Hp->VK->Prop:=fun xs H Q=>∃p ys,xs=[.ref p]/\(SqL K H p ys\/SqT K H p ys)/\∀l,H l=none->Q (.ref l) (upd H l (.lst ys))
section
variable{P:Program}{w:World}{K:PySem.W.Frag}{mg:Str->Option Value}{base:Heap}{f f1 f2 f3 f4 f5:Addr}{fd fd1 fd2 fd3 fd4 fd5:FuncData}
theorem qY8:FnScope ["_law_table_here"] ["_law_table_here"] (qAd qS3):=⟨rfl,rfl,rfl,by decide +kernel,rfl,by decide +kernel,by decide +kernel⟩
theorem qW7(F:Fun K "_law_copy" "_law_copy" qS3 f fd)(mL:mg "list" = none):FnOk P w K mg base CX0 1 f fd ["_law_table_here"] qUt:=by
 refine F.ok qY8 (fun vs H Q E h=>?_) (fun cdv A outer s H vs Q E hr h=>?_)
 ·obtain⟨T,names,rows,rfl,_⟩:=h;rfl
 obtain⟨T,names,rows,rfl,ti,lr,q⟩:=h;refine⟨_,qAf (qAv (qBk (qAa (qBp qB4 rfl mL qBt (qAa (qCm qEv (pv 0) qAe (fun _ _=>rfl)) qAb))
  (qAa (qBo (N:=["_law_table_here"]) (sc:=qAd qS3) (N':=["_law_row_here"]) (sub:=[none]) rfl rfl (CmpOk.of (by decide +kernel)) rfl (qAq (qCm qEv (pv 0) qAe (fun _ _=>rfl)))
   (fun C s H fp=>⟨qAh (i:=0) (by show(["_law_row_here"]:List Str).Nodup;decide) rfl (Or.inl rfl),qAy,qBp (show qB7 _ (.type "list") (zDf K) from qB4) rfl mL qBt (qAa (pv 0) qAb)⟩)) qAb)))),?_⟩
 try dsimp only[Cx.wish,qCd]
 obtain⟨tA,tB,hT,htA,⟨cs,htB,pcs⟩⟩:=id ti;have lcs:cs.length=rows.length:=pcs.length;refine⟨_,rfl,T,_,_,_,rfl,rfl,SqT.of hT,(by exact atI_nat (j:=0) rfl),tA,_,rfl,.inl (SqL.of htA),fun l1 hl1=>?_⟩;have N0:=Ext.new hl1 (.lst (names.map V.str));refine⟨_,rfl,T,_,_,_,rfl,rfl,SqT.of (N0 _ _ hT),(by exact atI_nat (j:=1) rfl),tB,rfl,⟨_,SqL.of (N0 _ _ htB)⟩,?_⟩;refine qAr (xs:=cs.map V.ref) (fun j ys Hd=>Ext (upd H l1 (.lst (names.map V.str))) Hd/\∃ds,ys=ds.map V.ref/\Paired (LsS Hd) ds (rows.take j)) ⟨Ext.refl _,[],rfl,.nil⟩ (fun j ys Hd _ h=>SqL.of (h.1 _ _ (N0 _ _ htB))) ?_ ?_
 ·rintro j v ys Hd hx ⟨ed,ds,rfl,pd⟩;obtain⟨c,rfl,hc⟩:=qE8 hx;obtain⟨rw1,hrw,hc1⟩:=qBm pcs hc;have hj:=at_lt hrw;have ld:ds.length=_:=pd.length;rw[hAl]at ld;refine⟨Sle.set _ (Sle.refl _) (fun u z=>by cases z),iteT (B:=False) ⟨_,rfl,c,_,rfl,.inl (SqL.of (ed _ _ (N0 _ _ hc1))),fun l hl=>⟨?_,nxt (at_lt hx) ⟨ed.trans (Ext.new hl _),ds++[l],by rw[hA4];rfl,?_⟩⟩⟩⟩
  ·rw[hA1];exact qAj (by omega)
  ·rw[qAm hrw];exact Paired.snoc (Paired.mapP pd fun a t z=>(Ext.new hl _) _ _ z) upd_same
 rintro ys Hd ⟨ed,ds,rfl,pd⟩ bb hbb;rw[hA1,lcs,hA7 (hA6 _)]at pd;have XB:=Ext.new hbb (.lst (ds.map V.ref));refine⟨(by show 2<=sizeLine;decide),fun TT hTT=>?_⟩;have XT:=Ext.new hTT (.tup [V.ref l1,V.ref bb]);have NE:=N0.trans (ed.trans (XB.trans XT));exact q TT _ NE (((N0.trans ed).trans XB).none hTT) ⟨l1,bb,upd_same,(ed.trans (XB.trans XT)) _ _ upd_same,⟨ds,XT _ _ upd_same,Paired.mapP pd fun a t z=>(XB.trans XT) _ _ z⟩⟩
end
end My
namespace L2
open PySem PySem.Spec PyProof.Rows PySem.SeqAt PySem.MeetsSeq
section
variable{X:Cx}{k:Nat}{f:Addr}{fd:FuncData}{ps:List Str}{sp:Sp}{E:XK}
theorem qWk(F:FnOk X.prog X.w X.K X.mg X.base CX0 k f fd ps sp)(hr:Room (k+2) X.A)(hb:qKa X.K fd ps [])
  (I:Inv X pins σ H s) (r:qA7 vs us) (h:sp vs H Q E):wpAny (model X.prog X.w) X.A.in1.in1 (call (.ref f) us) (EP X pins σ Q) E' s:=by
 have hl:(us++[]).length=ps.length:=by rw[hBd,<-r.length];exact F.len _ _ _ _ h
 have hb':=hb s us I.kIn hl;rw[hBd]at hb';refine wpAny_call (codeAny_mono (F.run X.A.in1.in1 X.stack s H ⟨us,[]⟩ us vs Q E (Room.in1 (Room.in1 hr)) I.env0.in1.in1 hb' r h) fun r s' hq=>?_);cases r with
 |error e=>exact False.elim hq
 |ok fl =>
  cases fl with
  |ret u=>exact I.after hq
  |next=>exact False.elim hq
  |brk=>exact False.elim hq
  |cont=>exact False.elim hq
structure Aw(X:Cx)(pins:List (Addr×Obj))(a:Addr):Prop where
 loc:a≠X.env.locals
 ab:X.s₀.heap.objs.size<=a
 cel:∀x c,X.env.cells.lookup x=some c->c≠a
 pin:∀p∈X.pn++pins,p.1≠a
 fs:a∉X.fs
theorem Inv.aw(I:Inv X pins σ H s)(h:s.heap.objs.size<=a):Aw X pins a:=by
 refine⟨hCo (hAm I.lt h),hB2 I.sz h,fun x c e=>?_,fun p hp=>?_,I.nofs h⟩
 ·obtain⟨v,o,ho,_⟩:=I.cell x c e;exact hAn (hAm (Heap.lt_size ho) h)
 ·exact hAn (hAm (Heap.lt_size (I.pin p hp).1) h)
theorem Inv.adoptL(I:Inv X pins σ H s)(w:Aw X pins a)(hn:H a=none)(hv:qA7 ys its)(hz:ys.length<=sizeLine)
  (e:s.heap.get? a=some { cls:=.type "list",data:=.seq its.toArray n }):Inv X pins σ (upd H a (.lst ys)) s:=by
 refine⟨I.ok,I.os,I.bare,⟨I.base.keep,I.base.slot,fun b o q n' hx=>?_,I.base.there,fun b xs q=>?_,fun b o u q=>?_,fun b ps q=>?_⟩,I.loc,I.cell,?_,fun x c q=>?_,fun p hp=>?_,fun b u q=>?_,I.len⟩
 ·rw[qAg (hAn (hAm (Heap.lt_size q) w.ab))];exact I.base.free b o q n' hx
 ·have:=I.base.tups b xs q;rw[qAg (qAi this hn)];exact this
 ·have:=I.base.frzs b o u q;rw[qAg (qAi this hn)];exact this
 ·obtain⟨m,this⟩:=I.base.tbls b ps q;exact⟨m,by rw[qAg (qAi this hn)];exact this⟩
 ·rw[qAg (Ne.symm w.loc)];exact I.free
 ·rw[qAg (w.cel x c q)];exact I.freeC x c q
 ·obtain⟨h1,h2,h3⟩:=I.pin p hp;exact⟨h1,by rw[qAg (w.pin p hp)];exact h2,h3⟩
 ·by_cases hb:b=a
  ·subst hb;rw[upd_same]at q;cases q;exact⟨hz,its,n,hv,e⟩
  ·rw[qAg hb]at q;exact(I.hok b u q).stay (fun c v _ r=>r) (fun c r=>by rw[qAg (qAi r hn)];exact r) fun c xs r=>by rw[qAg (qAi r hn)];exact r
theorem Inv.repinL(f:Array Value->Array Value)(I:Inv X pins σ H s)(w:Aw X pins a)(hn:H a=none)(e:s.heap.get? a=some (seqObj "list" its n)) :
  ∃n',Inv X pins σ H { s with heap:=s.heap.update a (Obj.mapSeq f) }/\(s.heap.update a (Obj.mapSeq f)).get? a=some (seqObj "list" (f its) n'):=by
 obtain⟨c,hc⟩:∃c,(s.heap.update a (Obj.mapSeq f)).get? a=some (seqObj "list" (f its) c):=⟨_,get?_update_seq e f⟩;refine⟨c,?_,hc⟩;exact I.turned (t':=s.toks) (it:=a) (fun b o hb q=>(Heap.get?_update_other s.heap _ (Ne.symm hb)).trans q) hn w.loc (.inr w.ab) w.cel w.pin
theorem Inv.pinL(I:Inv X pins σ H s)(w:Aw X pins a)(hn:H a=none)(e:s.heap.get? a=some (seqObj "list" its n)) :
  Inv X ((a,seqObj "list" its n) :: pins) σ H s:=I.pins_of fun p hp=>by
 rcases hAg.mp hp with rfl|hp
 ·exact⟨e,hn,w.loc,w.fs,fun v q=>by cases q⟩
 ·exact I.pin p (hAa _ hp)
theorem Inv.unpin(I:Inv X (q :: pins) σ H s):Inv X pins σ H s:=I.pins_of fun p hp=>I.pin p (hAa _ (hA8 _ hp))
theorem Aw.cons{pins:List (Addr×Obj)}{a b:Addr}{o:Obj}(w:Aw X pins a)(h:b≠a):Aw X ((b,o) :: pins) a:=⟨w.loc,w.ab,w.cel,fun p hp=>by
 rcases hAh.mp hp with q|q
 ·exact w.pin p (hAi _ q)
 ·rcases hAg.mp q with rfl|q
  ·exact h
  ·exact w.pin p (hAa _ q),w.fs⟩
theorem qY4
  (I:Inv X ((kS,seqObj "list" keys.toArray en) :: (a,seqObj "list" #[] e1) :: pins) σ H s) (hk:kS≠a) (Hk:H kS=none) (Ha:H a=none) (wa:Aw X pins a) (wk:Aw X pins kS)
  (hz:IntsAre keys kz) (hv:IntsAre vs ns) (hg:kz=ns.map g) (h64:ns.length<64)
  (h:∀(s':Shared) (ns':List Int),ns'.Perm ns->ns'.Pairwise (fun x y=>g x<=g y)->Inv X pins σ (upd H a (.lst (ns'.map V.int))) s'->P (.done (.ret .none)) s') :
  wpAny (model X.prog X.w) A (ksk_end a false vs.toArray e1 (.ref kS) keys.toArray) P E' s:=by
 have lv:=hv.length;have lk:=hz.length;have lg:kz.length=ns.length:=by rw[hg,hA1]
 have hsz:keys.toArray.size=vs.length:=by rw[hAd];omega
 have hzs:(keys.toArray.zip vs.toArray).size=vs.length:=by rw[Array.size_zip,hsz,hAd,Nat.min_self]
 have hz':IntsAre keys.toArray.toList kz:=by simpa using hz
 have ok:s.heap.get? kS=some (seqObj "list" keys.toArray en):=(I.pin (kS,_) (hAa _ (.head _))).1;have fin:∀st:SortSt,(arrOf st).Perm (keys.toArray.zip vs.toArray)->SortedTo (arrOf st) (arrOf st).size->failedOf st=none->wpAny (model X.prog X.w) A (ksk_tail a false e1 (.ref kS) st) P E' s:=by
  intro st hp hs hf;have hsz2:(arrOf st).size=vs.length:=by rw[hp.size_eq,hzs]
  obtain⟨ps,h1,h2,h3⟩:=ksk_out (b:=false) hz' hp hs;obtain⟨n1,I1,_⟩:=Inv.repinL (fun _=>(#[]:Array Value)) I.unpin (wk.cons (Ne.symm hk)) Hk ok;have oa1:(s.heap.update kS (Obj.mapSeq fun _=>(#[]:Array Value))).get? a=some (seqObj "list" #[] e1):=(I1.pin (a,_) (hAa _ (.head _))).1;obtain⟨n2,I2,oa2⟩:=Inv.repinL (s:={ s with heap:=s.heap.update kS (Obj.mapSeq fun _=>(#[]:Array Value)) }) (fun _=>(arrOf st).map (·.2)) I1.unpin wa Ha oa1;unfold ksk_tail;try dsimp only
  refine wpAny_bind (listUpdate_at ok rfl ?_ (by rw[hsz,sizeLine_eq];omega) (hAs _));refine wpAny_bind (wpAny_letGo ?_);refine wpAny_bind (seqEpoch_at oa1 rfl ?_);refine wpAny_bind (listUpdate_at oa1 rfl ?_ (hAs _) (by simp only[hC1,if_false,Array.size_map];rw[hsz2,sizeLine_eq];omega));rw[hf];simp only[bne_self_eq_false,hC1,if_false];have hrel:∀p,p∈kz.zip vs->p.1=g (numOf p.2)/\p.2∈vs:=by
   rw[hg,<-hv.nums,hAr,List.zip_map_left];intro p hp;obtain⟨⟨u,v⟩,hq,rfl⟩:=hA3.mp hp;have h1:u=v/\u∈vs:=mem_zip_self hq;refine⟨?_,?_⟩
   ·show g (numOf u)=g (numOf v);rw[h1.1]
   ·show v∈vs;rw[<-h1.1];exact h1.2
  have hI:IntsAre (ps.map Prod.snd) ((ps.map Prod.snd).map numOf):=intsAre_map _ fun v hv'=>by
   obtain⟨p,hp',rfl⟩:=hA3.mp hv';exact hv.all _ (hrel p (h1.mem_iff.mp hp')).2
  have hP:((ps.map Prod.snd).map numOf).Perm ns:=by
   have h1':=(h1.map Prod.snd).map numOf;rw[hDb (by omega),hv.nums]at h1';exact h1'
  have hO:((ps.map Prod.snd).map numOf).Pairwise (fun x y=>g x<=g y):=by
   rw[hAv,hAv];refine h3.imp_of_mem fun {p q} hp' hq' hr=>?_
   have hr':p.1<=q.1:=hr;rw[(hrel p (h1.mem_iff.mp hp')).1,(hrel q (h1.mem_iff.mp hq')).1]at hr';exact hr'
  rw[<-h2]at hI hP hO;simp only[hC1,if_false]at hI hP hO;refine wpAny_pure (h _ _ hP hO ?_);exact I2.adoptL (its:=((arrOf st).map (·.2)).toList) (n:=n2) wa Ha (qHk hI) (by rw[hA1,hP.length_eq,sizeLine_eq];omega) (by rw[Array.toArray_toList];exact oa2)
 unfold ksk_end;try dsimp only
 simp only[hC1,if_false];by_cases h2:vs.toArray.size<2
 ·rw[if_pos h2,if_pos h2];refine wpAny_bind (wpAny_pure ?_);rw[StateT.run_pure];refine wpAny_bind (wpAny_pure ?_);try dsimp only
  refine fin (SortSt.mk' general' (keys.toArray.zip vs.toArray) #[] 7 none) (Array.Perm.refl _) ?_ rfl;intro i j hij hj;have hj2:j<(keys.toArray.zip vs.toArray).size:=hj;rw[hzs]at hj2;rw[hAd]at h2;have:i=j:=by omega
  subst this;exact hDk _
 ·rw[if_neg h2,if_neg h2];rw[hAd]at h2;rw[ksk_kind hz' (by rw[hsz];omega)];refine wpAny_bind (wpAny_pure ?_);refine wpAny_bind (wpAny_mono (wpS_sortRuns (a₀:=keys.toArray.zip vs.toArray) (st:=SortSt.mk' oneType' (keys.toArray.zip vs.toArray) #[] 7 none)
   (Q:=fun _ st'=>(arrOf st').Perm (keys.toArray.zip vs.toArray)/\failedOf st'=none/\SortedTo (arrOf st') (keys.toArray.zip vs.toArray).size)
   (ksk_intKeys hz') ⟨Array.Perm.refl _,rfl,rfl,rfl⟩ (by rw[hzs];omega) (by rw[hzs];omega) fun st' a1 a2 a3=>⟨a1,a2,a3⟩) ?_ fun _ _ e=>e)
  rintro⟨⟨⟩,st'⟩ s' ⟨rfl,hp,hf,hs⟩;try dsimp only
  exact fin _ hp (by rw[hp.size_eq];exact hs) hf
def qSk(K:PySem.W.Frag)(sp:Sp)(E:XK)(g:Int->Int)(t:TA):TE:=fun σ H Q=>t σ H fun vs H1=>∃(p:Addr) (ns:List Int),vs=[.ref p]/\SqL K H1 p (ns.map V.int)/\ns.length<64 /\
 (∀n∈ns,∀H (Q:VK),Q (.int (g n)) H->sp [.int n] H Q E)/\∀(r:Addr) (ns':List Int),H1 r=none->ns'.Perm ns->ns'.Pairwise (fun x y=>g x<=g y)->Q (.ref r) (upd H1 r (.lst (ns'.map V.int)))
theorem qN0(F:FnOk X.prog X.w X.K X.mg X.base CX0 k f fd ps sp)(hr:Room (k+2) X.A)(hb:qKa X.K fd ps [])(hg:Gl X "sorted")(hm:X.mg "sorted" = none)(hgx:Gl X x)(hmx:X.mg x=some (.ref f))(ha:PA X [e] t)
  (hdb:(x == ("__debug__" : Str))=false:=by decide)
  (he:backTo pos (starEach [e] X.env)=(false,eval e X.env) :: backTo pos (starEach [] X.env):=by rfl)
  (hplain:(backTo pos (starEach [e] X.env)).any (·.1)=false:=by rfl):PE X (.Call (.Name "sorted" p) [e] [⟨some "key",.Name x cp,kp⟩] pos) (qSk X.K sp E g t):=by
 intro pins s σ H Q I h;refine wpAny_Call_Name_kw (qEt I hg hm (by decide +kernel:bootBuiltins "sorted" = some (.builtin "sorted")) ?_ (by decide) (by decide));refine PyProof.Rows.callWith_kw (thn (ha pos pins s σ H _ I h) fun us s1 ⟨vs,H1,I1,r1,q1⟩=>?_) he hplain;obtain⟨l,ns,rfl,hq,h64,hf,q⟩:=q1;obtain⟨u,rfl,rx⟩:=qCv r1;cases rx;refine hDz (qQq I1 hgx hmx (hE5 ?_) hdb);show wpAny _ _ (call (.builtin "sorted") [.ref l] [(Str.ofString "key",.ref f)]) _ _ _;obtain⟨its,rv,pl,hz⟩:=I1.list hq;have hi:=qD8 rv;have hl:=hi.length;refine call_function_entry_kw kind_sorted plain_sorted entry_sorted (ksk_s1 _ _) ?_;unfold Builtin.«sorted»;refine wpAny_bind (m:=checkCount "sorted" 1 1 _) (wpAny_pure ?_);refine wpAny_bind (collect_list pl.isList ?_ (by rw[sizeLine_eq];omega));refine wpAny_bind (wpAny_newList ?_ (by rw[sizeLine_eq];omega));have hsz:((s1.heap.push (seqObj "list" #[] 0)).update s1.heap.objs.size (Obj.mapSeq (·++its.toArray))).objs.size=s1.heap.objs.size+1:=by
  rw[Heap.size_update,size_push']
 have keep:∀b o,s1.heap.get? b=some o->((s1.heap.push (seqObj "list" #[] 0)).update s1.heap.objs.size (Obj.mapSeq (·++its.toArray))).get? b=some o:=fun b o q=>by
  have hlt:b<s1.heap.objs.size:=Heap.lt_size q;rw[Heap.get?_update_ne _ _ _ _ (hAn hlt),Heap.get?_push_ne _ _ _ (hAn hlt)];exact q
 have hoL:(((s1.heap.push (seqObj "list" #[] 0)).update s1.heap.objs.size (Obj.mapSeq (·++its.toArray))).push (seqObj "list" its.toArray 0)).get? (s1.heap.objs.size+1)=some (seqObj "list" its.toArray 0):=by
  rw[<-hsz];exact Heap.get?_push_size _ rfl
 have I2:Inv X pins σ H1 { s1 with heap:=((s1.heap.push (seqObj "list" #[] 0)).update s1.heap.objs.size (Obj.mapSeq (·++its.toArray))).push (seqObj "list" its.toArray 0) } :=
  I1.kept (t':=s1.toks) fun b o q=>Heap.get?_push_of_some _ (keep b o q)
 show wpAny _ _ _ _ _ { s1 with heap:=((s1.heap.push (seqObj "list" #[] 0)).update s1.heap.objs.size (Obj.mapSeq (·++its.toArray))).push (seqObj "list" its.toArray 0) };rw[hsz];have nA:H1 (s1.heap.objs.size+1)=none:=I1.hok.fresh (hB7 _);have wA:Aw X pins (s1.heap.objs.size+1):=I1.aw (hB7 _);generalize s1.heap.objs.size+1=a at hoL nA wA;generalize hS:({ s1 with heap:=((s1.heap.push (seqObj "list" #[] 0)).update s1.heap.objs.size (Obj.mapSeq (·++its.toArray))).push (seqObj "list" its.toArray 0) }:Shared)=s2 at I2;have ho2:s2.heap.get? a=some (seqObj "list" its.toArray 0):=by rw[<-hS];exact hoL
 clear hoL hS;refine wpAny_bind (wpAny_holding (wpAny_call_entry_kw slot_list_sort ⟨_,ho2,rfl⟩ entry_list_sort ?body (ksk_l1 _ _)));show wpAny (model X.prog X.w) X.A.in1.in1 (Builtin.«list.sort» ⟨[.ref a],[(Str.ofString "key",.ref f)]⟩) _ _ _;rw[ksk_t1];unfold ksk_tree;have hi0:its.length<64:=by omega
 refine wpAny_bind (listItems_at ho2 rfl ?_);refine wpAny_bind (listUpdate_at ho2 rfl ?_ (by rw[hAd,sizeLine_eq];omega) (hAs _));obtain⟨e1,I3,ho3⟩:=I2.repinL (fun _=>#[]) wA nA ho2;refine wpAny_bind (seqEpoch_at ho3 rfl ?_);refine wpAny_bind (wpAny_newTuple ?_ (by show its.length<=_;rw[sizeLine_eq];omega));refine wpAny_bind (wpAny_newList ?_ (hAs _));refine wpAny_holding ?_;have I4:Inv X pins σ H1 { s2 with heap:=((s2.heap.update a (Obj.mapSeq fun _=>(#[]:Array Value))).push (seqObj "tuple" its.toArray 0)) }:=I3.kept (t':=s2.toks) fun b o q=>Heap.get?_push_of_some _ q
 have nK:=I4.fresh;have wK:=I4.aw (hA6 _);have ho4:((s2.heap.update a (Obj.mapSeq fun _=>(#[]:Array Value))).push (seqObj "tuple" its.toArray 0)).get? a=some (seqObj "list" #[] e1):=Heap.get?_push_of_some _ ho3;have nka:((s2.heap.update a (Obj.mapSeq fun _=>(#[]:Array Value))).push (seqObj "tuple" its.toArray 0)).objs.size≠a:=hCo (Heap.lt_size ho4);have I5:Inv X pins σ H1 { s2 with heap:=((s2.heap.update a (Obj.mapSeq fun _=>(#[]:Array Value))).push (seqObj "tuple" its.toArray 0)).push (seqObj "list" #[] 0) }:=I4.kept (t':=s2.toks) fun b o q=>Heap.get?_push_of_some _ q
 have ho5:(((s2.heap.update a (Obj.mapSeq fun _=>(#[]:Array Value))).push (seqObj "tuple" its.toArray 0)).push (seqObj "list" #[] 0)).get? a=some (seqObj "list" #[] e1):=Heap.get?_push_of_some _ ho4;have hk5:(((s2.heap.update a (Obj.mapSeq fun _=>(#[]:Array Value))).push (seqObj "tuple" its.toArray 0)).push (seqObj "list" #[] 0)).get? ((s2.heap.update a (Obj.mapSeq fun _=>(#[]:Array Value))).push (seqObj "tuple" its.toArray 0)).objs.size=some (seqObj "list" #[] 0):=Heap.get?_push_size _ rfl;show wpAny _ _ (ksk_rest a (.ref f) false its.toArray e1 (.ref ((s2.heap.update a (Obj.mapSeq fun _=>(#[]:Array Value))).push (seqObj "tuple" its.toArray 0)).objs.size)) _ _ { s2 with heap:=((s2.heap.update a (Obj.mapSeq fun _=>(#[]:Array Value))).push (seqObj "tuple" its.toArray 0)).push (seqObj "list" #[] 0) }
 change H1 ((s2.heap.update a (Obj.mapSeq fun _=>(#[]:Array Value))).push (seqObj "tuple" its.toArray 0)).objs.size=none at nK
 change Aw X pins ((s2.heap.update a (Obj.mapSeq fun _=>(#[]:Array Value))).push (seqObj "tuple" its.toArray 0)).objs.size at wK
 have I6:=(I5.pinL wA nA ho5).pinL (wK.cons (Ne.symm nka)) nK hk5;generalize ((s2.heap.update a (Obj.mapSeq fun _=>(#[]:Array Value))).push (seqObj "tuple" its.toArray 0)).objs.size=kS at nK wK nka I6 ⊢;generalize ({ s2 with heap:=((s2.heap.update a (Obj.mapSeq fun _=>(#[]:Array Value))).push (seqObj "tuple" its.toArray 0)).push (seqObj "list" #[] 0) }:Shared)=s6 at I6 ⊢;unfold ksk_rest;refine wpAny_bind (wpAny_rule ?_)
 first
  |rw[List.forIn_toArray]
  |(rw[<-Array.forIn_toList];simp only[List.toList_toArray])
  |rw[<-Array.forIn_toList]
 refine wpAny_bind (ksk_fold (fun i s'=>∃(kA:List Value) (e:Nat),Inv X ((kS,seqObj "list" kA.toArray e) :: (a,seqObj "list" #[] e1) :: pins) σ H1 s'/\IntsAre kA ((ns.map g).take i)) its 0 s6 ⟨[],0,I6,by simpa using IntsAre.nil⟩ ?step ?done)
 case step =>
  rintro j x s' hx ⟨kA,e,I',hk⟩;simp only[Nat.zero_add]at hk ⊢;have hj:j<its.length:=(hAq.mp hx).1;have hjn:j<ns.length:=by omega
  obtain⟨t,ht⟩:=hi.get j ns[j] (hA2 hjn);rw[hx]at ht;cases ht;have hz:kA.length<=its.length:=by
   have h1:=hk.length;rw[hAl,hA1]at h1;omega
  refine wpAny_bind (wpAny_attempt (wpAny_mono (qWk (E:=E) (vs:=[.int ns[j]]) (Q:=fun v H=>v = .int (g ns[j])/\H=H1) F hr hb I' (.cons ⟨t,rfl⟩ .nil) (hf ns[j] (hBn hjn) H1 _ ⟨rfl,rfl⟩)) (fun v s'' he=>?_) fun _ _ (hF:False)=>hF.elim));obtain⟨w,H',I8,rw',rfl,e8⟩:=he;rw[e8]at I8;obtain⟨t2,rfl⟩:=rw';try dsimp only
  have ok2:s''.heap.get? kS=some (seqObj "list" kA.toArray e):=(I8.pin (kS,_) (hAa _ (.head _))).1;obtain⟨n3,I3,ok3⟩:=I8.unpin.repinL (·.push (.int (g ns[j]) t2)) (wK.cons (Ne.symm nka)) nK ok2;have ek:(ns.map g).take (j+1)=(ns.map g).take j++[g ns[j]]:=by rw[List.take_add_one,hAk,hA2 hjn];simp
  refine wpAny_bind (listUpdate_at ok2 rfl ?_ (by rw[hAd,sizeLine_eq];omega) (hB2 (Nat.le_of_eq (Array.size_push ..)) (by rw[hAd,sizeLine_eq];omega)));have ea:kA.toArray.push (Value.int (g ns[j]) t2)=(kA++[Value.int (g ns[j]) t2]).toArray:=by simp
  rw[ea]at ok3;exact wpAny_pure ⟨rfl,kA++[.int (g ns[j]) t2],n3,I3.pinL (wK.cons (Ne.symm nka)) nK ok3,by rw[ek];exact ksk_snoc hk⟩
 case done =>
  rintro s' ⟨kA,e,I',hk⟩;have hk':IntsAre kA (ns.map g):=by
   have e3:(ns.map g).take (0+its.length)=ns.map g:=hA7 (by rw[hA1];omega);rw[e3]at hk;exact hk
  have ok2:s'.heap.get? kS=some (seqObj "list" kA.toArray e):=(I'.pin (kS,_) (hAa _ (.head _))).1;try dsimp only
  refine wpAny_bind (listItems_at ok2 rfl ?_);refine qY4 (g:=g) I' nka nK nA wA wK hk' hi rfl h64 fun s7 ns' hp ho I7=>⟨_,rfl,?_⟩
  exact wpAny_pure ⟨_,rfl,⟨.ref a,_,I7,rfl,q a ns' nA hp ho⟩⟩
end
end L2
namespace My
open PySem L2
def qO0(K:PySem.W.Frag):Sp:=fun vs H Q _=>∃(a:Addr) (ns:List Int) (k:Int),vs=[.ref a,.int k]/\SqL K H a (ns.map V.int)/\0<=k/\k<=1000/\∀v r,H r=none->Q (.ref r) (upd H r (.lst [.int v]))
def qGc:Sp:=fun vs H Q _=>∃(d:Addr) (n m:Int),vs=[.ref d,.int m]/\H d=some (.lst [.int n])/\0<m/\m<1073741824/\∀q r,0<=r->r<m->Q (.int r) (upd H d (.lst [.int q]))
section
variable{P:Program}{w:World}{K:PySem.W.Frag}{mg:Str->Option Value}{base:Heap}{f f1:Addr}{fd fd1:FuncData}
theorem qUx:FnScope ["_law_draw","_law_many","_law_digit"] ["_law_draw","_law_many"] (qAd qWe):=⟨rfl,rfl,rfl,by decide +kernel,rfl,by decide +kernel,by decide +kernel⟩
theorem qWy(F:Fun K "_law_take" "_law_take" qWe f fd):FnOk P w K mg base CX0 1 f fd ["_law_draw","_law_many"] qGc:=by
 refine F.ok qUx (fun vs H Q E h=>?_) (fun cdv A outer s H vs Q E hr h=>?_)
 ·obtain⟨a,ns,k,rfl,_⟩:=h;rfl
 obtain⟨d,n,m,rfl,hd,h1,h2,q⟩:=h;refine⟨_,qAc (qAl (i:=2) qUx.nd rfl (Or.inl rfl) (qAk qB9 (qCm qC4 (pv 0) qAe (fun _ _=>rfl)) (pv 1)))
  (qAc (qI8 (qAk qIe (qCm qC4 (pv 0) qAe (fun _ _=>rfl)) (pv 1)) (qQb (pv 0) qAe qH5)) (qAf (qAv (pv 2)))),?_⟩
 try dsimp only[Cx.wish,qCd]
 refine⟨_,rfl,d,_,_,_,rfl,rfl,SqL.of hd,rfl,_,rfl,_,_,rfl,rfl,h1,?_⟩;refine⟨_,rfl,d,_,_,_,rfl,rfl,SqL.of hd,rfl,_,rfl,_,_,rfl,rfl,⟨h1,h2⟩,?_⟩;refine⟨_,rfl,d,_,_,_,rfl,rfl,hd,rfl,?_⟩;exact⟨_,rfl,q (n / m) (n % m) (Int.emod_nonneg _ (by omega)) (Int.emod_lt_of_pos _ h1)⟩
end
section
variable{P:Program}{w:World}{K:PySem.W.Frag}{mg:Str->Option Value}{base:Heap}{f f1:Addr}{fd fd1:FuncData}
theorem qD0:FnScope ["_law_script","_law_at","_law_cell","_law_come","_law_k","_law_one","_law_mixed"] ["_law_script","_law_at"] (qAd qPl):=⟨rfl,rfl,rfl,by decide +kernel,rfl,by decide +kernel,by decide +kernel⟩
theorem qTk(F:Fun K "_law_purse" "_law_purse" qPl f fd)(G:Cl P w K mg base CX0 1 f1 fd1 ["_law_script","_law_k"] (qUu K) "_law_cell_at")(mr:mg "range" = none) :
  FnOk P w K mg base CX0 2 f fd ["_law_script","_law_at"] (qO0 K):=by
 refine F.ok qD0 (fun vs H Q E h=>?_) (fun cdv A outer s H vs Q E hr h=>?_)
 ·obtain⟨a,ns,k,rfl,_⟩:=h;rfl
 obtain⟨a,ns,k,rfl,hS,h0,h1,q⟩:=h;refine⟨_,qAc (qAl (i:=2) qD0.nd rfl (Or.inl rfl) (qAt G hr rfl .nil qAs (qAa (pv 0) (qAa (pv 1) qAb))))
  (qAc (qB2 (qAp zB0 (pv 2) (qAk qU3 qAe qAe) (qAx _)) (qAf (qAv (qA6 (qAa (pv 2) qAb)))) qA4)
  (qAc (qAl (i:=3) qD0.nd rfl (Or.inl rfl) qAe)
  (qAc (qA8 PassesOwn.never rfl (qAw rfl mr (qAa qAe qAb)) (qAh (i:=4) qD0.nd rfl (Or.inl rfl))
   (qAc (qAl (i:=5) qD0.nd rfl (Or.inl rfl) (qAk qA0 (qAk qA0 (qAk qA0 (qAk qB9 (qAt G hr rfl .nil qAs (qAa (pv 0) (qAa (qAk qA0 (pv 1) (qAk qB9 (pv 4) qAe)) qAb))) (qAk qU3 qAe qAe)) qAe)
     (qAk qDi (qAk qDi qAe (pv 4)) (pv 4))) (qAk qDi qAe (pv 1))))
   (qAc (qAl (i:=6) qD0.nd rfl (Or.inl rfl) (qAk qB9 (qAk qDi (pv 5) qAe) qAe))
   (qAf (qAl (i:=3) qD0.nd rfl (Or.inl rfl) (qAk qA0 (qAk qDi (pv 3) qAe) (qAk qB9 (qAk qA0 (qAk qB9 (qAk qDi (pv 6) (pv 6)) qAe) (qAk qIe (pv 5) qAe)) qAe)))))))
  (qAf (qAv (qA6 (qAa (pv 3) qAb))))))),?_⟩
 try dsimp only[Cx.wish,qCd]
 refine⟨_,rfl,_,rfl,a,ns,k,rfl,hS,h0,fun v=>?_⟩;refine⟨_,rfl,_,_,rfl,rfl,⟨by decide,by decide,by decide⟩,_,_,rfl,rfl,_,rfl,?_⟩;refine qDa (fun c=>?_) (fun c=>?_)
 ·exact⟨_,rfl,(by show 1<=sizeLine;decide),fun r hr'=>q v r hr'⟩
 refine⟨60,rfl,by decide,by decide,qBd (lo:=0) (n:=60) (fun i σ H'=>H'=H/\∃(c:Int) (x y z:Option V),σ=[some (.ref a),some (.int k),some (.int v),some (.int c),x,y,z]) ⟨rfl,0,none,none,none,rfl⟩ ?_ ?_⟩
 ·rintro i σ H' hi ⟨rfl,c0,x,y,z,rfl⟩;refine⟨_,rfl,_,rfl,_,rfl,_,_,rfl,rfl,(by show(0:Int)<_;decide),_,_,rfl,rfl,a,ns,_,rfl,hS,?_,fun u=>?_⟩
  ·have:=Int.emod_nonneg ((0:Int)+(i:Int)) (show(9:Int)≠0 by decide);omega
  refine⟨_,_,rfl,rfl,⟨by decide,by decide,by decide⟩,_,_,rfl,rfl,(by show(0:Int)<_;decide),_,_,rfl,rfl,?_⟩;refine⟨_,rfl,_,_,rfl,rfl,.inl ⟨by decide,by decide⟩,_,rfl,_,_,rfl,rfl,.inr ⟨by omega,by omega⟩,_,_,rfl,rfl,?_⟩;refine⟨_,rfl,_,_,rfl,rfl,.inl ⟨by decide,by decide⟩,_,_,rfl,rfl,?_⟩;refine⟨_,rfl,_,_,rfl,rfl,.inr ⟨by decide,by decide⟩,_,_,rfl,rfl,(by show(0:Int)<_;decide),?_⟩;refine⟨_,rfl,_,_,rfl,rfl,.inr ⟨by decide,by decide⟩,_,rfl,_,rfl,_,_,rfl,rfl,?_,_,_,rfl,rfl,(by show(0:Int)<_;decide),_,rfl,_,_,rfl,rfl,⟨by decide,by decide⟩,_,_,rfl,rfl,_,_,rfl,rfl,(by show(0:Int)<_;decide),_,_,rfl,rfl,?_⟩
  ·refine .inl ⟨?_,?_⟩
   ·exact Int.lt_of_lt_of_le (by decide) (Int.emod_nonneg _ (by decide))
   ·exact Int.lt_of_lt_of_le (Int.emod_lt_of_pos _ (by decide)) (by decide)
  ·exact⟨rfl,_,_,_,_,rfl⟩
 ·rintro σ H' ⟨rfl,c0,x,y,z,rfl⟩;exact⟨_,rfl,(by show 1<=sizeLine;decide),fun r hr'=>q c0 r hr'⟩
end
theorem foldl_rep{c:Nat}:∀(n:Nat) (acc:Array Nat),((List.replicate n #[c]).foldl (·++·) acc).toList=acc.toList++List.replicate n c
 |0,acc=>by simp
 |n+1,acc=>by
  rw[hEa,List.foldl_cons,foldl_rep n];simp[hEa]
theorem qF5{c:Nat}{n:Int}(h:0<=n):(Txt.mul ⟨#[c]⟩ n).cps.toList=List.replicate n.toNat c:=by
 unfold Txt.mul;by_cases h1:n<1
 ·rw[if_pos h1,show n.toNat=0 by omega];rfl
 ·rw[if_neg h1];by_cases h2:n=1
  ·subst h2;rfl
  ·have e:(n == 1 || (⟨#[c]⟩:Str).length == 0)=false:=by
    rw[Bool.or_eq_false_iff];exact⟨by simpa using h2,rfl⟩
   rw[if_neg (by rw[e];decide)];exact foldl_rep n.toNat #[]
theorem Sm.mul{c:Nat}{n:Int}(h:c<128)(hn:0<=n):Sm (Txt.mul ⟨#[c]⟩ n):=fun d hd=>by
 rw[qF5 hn]at hd;rw[(List.mem_replicate.mp hd).2];exact h
theorem qXe{c:Nat}{n:Int}(hn:0<=n):(Txt.mul ⟨#[c]⟩ n).length=n.toNat:=by
 have:=congrArg List.length (qF5 (c:=c) hn);rw[hCv]at this;exact this
noncomputable def nmA(a b:Str)(first:Nat)(k:Nat):Str:=a++⟨#[sgC ((first+7*k) % 36)]⟩++b
theorem qXc{a b:Str}{first i j:Nat}(hi:i<12)(hj:j<12)(e:nmA a b first i=nmA a b first j):i=j:=by
 have e1:=congrArg (fun x:Str=>x.cps.toList) e;simp only[nmA,Str.cps_append,hBx,hBj]at e1;have e2:=List.append_cancel_left e1;have e3:sgC ((first+7*i) % 36)=sgC ((first+7*j) % 36):=by
  have:=congrArg List.head? e2
  simpa using this
 have e4:=qO9 (Nat.mod_lt _ (by decide)) (Nat.mod_lt _ (by decide)) e3;omega
noncomputable def nmB(first:Nat)(k:Nat):Str:=if k<6 then Txt.mul ⟨#[sgC first]⟩ (1+(k:Int)) else Txt.mul ⟨#[sgC first]⟩ ((k:Int) - 6)++⟨#[sgC ((first+1) % 36)]⟩
theorem qTp{first k:Nat}:(nmB first k).cps.toList=if k<6 then List.replicate (1+k) (sgC first) else List.replicate (k - 6) (sgC first)++[sgC ((first+1) % 36)]:=by
 unfold nmB;split
 ·rw[qF5 (by omega),show(1+(k:Int)).toNat=1+k by omega]
 ·rw[Str.cps_append,hBx,qF5 (by omega),show((k:Int) - 6).toNat=k - 6 by omega]
theorem qXb{first i j:Nat}(hf:first<36)(e:nmB first i=nmB first j):i=j:=by
 have e1:=congrArg (fun x:Str=>x.cps.toList) e;simp only[qTp]at e1;have ne:sgC first≠sgC ((first+1) % 36):=fun z=>by
  have:=qO9 hf (Nat.mod_lt _ (by decide)) z;omega
 by_cases hi:i<6
 ·by_cases hj:j<6
  ·rw[if_pos hi,if_pos hj]at e1;have:=congrArg List.length e1;rw[hCv,hCv]at this;omega
  ·rw[if_pos hi,if_neg hj]at e1;exfalso;have hm:sgC ((first+1) % 36)∈List.replicate (1+i) (sgC first):=by rw[e1];simp
   exact ne (List.mem_replicate.mp hm).2.symm
 ·by_cases hj:j<6
  ·rw[if_neg hi,if_pos hj]at e1;exfalso;have hm:sgC ((first+1) % 36)∈List.replicate (1+j) (sgC first):=by rw[<-e1];simp
   exact ne (List.mem_replicate.mp hm).2.symm
  ·rw[if_neg hi,if_neg hj]at e1;have:=congrArg List.length e1;rw[hAj,hAj,hCv,hCv]at this;simp at this;omega
theorem qQj{α:Type}{g:Nat->α}{n:Nat}(h:∀i j,i<n->j<n->g i=g j->i=j):((List.range n).map g).Nodup:=by
 rw[List.Nodup,hAv];refine hBz ?_ (hC5 (n:=n));intro a b ha hb ne e;exact ne (h a b (hAf.mp ha) (hAf.mp hb) e)
theorem qE2{σ0:St}{g:TG}{te:TE}{Q:List V->Hp->Prop}{H1:Hp}{lo:Int}{n:Nat}(fv:Nat->V)(hz:n<=1000)
  (hs:∀i,i<n->∀C:V->Hp->Prop,C (fv i) H1->g (.int (lo+i)) σ0 H1 fun σ2 H2=>Sle σ0 σ2/\te σ2 H2 (fun v H4=>C v H4))
  (hd:Q ((List.range n).map fv) H1):qEw (Itr lo n) σ0 g qOn te Q H1:=by
 refine qCg (lo:=lo) (n:=n) (fun i ys H=>H=H1/\ys=(List.range i).map fv) ⟨rfl,rfl⟩ ?_ ?_
 ·rintro i ys H hi ⟨rfl,rfl⟩;exact hs i hi (fun v H4=>((List.range i).map fv).length<sizeLine/\Nxt n i (fun i ys H'=>H'=H/\ys=(List.range i).map fv) ((List.range i).map fv++[v]) H4)
   ⟨by rw[hA1,hAp];exact qAj (by omega),nxt hi ⟨rfl,by rw[hCc,hA4];rfl⟩⟩
 ·rintro ys H ⟨rfl,rfl⟩;exact hd
def qO1:Sp:=fun vs H Q _=>∃(d:Addr) (n m:Int),vs=[.ref d,.int m]/\H d=some (.lst [.int n])/\0<=m/\m<=12 /\
 ∀(r:Addr) (ns:List Str) (q:Int) (H':Hp),Ext (upd H d (.lst [.int q])) H'->H r=none->LsS H' r ns->ns.length=m.toNat->ns.Nodup->PyProof.Rows.sortedS ns=true->SOk ns->Q (.ref r) H'
section
variable{P:Program}{w:World}{K:PySem.W.Frag}{mg:Str->Option Value}{base:Heap}{f f1:Addr}{fd fd1:FuncData}
theorem qB0:FnScope ["_law_draw","_law_many","_law_signs","_law_size","_law_spot","_law_word","_law_k","_law_first","_law_found","_law_one","_law_other"] ["_law_draw","_law_many"] (qAd qHc):=⟨rfl,rfl,rfl,by decide +kernel,rfl,by decide +kernel,by decide +kernel⟩
theorem qTl(F:Fun K "_law_names" "_law_names" qHc f fd)(G:Cl P w K mg base CX0 1 f1 fd1 ["_law_draw","_law_many"] qGc "_law_take")(mr:mg "range" = none)(mm:mg "min" = none)(ms:mg "sorted" = none) :
  FnOk P w K mg base CX0 2 f fd ["_law_draw","_law_many"] qO1:=by
 refine F.ok qB0 (fun vs H Q E h=>?_) (fun cdv A outer s H vs Q E hr h=>?_)
 ·obtain⟨a,ns,k,rfl,_⟩:=h;rfl
 obtain⟨d,n,m,rfl,hd,m0,m1,q⟩:=h;refine⟨_,qAc (qAl (i:=2) qB0.nd rfl (Or.inr rfl) qU0)
  (qAc (qAl (i:=3) qB0.nd rfl (Or.inl rfl) (qAk qA0 qAe (qAt G hr rfl .nil qAs (qAa (pv 0) (qAa qAe qAb)))))
  (qAc (qAl (i:=4) qB0.nd rfl (Or.inr rfl) (qAt G hr rfl .nil qAs (qAa (pv 0) (qAa (pv 3) qAb))))
  (qAc (qAl (i:=5) qB0.nd rfl (Or.inr rfl) qU0)
  (qAc (qA8 PassesOwn.never rfl (qAw rfl mr (qAa (pv 3) qAb)) (qAh (i:=6) qB0.nd rfl (Or.inl rfl))
   (qAf (qAl (i:=5) qB0.nd rfl (Or.inr rfl) (qAk qDs (pv 5) (qCm qM3 (pv 2) (qAt G hr rfl .nil qAs (qAa (pv 0) (qAa qAe qAb))) (fun _ _=>rfl))))))
  (qAc (qAl (i:=7) qB0.nd rfl (Or.inr rfl) (qAt G hr rfl .nil qAs (qAa (pv 0) (qAa qAe qAb))))
  (qAc (qG7 (i:=8) (N:=["_law_draw","_law_many","_law_signs","_law_size","_law_spot","_law_word","_law_k","_law_first","_law_found","_law_one","_law_other"]) (sc:=qAd qHc) (N':=["_law_k","_law_first","_law_signs","_law_spot","_law_word"]) (sub:=[none,some 7,some 2,some 4,some 5])
    rfl rfl (CmpOk.of (by decide +kernel)) rfl (qAw rfl mr (qAa (pv 1) qAb))
    (fun C s H fp=>⟨qAh (i:=0) (by show(["_law_k","_law_first","_law_signs","_law_spot","_law_word"]:List Str).Nodup;decide) rfl (Or.inl rfl),qAy,
     qAk qDs (qAk qDs (qF3 qUv (pv 4) qIc (qIb (pv 3))) (qCm qM3 (pv 2) (qAk qB9 (qAk qA0 (pv 1) (qAk qDi qAe (pv 0))) qAe) (fun _ _=>rfl))) (qF3 qUv (pv 4) (qIb (qAk qA0 (pv 3) qAe)) qIc)⟩)
    qB0.nd rfl (Or.inl rfl))
  (qAc (qB2 (qAp qDj (qAt G hr rfl .nil qAs (qAa (pv 0) (qAa qAe qAb))) qAe (qAx _))
   (qAc (qAl (i:=9) qB0.nd rfl (Or.inr rfl) (qCm qM3 (pv 2) (pv 7) (fun _ _=>rfl)))
   (qAc (qAl (i:=10) qB0.nd rfl (Or.inr rfl) (qCm qM3 (pv 2) (qAk qB9 (qAk qA0 (pv 7) qAe) qAe) (fun _ _=>rfl)))
   (qAc (qG7 (i:=8) (N:=["_law_draw","_law_many","_law_signs","_law_size","_law_spot","_law_word","_law_k","_law_first","_law_found","_law_one","_law_other"]) (sc:=qAd qHc) (N':=["_law_k","_law_one"]) (sub:=[none,some 9])
    rfl rfl (CmpOk.of (by decide +kernel)) rfl (qAw rfl mr (qAa (qAn (qG1 rfl) rfl mm qEx (qAa (pv 1) (qAa qAe qAb))) qAb))
    (fun C s H fp=>⟨qAh (i:=0) (by show(["_law_k","_law_one"]:List Str).Nodup;decide) rfl (Or.inl rfl),qAy,qAk qHi (pv 1) (qAk qA0 qAe (pv 0))⟩)
    qB0.nd rfl (Or.inl rfl))
   (qAf (qAl (i:=8) qB0.nd rfl (Or.inl rfl) (qAk qC0 (pv 8)
    (qBo (N:=["_law_draw","_law_many","_law_signs","_law_size","_law_spot","_law_word","_law_k","_law_first","_law_found","_law_one","_law_other"]) (sc:=qAd qHc) (N':=["_law_k","_law_one","_law_other"]) (sub:=[none,some 9,some 10])
     rfl rfl (CmpOk.of (by decide +kernel)) rfl (qI9 rfl mr (qAa qAe (qAa (pv 1) qAb)))
     (fun C s H fp=>⟨qAh (i:=0) (by show(["_law_k","_law_one","_law_other"]:List Str).Nodup;decide) rfl (Or.inl rfl),qAy,qAk qDs (qAk qHi (pv 1) (qAk qHh (pv 0) qAe)) (pv 2)⟩)))))))) qA4)
  (qAf (qAv (qAn qJ0 rfl ms qB5 (qAa (pv 8) qAb))))))))))),?_⟩
 try dsimp only[Cx.wish,qCd]
 refine⟨_,rfl,d,n,6,rfl,hd,by decide,by decide,fun q1 z1 z1a z1b=>?_⟩;refine⟨_,_,rfl,rfl,?_⟩;refine⟨_,rfl,_,rfl,d,q1,1+z1,rfl,upd_same,by omega,by omega,fun q2 spot spa spb=>?_⟩;rw[qE1];refine⟨_,rfl,1+z1,rfl,by omega,by omega,qBd (lo:=0) (n:=(1+z1).toNat) (fun i σ H'=>∃(q:Int) (word:Str) (x:Option V),σ=[some (.ref d),some (.int m),some (.str sg),some (.int (1+z1)),some (.int spot),some (.str word),x,none,none,none,none]/\H'=upd H d (.lst [.int q])/\word.length<=i/\Sm word)
  ⟨q2,"",none,rfl,rfl,hA6 _,Sm.nil⟩ ?_ ?_⟩
 ·rintro i σ H' hi ⟨q3,word,x,rfl,rfl,hw,sm⟩;refine⟨_,rfl,_,rfl,_,rfl,d,q3,36,rfl,upd_same,by decide,by decide,fun q4 z4 z4a z4b=>?_⟩;rw[qE1];refine⟨sg,z4,sgC z4.toNat,rfl,rfl,by decide +kernel,qSv z4a z4b,word,⟨#[sgC z4.toNat]⟩,rfl,rfl,?_,?_⟩
  ·show word.length+1<=sizeLine;exact hBi (qAj (by omega))
  ·refine⟨q4,_,_,rfl,rfl,?_,sm.app (Sm.one (qEg (by omega)))⟩;rw[Str.length_append];show word.length+1<=i+1;omega
 ·rintro σ H' ⟨q3,word,x,rfl,rfl,hw,sm⟩;have hw':word.length<=100:=by omega
  refine⟨_,rfl,d,q3,36,rfl,upd_same,by decide,by decide,fun q4 first fa fb=>?_⟩;rw[qE1];refine⟨_,rfl,m,rfl,by omega,by omega,?_⟩;refine qE2 (fun k=>.str (nmA (Txt.slice word none (some spot)) (Txt.slice word (some (spot+1)) none) first.toNat k)) (by omega) ?_ ?_
  ·intro k hk C hC;have wl:word.length<=sizeLine:=hBi (qAj (by omega));have l1:=Txt.slice_le word none (some spot);have l2:=Txt.slice_le word (some (spot+1)) none;have ei:(first+7*(0+(k:Int))) % 36=(((first.toNat+7*k) % 36:Nat):Int):=by omega
   refine⟨Sle.set _ (Sle.refl _) (fun u z=>by cases z),_,rfl,_,rfl,_,rfl,word,rfl,wl,_,rfl,_,rfl,_,rfl,_,_,rfl,rfl,.inl ⟨by decide,by decide⟩,_,_,rfl,rfl,_,_,rfl,rfl,(by show(0:Int)<_;decide),sg,_,sgC ((first.toNat+7*k) % 36),rfl,rfl,by decide +kernel,?_,_,_,rfl,rfl,?_,?_⟩
   ·rw[ei];exact qSv (by omega) (by omega)
   ·show _+1<=sizeLine;exact hBi (qAj (by omega))
   refine⟨_,rfl,_,rfl,_,_,rfl,rfl,_,rfl,word,rfl,wl,_,_,rfl,rfl,?_,hC⟩;rw[Str.length_append];show _+1+_<=sizeLine;exact hBi (qAj (by omega))
  ·intro r1 hr1;have fn36:first.toNat<36:=by omega
   have fin:∀(p:Addr) (nm:Nat->Str) (H2:Hp) (q0:Int),Ext (upd H d (.lst [.int q0])) H2->LsS H2 p ((List.range m.toNat).map nm)->(∀i j,i<m.toNat->j<m.toNat->nm i=nm j->i=j)->(∀i,i<m.toNat->Sm (nm i)) ->
     ∃p' ss,[V.ref p]=[V.ref p']/\SqL K H2 p' (ss.map V.str)/\ss.length<64/\∀r ss',H2 r=none->ss'.Perm ss->PyProof.Rows.sortedS ss'=true->Q (.ref r) (upd H2 r (.lst (ss'.map V.str))):=by
    intro p nm H2 q0 e2 hp inj sm2;refine⟨p,(List.range m.toNat).map nm,rfl,SqL.of hp,?_,fun r ss hr2 perm srt=>?_⟩
    ·rw[hA1,hAp];omega
    have hrH:H r=none:=by
     have z:=e2.none hr2;by_cases e:r=d
     ·rw[e,upd_same]at z;cases z
     ·rw[qAg e]at z;exact z
    refine q r ss q0 _ (e2.trans (Ext.new hr2 _)) hrH upd_same ?_ (perm.nodup_iff.mpr (qQj inj)) srt ?_
    ·rw[perm.length_eq,hA1,hAp]
    ·intro x hx;obtain⟨i,hi,rfl⟩:=hA3.mp (perm.mem_iff.mp hx);exact(sm2 i (hAf.mp hi)).ok
   have dr1:d≠r1:=fun e=>by rw[<-e,upd_same]at hr1;cases hr1
   have g1:∀q0,Ext (upd H d (.lst [.int q0])) (upd (upd (upd H d (.lst [.int q4])) r1 (.lst ((List.range m.toNat).map fun k=>V.str (nmA (Txt.slice word none (some spot)) (Txt.slice word (some (spot+1)) none) first.toNat k)))) d (.lst [.int q0])):=fun q0 b o hb=>by
    by_cases e:b=d
    ·subst e;rw[upd_same]at hb ⊢;exact hb
    ·rw[qAg e]at hb ⊢;have nb:b≠r1:=fun z=>by
      rw[z]at hb;rw[qAg (Ne.symm dr1)]at hr1;rw[hr1]at hb;cases hb
     rw[qAg nb,qAg e];exact hb
   refine⟨_,rfl,d,q4,3,rfl,by rw[qAg dr1];exact upd_same,by decide,by decide,fun q5 z5 z5a z5b=>⟨rfl,_,rfl,?_⟩⟩;refine qDa (fun _=>?_) (fun _=>?_)
   ·refine⟨_,rfl,_,rfl,sg,first,sgC first.toNat,rfl,rfl,by decide +kernel,qSv fa fb,?_⟩;have eo:(first+1) % 36=(((first.toNat+1) % 36:Nat):Int):=by omega
    refine⟨_,rfl,_,rfl,_,_,rfl,rfl,_,_,rfl,rfl,(by show(0:Int)<_;decide),sg,_,sgC ((first.toNat+1) % 36),rfl,rfl,by decide +kernel,(by rw[eo];exact qSv (by omega) (by omega)),?_⟩;have c1:sgC first.toNat<128:=qEg fn36
    have c2:sgC ((first.toNat+1) % 36)<128:=qEg (Nat.mod_lt _ (by decide));have mn0:0<=(if (6:Int)<m then 6 else m):=by split <;> omega
    have mn6:(if (6:Int)<m then 6 else m)<=6:=by split <;> omega
    refine⟨_,rfl,m,6,rfl,_,rfl,by omega,by omega,?_⟩;refine qE2 (fun k=>.str (nmB first.toNat k)) (by omega) ?_ ?_
    ·intro k hk C hC;have ek:nmB first.toNat k=Txt.mul ⟨#[sgC first.toNat]⟩ (1+(0+(k:Int))):=by
      unfold nmB;rw[if_pos (by omega),Int.zero_add]
     rw[ek]at hC;exact⟨Sle.set _ (Sle.refl _) (fun u z=>by cases z),_,rfl,_,rfl,_,_,rfl,rfl,_,_,rfl,rfl,(by show 1<=100;decide),by omega,by omega,hC⟩
    ·intro r2 hr2;refine⟨_,rfl,_,rfl,6,m,rfl,⟨by omega,by omega,by omega,by omega⟩,?_⟩;refine qE2 (fun k=>.str (nmB first.toNat (6+k))) (by omega) ?_ ?_
     ·intro k hk C hC;have ek:nmB first.toNat (6+k)=Txt.mul ⟨#[sgC first.toNat]⟩ (6+(k:Int) - 6)++⟨#[sgC ((first.toNat+1) % 36)]⟩:=by
       unfold nmB;rw[if_neg (by omega),show(((6+k:Nat):Int))=6+(k:Int) by omega]
      rw[ek]at hC;refine⟨Sle.set _ (Sle.refl _) (fun u z=>by cases z),_,rfl,_,rfl,_,_,rfl,rfl,_,_,rfl,rfl,(by show 1<=100;decide),by omega,by omega,_,rfl,_,_,rfl,rfl,?_,hC⟩;rw[qXe (by omega)];show _+1<=sizeLine;exact hBi (qAj (by omega))
     ·intro r3 hr3;have n23:r2≠r3:=fun e=>by rw[<-e,upd_same]at hr3;cases hr3
      refine⟨r2,r3,_,_,rfl,rfl,(by rw[qAg n23];exact upd_same),upd_same,?_,fun p hp=>?_⟩
      ·rw[hA1,hA1,hAp,hAp];exact hBi (qAj (by omega))
      refine⟨_,rfl,fin p (nmB first.toNat) _ q5 ?_ ?_ (fun i j _ _ e=>qXb fn36 e) ?_⟩
      ·exact(g1 q5).trans ((Ext.new hr2 _).trans ((Ext.new hr3 _).trans (Ext.new hp _)))
      ·unfold LsS;rw[upd_same];have em:(List.range m.toNat).map (fun k=>V.str (nmB first.toNat k))=(List.range (if (6:Int)<m then 6 else m).toNat).map (fun k=>V.str (nmB first.toNat k))++(List.range (m - 6).toNat).map (fun k=>V.str (nmB first.toNat (6+k))):=by
        by_cases h6:(6:Int)<m
        ·rw[if_pos h6,show m.toNat=6+(m - 6).toNat by omega,List.range_add,hA4,hAr];rfl
        ·rw[if_neg h6,show(m - 6).toNat=0 by omega];simp
       rw[hAr,<-em];rfl
      ·intro i hi;unfold nmB;split
       ·exact Sm.mul c1 (by omega)
       ·exact(Sm.mul c1 (by omega)).app (Sm.one c2)
   ·refine⟨_,rfl,fin r1 (nmA (Txt.slice word none (some spot)) (Txt.slice word (some (spot+1)) none) first.toNat) _ q5 (g1 q5) ?_ (fun i j hi hj e=>qXc (by omega) (by omega) e) ?_⟩
    ·unfold LsS;rw[qAg (Ne.symm dr1),upd_same,hAr];rfl
    ·intro i _;exact((sm.slice _ _).app (Sm.one (qEg (Nat.mod_lt _ (by decide))))).app (sm.slice _ _)
end
theorem tri:∀a b:List Nat,a<b\/a=b\/b<a
 |[],[]=>.inr (.inl rfl)
 |[],_ :: _=>.inl (List.nil_lt_cons _ _)
 |_ :: _,[]=>.inr (.inr (List.nil_lt_cons _ _))
 |x :: a,y :: b=>by
  rcases hE2 x y with h|h|h
  ·exact .inl (hCb.mpr (.inl h))
  ·subst h;rcases tri a b with h|h|h
   ·exact .inl (hCb.mpr (.inr ⟨rfl,h⟩))
   ·exact .inr (.inl (by rw[h]))
   ·exact .inr (.inr (hCb.mpr (.inr ⟨rfl,h⟩)))
  ·exact .inr (.inr (hCb.mpr (.inl h)))
theorem qQo{l:List Nat}(nd:l.Nodup){m:Nat}(h:∀x∈l,x<m):l.length<=m:=by
 have p:l.Perm ((List.range m).filter fun x=>decide (x∈l)):=(hCp nd (hC5.sublist hB9)).mpr fun a=>by
  rw[hAb,hAf,decide_eq_true_iff];exact⟨fun ha=>⟨h a ha,ha⟩,fun ha=>ha.2⟩
 rw[p.length_eq];exact hB2 (hB5 _ _) (by rw[hAp];exact hA6 _)
theorem qMf{ms:List Nat}{m:Nat}(lt:∀x∈ms,x<2^m):(redL ms).length<=m:=by
 obtain⟨g,e⟩:=qCp _ lt;have rr:=qC9 (ms.map (rv m));rw[<-e]at rr;have l1:=qN3 rr;have:=qQo l1 (m:=m) fun x hx=>by
  obtain⟨s,hs,rfl⟩:=hA3.mp hx;obtain⟨u,hu,rfl⟩:=hA3.mp hs;exact(Nat.log2_lt (qNt (g u hu).1 (g u hu).2)).mpr (qG6 _ _)
 rw[hA1,hA1]at this;exact this
theorem qJ4:bootBuiltins "int" = some (.type "int"):=by decide +kernel
noncomputable def ldI(n:Int):Int:=Builtin.bitAnd n (-n)
theorem qFd{s:Nat}(nz:s≠0):ldI (s:Int)=((2^lo s:Nat):Int):=qXl nz
def zBe:Sp:=fun vs H Q _=>∃n:Int,vs=[.int n]/\Q (.int (ldI n)) H
def qO3:Sp:=fun vs H Q _=>∃(p:Addr) (ms:List Nat) (m:Nat),vs=[.ref p]/\LsN H p ms/\ms.length<=5000/\m<=16/\(∀x∈ms,x<2^m)/\∀(r:Addr) (S:List Nat) (H':Hp),Ext H H'->H r=none->LsN H' r S->S.Perm (redL ms)->S.Pairwise (fun a b=>lo a<=lo b)->Q (.ref r) H'
section
variable{P:Program}{w:World}{K:PySem.W.Frag}{mg:Str->Option Value}{base:Heap}{f f1 f2:Addr}{fd fd1 fd2:FuncData}
theorem zDd:FnScope ["_law_mask"] ["_law_mask"] (qAd zBl):=⟨rfl,rfl,rfl,by decide +kernel,rfl,by decide +kernel,by decide +kernel⟩
theorem zB2(F:Fun K "_law_lead" "_law_lead" zBl f fd):FnOk P w K mg base CX0 1 f fd ["_law_mask"] zBe:=by
 refine F.ok zDd (fun vs H Q E h=>?_) (fun cdv A outer s H vs Q E hr h=>?_)
 ·obtain⟨n,rfl,_⟩:=h;rfl
 obtain⟨n,rfl,q⟩:=h;exact⟨_,qAf (qAv (qAk qCl (pv 0) (zBx qYd (pv 0)))),_,rfl,_,rfl,_,rfl,_,_,rfl,rfl,q⟩
noncomputable abbrev stN:List Str:=["_law_masks","_law_found","_law_mask","_law_step","_law_lead_here"]
noncomputable abbrev stC:List Str:=["_law_step","_law_mask","_law_lead_here"]
theorem qKs:FnScope stN ["_law_masks"] (qAd zAw):=⟨rfl,rfl,rfl,by decide +kernel,rfl,by decide +kernel,by decide +kernel⟩
theorem qZt(F:Fun K "_law_steps" "_law_steps" zAw f fd)(G:Cl P w K mg base CX0 1 f1 fd1 ["_law_mask"] zBe "_law_lead")(mi:mg "int" = none)(mso:mg "sorted" = none) :
  FnOk P w K mg base CX0 4 f fd ["_law_masks"] qO3:=by
 refine F.ok qKs (fun vs H Q E h=>?_) (fun cdv A outer s H vs Q E hr h=>?_)
 ·obtain⟨p,ms,m,rfl,_⟩:=h;rfl
 obtain⟨p,ms,m,rfl,hp,lm,m16,lt,q⟩:=h;have hr1:=hr.mono (j:=1) (by decide);refine⟨_,qAc (qAl (i:=1) qKs.nd rfl (Or.inl rfl) (qA6 qAb))
  (qAc (qA8 PassesOwn.never rfl (qAq (pv 0)) (qAh (i:=2) qKs.nd rfl (Or.inr rfl))
   (qAc (qA8 PassesOwn.never rfl (qAq (pv 1)) (qAh (i:=3) qKs.nd rfl (Or.inl rfl))
    (qAf (qB2 (qAp qId (qAk qCl (pv 2) (qAt G hr1 rfl .nil qAs (qAa (pv 3) qAb))) qAe (qAx _)) (qAf (qAl (i:=2) qKs.nd rfl (Or.inr rfl) (qAk qDw (pv 2) (pv 3)))) qA4)))
   (qAf (qB2 (qAp qId (pv 2) qAe (qAx _))
    (qAc (qAl (i:=4) qKs.nd rfl (Or.inr rfl) (qAt G hr1 rfl .nil qAs (qAa (pv 2) qAb)))
    (qAf (qAl (i:=1) qKs.nd rfl (Or.inl rfl) (qAk qC0 (qBo (N:=stN) (sc:=qAd zAw) (N':=stC) (sub:=[none,some 2,some 4]) rfl rfl (CmpOk.of (by decide +kernel)) rfl (qAq (pv 1))
     (fun C s H fp=>⟨qAh (i:=0) (by show stC.Nodup;decide) rfl (Or.inl rfl),qAy,qAk qDw (pv 0) (qAk qDi (pv 1) (qBp qJ3 rfl mi qJ4 (qAa (qE9 qId (qAk qCl (pv 0) (pv 2)) qAe (qAx _)) qAb)))⟩)) (qA6 (qAa (pv 2) qAb))))))
    qA4))))
  (qAf (qAv (qN0 (E:=E0) (g:=ldI) G.g hr G.b rfl mso rfl G.m (qAa (pv 1) qAb))))),?_⟩
 try dsimp only[Cx.wish,qCd]
 refine⟨hAs _,fun ro ro0=>?_⟩;have X0:=Ext.new ro0 (.lst []);refine⟨_,rfl,p,rfl,⟨_,SqL.of (X0 _ _ hp)⟩,?_⟩;refine qBh (xs:=ms.map iV) (fun i σ H'=>∃(ro:Addr) (x2 x3 x4:Option V),σ=[some (.ref p),some (.ref ro),x2,x3,x4]/\Ext H H'/\H ro=none/\LsN H' ro (redL (ms.take i))) ⟨ro,none,none,none,rfl,X0,ro0,upd_same⟩ (fun i σ H' _ h=>by obtain⟨_,_,_,_,_,e,_⟩:=h;exact SqL.of (e _ _ hp)) ?_ ?_
 ·rintro i v σ H' hx ⟨ro,x2,x3,x4,rfl,e,ro0,hk⟩;obtain⟨n,rfl,hn⟩:=qBn hx;have hi:i<ms.length:=at_lt hn;have nl:=lt n (hAc hn);obtain⟨gm,_⟩:=qCp (m:=m) (ms.take i) fun x hx=>lt x (hCg hx)
  have lr:=qMf (m:=m) (ms:=ms.take i) fun x hx=>lt x (hCg hx)
  have sn:redL (ms.take (i+1))=qKw (redL (ms.take i)) n:=by rw[qAm hn,qGj]
  refine⟨_,rfl,ro,rfl,⟨_,SqL.of hk⟩,?_⟩;refine qBh (xs:=(redL (ms.take i)).map iV) (fun j σ H2=>H2=H'/\∃x3:Option V,σ=[some (.ref p),some (.ref ro),some (iV (redL1 ((redL (ms.take i)).take j) n)),x3,x4]) ⟨rfl,x3,rfl⟩ (fun j σ H2 _ h=>by rw[h.1];exact SqL.of hk) ?_ ?_
  ·rintro j v σ H2 hx2 ⟨rfl,x3,rfl⟩;obtain⟨s,rfl,hs⟩:=qBn hx2;have snz:=(gm s (hAc hs)).2;have st:redL1 ((redL (ms.take i)).take (j+1)) n=rdL (redL1 ((redL (ms.take i)).take j) n) s:=by rw[qAm hs,qNw]
   refine⟨_,rfl,_,rfl,_,rfl,_,_,rfl,rfl,rfl,_,rfl,?_⟩;have ap:=qFj (redL1 ((redL (ms.take i)).take j) n) (lo s);have key:((!decide (V.int (Builtin.bitAnd ((redL1 ((redL (ms.take i)).take j) n:Nat):Int) (ldI (s:Int)))=V.int 0))=true)↔(redL1 ((redL (ms.take i)).take j) n).testBit (lo s)=true:=by
    rw[qFd snz,qBy,<-ap];simp
   refine qDa (fun c=>?_) (fun c=>?_)
   ·refine⟨_,rfl,_,rfl,_,_,rfl,rfl,rfl,some (iV s),?_⟩;rw[st,show rdL (redL1 ((redL (ms.take i)).take j) n) s=redL1 ((redL (ms.take i)).take j) n^^^s from if_pos (key.mp c),show iV (redL1 ((redL (ms.take i)).take j) n^^^s)=V.int (Builtin.bitXor ((redL1 ((redL (ms.take i)).take j) n:Nat):Int) (s:Int)) by rw[qB3]];rfl
   ·refine⟨rfl,some (iV s),?_⟩;rw[st,show rdL (redL1 ((redL (ms.take i)).take j) n) s=redL1 ((redL (ms.take i)).take j) n from if_neg fun z=>c (key.mpr z)];rfl
  ·rintro σ H2 ⟨rfl,x3,rfl⟩;rw[hA1,hA7 (hA6 _)];refine⟨_,rfl,rfl,_,rfl,?_⟩;refine qDa (fun c=>?_) (fun c=>?_)
   ·have nz:redL1 (redL (ms.take i)) n≠0:=fun z=>by rw[z]at c;simp at c
    have lb:=qFd nz;have nlt:=(qH9 gm nl).1;have pw:2^m<=2^16:=hBt (by decide) m16;refine⟨_,rfl,_,rfl,?_⟩;refine⟨_,rfl,ro,rfl,⟨_,SqL.of hk⟩,?_⟩;refine qAr (xs:=(redL (ms.take i)).map iV) (fun j ys H3=>H3=H2/\ys=(((redL (ms.take i)).take j).map fun s=>rdL s (redL1 (redL (ms.take i)) n)).map iV) ⟨rfl,rfl⟩ (fun j ys H3 _ h=>by rw[h.1];exact SqL.of hk) ?_ ?_
    ·rintro j v ys H3 hx3 ⟨rfl,rfl⟩;obtain⟨s,rfl,hs⟩:=qBn hx3;have hj:=at_lt hs;have sz:((((redL (ms.take i)).take j).map fun s=>rdL s (redL1 (redL (ms.take i)) n)).map iV).length<sizeLine:=by
      rw[hA1,hA1,hAl];exact qAj (by omega)
     have ap:=qFj s (lo (redL1 (redL (ms.take i)) n));have key:((!decide (V.int (Builtin.bitAnd (s:Int) (ldI ((redL1 (redL (ms.take i)) n:Nat):Int)))=V.int 0))=true)↔s.testBit (lo (redL1 (redL (ms.take i)) n))=true:=by
      rw[lb,qBy,<-ap];simp
     refine⟨Sle.set _ (Sle.refl _) (fun u z=>by cases z),iteT (B:=False) ?_⟩;refine⟨_,rfl,_,rfl,_,rfl,_,rfl,_,_,rfl,rfl,rfl,.inr ⟨_,rfl,_,_,rfl,rfl,.inl ⟨by omega,by omega⟩,_,_,rfl,rfl,sz,nxt (at_lt hx3) ⟨rfl,?_⟩⟩⟩;rw[qAm hs,hA4,hA4,List.map_singleton,List.map_singleton];congr 2;show V.int (Builtin.bitXor _ _)=V.int _;by_cases c3:s.testBit (lo (redL1 (redL (ms.take i)) n))=true
     ·rw[if_pos (key.mpr c3),Int.mul_one,qB3,show rdL s (redL1 (redL (ms.take i)) n)=s^^^redL1 (redL (ms.take i)) n from if_pos c3]
     ·rw[if_neg (fun z=>c3 (key.mp z)),Int.mul_zero,show rdL s (redL1 (redL (ms.take i)) n)=s from if_neg c3,show(0:Int)=((0:Nat):Int) from rfl,qB3,Nat.xor_zero]
    ·rintro ys H3 ⟨rfl,rfl⟩ l1 hl1;rw[hA1,hA7 (hA6 _)];have n1:=Ext.new hl1 (.lst (((redL (ms.take i)).map fun s=>rdL s (redL1 (redL (ms.take i)) n)).map iV));refine⟨_,rfl,(by show 1<=sizeLine;decide),fun l2 hl2=>?_⟩;have n2:=Ext.new hl2 (.lst [iV (redL1 (redL (ms.take i)) n)]);refine⟨l1,l2,_,_,rfl,rfl,n2 _ _ upd_same,upd_same,?_,fun l3 hl3=>?_⟩
     ·rw[hA1,hA1];show _+1<=sizeLine;exact hBi (qAj (by omega))
     ·refine⟨l3,_,_,_,rfl,((e.trans n1).trans n2).trans (Ext.new hl3 _),((e.trans n1).trans n2).none hl3,?_⟩;rw[sn];unfold qKw LsN;rw[if_neg nz,upd_same,hA4];rfl
   ·have z:redL1 (redL (ms.take i)) n=0:=by
     have:(redL1 (redL (ms.take i)) n:Int)=0:=by simpa using c
     omega
    refine⟨ro,_,_,_,rfl,e,ro0,?_⟩;rw[sn];unfold qKw;rw[if_pos z];exact hk
 ·rintro σ H' ⟨ro,x2,x3,x4,rfl,e,ro0,hk⟩;rw[hA1,hA7 (hA6 _)]at hk;have lr:=qMf lt;obtain⟨gm,_⟩:=qCp (m:=m) ms lt;refine⟨_,rfl,ro,(redL ms).map (fun n:Nat=>(n:Int)),rfl,by rw[<-qCs];exact SqL.of hk,by rw[hA1];omega,fun n hn H2 Q2 q2=>⟨n,rfl,q2⟩,fun r ns hr' pm od=>?_⟩;obtain⟨M,rfl⟩:∃M:List Nat,ns=M.map (fun n:Nat=>(n:Int)):=by
   refine⟨ns.map Int.toNat,?_⟩;rw[hAr];refine(hDp _).symm.trans (hBq fun a ha=>?_);obtain⟨n,_,rfl⟩:=hA3.mp (pm.mem_iff.mp ha);simp
  have pm':M.Perm (redL ms):=by
   have:=pm.map Int.toNat;rw[hAr,hAr]at this;have idn:(Int.toNat∘fun n:Nat=>(n:Int))=id:=by funext n;simp
   rw[idn,hDp,hDp]at this;exact this
  refine q r M _ (e.trans (Ext.new hr' _)) (e.none hr') (by unfold LsN;rw[upd_same,qCs]) pm' ?_;rw[hAv]at od;refine hBz (fun {a b} ha hb h=>?_) od;rw[qFd (gm a (pm'.mem_iff.mp ha)).2,qFd (gm b (pm'.mem_iff.mp hb)).2]at h;exact(Nat.pow_le_pow_iff_right (a:=2) (by decide)).mp (by exact_mod_cast h)
end
def Stp(m:Nat)(S:List Nat):Prop:=∃xs:List Nat,(∀x∈xs,x<2^m)/\S.Perm (redL xs)/\S.Pairwise (fun a b=>lo a<=lo b)
section
variable{m:Nat}{S:List Nat}
theorem Stp.gm(h:Stp m S):Gm m S:=by
 obtain⟨xs,lt,p,_⟩:=h;obtain⟨g,_⟩:=qCp (m:=m) xs lt;exact fun s hs=>g s (p.mem_iff.mp hs)
theorem Stp.rr(h:Stp m S):RR (S.map (rv m)):=by
 obtain⟨xs,lt,p,_⟩:=h;obtain⟨_,e⟩:=qCp (m:=m) xs lt;have:=p.map (rv m);rw[e]at this;exact(qC9 _).perm this
theorem zB5(g:Gm m S)(h:RR (S.map (rv m))):(S.map lo).Nodup:=by
 have nd:=qN3 h;rw[hAr]at nd;refine(hAv.mpr ?_);refine hBz (fun {a b} ha hb hne e=>hne ?_) (hAv.mp nd);show(rv m a).log2=(rv m b).log2;rw[qDd (g a ha).1 (g a ha).2,qDd (g b hb).1 (g b hb).2,e]
theorem Stp.nd(h:Stp m S):(S.map lo).Nodup:=zB5 h.gm h.rr
theorem Stp.lt(h:Stp m S):∀s∈S,s<2^m:=fun s hs=>(h.gm s hs).1
end
theorem qP7{L:List Nat}{m:Nat}(nd:L.Nodup)(h:∀l∈L,l<m):(L.map fun l=>2^l).sum<2^m:=hBh _ fun i hi=>by
 rw[qCi L nd,decide_eq_false fun z=>by have:=h i z;omega]
noncomputable def qLk(S:List Nat)(p:Nat):Nat:=2^p+((S.filter fun s:Nat=>s.testBit p).map fun s:Nat=>2^lo s).sum
noncomputable def crLA(S:List Nat)(m:Nat):List Nat:=((List.range m).filter fun p=>!decide (p∈S.map lo)).map (qLk S)
theorem qF9(S:List Nat)(p:Nat):qLk S p=((p :: (S.filter fun s:Nat=>s.testBit p).map lo).map fun l=>2^l).sum:=by
 unfold qLk;rw[hB8,List.sum_cons,hAr];rfl
theorem qNc{S:List Nat}{p:Nat}(nd:(S.map lo).Nodup)(np:p∉S.map lo):(p :: (S.filter fun s:Nat=>s.testBit p).map lo).Nodup:=by
 have sub:((S.filter fun s:Nat=>s.testBit p).map lo).Sublist (S.map lo):=(hB9).map lo;exact hBp.mpr ⟨fun z=>np (sub.subset z),nd.sublist sub⟩
theorem qXv{S:List Nat}{m p:Nat}(g:Gm m S)(nd:(S.map lo).Nodup)(np:p∉S.map lo)(hp:p<m):qLk S p<2^m:=by
 rw[qF9];refine qP7 (qNc nd np) fun l hl=>?_
 rcases hAg.mp hl with rfl|hl
 ·exact hp
 ·obtain⟨s,hs,rfl⟩:=hA3.mp hl;have:=g s (hAb.mp hs).1;exact qJg this.1 this.2
theorem qIq{S:List Nat}{m:Nat}(g:Gm m S)(nd:(S.map lo).Nodup):∀x∈crLA S m,x<2^m:=fun x hx=>by
 obtain⟨p,hp,rfl⟩:=hA3.mp hx;obtain⟨h1,h2⟩:=hAb.mp hp;exact qXv g nd (by simpa using h2) (hAf.mp h1)
theorem qNd(S:List Nat)(m:Nat):(crLA S m).length<=m:=by
 unfold crLA;rw[hA1];have:=hB5 (fun p=>!decide (p∈S.map lo)) (List.range m);rw[hAp]at this;exact this
def qV3:Sp:=fun vs H Q _=>∃(p:Addr) (S:List Nat) (m:Nat),vs=[.ref p,iV m]/\LsN H p S/\S.length<=24/\m<=12/\Gm m S/\(S.map lo).Nodup/\∀(r:Addr) (R:List Nat) (H':Hp),Ext H H'->H r=none->LsN H' r R->R.Perm (redL (crLA S m))->R.Pairwise (fun a b=>lo a<=lo b)->Q (.ref r) H'
theorem qVb(x:Nat):∀l:List Nat,inV (iV x) (l.map iV)=decide (x∈l)
 |[]=>rfl
 |y :: l=>by
  have ih:=qVb x l;unfold inV at ih ⊢;rw[hB8,hDe,ih];by_cases e:x=y
  ·subst e;simp[eqV]
  ·have:¬((y:Int)=(x:Int)):=fun z=>e (by omega)
   simp[eqV,e,this]
theorem qQ9:∀l:List Nat,(l.map iV).all qG8=true
 |[]=>rfl
 |_ :: l=>by rw[hB8,List.all_cons,qQ9 l];rfl
section
variable{P:Program}{w:World}{K:PySem.W.Frag}{mg:Str->Option Value}{base:Heap}{f f1 f2:Addr}{fd fd1 fd2:FuncData}
noncomputable abbrev zCw:List Str:=["_law_base","_law_many","_law_tops","_law_found","_law_k","_law_mask","_law_step"]
theorem qKt:FnScope zCw ["_law_base","_law_many"] (qAd zAx):=⟨rfl,rfl,rfl,by decide +kernel,rfl,by decide +kernel,by decide +kernel⟩
theorem qZw(F:Fun K "_law_crossed" "_law_crossed" zAx f fd)(G:Cl P w K mg base CX0 1 f1 fd1 ["_law_mask"] zBe "_law_lead")
  (G2:Cl P w K mg base CX0 4 f2 fd2 ["_law_masks"] qO3 "_law_steps") (mr:mg "range" = none) :
  FnOk P w K mg base CX0 5 f fd ["_law_base","_law_many"] qV3:=by
 refine F.ok qKt (fun vs H Q E h=>?_) (fun cdv A outer s H vs Q E hr h=>?_)
 ·obtain⟨p,S,m,rfl,_⟩:=h;rfl
 obtain⟨p,S,m,rfl,hp,lS,m12,gm,nd,q⟩:=h;have hr1:=hr.mono (j:=1) (by decide);refine⟨_,qAc (qG7 (i:=2) (N:=zCw) (sc:=qAd zAx) (N':=["_law_step"]) (sub:=[none]) rfl rfl (CmpOk.of (by decide +kernel)) rfl (qAq (pv 0))
   (fun C s H fp=>⟨qAh (i:=0) (by show(["_law_step"]:List Str).Nodup;decide) rfl (Or.inl rfl),qAy,qAt G hr1 rfl .nil qAs (qAa (pv 0) qAb)⟩) qKt.nd rfl (Or.inl rfl))
  (qAc (qAl (i:=3) qKt.nd rfl (Or.inl rfl) (qA6 qAb))
  (qAc (qA8 PassesOwn.never rfl (qAw rfl mr (qAa (pv 1) qAb)) (qAh (i:=4) qKt.nd rfl (Or.inl rfl))
   (qAf (qB2 (qAp qCo (qAk qEn qAe (pv 4)) (pv 2) (by with_unfolding_all rfl))
    (qAc (qAl (i:=5) qKt.nd rfl (Or.inl rfl) (qAk qEn qAe (pv 4)))
    (qAc (qA8 PassesOwn.never rfl (qAq (pv 0)) (qAh (i:=6) qKt.nd rfl (Or.inl rfl))
     (qAf (qB2 (qAp qDj (qAk qCl (qAk qJc (pv 6) (pv 4)) qAe) qAe (qAx _))
      (qAf (qAl (i:=5) qKt.nd rfl (Or.inl rfl) (qAk qA0 (pv 5) (qAt G hr1 rfl .nil qAs (qAa (pv 6) qAb))))) qA4)))
    (qAf (qC3 (qFv hBb hBr hBs qBx (pv 3) (qAa (pv 5) qAb))))))
    qA4)))
  (qAf (qAv (qAt G2 hr rfl .nil qAs (qAa (pv 3) qAb)))))),?_⟩
 try dsimp only[Cx.wish,qCd]
 refine⟨_,rfl,p,rfl,⟨_,SqL.of hp⟩,?_⟩;refine qCe (fun _=>true) (fun z=>2^lo z) hp (by omega) (fun z hz C B c b=>⟨Sle.set _ (Sle.refl _) (fun u z=>by cases z),?_⟩) ?_
 ·refine iteT (B:=B H) ⟨_,rfl,_,rfl,?_⟩;have:=c rfl;rw[show iV (2^lo z)=V.int (ldI (z:Int)) by rw[qFd (gm z hz).2]]at this;exact this
 intro l1 hl1;have hfl:((S.filter fun _=>true).map fun z=>2^lo z)=S.map fun z=>2^lo z:=by rw[List.filter_eq_self.mpr (fun _ _=>rfl)]
 rw[hfl];have n1:=Ext.new hl1 (.lst ((S.map fun z=>2^lo z).map iV));refine⟨hAs _,fun fo fo1=>?_⟩;have fo0:=n1.none fo1;have n2:=n1.trans (Ext.new fo1 (.lst []));have h1:LsN (upd H l1 (.lst ((S.map fun z=>2^lo z).map iV))) l1 (S.map fun z=>2^lo z):=upd_same;have h2:=(Ext.new fo1 (.lst [])) _ _ h1;have lfo:l1≠fo:=qAi h1 fo1;have hfo2:LsN (upd (upd H l1 (.lst ((S.map fun z=>2^lo z).map iV))) fo (.lst [])) fo []:=upd_same;revert n2 h2 hfo2;generalize upd (upd H l1 (.lst ((S.map fun z=>2^lo z).map iV))) fo (.lst [])=H2;intro n2 h2 hfo2;refine⟨_,rfl,(m:Int),rfl,by omega,by omega,?_⟩;refine qBd (lo:=0) (n:=((m:Int)).toNat) (fun i σ H'=>∃(x4 x5 x6:Option V),σ=[some (.ref p),some (iV m),some (.ref l1),some (.ref fo),x4,x5,x6]/\Ext H H'/\LsN H' l1 (S.map fun z=>2^lo z)/\LsN H' fo (crLA S i)) ⟨none,none,none,rfl,n2,h2,hfo2⟩ ?_ ?_
 ·rintro i σ H' hi ⟨x4,x5,x6,rfl,e,ht,hf⟩;have hi':i<m:=by omega
  have ci:(0+(i:Int))=((i:Nat):Int):=by omega
  have sn:crLA S (i+1)=crLA S i++(if i∈S.map lo then [] else [qLk S i]):=by
   unfold crLA;rw[hCc,hBm,hA4];congr 1;by_cases c:i∈S.map lo
   ·rw[hD5 (by rw[decide_eq_true c];decide),if_pos c];rfl
   ·rw[hD6 (by rw[decide_eq_false c];rfl),if_neg c];rfl
  rw[ci];refine⟨_,rfl,_,_,rfl,rfl,⟨by omega,by omega,by decide⟩,_,rfl,l1,_,rfl,.inl (SqL.of ht),rfl,qQ9 _,_,rfl,?_⟩;have key:inV (V.int (1*2^((i:Nat):Int).toNat)) ((S.map fun z=>2^lo z).map iV)=decide (i∈S.map lo):=by
   rw[qE4,qVb];refine decide_eq_decide.mpr ⟨fun z=>?_,fun z=>?_⟩
   ·obtain⟨s,hs,e⟩:=hA3.mp z;exact hA3.mpr ⟨s,hs,(Nat.pow_right_inj (a:=2) (by decide)).mp e⟩
   ·obtain⟨s,hs,e⟩:=hA3.mp z;exact hA3.mpr ⟨s,hs,by rw[e]⟩
  rw[if_pos rfl];show if (!inV (V.int (1*2^((i:Nat):Int).toNat)) ((S.map fun z=>2^lo z).map iV))=true then _ else _
  rw[key];refine qDa (fun c=>?_) (fun c=>?_)
  ·have c':i∉S.map lo:=by simpa using c
   refine⟨_,rfl,_,_,rfl,rfl,⟨by omega,by omega,by decide⟩,?_⟩;refine⟨_,rfl,p,rfl,⟨_,SqL.of (e _ _ hp)⟩,?_⟩;refine qBh (xs:=S.map iV) (fun j σ H3=>H3=H'/\∃x6:Option V,σ=[some (.ref p),some (iV m),some (.ref l1),some (.ref fo),some (iV i),some (iV (qLk (S.take j) i)),x6]) ⟨rfl,x6,?_⟩ (fun j σ H3 _ h=>by rw[h.1];exact SqL.of (e _ _ hp)) ?_ ?_
   ·rw[show qLk (S.take 0) i=2^i by simp[qLk],show iV (2^i)=V.int (1*2^((i:Nat):Int).toNat) by rw[qE4]];rfl
   ·rintro j v σ H3 hx2 ⟨rfl,x6,rfl⟩;obtain⟨s,rfl,hs⟩:=qBn hx2;have st:qLk (S.take (j+1)) i=qLk (S.take j) i+(if s.testBit i=true then 2^lo s else 0):=by
     unfold qLk;rw[qAm hs,hBm,hA4,List.sum_append];by_cases c:s.testBit i=true
     ·simp[c,Nat.add_assoc]
     ·simp[c]
    refine⟨_,rfl,_,rfl,_,_,rfl,rfl,(by show(0:Int)<=_;omega),_,_,rfl,rfl,rfl,_,rfl,?_⟩;have key2:(decide (V.int (Builtin.bitAnd ((s:Int) / 2^((i:Nat):Int).toNat) 1)=V.int 1)=true)↔s.testBit i=true:=by
     rw[decide_eq_true_iff,V.int.injEq,hB1,qGg];by_cases b:s.testBit i=true
     ·simp[b]
     ·simp[b]
    refine qDa (fun c2=>?_) (fun c2=>?_)
    ·refine⟨_,rfl,_,rfl,_,rfl,_,_,rfl,rfl,rfl,some (iV s),?_⟩;rw[st,if_pos (key2.mp c2),show iV (qLk (S.take j) i+2^lo s)=V.int (((qLk (S.take j) i:Nat):Int)+ldI (s:Int)) by rw[qFd (gm s (hAc hs)).2,<-hDm]];rfl
    ·refine⟨rfl,some (iV s),?_⟩;rw[st,if_neg fun z=>c2 (key2.mpr z),Nat.add_zero];rfl
   ·rintro σ H3 ⟨rfl,x6,rfl⟩;rw[hA1,hA7 (hA6 _)];have:=qNd S i;refine⟨_,rfl,.inl ⟨rfl,_,SqL.of hf⟩,_,rfl,fo,_,_,rfl,rfl,hf,by rw[hA1];exact qAj (by omega),?_⟩;refine⟨_,_,_,rfl,e.over fo0 _,?_,?_⟩
    ·unfold LsN;rw[qAg lfo];exact ht
    ·unfold LsN;rw[upd_same,sn,if_neg c',hA4];rfl
  ·have c':i∈S.map lo:=by simpa using c
   refine⟨_,_,_,rfl,e,ht,?_⟩;rw[sn,if_pos c',hBd];exact hf
 ·rintro σ H' ⟨x4,x5,x6,rfl,e,ht,hf⟩;rw[hB1]at hf;have:=qNd S m;exact⟨_,rfl,fo,crLA S m,m,rfl,hf,by omega,by omega,qIq gm nd,fun r R H3 e3 r0 hR pR oR=>q r R H3 (e.trans e3) (e.none r0) hR pR oR⟩
end
def qYm(t:TS):TS:=fun D σ H=>∃Pm:St->Hp->Prop,t { D with nx:=Pm } σ H/\∀σ' H',Pm σ' H'->D.nx σ' H'
theorem qBj{X:Cx}{st:Stmt}{t:TS}(h:PS X st t):PS X st (qYm t):=by
 intro pins s σ H D I hw;obtain⟨Pm,h1,h2⟩:=hw;refine thn (h pins s σ H { D with nx:=Pm } I h1) fun fl s' q=>?_
 cases fl with
 |next=>obtain⟨σ',H',I',q⟩:=q;exact⟨σ',H',I',h2 σ' H' q⟩
 |brk=>exact q
 |cont=>exact q
 |ret _=>exact q
theorem qR0:bootBuiltins "set" = some (.type "set"):=by decide +kernel
theorem qR1:bootBuiltins "max" = some (.builtin "max"):=by decide +kernel
def Dr(d:Addr)(H H':Hp):Prop:=(∃q:Int,H' d=some (.lst [.int q]))/\∀b o,b≠d->H b=some o->H' b=some o
section
variable{d:Addr}{H H1 H2:Hp}
theorem Dr.refl{n:Int}(h:H d=some (.lst [.int n])):Dr d H H:=⟨⟨n,h⟩,fun _ _ _ q=>q⟩
theorem Dr.ext(h:Dr d H H1)(e:Ext H1 H2):Dr d H H2:=⟨let ⟨q,z⟩:=h.1;⟨q,e _ _ z⟩,fun b o n q=>e _ _ (h.2 b o n q)⟩
theorem Dr.trans(h:Dr d H H1)(e:Dr d H1 H2):Dr d H H2:=⟨e.1,fun b o n q=>e.2 b o n (h.2 b o n q)⟩
theorem Dr.take(h:Dr d H H1)(q:Int):Dr d H (upd H1 d (.lst [.int q])):=⟨⟨q,upd_same⟩,fun b o n z=>by rw[qAg n];exact h.2 b o n z⟩
theorem Dr.of_upd{q:Int}(e:Ext (upd H d (.lst [.int q])) H1):Dr d H H1:=⟨⟨q,e _ _ upd_same⟩,fun b o n z=>e _ _ (by rw[qAg n];exact z)⟩
theorem Dr.ne(h:Dr d H H1){r:Addr}(hr:H1 r=Option.none):r≠d:=fun e=>by
 obtain⟨q,z⟩:=h.1;rw[e,z]at hr;cases hr
theorem Dr.none(h:Dr d H H1){r:Addr}(hr:H1 r=Option.none):H r=Option.none:=by
 cases q:H r with
 |none=>rfl
 |some o=>rw[h.2 r o (h.ne hr) q]at hr;cases hr
theorem Dr.over(h:Dr d H H1){r:Addr}(hr:H r=Option.none)(n:r≠d)(o:HO):Dr d H (upd H1 r o):=⟨let ⟨q,z⟩:=h.1;⟨q,by rw[qAg (Ne.symm n)];exact z⟩,fun b u nb z=>by rw[qAg (qAi z hr)];exact h.2 b u nb z⟩
theorem Dr.new(h:Dr d H H1){r:Addr}(hr:H1 r=Option.none)(o:HO):Dr d H (upd H1 r o):=h.over (h.none hr) (h.ne hr) o
end
theorem qDr{d r:Addr}{H:Hp}{n:Int}(hd:H d=some (.lst [.int n]))(hr:H r=none):r≠d:=fun e=>by rw[e,hd]at hr;cases hr
structure TiS(d:Addr)(H H':Hp)(r h:Addr)(hs:List Nat)(ts:List (Nat×Nat)):Prop where
 dr:Dr d H H'
 r0:H r=none
 h0:H h=none
 rd:r≠d
 hd:h≠d
 rh:r≠h
 hh:LsN H' h hs
 kt:qB6 H' r ts
theorem qUd{ms:List Nat}{i:Nat}(h:i<ms.length):atI (ms.map iV) ((i:Nat):Int)=some (iV ms[i]):=atI_nat (by rw[hAk,hA2 h];rfl)
def zAs(H:Hp)(p:Addr)(ts:List (Key×Key)):Prop:=∃as:List Addr,H p=some (.lst (as.map V.ref))/\Paired (fun a t=>H a=some (.tup [kV t.1,kV t.2])) as ts
def zCk(t:Key×Key):Prop:=(∃i j,t=(Sum.inl i,Sum.inl j))\/∃a b,t=(Sum.inr a,Sum.inr b)
noncomputable def atK(k:Key)(t:Key×Key):Bool:=decide (t.1=k) ^^ decide (t.2=k)
noncomputable def stF(k:Key):Nat->List (Key×Key)->Nat
 |_,[]=>0
 |i,t :: r=>(if atK k t=true then 2^i else 0)^^^stF k (i+1) r
noncomputable def stK(ts:List (Key×Key))(k:Key):Nat:=stF k 0 ts
theorem qLw(k:Key)(t:Key×Key):∀(l:List (Key×Key)) (i:Nat),stF k i (l++[t])=stF k i l^^^(if atK k t=true then 2^(i+l.length) else 0)
 |[],i=>by show(if atK k t=true then 2^i else 0)^^^0=0^^^_;rw[Nat.xor_zero,hDy];rfl
 |u :: l,i=>by
  show(if atK k u=true then 2^i else 0)^^^stF k (i+1) (l++[t])=((if atK k u=true then 2^i else 0)^^^stF k (i+1) l)^^^_;rw[qLw k t l (i+1),hCn,hBc,show i+1+l.length=i+(l.length+1) by omega]
theorem qLu(k:Key)(t:Key×Key)(l:List (Key×Key)):stK (l++[t]) k=stK l k^^^(if atK k t=true then 2^l.length else 0):=by
 unfold stK;rw[qLw,Nat.zero_add]
theorem qUl(k:Key):∀(l:List (Key×Key)) (i:Nat),stF k i l<2^(i+l.length)
 |[],i=>hDj (by decide)
 |t :: l,i=>by
  have ih:=qUl k l (i+1);rw[show i+1+l.length=i+(t :: l).length by rw[hBc];omega]at ih;refine hC9 ?_ ih;split
  ·exact hE6 (by decide) (by rw[hBc];omega)
  ·exact hDj (by decide)
theorem qLv(ts:List (Key×Key))(k:Key):stK ts k<2^ts.length:=by
 have:=qUl k ts 0
 rwa [Nat.zero_add]at this
theorem qUe{k:Key}{t:Key×Key}(e:t.1=t.2):atK k t=false:=by unfold atK;rw[e];simp
theorem qP3(kvs:List (Key×V))(k:Key)(v:V):(putK kvs k v).length<=kvs.length+1:=by
 unfold putK;split
 ·rw[hA1];omega
 ·rw[hAj];exact hA6 _
def DS(ts:List (Key×Key))(kvs:List (Key×V)):Prop:=∀k,(valV kvs k).getD (.int 0)=iV (stK ts k)
theorem zB8{a b:Key}(h:zCk (a,b)):(kV a=kV b)↔a=b:=by
 rcases h with ⟨i,j,e⟩|⟨x,y,e⟩ <;> cases e <;> simp[kV]
theorem DS.put{ts:List (Key×Key)}{kvs:List (Key×V)}(h:DS ts kvs){t:Key×Key}(ne:¬t.1=t.2):DS (ts++[t]) (putK (putK kvs t.1 (iV (stK ts t.1^^^2^ts.length))) t.2 (iV (stK ts t.2^^^2^ts.length))):=fun k=>by
 rw[qHv,qHv,qLu];have h':=h k;unfold atK;by_cases e2:k=t.2
 ·subst e2;rw[if_pos rfl,decide_eq_false ne,decide_eq_true rfl];rfl
 ·rw[if_neg e2];by_cases e1:k=t.1
  ·subst e1;rw[if_pos rfl,decide_eq_true rfl,decide_eq_false fun z=>e2 z.symm];rfl
  ·rw[if_neg e1,decide_eq_false fun z=>e1 z.symm,decide_eq_false fun z=>e2 z.symm,h'];simp
theorem DS.loop{ts:List (Key×Key)}{kvs:List (Key×V)}(h:DS ts kvs){t:Key×Key}(e:t.1=t.2):DS (ts++[t]) kvs:=fun k=>by
 rw[qLu,qUe e,h k];simp
theorem keys_in(kvs:List (Key×V))(k:Key)(v:V):(k∈kvs.map (·.1)/\(putK kvs k v).map (·.1)=kvs.map (·.1))\/(k∉kvs.map (·.1)/\(putK kvs k v).map (·.1)=kvs.map (·.1)++[k]):=by
 unfold putK;have e:(kvs.any fun kv=>decide (kv.1=k))=true↔k∈kvs.map (·.1):=by
  rw[List.any_eq_true];constructor
  ·rintro⟨p,hp,h⟩;exact hA3.mpr ⟨p,hp,of_decide_eq_true h⟩
  ·intro h;obtain⟨p,hp,e⟩:=hA3.mp h;exact⟨p,hp,decide_eq_true e⟩
 by_cases c:k∈kvs.map (·.1)
 ·refine .inl ⟨c,?_⟩;rw[if_pos (e.mpr c),hAr];refine hBq fun p _=>?_
  show(if p.1=k then (p.1,v) else p).1=p.1;split <;> rfl
 ·refine .inr ⟨c,?_⟩;rw[if_neg (fun z=>c (e.mp z)),hA4];rfl
theorem qQt{kvs:List (Key×V)}(h:(kvs.map (·.1)).Nodup)(k:Key)(v:V):((putK kvs k v).map (·.1)).Nodup:=by
 rcases keys_in kvs k v with ⟨_,e⟩|⟨c,e⟩
 ·rw[e];exact h
 ·rw[e];exact hE1.mpr ⟨h,hC4 _ _,fun a ha b hb e=>c (by rw[<-hA5.mp hb,<-e];exact ha)⟩
theorem qQu{kvs:List (Key×V)}{ts:List (Key×Key)}(h:∀p∈kvs.map (·.1),∃t∈ts,p=t.1\/p=t.2){k:Key}{v:V}(hk:∃t∈ts,k=t.1\/k=t.2):∀p∈(putK kvs k v).map (·.1),∃t∈ts,p=t.1\/p=t.2:=fun p hp=>by
 rcases keys_in kvs k v with ⟨_,e⟩|⟨_,e⟩
 ·rw[e]at hp;exact h p hp
 ·rw[e]at hp;rcases hAh.mp hp with z|z
  ·exact h p z
  ·rw[hA5.mp z];exact hk
def qV2:Sp:=fun vs H Q _=>∃(p:Addr) (ts:List (Key×Key)),vs=[.ref p]/\zAs H p ts/\(∀t∈ts,zCk t)/\ts.length<=12/\∀(r:Addr) (ks:List Key) (H':Hp),Ext H H'->H r=none->LsN H' r (ks.map (stK ts))->ks.length<=2*ts.length->ks.Nodup->(∀k,stK ts k≠0->k∈ks)->(∀k∈ks,∃t∈ts,k=t.1\/k=t.2)->Q (.ref r) H'
section
variable{P:Program}{w:World}{K:PySem.W.Frag}{mg:Str->Option Value}{base:Heap}{f f1 f2 f3:Addr}{fd fd1 fd2 fd3:FuncData}
noncomputable abbrev smN:List Str:=["_law_ties","_law_around","_law_k","_law_one","_law_other"]
theorem qPc:FnScope smN ["_law_ties"] (qAd zAv):=⟨rfl,rfl,rfl,by decide +kernel,rfl,by decide +kernel,by decide +kernel⟩
theorem qZo(F:Fun K "_law_star_masks" "_law_star_masks" zAv f fd)(me:mg "enumerate" = none):FnOk P w K mg base CX0 1 f fd ["_law_ties"] qV2:=by
 refine F.ok qPc (fun vs H Q E h=>?_) (fun cdv A outer s H vs Q E hr h=>?_)
 ·obtain⟨p,ts,rfl,_⟩:=h;rfl
 obtain⟨p,ts,rfl,⟨as,hp,pr⟩,hom,lt,q⟩:=h;have las:=pr.length;refine⟨_,qAc (qAl (i:=1) qPc.nd rfl (Or.inr rfl) qTe)
  (qAc (qA8 PassesOwn.never rfl (qQa rfl me (qAa (pv 0) qAb)) (qGm rfl (qBf (qAh (i:=2) qPc.nd rfl (Or.inl rfl)) (qBf (qGm rfl (qBf (qAh (i:=3) qPc.nd rfl (Or.inl rfl)) (qBf (qAh (i:=4) qPc.nd rfl (Or.inl rfl)) qD3))) qD3)))
   (qAf (qB2 (qAp qId (pv 3) (pv 4) (qAx _))
    (qAc (qP4 (qQ3 hr) (pv 1) (pv 3) (qAk qDw (qMm (qQ3 hr) (pv 1) (pv 3) qAe ⟨rfl,rfl,rfl,rfl⟩) (qAk qEn qAe (pv 2))) rfl)
    (qAf (qP4 (qQ3 hr) (pv 1) (pv 4) (qAk qDw (qMm (qQ3 hr) (pv 1) (pv 4) qAe ⟨rfl,rfl,rfl,rfl⟩) (qAk qEn qAe (pv 2))) rfl)))
    qA4)))
  (qAf (qAv (qBo (N:=smN) (sc:=qAd zAv) (N':=["_law_point","_law_around"]) (sub:=[none,some 1]) rfl rfl (CmpOk.of (by decide +kernel)) rfl (qWu (pv 1))
   (fun C s H fp=>⟨qAh (i:=0) (by show(["_law_point","_law_around"]:List Str).Nodup;decide) rfl (Or.inl rfl),qAy,qWv (qQ3 hr) (pv 1) (pv 0) (fun _ _=>rfl)⟩))))),?_⟩
 try dsimp only[Cx.wish,qCd]
 intro d hd;have n0:=Ext.new hd (.dK []);refine⟨_,rfl,p,_,rfl,SqL.of (n0 _ _ hp),?_⟩;rw[hA1];refine qQ8 (fun i σ H'=>∃(x2 x3 x4:Option V) (kvs:List (Key×V)),σ=[some (.ref p),some (.ref d),x2,x3,x4]/\Ext H H'/\H' d=some (.dK kvs)/\DS (ts.take i) kvs/\kvs.length<=2*i/\(kvs.map (·.1)).Nodup/\∀p∈kvs.map (·.1),∃t∈ts,p=t.1\/p=t.2) ⟨none,none,none,[],rfl,n0,upd_same,(fun k=>rfl),by decide,.nil,fun p hp=>by cases hp⟩ (fun i σ H' _ z=>by obtain⟨_,_,_,_,_,e,_⟩:=z;exact SqL.of (e _ _ hp)) ?_ ?_
 ·rintro i σ H' T hi ⟨x2,x3,x4,kvs,rfl,e,hD,dm,lk,nk,ek⟩ hT;have hi':i<ts.length:=by omega
  obtain⟨t,ht,hat⟩:=qBm pr (hA2 hi);have ho:=hom t (hAc ht);have gd:(as.map V.ref).getD i .non = .ref as[i]:=by rw[hAe,hAk,hA2 hi];rfl
  have nT:=Ext.new hT (.tup [V.int (i:Nat),(as.map V.ref).getD i .non]);have e2:=e.trans nT;have tk:=qAm ht;have tl:(ts.take i).length=i:=by rw[hAl];omega
  refine⟨T,_,rfl,SqT.of upd_same,rfl,_,_,rfl,_,_,rfl,as[i],_,gd,SqT.of (e2 _ _ hat),rfl,_,_,rfl,_,_,rfl,rfl,rfl,?_⟩;have hD2:=nT _ _ hD;revert e2 hD2;generalize upd H' T (.tup [V.int (i:Nat),(as.map V.ref).getD i .non])=H2;intro e2 hD2;refine⟨_,rfl,_,rfl,?_,_,rfl,?_⟩
  ·rcases ho with ⟨_,_,rfl⟩|⟨_,_,rfl⟩ <;> rfl
  refine qDa (fun c=>?_) (fun c=>?_)
  ·have ne:¬t.1=t.2:=fun z=>by rw[z]at c;simp at c
   have ex:=dm t.1;have l1:=qP3 kvs t.1 (iV (stK (ts.take i) t.1^^^2^i));have ev:∀x:Nat,(fun i j:Int=>V.int (Builtin.bitXor i j)) ((x:Nat):Int) (1*2^((i:Nat):Int).toNat)=iV (x^^^2^i):=fun x=>by
    show V.int (Builtin.bitXor _ _)=V.int _;rw[qE4,qB3]
   refine⟨_,rfl,d,rfl,.inl ⟨kvs,.inl hD2⟩,_,rfl,_,qUf.k (k:=t.1) hD2,_,rfl,_,_,rfl,rfl,⟨by omega,by omega,by decide⟩,_,_,ex,rfl,_,rfl,_,rfl,d,_,rfl,qX5.k (k:=t.1) hD2 (qAj (by omega)),?_⟩;rw[ev];have hD3:upd H2 d (.dK (putK kvs t.1 (iV (stK (ts.take i) t.1^^^2^i)))) d=some (.dK (putK kvs t.1 (iV (stK (ts.take i) t.1^^^2^i)))):=upd_same;have e3:=e2.over hd (.dK (putK kvs t.1 (iV (stK (ts.take i) t.1^^^2^i))));have ey:(valV (putK kvs t.1 (iV (stK (ts.take i) t.1^^^2^i))) t.2).getD (.int 0)=iV (stK (ts.take i) t.2):=by
    rw[qHv,if_neg fun z=>ne z.symm];exact dm t.2
   have dm2:=dm.put ne;have nk1:=qQt nk t.1 (iV (stK (ts.take i) t.1^^^2^i));have tm:=hAc ht;have ek1:∀p∈(putK kvs t.1 (iV (stK (ts.take i) t.1^^^2^i))).map (·.1),∃t∈ts,p=t.1\/p=t.2:=qQu ek ⟨t,tm,.inl rfl⟩;rw[tl,<-tk]at dm2;revert hD3 e3 dm2 l1 ey nk1 ek1;generalize putK kvs t.1 (iV (stK (ts.take i) t.1^^^2^i))=kv1;intro l1 hD3 e3 ey dm2 nk1 ek1;revert hD3 e3;generalize upd H2 d (.dK kv1)=H3;intro hD3 e3;have l2:=qP3 kv1 t.2 (iV (stK (ts.take i) t.2^^^2^i));refine⟨_,rfl,d,rfl,.inl ⟨kv1,.inl hD3⟩,_,rfl,_,qUf.k (k:=t.2) hD3,_,rfl,_,_,rfl,rfl,⟨by omega,by omega,by decide⟩,_,_,ey,rfl,_,rfl,_,rfl,d,_,rfl,qX5.k (k:=t.2) hD3 (qAj (by omega)),?_⟩;rw[ev];exact⟨_,_,_,_,rfl,e3.over hd _,upd_same,dm2,by omega,qQt nk1 _ _,qQu ek1 ⟨t,tm,.inr rfl⟩⟩
  ·have eq:t.1=t.2:=(zB8 ho).mp (by simpa using c);exact⟨_,_,_,kvs,rfl,e2,hD2,by rw[tk];exact dm.loop eq,by omega,nk,ek⟩
 ·rintro σ H' ⟨x2,x3,x4,kvs,rfl,e,hD,dm,lk,nk,ek⟩;rw[las]at lk;rw[las,hA7 (hA6 _)]at dm;refine⟨_,rfl,d,kvs,rfl,hD,fun o=>?_⟩;have nd:upd H' d (.frz o (.dK kvs)) d=some (.frz o (.dK kvs)):=upd_same;have e9:=e.over hd (.frz o (.dK kvs));revert nd e9;generalize upd H' d (.frz o (.dK kvs))=H9;intro nd e9;have vl:∀p∈kvs,valV kvs p.1=some (iV (stK ts p.1)):=fun p hp=>by
   have:=dm p.1;cases e:valV kvs p.1 with
   |none=>exact absurd (hA3.mpr ⟨p,hp,rfl⟩) (qSf e)
   |some v=>rw[e]at this;exact congrArg some this
  refine qNl (fun i ys H2=>H2=H9/\ys=(((kvs.take i).map (·.1)).map (stK ts)).map iV) ⟨rfl,rfl⟩ (fun i ys H2 _ h=>by rw[h.1];exact nd) ?_ ?_
  ·rintro i pr' ys H2 hpr ⟨rfl,rfl⟩;have hi:i<kvs.length:=at_lt hpr;have hv:=vl pr' (hAc hpr);refine⟨Sle.set _ (Sle.refl _) (fun u z=>by cases z),iteT (B:=False) ⟨_,rfl,_,rfl,d,_,rfl,.inl ⟨kvs,pr'.1,.inr ⟨o,nd⟩,rfl,hv.symm⟩,?_,nxt hi ⟨rfl,?_⟩⟩⟩
   ·rw[hA1,hA1,hA1,hAl];exact qAj (by omega)
   ·rw[qAm hpr,hA4,hA4,hA4];rfl
  ·rintro ys H2 ⟨rfl,rfl⟩ l hl;rw[hA7 (hA6 _)];refine q l (kvs.map fun x:Key×V=>x.1) _ (e9.trans (Ext.new hl _)) (e9.none hl) upd_same (by rw[hA1];omega) nk (fun k hk=>?_) ek;have:=dm k;cases e:valV kvs k with
   |none =>
    rw[e]at this;have:(0:Int)=((stK ts k:Nat):Int):=by
     have z:V.int 0=V.int ((stK ts k:Nat):Int):=this;cases z'':stK ts k with
     |zero=>rfl
     |succ n=>rw[z'']at z;cases z
    omega
   |some v=>exact qVx e
end
theorem Stp.len{m:Nat}{S:List Nat}(h:Stp m S):S.length<=m:=by
 have:=hCy (l₂:=List.range m) h.nd fun l hl=>by
  obtain⟨s,hs,rfl⟩:=hA3.mp hl;exact hAf.mpr (qJg (h.gm s hs).1 (h.gm s hs).2)
 rw[hA1,hAp]at this;exact this
noncomputable def qSc(ms:List Nat):PyData:=.list (ms.map fun n:Nat=>.int (n:Int))
theorem qVi{K:PySem.W.Frag}{H:Hp}:∀ms:List Nat,DRs K H (ms.map iV) (ms.map fun n:Nat=>.int (n:Int))
 |[]=>.nil
 |n :: ms=>.cons (.int _) (qVi ms)
theorem qN8{K:PySem.W.Frag}{H:Hp}{p:Addr}{ms:List Nat}(h:LsN H p ms):DR K H (.ref p) (qSc ms):=.lst (SqL.of h) (qVi ms)
theorem qU7:∀ms:List Nat,PyData.canLayAll0 (ms.map fun n:Nat=>.int (n:Int))=true/\PyData.depthAll (ms.map fun n:Nat=>.int (n:Int))=0
 |[]=>⟨rfl,rfl⟩
 |n :: ms=>by
  obtain⟨h1,h2⟩:=qU7 ms;refine⟨?_,?_⟩
  ·show(true && PyData.canLayAll0 (ms.map fun n:Nat=>.int (n:Int)))=true;rw[h1];rfl
  ·show max 0 (PyData.depthAll (ms.map fun n:Nat=>.int (n:Int)))=0;rw[h2];rfl
theorem qCy(ms:List Nat):SeqAt.shaped (qSc ms)=true:=by
 obtain⟨h1,h2⟩:=qU7 ms;show(PyData.canLayAll0 (ms.map fun n:Nat=>.int (n:Int)) && decide (PyData.depthAll (ms.map fun n:Nat=>.int (n:Int))+1<=64))=true;rw[h1,h2];rfl
theorem qLg(ms:List Nat):PyData.eqv (qSc ms) (qSc [])=decide (ms=[]):=by
 cases ms with
 |nil=>rfl
 |cons a l=>rfl
theorem qEd{a b:List Nat}(h1:∀x∈a,Spn b x)(h2:∀x∈b,Spn a x)(y:Nat):Spn a y↔Spn b y:=⟨Spn.mono h1,Spn.mono h2⟩
theorem qCb{a b:List Nat}(p:a.Perm b)(y:Nat):Spn a y↔Spn b y:=qEd (fun z hz=>.mem (p.mem_iff.mp hz)) (fun z hz=>.mem (p.mem_iff.mpr hz)) y
theorem qFz{m:Nat}{S xs:List Nat}(lt:∀x∈xs,x<2^m)(p:S.Perm (redL xs))(o:S.Pairwise fun a b=>lo a<=lo b)(y:Nat):Spn xs y↔Spn S y:=by
 have h:Stp m S:=⟨xs,lt,p,o⟩;obtain⟨_,e⟩:=qCp (m:=m) xs lt;have key:∀y,Spn (xs.map (rv m)) y↔Spn (S.map (rv m)) y:=fun y=>by rw[<-qCj (xs.map (rv m)),<-e,qCb ((p.map (rv m)).symm)]
 constructor
 ·intro s;have l:=Spn.lt lt s;exact(qA3 h.lt l).mp ((key _).mp ((qA3 lt l).mpr s))
 ·intro s;have l:=Spn.lt h.lt s;exact(qA3 lt l).mp ((key _).mpr ((qA3 h.lt l).mpr s))
noncomputable def mxM(os:List Nat)(s j:Nat):Nat:=((((List.range j).filter fun k=>s.testBit k).map fun k=>os.getD k 0).map fun l=>2^l).sum
theorem qZ3{os:List Nat}{s j:Nat}(h:s.testBit j=true)(hj:j<os.length):mxM os s (j+1)=mxM os s j+2^os[j]:=by
 unfold mxM;rw[hCc,hBm,hA4,hA4,List.sum_append,hD6 (by exact h)];simp[hAe,hA2 hj]
theorem qXd{os:List Nat}{s j:Nat}(h:¬s.testBit j=true):mxM os s (j+1)=mxM os s j:=by
 unfold mxM;rw[hCc,hBm,hD5 (by exact h)];simp
theorem qZ4{os:List Nat}{m:Nat}(hl:os.length=m)(nd:os.Nodup)(lt:∀x∈os,x<m)(s:Nat):mxM os s m<2^m:=by
 have e:(List.range m).map (fun k=>os.getD k 0)=os:=by
  refine List.ext_getElem (by rw[hA1,hAp,hl]) fun i h1 h2=>?_
  simp[hAe,hA2 h2]
 have sub:(((List.range m).filter fun k=>s.testBit k).map fun k=>os.getD k 0).Sublist os:=by
  conv=>rhs;rw[<-e]
  exact(hB9).map _
 exact qP7 (nd.sublist sub) fun l hl=>lt l (sub.subset hl)
theorem qC5{α:Type}:∀(l:List α) (i:Nat) (x:α),l[i]?=some x->([x]++l.eraseIdx i).Perm l
 |[],i,x,h=>by simp at h
 |a :: l,0,x,h=>by
  have:a=x:=by simpa using h
  subst this;exact hCd _
 |a :: l,i+1,x,h=>by
  have ih:=qC5 l i x (by simpa using h);show(x :: a :: l.eraseIdx i).Perm (a :: l);exact(List.Perm.swap _ _ _).trans (List.Perm.cons _ ih)
def qYv:Sp:=fun vs H Q _=>∃(d:Addr) (n:Int) (m:Nat) (p:Addr) (S:List Nat),vs=[.ref d,iV m,.ref p]/\H d=some (.lst [.int n])/\p≠d/\LsN H p S/\S.length<=12/\m<=12 /\
 ∀(r:Addr) (R os:List Nat) (H':Hp),Dr d H H'->H r=none->LsN H' r R->Stp m R->R.length<=12->os.length=m->os.Nodup->(∀x∈os,x<m)->(∀y,Spn (S.map fun s=>mxM os s m) y↔Spn R y)->Q (.ref r) H'
structure MoS(d:Addr)(H H':Hp)(b:Addr)(B:List Nat)(m l:Nat):Prop where
 dr:Dr d H H'
 bd:b≠d
 hb:LsN H' b B
 len:B.length<=l
 lt:∀x∈B,x<2^m
section
variable{P:Program}{w:World}{K:PySem.W.Frag}{mg:Str->Option Value}{base:Heap}{f f1 f2 f3:Addr}{fd fd1 fd2 fd3:FuncData}
noncomputable abbrev mxN:List Str:=["_law_draw","_law_many","_law_base","_law_order","_law_still","_law_found","_law_step","_law_mask","_law_k"]
theorem qI5:FnScope mxN ["_law_draw","_law_many","_law_base"] (qAd zBk):=⟨rfl,rfl,rfl,by decide +kernel,rfl,by decide +kernel,by decide +kernel⟩
theorem qZs(F:Fun K "_law_mixed_names" "_law_mixed_names" zBk f fd)(G:Cl P w K mg base CX0 1 f1 fd1 ["_law_draw","_law_many"] qGc "_law_take")
  (G2:Cl P w K mg base CX0 4 f2 fd2 ["_law_masks"] qO3 "_law_steps") (mr:mg "range" = none) (mL:mg "list" = none) (ml:mg "len" = none) :
  FnOk P w K mg base CX0 5 f fd ["_law_draw","_law_many","_law_base"] qYv:=by
 refine F.ok qI5 (fun vs H Q E h=>?_) (fun cdv A outer s H vs Q E hr h=>?_)
 ·obtain⟨d,n,m,p,S,rfl,_⟩:=h;rfl
 obtain⟨d,n,m,p,S,rfl,hd,pd,hp,lS,m12,q⟩:=h;have hr1:=hr.mono (j:=1) (by decide);refine⟨_,qAc (qAl (i:=3) qI5.nd rfl (Or.inl rfl) (qA6 qAb))
  (qAc (qAl (i:=4) qI5.nd rfl (Or.inl rfl) (qBp (qIu rfl) rfl mL qBt (qAa (qBp qJ2 rfl mr qLm (qAa (pv 1) qAb)) qAb)))
  (qAc (qIa PassesOwn.never (qAp (qFp (qFo hr)) (pv 4) (qA6 qAb) (qAx _))
   (qAf (qC3 (qFv hBb hBr hBs qBx (pv 3) (qAa (qFv hBb PySem.F.slot_list_pop PySem.F.type_list_pop qIg (pv 4) (qAa (qAt G hr1 rfl .nil qAs (qAa (pv 0) (qAa (qAn qAo rfl ml hBf (qAa (pv 4) qAb)) qAb))) qAb)) qAb)))))
  (qAc (qAl (i:=5) qI5.nd rfl (Or.inl rfl) (qA6 qAb))
  (qAc (qA8 PassesOwn.never rfl (qAq (pv 2)) (qAh (i:=6) qI5.nd rfl (Or.inl rfl))
   (qAc (qAl (i:=7) qI5.nd rfl (Or.inl rfl) qAe)
   (qAc (qA8 PassesOwn.never rfl (qAw rfl mr (qAa (pv 1) qAb)) (qAh (i:=8) qI5.nd rfl (Or.inl rfl))
    (qAf (qB2 (qAp qDj (qAk qCl (qAk qJc (pv 6) (pv 8)) qAe) qAe (qAx _))
     (qAf (qAl (i:=7) qI5.nd rfl (Or.inl rfl) (qAk qA0 (pv 7) (qAk qEn qAe (qCm qC4 (pv 3) (pv 8) (fun _ _=>rfl)))))) qA4)))
   (qAf (qC3 (qFv hBb hBr hBs qBx (pv 5) (qAa (pv 7) qAb)))))))
  (qAf (qAv (qAt G2 hr rfl .nil qAs (qAa (pv 5) qAb)))))))),?_⟩
 try dsimp only[Cx.wish,qCd]
 refine⟨hAs _,fun o o0=>?_⟩;have n1:=Ext.new o0 (.lst []);refine⟨_,rfl,(m:Int),rfl,by omega,by omega,fun g g1=>?_⟩;have n2:=n1.trans (Ext.new g1 (.rng 0 (m:Int)));refine⟨g,(m:Int),rfl,upd_same,by omega,by omega,fun st st2=>?_⟩;have st0:=n2.none st2;have n3:=n2.trans (Ext.new st2 (.lst ((List.range ((m:Int)).toNat).map fun (i:Nat)=>V.int (i:Int))));have ho3:LsN (upd (upd (upd H o (.lst [])) g (.rng 0 (m:Int))) st (.lst ((List.range ((m:Int)).toNat).map fun (i:Nat)=>V.int (i:Int)))) o []:=((Ext.new g1 _).trans (Ext.new st2 _)) _ _ upd_same;have hs3:LsN (upd (upd (upd H o (.lst [])) g (.rng 0 (m:Int))) st (.lst ((List.range ((m:Int)).toNat).map fun (i:Nat)=>V.int (i:Int)))) st (List.range m):=by unfold LsN;rw[upd_same,hB1]
 have os:o≠st:=qAi ((Ext.new g1 (.rng 0 (m:Int))) _ _ (upd_same (H:=H) (a:=o) (o:=.lst []))) st2;have dr3:=(Dr.refl hd).ext n3;have od:=qDr hd o0;have sd:=qDr hd st0;refine⟨fun k σ H'=>∃(oo ss:List Nat),k=ss.length/\σ=[some (.ref d),some (iV m),some (.ref p),some (.ref o),some (.ref st),none,none,none,none]/\Dr d H H'/\LsN H' o oo/\LsN H' st ss/\(oo++ss).Perm (List.range m),⟨_,[],List.range m,rfl,rfl,dr3,ho3,hs3,hCd _⟩,?_⟩;rintro k σ H' ⟨oo,ss,rfl,rfl,dr,hO,hS,pm⟩;have lpm:=pm.length_eq;rw[hAj,hAp]at lpm;refine⟨_,rfl,hAs _,fun e0 he0=>?_⟩;have ne:=Ext.new he0 (.lst []);have drE:=dr.ext ne;have hO':=ne _ _ hO;have hS':=ne _ _ hS;have hE':LsN (upd H' e0 (.lst [])) e0 []:=upd_same;revert drE hO' hS' hE';generalize upd H' e0 (.lst [])=H1;intro drE hO' hS' hE';refine⟨qSc ss,qSc [],qN8 hS',qN8 hE',qCy _,qCy _,_,rfl,?_⟩;rw[if_pos rfl,qLg];refine qDa (fun c=>?_) (fun c=>?_)
 ·have s0:0<ss.length:=by
   cases ss with
   |nil=>exact absurd c (by decide)
   |cons a r=>exact Nat.succ_pos _
  refine⟨fun σ' H2=>∃k',k'<ss.length/\∃(oo ss:List Nat),k'=ss.length/\σ'=[some (.ref d),some (iV m),some (.ref p),some (.ref o),some (.ref st),none,none,none,none]/\Dr d H H2/\LsN H2 o oo/\LsN H2 st ss/\(oo++ss).Perm (List.range m),fun σ' H2 z=>z,?_⟩;obtain⟨q0,z0⟩:=drE.1;refine⟨_,rfl,.inl ⟨rfl,_,SqL.of hO'⟩,_,rfl,.inl ⟨rfl,_,SqL.of hS'⟩,_,rfl,_,rfl,st,_,rfl,.inl (SqL.of hS'),d,q0,_,rfl,z0,by rw[hA1];omega,by rw[hA1];omega,fun q1 j ja jb=>?_⟩;rw[hA1]at jb;obtain⟨j,rfl⟩:=hCe ja;have jl:j<ss.length:=by omega
  have hx:=hA2 jl;have sq:seqIndex? (j:Int) (ss.map iV).length=some j:=by
   have:=PySem.StrLaws.seqIndex_nonneg (i:=(j:Int)) (n:=(ss.map iV).length) (by omega) (by rw[hA1];omega);rw[hB1]at this;exact this
  have drT:=drE.take q1;refine⟨st,ss.map iV,(j:Int),j,iV ss[j],rfl,rfl,by rw[qAg sd];exact hS',by omega,by omega,sq,by rw[hAk,hx];rfl,?_⟩;refine⟨o,oo.map iV,iV ss[j],rfl,rfl,by rw[qAg os,qAg od];exact hO',by rw[hA1];exact qAj (by omega),?_⟩;have le:(ss.eraseIdx j).length=ss.length - 1:=List.length_eraseIdx_of_lt jl;refine⟨_,by omega,oo++[ss[j]],ss.eraseIdx j,rfl,rfl,(drT.over st0 sd _).over o0 od _,?_,?_,?_⟩
  ·unfold LsN;rw[upd_same,hA4];rfl
  ·unfold LsN;rw[qAg (Ne.symm os),upd_same,hC0,hC0,hA4,hE3,List.map_drop]
  ·refine List.Perm.trans ?_ pm;rw[hBj];refine hCw oo ?_;exact qC5 ss j _ hx
 ·have sn:ss=[]:=by
   cases ss with
   |nil=>rfl
   |cons a r=>exact absurd rfl c
  subst sn;rw[hBd]at pm;have ndo:oo.Nodup:=pm.nodup_iff.mpr hC5;have lto:∀x∈oo,x<m:=fun x hx=>hAf.mp (pm.mem_iff.mp hx)
  have lo':oo.length=m:=by rw[pm.length_eq,hAp]
  have hp1:LsN H1 p S:=drE.2 _ _ pd hp;refine⟨hAs _,fun fo fo1=>?_⟩;have fo0:=drE.none fo1;have fod:=drE.ne fo1;have n4:=Ext.new fo1 (.lst []);have dr4:=drE.ext n4;refine⟨_,rfl,p,rfl,⟨_,SqL.of (n4 _ _ hp1)⟩,?_⟩;refine qBh (xs:=S.map iV) (fun i σ H2=>∃(x6 x7 x8:Option V) (fs:List Nat),σ=[some (.ref d),some (iV m),some (.ref p),some (.ref o),some (.ref st),some (.ref fo),x6,x7,x8]/\Dr d H H2/\LsN H2 o oo/\LsN H2 fo fs/\fs.length=i/\(∀x∈fs,x<2^m)/\fs=(S.take i).map fun s=>mxM oo s m) ⟨none,none,none,[],rfl,dr4,n4 _ _ hO',upd_same,rfl,(fun x hx=>by cases hx),rfl⟩ (fun i σ H2 _ z=>by obtain⟨_,_,_,_,_,e,_⟩:=z;exact SqL.of (e.2 _ _ pd hp)) ?_ ?_
  ·rintro i v σ H2 hx ⟨x6,x7,x8,fs,rfl,dr2,hO2,hF2,lf,ltf,efs⟩;obtain⟨s,rfl,hs⟩:=qBn hx;have hi:=at_lt hs;have ofo:o≠fo:=qAi hO' fo1;refine⟨_,rfl,(m:Int),rfl,by omega,by omega,?_⟩;refine qBd (lo:=0) (n:=((m:Int)).toNat) (fun j σ H3=>H3=H2/\∃x8:Option V,σ=[some (.ref d),some (iV m),some (.ref p),some (.ref o),some (.ref st),some (.ref fo),some (iV s),some (iV (mxM oo s j)),x8]) ⟨rfl,x8,rfl⟩ ?_ ?_
   ·rintro j σ H3 hj ⟨rfl,x8,rfl⟩;have hj':j<oo.length:=by omega
    rw[show(0+(j:Int))=((j:Nat):Int) by omega];refine⟨_,rfl,_,rfl,_,_,rfl,rfl,(by show(0:Int)<=_;omega),_,_,rfl,rfl,rfl,_,rfl,?_⟩;have key2:(decide (V.int (Builtin.bitAnd ((s:Int) / 2^((j:Nat):Int).toNat) 1)=V.int 1)=true)↔s.testBit j=true:=by
     rw[decide_eq_true_iff,V.int.injEq,hB1,qGg];by_cases b:s.testBit j=true
     ·simp[b]
     ·simp[b]
    refine qDa (fun c2=>?_) (fun c2=>?_)
    ·have ol:=lto _ (hBn hj');refine⟨_,rfl,_,rfl,_,rfl,o,_,_,_,rfl,rfl,SqL.of hO2,qUd hj',_,_,rfl,rfl,⟨by omega,by omega,by decide⟩,_,_,rfl,rfl,rfl,some (iV j),?_⟩;refine congrArg (fun v=>[some (V.ref d),some (iV m),some (V.ref p),some (V.ref o),some (V.ref st),some (V.ref fo),some (iV s),some v,some (iV j)]) ?_;show V.int (((mxM oo s j:Nat):Int)+1*2^((oo[j]:Nat):Int).toNat)=V.int _;rw[qZ3 (key2.mp c2) hj',qE4,hDm]
    ·refine⟨rfl,some (iV j),?_⟩;rw[qXd fun z=>c2 (key2.mpr z)];rfl
   ·rintro σ H3 ⟨rfl,x8,rfl⟩;rw[hB1];refine⟨_,rfl,.inl ⟨rfl,_,SqL.of hF2⟩,_,rfl,fo,_,_,rfl,rfl,hF2,by rw[hA1];exact qAj (by omega),?_⟩;refine⟨_,_,_,fs++[mxM oo s m],rfl,dr2.over fo0 fod _,by unfold LsN;rw[qAg ofo];exact hO2,by unfold LsN;rw[upd_same,hA4];rfl,by rw[hAj,lf];rfl,fun x hx=>?_,by rw[qAm hs,hA4,<-efs];rfl⟩;rcases hAh.mp hx with h|h
    ·exact ltf x h
    ·rw[hA5.mp h];exact qZ4 lo' ndo lto s
  ·rintro σ H2 ⟨x6,x7,x8,fs,rfl,dr2,hO2,hF2,lf,ltf,efs⟩;rw[hA1]at lf;refine⟨_,rfl,fo,fs,m,rfl,hF2,by omega,by omega,ltf,fun r R H3 e3 r0 hR pR oR=>?_⟩;rw[hA1,hA7 (hA6 _)]at efs;subst efs;refine q r R oo H3 (dr2.ext e3) (dr2.none r0) hR ⟨_,ltf,pR,oR⟩ ?_ lo' ndo lto (qFz ltf pR oR);rw[pR.length_eq];exact hB2 (qWo _) (by omega)
end
noncomputable def nK(ts:List (Nat×Nat)):List (Key×Key):=ts.map fun t=>(Sum.inl (t.1:Int),Sum.inl (t.2:Int))
theorem qQy{H:Hp}{p:Addr}{ts:List (Nat×Nat)}(h:qB6 H p ts):zAs H p (nK ts):=by
 obtain⟨as,h1,h2⟩:=h;refine⟨as,h1,?_⟩;have:∀ {as:List Addr} {ts:List (Nat×Nat)},Paired (fun a f=>H a=some (.tup [iV f.1,iV f.2])) as ts->Paired (fun a (t:Key×Key)=>H a=some (.tup [kV t.1,kV t.2])) as (nK ts):=fun {as ts} p=>by
  induction p with
  |nil=>exact .nil
  |cons h _ ih=>exact .cons h ih
 exact this h2
theorem qVc(ts:List (Nat×Nat)):∀t∈nK ts,zCk t:=fun t ht=>by
 obtain⟨u,_,rfl⟩:=hA3.mp ht;exact .inl ⟨_,_,rfl⟩
theorem qFq(ts:List (Nat×Nat)):(nK ts).length=ts.length:=hA1 _
theorem qLx{k:Key}:∀ {l:List (Key×Key)},(∀t∈l,t.1≠k/\t.2≠k)->∀i,stF k i l=0
 |[],_,_=>rfl
 |t :: l,h,i=>by
  have ih:=qLx (k:=k) (l:=l) (fun u hu=>h u (hA8 _ hu)) (i+1);obtain⟨h1,h2⟩:=h t hA9;show(if atK k t=true then 2^i else 0)^^^stF k (i+1) l=0;rw[ih];unfold atK;rw[decide_eq_false h1,decide_eq_false h2,if_neg (by decide)];rfl
theorem st_pt{ts:List (Nat×Nat)}{n:Nat}(b:∀t∈ts,t.1<n/\t.2<n)(k:Key):stK (nK ts) k=0\/∃p,p<n/\k=Sum.inl ((p:Nat):Int):=by
 by_cases c:∃p,p<n/\k=Sum.inl ((p:Nat):Int)
 ·exact .inr c
 ·refine .inl (qLx (fun t ht=>?_) 0);obtain⟨u,hu,rfl⟩:=hA3.mp ht;exact⟨fun e=>c ⟨u.1,(b u hu).1,e.symm⟩,fun e=>c ⟨u.2,(b u hu).2,e.symm⟩⟩
theorem qI2{ts:List (Nat×Nat)}{n:Nat}{lits:List Nat}{ks:List Key}(e:(List.range n).map (fun p=>stK (nK ts) (Sum.inl ((p:Nat):Int)))=lits)(b:∀t∈ts,t.1<n/\t.2<n)(ck:∀k,stK (nK ts) k≠0->k∈ks)(y:Nat):Spn (ks.map (stK (nK ts))) y↔Spn lits y:=by
 refine qEd (fun x hx=>?_) (fun x hx=>?_) y
 ·obtain⟨k,_,rfl⟩:=hA3.mp hx;rcases st_pt b k with z|⟨p,hp,rfl⟩
  ·rw[z];exact .zero
  ·exact .mem (by rw[<-e];exact hA3.mpr ⟨p,hAf.mpr hp,rfl⟩)
 ·rw[<-e]at hx;obtain⟨p,_,rfl⟩:=hA3.mp hx;by_cases c:stK (nK ts) (Sum.inl ((p:Nat):Int))=0
  ·rw[c];exact .zero
  ·exact .mem (hA3.mpr ⟨_,ck _ c,rfl⟩)
noncomputable def k5L:List (Nat×Nat):=[(0,1),(0,2),(0,3),(0,4),(1,2),(1,3),(1,4),(2,3),(2,4),(3,4)]
noncomputable def zA0:List (Nat×Nat):=(List.range 9).map fun j=>(j / 3,3+j % 3)
noncomputable def bI(j:Nat):Nat->Nat
 |0=>0
 |i+1=>bI j i+(if (i+1).testBit j=true then 1 else 0)*2^i
def SmR(m:Nat)(R:List Nat):Prop:=(m=7/\∃S:List Nat,S.Perm (redL [85,102,120])/\S.Pairwise (fun a b=>lo a<=lo b)/\R.Perm (redL (crLA S 7))/\R.Pairwise (fun a b=>lo a<=lo b))\/(m=7/\∀y,Spn [85,102,120] y↔Spn R y)\/(m=10/\∀y,Spn [15,113,402,676,840] y↔Spn R y)\/(m=9/\∀y,Spn [7,56,448,73,146,292] y↔Spn R y)
def qYt:Sp:=fun vs H Q _=>∃(d:Addr) (n:Int),vs=[.ref d]/\H d=some (.lst [.int n]) /\
 ∀(T r:Addr) (m:Nat) (R:List Nat) (H':Hp),Dr d H H'->H T=none->H' T=some (.tup [iV m,.ref r])->H r=none->LsN H' r R->Stp m R->7<=m->m<=10->SmR m R->Q (.ref T) H'
theorem qQ0{n j:Nat}(h:j<n):ixN n ((j:Nat):Int)=some j:=by
 unfold ixN;rw[if_pos (by omega),if_pos (by omega)];simp
noncomputable def esT:List Expr:=match (qBa qL6).getD 2 (.Pass ⟨0,0,0,0⟩) with
 |.Assign _ (.List es _) _=>es
 |_=>[]
theorem zC9:∃p pos pos',(qBa qL6).getD 2 (.Pass ⟨0,0,0,0⟩) = .Assign [.Name "_law_ties" pos'] (.List esT p) pos:=⟨_,_,_,rfl⟩
theorem qNp{es:List Expr}{p:Pos}{tg:Option Expr}{l:Nat}{env:Env}:swapsWith (.List es p) tg l env=pure false:=rfl
abbrev t2c(a b:Int):TE:=qYi (qCh (tC (.int a)) (qCh (tC (.int b)) qSl))
def T10:TA:=(qCh (t2c 0 1) (qCh (t2c 0 2) (qCh (t2c 0 3) (qCh (t2c 0 4) (qCh (t2c 1 2) (qCh (t2c 1 3) (qCh (t2c 1 4) (qCh (t2c 2 3) (qCh (t2c 2 4) (qCh (t2c 3 4) (qSl)))))))))))
theorem qCr{X:Cx}{a b:Int}{i j c:Nat}{p1 p2 p3:Pos}{es:List Expr}{t:TA}(h:PA X es t):PA X (.Tuple [.Constant (.int a) i p1,.Constant (.int b) j p2] c p3 :: es) (qCh (t2c a b) t) :=
 qAa (qBk (qAa qAe (qAa qAe qAb))) h rfl
theorem zBz{X:Cx}:PA X esT T10:=by
 unfold esT T10;refine qCr (a:=0) (b:=1) ?_;refine qCr (a:=0) (b:=2) ?_;refine qCr (a:=0) (b:=3) ?_;refine qCr (a:=0) (b:=4) ?_;refine qCr (a:=1) (b:=2) ?_;refine qCr (a:=1) (b:=3) ?_;refine qCr (a:=1) (b:=4) ?_;refine qCr (a:=2) (b:=3) ?_;refine qCr (a:=2) (b:=4) ?_;refine qCr (a:=3) (b:=4) ?_;exact qAb
section
variable{P:Program}{w:World}{K:PySem.W.Frag}{mg:Str->Option Value}{base:Heap}{f f1 f2 f3 f4:Addr}{fd fd1 fd2 fd3 fd4:FuncData}
noncomputable abbrev zAu:List Str:=["_law_draw","_law_kind","_law_bits","_law_k","_law_j","_law_ties"]
theorem qKr:FnScope zAu ["_law_draw"] (qAd qL6):=⟨rfl,rfl,rfl,by decide +kernel,rfl,by decide +kernel,by decide +kernel⟩
theorem qZq(F:Fun K "_law_small" "_law_small" qL6 f fd)(G:Cl P w K mg base CX0 1 f1 fd1 ["_law_draw","_law_many"] qGc "_law_take")
  (G2:Cl P w K mg base CX0 4 f2 fd2 ["_law_masks"] qO3 "_law_steps")
  (G3:Cl P w K mg base CX0 5 f3 fd3 ["_law_base","_law_many"] qV3 "_law_crossed")
  (G4:Cl P w K mg base CX0 1 f4 fd4 ["_law_ties"] qV2 "_law_star_masks")
  (mr:mg "range" = none) (ml:mg "len" = none) :
  FnOk P w K mg base CX0 6 f fd ["_law_draw"] qYt:=by
 refine F.ok qKr (fun vs H Q E h=>?_) (fun cdv A outer s H vs Q E hr h=>?_)
 ·obtain⟨d,n,rfl,_⟩:=h;rfl
 obtain⟨d,n,rfl,hd,q⟩:=h;have hr1:=hr.mono (j:=1) (by decide);have hr4:=hr.mono (j:=4) (by decide);obtain⟨s2,hs2⟩:∃s:Stmt,s=(qBa qL6).getD 2 (.Pass ⟨0,0,0,0⟩):=⟨_,rfl⟩;have H2:PS (qCd CX0 P w K mg base zAu "_law_small" (qAd qL6) f cdv A outer s H E).nox s2 (qYm (qYo (zCm T10) (qQ6 5))):=by
  obtain⟨p,po,po',e⟩:=zC9;rw[hs2,e];have hp:=@zBz (qCd CX0 P w K mg base zAu "_law_small" (qAd qL6) f cdv A outer s H E).nox;generalize esT=es at hp ⊢;generalize T10=T at hp ⊢;exact qBj (qAl (i:=5) qKr.nd rfl (Or.inl rfl) (qA6 hp) qNp)
 have hb:qBa qL6=[(qBa qL6).getD 0 (.Pass ⟨0,0,0,0⟩),(qBa qL6).getD 1 (.Pass ⟨0,0,0,0⟩),s2,(qBa qL6).getD 3 (.Pass ⟨0,0,0,0⟩),(qBa qL6).getD 4 (.Pass ⟨0,0,0,0⟩)]:=by rw[hs2];rfl
 rw[hb];refine⟨_,qAc (qAl (i:=1) qKr.nd rfl (Or.inl rfl) (qAt G hr1 rfl .nil qAs (qAa (pv 0) (qAa qAe qAb))))
  (qAc (qB2 (qAp qQf (pv 1) qAe (qAx _))
   (qAc (qAl (i:=2) qKr.nd rfl (Or.inl rfl) (qA6 (qAa qAe (qAa qAe (qAa qAe qAb)))))
   (qAc (qA8 PassesOwn.never rfl (qAw rfl mr (qAa qAe qAb)) (qAh (i:=3) qKr.nd rfl (Or.inl rfl))
    (qAf (qA8 PassesOwn.never rfl (qAw rfl mr (qAa qAe qAb)) (qAh (i:=4) qKr.nd rfl (Or.inl rfl))
     (qAf (qI8 (qAk qA0 (qCm qC4 (pv 2) (pv 4) (fun _ _=>rfl)) (qAk qEn (qAk qCl (qAk qJc (qAk qA0 (pv 3) qAe) (pv 4)) qAe) (pv 3))) (qQb (pv 2) (pv 4) qH5))))))
   (qAc (qB2 (qAp qDj (pv 1) qAe (qAx _)) (qAf (qAv (qBk (qAa qAe (qAa (qAt G3 hr rfl .nil qAs (qAa (qAt G2 hr4 rfl .nil qAs (qAa (pv 2) qAb)) (qAa qAe qAb))) qAb))))) qA4)
   (qAf (qAv (qBk (qAa qAe (qAa (qAt G2 hr4 rfl .nil qAs (qAa (pv 2) qAb)) qAb)))))))) qA4)
  (qAc H2
  (qAc (qBj (qB2 (qAp qDj (pv 1) qAe (qAx _)) (qAf (qG7 (i:=5) (N:=zAu) (sc:=qAd qL6) (N':=["_law_k"]) (sub:=[none]) rfl rfl (CmpOk.of (by decide +kernel)) rfl (qAw rfl mr (qAa qAe qAb))
   (fun C s H fp=>⟨qAh (i:=0) (by show(["_law_k"]:List Str).Nodup;decide) rfl (Or.inl rfl),qAy,qBk (qAa (qAk qIe (pv 0) qAe) (qAa (qAk qA0 qAe (qAk qB9 (pv 0) qAe)) qAb))⟩) qKr.nd rfl (Or.inl rfl))) qA4))
  (qAf (qAv (qBk (qAa (qAn qAo rfl ml hBf (qAa (pv 5) qAb)) (qAa (qAt G2 hr4 rfl .nil qAs (qAa (qAt G4 hr1 rfl .nil qAs (qAa (pv 5) qAb)) qAb)) qAb)))))))),?_⟩
 try dsimp only[Cx.wish,qCd]
 refine⟨_,rfl,d,n,4,rfl,hd,by decide,by decide,fun q1 kind ka kb=>?_⟩;have d1:Dr d H (upd H d (.lst [.int q1])):=(Dr.refl hd).take q1;have e1:H d=some (.lst [.int n]):=hd;generalize upd H d (.lst [.int q1])=H1 at d1 ⊢;refine⟨_,rfl,_,_,rfl,rfl,_,rfl,qDa (fun c1=>?_) (fun c1=>?_)⟩
 ·refine⟨(by show 3<=sizeLine;decide),fun b hb=>?_⟩;have d2:=d1.new hb (.lst [.int 0,.int 0,.int 0]);have b0:=d1.none hb;have bd:=d1.ne hb;refine⟨7,rfl,by decide,by decide,?_⟩;refine qBd (lo:=0) (n:=(7:Int).toNat) (fun i σ H'=>∃(x3 x4:Option V),σ=[some (.ref d),some (.int kind),some (.ref b),x3,x4,none]/\Dr d H H'/\LsN H' b [bI 0 i,bI 1 i,bI 2 i]) ⟨none,none,rfl,d2,upd_same⟩ ?_ ?_
  ·rintro i σ H' hi ⟨x3,x4,rfl,dr,hb'⟩;have hi':i<7:=hi;rw[show(0+(i:Int))=((i:Nat):Int) by omega];refine⟨3,rfl,by decide,by decide,?_⟩;refine qBd (lo:=0) (n:=(3:Int).toNat) (fun j σ H'=>∃(x4:Option V) (ns:List Nat),σ=[some (.ref d),some (.int kind),some (.ref b),some (iV i),x4,none]/\Dr d H H'/\LsN H' b ns/\ns=(List.range 3).map fun t=>if t<j then bI t (i+1) else bI t i) ⟨x4,_,rfl,dr,hb',rfl⟩ ?_ ?_
   ·rintro j σ H2 hj ⟨x4,ns,rfl,dr2,hb2,ens⟩;have hj':j<3:=hj;have ln:ns.length=3:=by rw[ens,hA1,hAp]
    rw[show(0+(j:Int))=((j:Nat):Int) by omega];have jl:j<ns.length:=by omega
    have vj:ns[j]=bI j i:=by
     have:ns[j]?=some (bI j i):=by rw[ens,hAk,hCs hj'];simp
     rw[hA2 jl]at this;exact hAt this
    have so:Builtin.bitAnd ((((i:Nat):Int)+1) / 2^((j:Nat):Int).toNat) 1=((if (i+1).testBit j=true then 1 else 0:Nat):Int):=by
     have:=qGg (i+1) j;rw[hB1,show((i:Nat):Int)+1=((i+1:Nat):Int) by omega,this];split <;> rfl
    refine⟨_,rfl,_,rfl,b,_,_,_,rfl,rfl,SqL.of hb2,qUd jl,_,rfl,_,_,rfl,rfl,_,rfl,_,_,rfl,rfl,(by show(0:Int)<=_;omega),_,_,rfl,rfl,_,rfl,_,_,rfl,rfl,?_,_,_,rfl,rfl,?_⟩
    ·refine⟨by omega,by omega,?_⟩;show(Builtin.bitAnd ((((i:Nat):Int)+1) / 2^((j:Nat):Int).toNat) 1).natAbs<2^64;rw[so,Int.natAbs_natCast];split <;> decide
    have ev:(fun i j:Int=>V.int (i+j)) ((ns[j]:Nat):Int) (Builtin.bitAnd ((((i:Nat):Int)+1) / 2^((j:Nat):Int).toNat) 1*2^((i:Nat):Int).toNat)=iV (ns[j] + (if (i+1).testBit j=true then 1 else 0)*2^i):=by
     show V.int _=V.int _;rw[so,hB1,hDm,Int.natCast_mul,Int.natCast_pow];rfl
    refine⟨_,rfl,_,rfl,b,ns.map iV,_,j,rfl,rfl,hb2,qQ0 (by rw[hA1];exact jl),?_⟩;refine⟨_,ns.set j (ns[j] + (if (i+1).testBit j=true then 1 else 0)*2^i),rfl,dr2.over b0 bd _,?_,?_⟩
    ·unfold LsN;rw[upd_same,List.map_set];exact congrArg (fun v=>some (HO.lst ((ns.map iV).set j v))) ev
    ·rw[vj,ens];refine hD8 fun t=>?_
     rw[List.getElem?_set,hAk,hAk];by_cases c:j=t
     ·subst c;rw[if_pos rfl,hCs hj'];simp[hj',bI]
     ·rw[if_neg c];by_cases ct:t<3
      ·rw[hCs ct];show some (if t<j then bI t (i+1) else bI t i)=some (if t<j+1 then bI t (i+1) else bI t i);by_cases c2:t<j
       ·rw[if_pos c2,if_pos (by omega)]
       ·rw[if_neg c2,if_neg (by omega)]
      ·rw[hBw (by rw[hAp];omega)];rfl
   ·rintro σ H2 ⟨x4,ns,rfl,dr2,hb2,rfl⟩;exact⟨_,_,rfl,dr2,hb2⟩
  ·rintro σ H' ⟨x3,x4,rfl,dr,hb'⟩;have hb':LsN H' b [85,102,120]:=hb';have lt7:∀x∈[85,102,120],x<2^7:=by decide
   refine⟨_,rfl,rfl,_,rfl,qDa (fun c2=>?_) (fun c2=>?_)⟩
   ·refine⟨_,rfl,b,[85,102,120],7,rfl,hb',(by show 3<=5000;decide),by decide,lt7,fun r S H2 e2 r0 hS pS oS=>?_⟩;have sS:Stp 7 S:=⟨_,lt7,pS,oS⟩;have lS:=sS.len;refine⟨r,S,7,rfl,hS,by omega,by decide,sS.gm,sS.nd,fun r2 R H3 e3 r20 hR pR oR=>?_⟩;have d3:=(dr.ext e2).ext e3;refine⟨(by show 2<=sizeLine;decide),fun T hT=>?_⟩;exact q T r2 7 R _ (d3.new hT _) (d3.none hT) upd_same ((dr.ext e2).none r20) ((Ext.new hT _) _ _ hR) ⟨_,qIq sS.gm sS.nd,pR,oR⟩ (by decide) (by decide) (.inl ⟨rfl,S,pS,oS,pR,oR⟩)
   ·refine⟨_,rfl,b,[85,102,120],7,rfl,hb',(by show 3<=5000;decide),by decide,lt7,fun r S H2 e2 r0 hS pS oS=>?_⟩;have d3:=dr.ext e2;refine⟨(by show 2<=sizeLine;decide),fun T hT=>?_⟩;exact q T r 7 S _ (d3.new hT _) (d3.none hT) upd_same (dr.none r0) ((Ext.new hT _) _ _ hS) ⟨_,lt7,pS,oS⟩ (by decide) (by decide) (.inr (.inl ⟨rfl,qFz lt7 pS oS⟩))
 refine⟨fun σ' H'=>∃(t:Addr) (ts:List (Nat×Nat)),σ'=[some (.ref d),some (.int kind),none,none,none,some (.ref t)]/\Dr d H H'/\H t=none/\qB6 H' t ts/\(ts=k5L\/ts=zA0),?_,?_⟩
 ·unfold T10;refine⟨(by show 2<=sizeLine;decide),fun p0 h0=>?_⟩;have e0:=Ext.new h0 (.tup [V.int 0,V.int 1]);refine⟨(by show 2<=sizeLine;decide),fun p1 h1=>?_⟩;have e1:=Ext.new h1 (.tup [V.int 0,V.int 2]);refine⟨(by show 2<=sizeLine;decide),fun p2 h2=>?_⟩;have e2:=Ext.new h2 (.tup [V.int 0,V.int 3]);refine⟨(by show 2<=sizeLine;decide),fun p3 h3=>?_⟩;have e3:=Ext.new h3 (.tup [V.int 0,V.int 4]);refine⟨(by show 2<=sizeLine;decide),fun p4 h4=>?_⟩;have e4:=Ext.new h4 (.tup [V.int 1,V.int 2]);refine⟨(by show 2<=sizeLine;decide),fun p5 h5=>?_⟩;have e5:=Ext.new h5 (.tup [V.int 1,V.int 3]);refine⟨(by show 2<=sizeLine;decide),fun p6 h6=>?_⟩;have e6:=Ext.new h6 (.tup [V.int 1,V.int 4]);refine⟨(by show 2<=sizeLine;decide),fun p7 h7=>?_⟩;have e7:=Ext.new h7 (.tup [V.int 2,V.int 3]);refine⟨(by show 2<=sizeLine;decide),fun p8 h8=>?_⟩;have e8:=Ext.new h8 (.tup [V.int 2,V.int 4]);refine⟨(by show 2<=sizeLine;decide),fun p9 h9=>?_⟩;have e9:=Ext.new h9 (.tup [V.int 3,V.int 4]);refine⟨(by show 10<=sizeLine;decide),fun l hl=>?_⟩;have el:=Ext.new hl (.lst [V.ref p0,V.ref p1,V.ref p2,V.ref p3,V.ref p4,V.ref p5,V.ref p6,V.ref p7,V.ref p8,V.ref p9]);have E:=((((((((((e0.trans e1).trans e2).trans e3).trans e4).trans e5).trans e6).trans e7).trans e8).trans e9).trans el);refine⟨l,[(0,1),(0,2),(0,3),(0,4),(1,2),(1,3),(1,4),(2,3),(2,4),(3,4)],rfl,d1.ext E,d1.none (((((((((((e0.trans e1).trans e2).trans e3).trans e4).trans e5).trans e6).trans e7).trans e8).trans e9)).none hl),⟨[p0,p1,p2,p3,p4,p5,p6,p7,p8,p9],upd_same,.cons ((e1.trans (e2.trans (e3.trans (e4.trans (e5.trans (e6.trans (e7.trans (e8.trans (e9.trans el))))))))) _ _ upd_same) (.cons ((e2.trans (e3.trans (e4.trans (e5.trans (e6.trans (e7.trans (e8.trans (e9.trans el)))))))) _ _ upd_same) (.cons ((e3.trans (e4.trans (e5.trans (e6.trans (e7.trans (e8.trans (e9.trans el))))))) _ _ upd_same) (.cons ((e4.trans (e5.trans (e6.trans (e7.trans (e8.trans (e9.trans el)))))) _ _ upd_same) (.cons ((e5.trans (e6.trans (e7.trans (e8.trans (e9.trans el))))) _ _ upd_same) (.cons ((e6.trans (e7.trans (e8.trans (e9.trans el)))) _ _ upd_same) (.cons ((e7.trans (e8.trans (e9.trans el))) _ _ upd_same) (.cons ((e8.trans (e9.trans el)) _ _ upd_same) (.cons ((e9.trans el) _ _ upd_same) (.cons (el _ _ upd_same) (.nil))))))))))⟩,.inl rfl⟩
 rintro _ H2 ⟨t,ts,rfl,d2,t0,kt,tl⟩;refine⟨fun σ' H'=>∃(t:Addr) (ts:List (Nat×Nat)),σ'=[some (.ref d),some (.int kind),none,none,none,some (.ref t)]/\Dr d H H'/\H t=none/\qB6 H' t ts/\(ts=k5L\/ts=zA0),?_,?_⟩
 ·refine⟨_,rfl,rfl,_,rfl,qDa (fun c2=>?_) (fun c2=>⟨t,ts,rfl,d2,t0,kt,tl⟩)⟩;refine⟨9,rfl,by decide,by decide,?_⟩;refine qCg (fun j ys H3=>Ext H2 H3/\∃(as:List Addr) (ps:List (Nat×Nat)),ys=as.map V.ref/\(ps.length=j/\ps=(List.range j).map fun j=>(j / 3,3+j % 3))/\Paired (fun a f=>H3 a=some (.tup [iV f.1,iV f.2])) as ps) ⟨Ext.refl _,[],[],rfl,⟨rfl,rfl⟩,.nil⟩ ?_ ?_
  ·rintro j ys H3 hj ⟨e3,as,ps,rfl,⟨lp,ep⟩,pr⟩;have hj':j<9:=hj;rw[show(0+(j:Int))=((j:Nat):Int) by omega];have la:=pr.length;refine⟨Sle.set _ (Sle.refl _) (fun u z=>by cases z),iteT (B:=False) ?_⟩;refine⟨_,rfl,_,_,rfl,rfl,⟨by decide,by decide⟩,_,rfl,_,_,rfl,rfl,(by show(0:Int)<_;decide),_,_,rfl,rfl,(by show 2<=sizeLine;decide),fun T hT=>?_⟩;refine⟨by rw[hA1];exact qAj (by omega),nxt hj ⟨e3.trans (Ext.new hT _),as++[T],ps++[(j / 3,3+j % 3)],by rw[hA4];rfl,⟨by rw[hAj,lp];rfl,by rw[hCc,hA4,<-ep];rfl⟩,Paired.snoc (Paired.mapP pr fun a t z=>(Ext.new hT _) _ _ z) ?_⟩⟩;rw[upd_same];show some (HO.tup [V.int (((j:Nat):Int) / 3),V.int (3+((j:Nat):Int) % 3)])=some (HO.tup [V.int ((j / 3:Nat):Int),V.int ((3+j % 3:Nat):Int)]);rw[show((j:Nat):Int) / 3=((j / 3:Nat):Int) by omega,show 3+((j:Nat):Int) % 3=((3+j % 3:Nat):Int) by omega]
  ·rintro ys H3 ⟨e3,as,ps,rfl,⟨lp,ep⟩,pr⟩ l hl;have lp':ps.length=9:=lp;exact⟨l,ps,rfl,(d2.ext e3).new hl _,(d2.ext e3).none hl,⟨as,upd_same,Paired.mapP pr fun a t z=>(Ext.new hl _) _ _ z⟩,.inr ep⟩
 rintro _ H3 ⟨t,ts,rfl,d3,t0,kt,tl⟩;obtain⟨as,ha,pr⟩:=id kt;have la:=pr.length;have l12:9<=ts.length/\ts.length<=10:=by rcases tl with rfl|rfl <;> decide
 refine⟨_,rfl,t,_,rfl,.inl (SqL.of ha),_,rfl,t,nK ts,rfl,qQy kt,qVc ts,by rw[qFq];omega,fun r ks H4 e4 r0 hm lm _ ck _=>?_⟩;rw[hA1,la];rw[qFq]at lm;have ltm:∀x∈ks.map (stK (nK ts)),x<2^ts.length:=fun x hx=>by
  obtain⟨k,_,rfl⟩:=hA3.mp hx;have:=qLv (nK ts) k
  rwa [qFq]at this
 refine⟨r,_,ts.length,rfl,hm,by rw[hA1];omega,by omega,ltm,fun r2 S H5 e5 r20 hS pS oS=>?_⟩;have d5:=(d3.ext e4).ext e5;have sp:=qFz ltm pS oS;have sm:SmR ts.length S:=by
  rcases tl with rfl|rfl
  ·exact .inr (.inr (.inl ⟨rfl,fun y=>(qI2 (n:=5) (by decide +kernel) (by decide) ck y).symm.trans (sp y)⟩))
  ·exact .inr (.inr (.inr ⟨rfl,fun y=>(qI2 (n:=6) (by decide +kernel) (by decide) ck y).symm.trans (sp y)⟩))
 refine⟨(by show 2<=sizeLine;decide),fun T hT=>?_⟩;exact q T r2 ts.length S _ (d5.new hT _) (d5.none hT) upd_same ((d3.ext e4).none r20) ((Ext.new hT _) _ _ hS) ⟨_,ltm,pS,oS⟩ (by omega) (by omega) sm
end
theorem qSp{ms:List Nat}{x:Nat}(h:Spn ms x)(y:Nat):Spn (ms++[x]) y↔Spn ms y:=qEd (fun z hz=>by
 rcases hAh.mp hz with h'|h'
 ·exact .mem h'
 ·rw[hA5.mp h'];exact h) (fun z hz=>.mem (hAi _ hz)) y
theorem qV1{ms:List Nat}{i j:Nat}(hi:i<ms.length)(hj:j<ms.length)(ne:i≠j)(y:Nat):Spn (ms.set i (ms[i]^^^ms[j])) y↔Spn ms y:=qEd (fun z hz=>by
 rcases List.mem_or_eq_of_mem_set hz with h|h
 ·exact .mem h
 ·rw[h];exact(Spn.mem (hBn hi)).xor (.mem (hBn hj))) (fun z hz=>by
 obtain⟨k,hk,rfl⟩:=hBy hz;have m1:ms[i]^^^ms[j]∈ms.set i (ms[i]^^^ms[j]):=by
  have:=hBn (l:=ms.set i (ms[i]^^^ms[j])) (n:=i) (by rw[List.length_set];exact hi)
  rwa [List.getElem_set_self]at this
 have m2:∀k (hk:k<ms.length),k≠i->ms[k]∈ms.set i (ms[i]^^^ms[j]):=fun k hk nk=>by
  have:=hBn (l:=ms.set i (ms[i]^^^ms[j])) (n:=k) (by rw[List.length_set];exact hk)
  rwa [List.getElem_set_ne (Ne.symm nk)]at this
 by_cases e:k=i
 ·subst e;have:=(Spn.mem m1).xor (.mem (m2 j hj (Ne.symm ne)))
  rwa [qBb]at this
 ·exact .mem (m2 k hk e)) y
noncomputable def zBo(xs:List V)(x:Nat):List V:=(List.range xs.length).filterMap fun i=>if x.testBit i=true then xs[i]? else none
theorem qS6(names:List Str)(x:Nat):zBo (names.map V.str) x=(rowL names x).map V.str:=by
 unfold zBo rowL;rw[hA1,List.map_filterMap];congr 1
 funext i
 by_cases b:x.testBit i=true
 ·rw[if_pos b,if_pos b,hAk]
 ·rw[if_neg b,if_neg b];rfl
def qH0:Sp:=fun vs H Q _=>∃(pn:Addr) (xs:List V) (x:Nat),vs=[.ref pn,iV x]/\H pn=some (.lst xs)/\xs.length<=12/\∀r H',Ext H H'->H r=none->H' r=some (.lst (zBo xs x))->Q (.ref r) H'
theorem row_of{P:Program}{w:World}{K:PySem.W.Frag}{mg:Str->Option Value}{base:Heap}{k:Nat}{f:Addr}{fd:FuncData}{ps:List Str}(F:FnOk P w K mg base CX0 k f fd ps qH0):FnOk P w K mg base CX0 k f fd ps qYw:=F.imp fun vs H Q E ⟨pn,names,x,e,hn,ln,q⟩=>⟨pn,names.map V.str,x,e,hn,by rw[hA1];exact ln,fun r H' ex r0 h=>q r H' ex r0 (by rw[qS6]at h;exact h)⟩
def qYr:Sp:=fun vs H Q _=>∃(d:Addr) (n:Int) (m:Nat) (p:Addr) (S:List Nat),vs=[.ref d,iV m,.ref p]/\H d=some (.lst [.int n])/\p≠d/\LsN H p S/\S.length<=12/\m<=12/\(∀x∈S,x<2^m) /\
 ∀(T:Addr) (names:List Str) (ms:List Nat) (H':Hp),Dr d H H'->H T=none->qC8 H' T names (ms.map (rowL names))->names.length=m->qNg names->SOk names->ms.length<=16->(∀x∈ms,x<2^m)->(∀y,Spn ms y↔Spn S y)->Q (.ref T) H'
structure TaS(d na mk:Addr)(H H':Hp)(names:List Str)(S ms:List Nat)(m:Nat):Prop where
 dr:Dr d H H'
 md:mk≠d
 m0:H mk=none
 nd:na≠d
 nm:na≠mk
 hn:LsS H' na names
 hm:LsN H' mk ms
 lt:∀x∈ms,x<2^m
 sp:∀y,Spn ms y↔Spn S y
section
variable{d na mk:Addr}{H H1 H2:Hp}{names:List Str}{S ms ms':List Nat}{m:Nat}
theorem TaS.ext(x:TaS d na mk H H1 names S ms m)(e:Ext H1 H2):TaS d na mk H H2 names S ms m:=⟨x.dr.ext e,x.md,x.m0,x.nd,x.nm,e _ _ x.hn,e _ _ x.hm,x.lt,x.sp⟩
theorem TaS.take(x:TaS d na mk H H1 names S ms m)(q:Int):TaS d na mk H (upd H1 d (.lst [.int q])) names S ms m:=⟨x.dr.take q,x.md,x.m0,x.nd,x.nm,by unfold LsS;rw[qAg x.nd];exact x.hn,by unfold LsN;rw[qAg x.md];exact x.hm,x.lt,x.sp⟩
theorem TaS.put(x:TaS d na mk H H1 names S ms m)(lt:∀y∈ms',y<2^m)(sp:∀y,Spn ms' y↔Spn ms y):TaS d na mk H (upd H1 mk (.lst (ms'.map iV))) names S ms' m:=⟨x.dr.over x.m0 x.md _,x.md,x.m0,x.nd,x.nm,by unfold LsS;rw[qAg x.nm];exact x.hn,upd_same,lt,fun y=>(sp y).trans (x.sp y)⟩
end
section
variable{P:Program}{w:World}{K:PySem.W.Frag}{mg:Str->Option Value}{base:Heap}{f f1 f2 f3:Addr}{fd fd1 fd2 fd3:FuncData}
theorem zBg:FnScope ["_law_names_here","_law_mask"] ["_law_names_here","_law_mask"] (qAd qS2):=⟨rfl,rfl,rfl,by decide +kernel,rfl,by decide +kernel,by decide +kernel⟩
theorem qZu(F:Fun K "_law_row" "_law_row" qS2 f fd)(ml:mg "len" = none)(mr:mg "range" = none):FnOk P w K mg base CX0 1 f fd ["_law_names_here","_law_mask"] qH0:=by
 refine F.ok zBg (fun vs H Q E h=>?_) (fun cdv A outer s H vs Q E hr h=>?_)
 ·obtain⟨a,b,_,rfl,_⟩:=h;rfl
 obtain⟨a,ns,x,rfl,ha,h1,q⟩:=h;refine⟨_,qAf (qAv
  (qBo (N:=["_law_names_here","_law_mask"]) (sc:=qAd qS2) (N':=["_law_k","_law_names_here","_law_mask"]) (sub:=[none,some 0,some 1]) rfl rfl (CmpOk.of (by decide +kernel)) rfl
   (qAw rfl mr (qAa (qAn qAo rfl ml hBf (qAa (pv 0) qAb)) qAb))
   (fun C s H fp=>⟨qAh (i:=0) (by show(["_law_k","_law_names_here","_law_mask"]:List Str).Nodup;decide) rfl (Or.inl rfl),qB1 (qAp qDj (qAk qCl (qAk qJc (pv 2) (pv 0)) qAe) qAe (qAx _)),
    qCm (show IxR _ (zBu K) from qC4) (pv 1) (pv 0) (fun _ _=>rfl)⟩))),?_⟩
 try dsimp only[Cx.wish,qCd]
 refine⟨_,rfl,a,_,rfl,.inl (SqL.of ha),_,rfl,by omega,by omega,?_⟩;rw[hB1];refine qCg (lo:=0) (n:=ns.length) (fun i ys H'=>H'=H/\ys=((List.range i).filterMap fun i=>if x.testBit i=true then ns[i]? else none)) ⟨rfl,rfl⟩ ?_ ?_
 ·rintro i ys H' hi ⟨rfl,rfl⟩;rw[show(0+(i:Int))=((i:Nat):Int) by omega];refine⟨Sle.set _ (Sle.refl _) (fun u z=>by cases z),_,rfl,_,rfl,_,_,rfl,rfl,(by show(0:Int)<=_;omega),_,_,rfl,rfl,rfl,_,rfl,?_⟩;have key:(decide (V.int (Builtin.bitAnd ((x:Int) / 2^((i:Nat):Int).toNat) 1)=V.int 1)=true)↔x.testBit i=true:=by
   rw[decide_eq_true_iff,V.int.injEq,hB1,qGg];by_cases b:x.testBit i=true
   ·simp[b]
   ·simp[b]
  have fm:((List.range (i+1)).filterMap fun i=>if x.testBit i=true then ns[i]? else none)=((List.range i).filterMap fun i=>if x.testBit i=true then ns[i]? else none)++(if x.testBit i=true then [ns[i]] else []):=by
   rw[hCc,List.filterMap_append];congr 1;by_cases b:x.testBit i=true
   ·simp[b,hA2 hi]
   ·simp[b]
  have sz:=List.length_filterMap_le (fun i=>if x.testBit i=true then ns[i]? else none) (List.range i);rw[hAp]at sz;refine qDa (fun c=>?_) (fun c=>?_)
  ·have hv:atI ns ((i:Nat):Int)=some ns[i]:=atI_nat (hA2 hi);refine⟨_,rfl,_,rfl,a,_,_,_,rfl,rfl,SqL.of ha,hv,qAj (by omega),nxt hi ⟨rfl,?_⟩⟩;rw[fm,if_pos (key.mp c)]
  ·refine nxt hi ⟨rfl,?_⟩;rw[fm,if_neg fun z=>c (key.mpr z),hBd]
 ·rintro ys H' ⟨rfl,rfl⟩;exact fun r hr'=>q r _ (Ext.new hr' _) hr' upd_same
noncomputable abbrev taN:List Str:=["_law_draw","_law_many","_law_base","_law_names_here","_law_masks","_law_k","_law_one","_law_other","_law_extra","_law_sums","_law_mask","_law_rows"]
theorem qE5:FnScope taN ["_law_draw","_law_many","_law_base"] (qAd zBj):=⟨rfl,rfl,rfl,by decide +kernel,rfl,by decide +kernel,by decide +kernel⟩
theorem qZn(F:Fun K "_law_table" "_law_table" zBj f fd)(G:Cl P w K mg base CX0 1 f1 fd1 ["_law_draw","_law_many"] qGc "_law_take")
  (G2:Cl P w K mg base CX0 2 f2 fd2 ["_law_draw","_law_many"] qO1 "_law_names")
  (G3:Cl P w K mg base CX0 1 f3 fd3 ["_law_names_here","_law_mask"] qH0 "_law_row")
  (mr:mg "range" = none) (ml:mg "len" = none) (mL:mg "list" = none) (mi:mg "int" = none) :
  FnOk P w K mg base CX0 3 f fd ["_law_draw","_law_many","_law_base"] qYr:=by
 refine F.ok qE5 (fun vs H Q E h=>?_) (fun cdv A outer s H vs Q E hr h=>?_)
 ·obtain⟨d,n,m,p,S,rfl,_⟩:=h;rfl
 obtain⟨d,n,m,p,S,rfl,hd,pd,hp,lS,m12,lt,q⟩:=h;have hr1:=hr.mono (j:=1) (by decide);refine⟨_,qAc (qAl (i:=3) qE5.nd rfl (Or.inl rfl) (qAt G2 hr rfl .nil qAs (qAa (pv 0) (qAa (pv 1) qAb))))
  (qAc (qBj (qAl (i:=4) qE5.nd rfl (Or.inl rfl) (qBp qB4 rfl mL qBt (qAa (pv 2) qAb))))
  (qAc (qBj (qA8 PassesOwn.never rfl (qAw rfl mr (qAa (qAk qDi (qAt G hr1 rfl .nil qAs (qAa (pv 0) (qAa qAe qAb))) (qBp qJ3 rfl mi qJ4 (qAa (qE9 qTg (qAn qAo rfl ml hBf (qAa (pv 4) qAb)) qAe (qAx _)) qAb))) qAb)) (qAh (i:=5) qE5.nd rfl (Or.inl rfl))
   (qAc (qAl (i:=6) qE5.nd rfl (Or.inl rfl) (qAt G hr1 rfl .nil qAs (qAa (pv 0) (qAa (qAn qAo rfl ml hBf (qAa (pv 4) qAb)) qAb))))
   (qAc (qAl (i:=7) qE5.nd rfl (Or.inl rfl) (qAk qB9 (qAk qA0 (qAk qA0 (pv 6) qAe) (qAt G hr1 rfl .nil qAs (qAa (pv 0) (qAa (qAk qHh (qAn qAo rfl ml hBf (qAa (pv 4) qAb)) qAe) qAb)))) (qAn qAo rfl ml hBf (qAa (pv 4) qAb))))
   (qAf (qI8 (qAk qDw (qCm qC4 (pv 4) (pv 6) (fun _ _=>rfl)) (qCm qC4 (pv 4) (pv 7) (fun _ _=>rfl))) (qQb (pv 4) (pv 6) qH5)))))))
  (qAc (qAl (i:=8) qE5.nd rfl (Or.inl rfl) (qAt G hr1 rfl .nil qAs (qAa (pv 0) (qAa qAe qAb))))
  (qAc (qBj (qB2 (qAp qDj (qAt G hr1 rfl .nil qAs (qAa (pv 0) (qAa qAe qAb))) qAe (qAx _)) (qAf (qAl (i:=8) qE5.nd rfl (Or.inl rfl) (qAk qHh qAe (qAn qAo rfl ml hBf (qAa (pv 4) qAb))))) qA4))
  (qAc (qBj (qA8 PassesOwn.never rfl (qAw rfl mr (qAa (pv 8) qAb)) (qAh (i:=5) qE5.nd rfl (Or.inl rfl))
   (qAc (qAl (i:=9) qE5.nd rfl (Or.inl rfl) qAe)
   (qAc (qA8 PassesOwn.never rfl (qAq (qF3 qO6 (pv 4) qIc (qIb (qAn qAo rfl ml hBf (qAa (pv 2) qAb))))) (qAh (i:=10) qE5.nd rfl (Or.inl rfl))
    (qAf (qAl (i:=9) qE5.nd rfl (Or.inl rfl) (qAk qDw (pv 9) (qAk qDi (pv 10) (qAt G hr1 rfl .nil qAs (qAa (pv 0) (qAa qAe qAb))))))))
   (qAf (qC3 (qFv hBb hBr hBs qBx (pv 4) (qAa (pv 9) qAb))))))))
  (qAc (qAl (i:=11) qE5.nd rfl (Or.inl rfl) (qA6 qAb))
  (qAc (qIa PassesOwn.never (qAp (qFp (qFo hr)) (pv 4) (qA6 qAb) (qAx _))
   (qAf (qC3 (qFv hBb hBr hBs qBx (pv 11) (qAa (qK0 (row_of G3.g) hr1 rfl G3.m G3.k G3.b .nil qAs (qAa (pv 3) (qAa (qFv hBb PySem.F.slot_list_pop PySem.F.type_list_pop qIg (pv 4) (qAa (qAt G hr1 rfl .nil qAs (qAa (pv 0) (qAa (qAn qAo rfl ml hBf (qAa (pv 4) qAb)) qAb))) qAb)) qAb))) qAb)))))
  (qAf (qAv (qBk (qAa (pv 3) (qAa (pv 11) qAb)))))))))))),?_⟩
 try dsimp only[Cx.wish,qCd]
 refine⟨_,rfl,_,rfl,d,n,(m:Int),rfl,hd,by omega,by omega,fun na names q1 H1 e1 na0 hN lN ndN srt okN=>?_⟩;have D1:Dr d H H1:=Dr.of_upd e1;have nad:na≠d:=qDr hd na0;have lN':names.length=m:=by omega
 have rN:qNg names:=qPt srt ndN;have hp1:LsN H1 p S:=D1.2 _ _ pd hp;refine⟨fun σ' H'=>∃mk,σ'=[some (.ref d),some (iV m),some (.ref p),some (.ref na),some (.ref mk),none,none,none,none,none,none,none]/\TaS d na mk H H' names S S m,?_,?_⟩
 ·refine⟨_,rfl,p,_,rfl,.inl (SqL.of hp1),fun mk hmk=>?_⟩;exact⟨mk,rfl,D1.new hmk _,D1.ne hmk,D1.none hmk,nad,qAi hN hmk,(Ext.new hmk _) _ _ hN,upd_same,lt,fun y=>Iff.rfl⟩
 rintro _ H2 ⟨mk,rfl,T2⟩;have pm:2^m<=2^12:=hBt (by decide) m12;refine⟨fun σ' H'=>∃(ms:List Nat) (x5 x6 x7:Option V),σ'=[some (.ref d),some (iV m),some (.ref p),some (.ref na),some (.ref mk),x5,x6,x7,none,none,none,none]/\TaS d na mk H H' names S ms m/\ms.length=S.length,?_,?_⟩
 ·obtain⟨q2,z2⟩:=T2.dr.1;refine⟨_,rfl,d,q2,7,rfl,z2,by decide,by decide,fun q3 t ta tb=>?_⟩;have T3:=T2.take q3;refine⟨_,rfl,mk,_,rfl,.inl (SqL.of T3.hm),_,_,rfl,rfl,.inr ⟨_,rfl,_,_,rfl,rfl,.inl ⟨by omega,by omega⟩,_,rfl,?_,?_,?_⟩⟩
  ·show -(2^62)<=t*_;split <;> omega
  ·show t*_<2^62;split <;> omega
  refine qBd (lo:=0) (fun i σ H'=>∃(ms:List Nat) (x5 x6 x7:Option V),σ=[some (.ref d),some (iV m),some (.ref p),some (.ref na),some (.ref mk),x5,x6,x7,none,none,none,none]/\TaS d na mk H H' names S ms m/\ms.length=S.length) ⟨S,none,none,none,rfl,T3,rfl⟩ ?_ (fun σ' H' z=>z);rintro i σ H' hi ⟨ms,x5,x6,x7,rfl,T,lm⟩;have l1:1<ms.length:=by
   rw[lm];by_cases c:1<S.length
   ·exact c
   ·exfalso;have cz:decide ((1:Int)<(((S.map iV).length:Nat):Int))=false:=decide_eq_false (by rw[hA1];omega);rw[show(decide ((1:Int)<(((S.map iV).length:Nat):Int)))=false from cz]at hi;simp at hi
  obtain⟨q4,z4⟩:=T.dr.1;refine⟨_,rfl,_,rfl,mk,_,rfl,.inl (SqL.of T.hm),d,q4,_,rfl,z4,by rw[hA1];omega,by rw[hA1];omega,fun q5 one oa ob=>?_⟩;have T5:=T.take q5;rw[hA1]at ob;obtain⟨one,rfl⟩:=hCe oa;refine⟨_,rfl,_,_,rfl,rfl,_,rfl,_,rfl,mk,_,rfl,.inl (SqL.of T5.hm),_,_,rfl,rfl,d,q5,_,rfl,upd_same,?_,?_,fun q6 u ua ub=>?_⟩
  ·show(0:Int)<(((ms.map iV).length:Nat):Int) - 1;rw[hA1];omega
  ·show(((ms.map iV).length:Nat):Int) - 1<1073741824;rw[hA1];omega
  rw[qE1];have T6:=T.take q6;have ub':u<(ms.length:Int) - 1:=by
   have:=ub
   change u<(((ms.map iV).length:Nat):Int) - 1 at this
   rw[hA1]at this;exact this
  refine⟨_,_,rfl,rfl,_,rfl,mk,_,rfl,.inl (SqL.of T6.hm),_,_,rfl,rfl,?_,?_⟩
  ·show(0:Int)<(((ms.map iV).length:Nat):Int);rw[hA1];omega
  have ml0:(0:Int)<(ms.length:Int):=by omega
  obtain⟨oth,eo⟩:=hCe (Int.emod_nonneg ((one:Int)+1+u) (Int.ne_of_gt ml0));have ol:oth<ms.length:=by
   have:=Int.emod_lt_of_pos ((one:Int)+1+u) ml0;omega
  have ne:one≠oth:=by
   intro e;subst e;by_cases c:(one:Int)+1+u<ms.length
   ·rw[Int.emod_eq_of_lt (by omega) c]at eo;omega
   ·rw[<-Int.sub_emod_right,Int.emod_eq_of_lt (by omega) (by omega)]at eo;omega
  have eo':((one:Int)+1+u) % (((ms.map iV).length:Nat):Int)=(oth:Int):=by rw[hA1];exact eo
  have o1:one<ms.length:=by omega
  refine⟨_,rfl,_,rfl,mk,_,_,_,rfl,rfl,SqL.of T6.hm,qUd o1,_,rfl,_,rfl,mk,_,_,_,rfl,rfl,SqL.of T6.hm,(by show atI _ (((one:Int)+1+u) % (((ms.map iV).length:Nat):Int))=_;rw[eo'];exact qUd ol),_,_,rfl,rfl,_,rfl,_,rfl,mk,_,_,one,rfl,rfl,T6.hm,qQ0 (by rw[hA1];exact o1),?_⟩;have ev:(ms.map iV).set one (V.int (Builtin.bitXor ((ms[one]:Nat):Int) ((ms[oth]:Nat):Int)))=(ms.set one (ms[one]^^^ms[oth])).map iV:=by rw[List.map_set,qB3]
  refine⟨ms.set one (ms[one]^^^ms[oth]),_,_,_,rfl,?_,by rw[List.length_set];exact lm⟩;have T7:=T6.put (ms':=ms.set one (ms[one]^^^ms[oth])) (fun y hy=>by
   rcases List.mem_or_eq_of_mem_set hy with h|h
   ·exact T6.lt y h
   ·rw[h];exact hC9 (T6.lt _ (hBn o1)) (T6.lt _ (hBn ol))) (qV1 o1 ol ne)
  rw[<-ev]at T7;exact T7
 rintro _ H3 ⟨ms,x5,x6,x7,rfl,T3,lm⟩;obtain⟨q4,z4⟩:=T3.dr.1;refine⟨_,rfl,d,q4,4,rfl,z4,by decide,by decide,fun q5 ex xa xb=>?_⟩;have T5:=T3.take q5;refine⟨fun σ' H'=>∃(ex:Int),σ'=[some (.ref d),some (iV m),some (.ref p),some (.ref na),some (.ref mk),x5,x6,x7,some (.int ex),none,none,none]/\TaS d na mk H H' names S ms m/\0<=ex/\ex+ms.length<=16,?_,?_⟩
 ·refine⟨_,rfl,d,q5,8,rfl,upd_same,by decide,by decide,fun q6 z za zb=>⟨rfl,_,rfl,?_⟩⟩;rw[qE1];have T6:=T3.take q6;refine qDa (fun c=>?_) (fun c=>⟨ex,rfl,T6,by omega,by omega⟩);refine⟨_,rfl,mk,_,rfl,.inl (SqL.of T6.hm),_,_,rfl,rfl,16 - (((ms.map iV).length:Nat):Int),rfl,T6,?_,?_⟩
  ·rw[hA1];omega
  ·rw[hA1];omega
 rintro _ H6 ⟨ex,rfl,T6,ex0,ex1⟩;refine⟨fun σ' H'=>∃(ms:List Nat) (x5 x9 x10:Option V),σ'=[some (.ref d),some (iV m),some (.ref p),some (.ref na),some (.ref mk),x5,x6,x7,some (.int ex),x9,x10,none]/\TaS d na mk H H' names S ms m/\ms.length<=16,?_,?_⟩
 ·refine⟨_,rfl,ex,rfl,by omega,by omega,?_⟩;refine qBd (lo:=0) (n:=ex.toNat) (fun i σ H'=>∃(ms':List Nat) (x5 x9 x10:Option V),σ=[some (.ref d),some (iV m),some (.ref p),some (.ref na),some (.ref mk),x5,x6,x7,some (.int ex),x9,x10,none]/\TaS d na mk H H' names S ms' m/\ms'.length=ms.length+i) ⟨ms,x5,none,none,rfl,T6,rfl⟩ ?_ ?_
  ·rintro i σ H' hi ⟨ms',y5,x9,x10,rfl,T,lm'⟩;have hpH:LsN H' p S:=T.dr.2 _ _ pd hp;refine⟨_,rfl,_,rfl,p,_,rfl,.inl (SqL.of hpH),_,rfl,mk,_,rfl,SqL.of T.hm,fun l hl=>?_⟩;have cu:cutV (ms'.map iV) none (some (((S.map iV).length:Nat):Int))=(ms'.take S.length).map iV:=by rw[zAn,hA1,hE3]
   rw[cu];have nl:=Ext.new hl (.lst ((ms'.take S.length).map iV));have ld:=T.dr.ne hl;refine⟨l,rfl,⟨_,SqL.of upd_same⟩,?_⟩;refine qBh (xs:=(ms'.take S.length).map iV) (fun j σ H2=>∃(sm:Nat) (x10:Option V),σ=[some (.ref d),some (iV m),some (.ref p),some (.ref na),some (.ref mk),some (.int (0+(i:Int))),x6,x7,some (.int ex),some (iV sm),x10,none]/\TaS d na mk H H2 names S ms' m/\LsN H2 l (ms'.take S.length)/\Spn ms' sm/\sm<2^m) ⟨0,x10,rfl,T.ext nl,upd_same,.zero,hDj (by decide)⟩ (fun j σ H2 _ z=>by obtain⟨_,_,_,_,h,_⟩:=z;exact SqL.of h) ?_ ?_
   ·rintro j v σ H2 hx ⟨sm,x10,rfl,T2,hl2,sp2,sl2⟩;obtain⟨x,rfl,hx'⟩:=qBn hx;have xm:x∈ms':=hCg (hAc hx');have xl:=T2.lt x xm;obtain⟨q7,z7⟩:=T2.dr.1;refine⟨_,rfl,_,rfl,_,rfl,d,q7,2,rfl,z7,by decide,by decide,fun q8 t ta tb=>?_⟩;refine⟨_,_,rfl,rfl,.inl ⟨by omega,by omega⟩,_,_,rfl,rfl,?_⟩;have hl3:LsN (upd H2 d (.lst [.int q8])) l (ms'.take S.length):=by unfold LsN;rw[qAg ld];exact hl2
    by_cases c:t=0
    ·subst c;refine⟨sm,some (iV x),?_,T2.take q8,hl3,sp2,sl2⟩;refine congrArg (fun v=>[some (V.ref d),some (iV m),some (V.ref p),some (V.ref na),some (V.ref mk),some (V.int (0+(i:Int))),x6,x7,some (V.int ex),some v,some (iV x),none]) ?_;show V.int (Builtin.bitXor ((sm:Nat):Int) (((x:Nat):Int)*0))=V.int _;rw[Int.mul_zero,show(0:Int)=((0:Nat):Int) from rfl,qB3,Nat.xor_zero]
    ·have t1:t=1:=by omega
     subst t1;refine⟨sm^^^x,some (iV x),?_,T2.take q8,hl3,sp2.xor (.mem xm),hC9 sl2 xl⟩;refine congrArg (fun v=>[some (V.ref d),some (iV m),some (V.ref p),some (V.ref na),some (V.ref mk),some (V.int (0+(i:Int))),x6,x7,some (V.int ex),some v,some (iV x),none]) ?_;show V.int (Builtin.bitXor ((sm:Nat):Int) (((x:Nat):Int)*1))=V.int _;rw[Int.mul_one,qB3]
   ·rintro σ H2 ⟨sm,x10,rfl,T2,hl2,sp2,sl2⟩;refine⟨_,rfl,.inl ⟨rfl,_,SqL.of T2.hm⟩,_,rfl,mk,_,_,rfl,rfl,T2.hm,by rw[hA1];exact qAj (by omega),ms'++[sm],_,_,_,rfl,?_,by rw[hAj,lm'];rfl⟩;have T9:=T2.put (ms':=ms'++[sm]) (fun y hy=>by
     rcases hAh.mp hy with h|h
     ·exact T2.lt y h
     ·rw[hA5.mp h];exact sl2) (qSp sp2)
    rw[hA4]at T9;exact T9
  ·rintro σ H' ⟨ms',y5,x9,x10,rfl,T,lm'⟩;exact⟨ms',_,_,_,rfl,T,by omega⟩
 rintro _ H7 ⟨ms7,y5,x9,x10,rfl,T7,l7⟩;refine⟨hAs _,fun ro hro=>?_⟩;have nr:=Ext.new hro (.lst []);have T8:=T7.ext nr;have rod:=T7.dr.ne hro;have ro0:=T7.dr.none hro;have rom:mk≠ro:=qAi T7.hm hro;have ron:na≠ro:=qAi T7.hn hro;have R8:upd H7 ro (.lst []) ro=some (.lst []):=upd_same;revert T8 R8;generalize upd H7 ro (.lst [])=H8;intro T8 R8;obtain⟨q8,z8⟩:=T8.dr.1;have ltP:∀(a b:List Nat),(a++b).Perm ms7->∀x∈a,x<2^m:=fun a b pm x hx=>T8.lt x (pm.mem_iff.mp (hAi _ hx))
 refine⟨fun k σ H'=>∃(m1 m2:List Nat),k=m2.length/\σ=[some (.ref d),some (iV m),some (.ref p),some (.ref na),some (.ref mk),y5,x6,x7,some (.int ex),x9,x10,some (.ref ro)]/\Dr d H H'/\LsS H' na names/\LsN H' mk m2/\qR8 H8 H' ro (m1.map (rowL names))/\(m1++m2).Perm ms7/\∀b,H' b=none->H8 b=none,⟨_,[],ms7,rfl,rfl,T8.dr,T8.hn,T8.hm,⟨[],R8,.nil⟩,hCd _,fun _ z=>z⟩,?_⟩;rintro k σ H' ⟨m1,m2,rfl,rfl,dr,hN',hM',⟨as,hR,pr⟩,pm,tr⟩;have lpm:=pm.length_eq;rw[hAj]at lpm;have las:=pr.length;rw[hA1]at las;refine⟨_,rfl,hAs _,fun e0 he0=>?_⟩;have ne:=Ext.new he0 (.lst []);have drE:=dr.ext ne;have hN2:=ne _ _ hN';have hM2:=ne _ _ hM';have hR2:=ne _ _ hR;have pr2:=Paired.mapP (G:=fun a r=>LsS (upd H' e0 (.lst [])) a r/\H8 a=none/\a≠ro) pr fun a r z=>⟨ne _ _ z.1,z.2⟩
 have hE':LsN (upd H' e0 (.lst [])) e0 []:=upd_same;have trE:∀b,upd H' e0 (.lst []) b=none->H8 b=none:=fun b z=>tr b (ne.none z)
 revert drE hN2 hM2 hR2 pr2 hE' trE;generalize upd H' e0 (.lst [])=H1;intro drE hN2 hM2 hR2 pr2 hE' trE;refine⟨qSc m2,qSc [],qN8 hM2,qN8 hE',qCy _,qCy _,_,rfl,?_⟩;rw[if_pos rfl,qLg];refine qDa (fun c=>?_) (fun c=>?_)
 ·have s0:0<m2.length:=by
   cases m2 with
   |nil=>exact absurd c (by decide)
   |cons a r=>exact Nat.succ_pos _
  refine⟨fun σ' H2=>∃k',k'<m2.length/\∃(m1 m2:List Nat),k'=m2.length/\σ'=[some (.ref d),some (iV m),some (.ref p),some (.ref na),some (.ref mk),y5,x6,x7,some (.int ex),x9,x10,some (.ref ro)]/\Dr d H H2/\LsS H2 na names/\LsN H2 mk m2/\qR8 H8 H2 ro (m1.map (rowL names))/\(m1++m2).Perm ms7/\∀b,H2 b=none->H8 b=none,fun σ' H2 z=>z,?_⟩;obtain⟨q0,z0⟩:=drE.1;refine⟨_,rfl,.inl ⟨rfl,_,SqL.of hR2⟩,_,rfl,_,rfl,.inl ⟨rfl,_,SqL.of hM2⟩,_,rfl,_,rfl,mk,_,rfl,.inl (SqL.of hM2),d,q0,_,rfl,z0,by rw[hA1];omega,by rw[hA1];omega,fun q1 j ja jb=>?_⟩;rw[hA1]at jb;obtain⟨j,rfl⟩:=hCe ja;have jl:j<m2.length:=by omega
  have hx:=hA2 jl;have sq:seqIndex? (j:Int) (m2.map iV).length=some j:=by
   have:=PySem.StrLaws.seqIndex_nonneg (i:=(j:Int)) (n:=(m2.map iV).length) (by omega) (by rw[hA1];omega);rw[hB1]at this;exact this
  refine⟨mk,m2.map iV,(j:Int),j,iV m2[j],rfl,rfl,by rw[qAg T8.md];exact hM2,by omega,by omega,sq,by rw[hAk,hx];rfl,?_⟩;have em:(m2.map iV).eraseIdx j=(m2.eraseIdx j).map iV:=by rw[hC0,hC0,hA4,hE3,List.map_drop]
  rw[em];have dr4:=(drE.take q1).over T8.m0 T8.md (.lst ((m2.eraseIdx j).map iV));have hN4:LsS (upd (upd H1 d (.lst [.int q1])) mk (.lst ((m2.eraseIdx j).map iV))) na names:=by unfold LsS;rw[qAg T8.nm,qAg T8.nd];exact hN2
  have hM4:LsN (upd (upd H1 d (.lst [.int q1])) mk (.lst ((m2.eraseIdx j).map iV))) mk (m2.eraseIdx j):=upd_same;have hR4:upd (upd H1 d (.lst [.int q1])) mk (.lst ((m2.eraseIdx j).map iV)) ro=some (.lst (as.map V.ref)):=by rw[qAg (Ne.symm rom),qAg rod];exact hR2
  have pr4:Paired (fun a r=>LsS (upd (upd H1 d (.lst [.int q1])) mk (.lst ((m2.eraseIdx j).map iV))) a r/\H8 a=none/\a≠ro) as (m1.map (rowL names)):=Paired.mapP pr2 fun a r z=>⟨by
   have ad:a≠d:=fun e=>by rw[e,z8]at z;exact absurd z.2.1 (by simp)
   have am:a≠mk:=fun e=>by rw[e,T8.hm]at z;exact absurd z.2.1 (by simp)
   unfold LsS;rw[qAg am,qAg ad];exact z.1,z.2⟩
  have tr4:∀b,upd (upd H1 d (.lst [.int q1])) mk (.lst ((m2.eraseIdx j).map iV)) b=none->H8 b=none:=fun b z=>trE b (by
   have nm:b≠mk:=fun e=>by rw[e,upd_same]at z;cases z
   rw[qAg nm]at z;have nd:b≠d:=fun e=>by rw[e,upd_same]at z;cases z
   rw[qAg nd]at z;exact z)
  revert dr4 hN4 hM4 hR4 pr4 tr4;generalize upd (upd H1 d (.lst [.int q1])) mk (.lst ((m2.eraseIdx j).map iV))=H4;intro dr4 hN4 hM4 hR4 pr4 tr4;refine⟨na,names,m2[j],rfl,hN4,by omega,fun r5 H5 e5 r50 hr5=>?_⟩;have le:(m2.eraseIdx j).length=m2.length - 1:=List.length_eraseIdx_of_lt jl;have r5r:r5≠ro:=fun e=>by rw[e,hR4]at r50;cases r50
  have f8:H8 r5=none:=tr4 r5 r50;refine⟨ro,as.map V.ref,.ref r5,rfl,rfl,e5 _ _ hR4,by rw[hA1,las];exact qAj (by omega),?_⟩;refine⟨_,by omega,m1++[m2[j]],m2.eraseIdx j,rfl,rfl,(dr4.ext e5).over ro0 rod _,by unfold LsS;rw[qAg ron];exact e5 _ _ hN4,by unfold LsN;rw[qAg rom];exact e5 _ _ hM4,⟨as++[r5],by rw[upd_same,hA4];rfl,?_⟩,?_,fun b z=>tr4 b (by
   have nr:b≠ro:=fun e=>by rw[e,upd_same]at z;cases z
   rw[qAg nr]at z;exact e5.none z)⟩
  ·rw[hA4];refine Paired.snoc (Paired.mapP pr4 fun a r z=>⟨by unfold LsS;rw[qAg z.2.2];exact e5 _ _ z.1,z.2⟩) ⟨by unfold LsS;rw[qAg r5r];exact hr5,f8,r5r⟩
  ·refine List.Perm.trans ?_ pm;rw[hBj];exact hCw m1 (qC5 m2 j _ hx)
 ·have sn:m2=[]:=by
   cases m2 with
   |nil=>rfl
   |cons a r=>exact absurd rfl c
  subst sn;rw[hBd]at pm;refine⟨_,rfl,_,rfl,(by show 2<=sizeLine;decide),fun T hT=>?_⟩;have nT:=Ext.new hT (.tup [.ref na,.ref ro]);refine q T names m1 _ (drE.ext nT) (drE.none hT) ⟨na,ro,upd_same,nT _ _ hN2,as,nT _ _ hR2,Paired.mapP pr2 fun a r z=>nT _ _ z.1⟩ lN' rN okN ?_ (ltP m1 [] (by rw[hBd];exact pm)) fun y=>(qCb pm y).trans (T8.sp y)
  rw[pm.length_eq];exact l7
end
end My
namespace L2
open PySem PySem.Spec PyProof.Rows
end L2
namespace My
open PySem L2
theorem qDt{names:List Str}(nd:names.Nodup){x:Nat}:qAu names (rowL names x)=rv names.length x:=hAo fun j=>by
 rw[qA1,qBe];by_cases hj:j<names.length
 ·rw[decide_eq_true hj,hBg,hBg];have hl:names.length - 1 - j<names.length:=by omega
  cases b:x.testBit (names.length - 1 - j) with
  |true=>exact decide_eq_true ⟨names[names.length - 1 - j],hA2 hl,qBg.mpr ⟨_,hl,hA2 hl,b⟩⟩
  |false =>
   refine decide_eq_false ?_;rintro⟨n,hn,hm⟩;obtain⟨i,hi,hin,hb⟩:=qBg.mp hm;have e:i=names.length - 1 - j:=by
    rw[hA2 hl]at hn;rw[hA2 hi]at hin;have:=(hDq nd).mp ((hAt hin).trans (hAt hn).symm);exact this
   rw[e,b]at hb;cases hb
 ·rw[decide_eq_false hj];rfl
def qYz:Sp:=fun vs H Q _=>∃(p p2:Addr) (F G:List (List Str)),vs=[.ref p,.ref p2]/\qDb H p F/\qDb H p2 G/\F.length<=4096/\(∀r∈F,SOk r/\r.length<=100)/\(∀r∈G,SOk r)/\F=G/\∀H',Ext H H'->Q (.bl true) H'
def zDh(K:PySem.W.Frag):List V->Hp->VK->Prop:=fun xs H Q=>∃x t c b,xs=[x,.ty c]/\TyOf K H x t/\PySem.W.kitOne K t (.type c)=some b/\Q (.bl b) H
theorem qRz:bootBuiltins "str" = some (.type "str"):=by decide +kernel
section
variable{P:Program}{w:World}{K:PySem.W.Frag}{mg:Str->Option Value}{base:Heap}{f f1 f2 f3:Addr}{fd fd1 fd2 fd3:FuncData}
noncomputable abbrev goN:List Str:=["_law_found","_law_due","_law_row_here"]
theorem qY9:FnScope goN ["_law_found","_law_due"] (qAd qS4):=⟨rfl,rfl,rfl,by decide +kernel,rfl,by decide +kernel,by decide +kernel⟩
theorem qZz(F:Fun K "_law_rows_good" "_law_rows_good" qS4 f fd)(mi:mg "isinstance" = none)(mL:mg "list" = none)(ms:mg "str" = none):FnOk P w K mg base CX0 1 f fd ["_law_found","_law_due"] qYz:=by
 refine F.ok qY9 (fun vs H Q E h=>?_) (fun cdv A outer s H vs Q E hr h=>?_)
 ·obtain⟨p,p2,F,G,rfl,_⟩:=h;rfl
 obtain⟨p,p2,F,G,rfl,hF,hG,lF,okF,okG,eFG,q⟩:=h;refine⟨_,qAc (qB2 (PW.pt (qWs (qI7 (qHe (qAn qEa rfl mi qEb (qAa (pv 0) (qAa (qK1 (v:=.ty "list") rfl mL qBt rfl) qAb)))))
   (qP0 (qAp (qFp (qFo hr)) (pv 0) (pv 1) (qAx _))))) (qAf (qAv qQc)) qA4)
  (qAc (qA8 PassesOwn.never rfl (qAq (pv 0)) (qAh (i:=2) qY9.nd rfl (Or.inl rfl))
   (qAf (qB2 (PW.pt (qWs (qI7 (qHe (qAn qEa rfl mi qEb (qAa (pv 2) (qAa (qK1 (v:=.ty "list") rfl mL qBt rfl) qAb)))))
    (qP0 (qAp (qFp (qFo hr)) (qBo (N:=goN) (sc:=qAd qS4) (N':=["_law_name"]) (sub:=[none]) rfl rfl (CmpOk.of (by decide +kernel)) rfl (qAq (pv 2))
     (fun C s H fp=>⟨qAh (i:=0) (by show(["_law_name"]:List Str).Nodup;decide) rfl (Or.inl rfl),qB1 (qI7 (qHe (qAn (show qB7 _ (.builtin "isinstance") (zDh K) from qEa) rfl mi qEb (qAa (pv 0) (qAa (qK1 (v:=.ty "str") rfl ms qRz rfl) qAb))))),pv 0⟩)) (qA6 qAb) (qAx _))))) (qAf (qAv qQc)) qA4)))
  (qAf (qAv qQc))),?_⟩
 try dsimp only[Cx.wish,qCd]
 subst eFG;obtain⟨as,hp,pr⟩:=id hF;have la:=pr.length;refine⟨_,rfl,_,_,_,true,rfl,.lst hp,kit_same _ _,true,rfl,iteF ?_⟩;refine⟨_,rfl,_,rfl,qNu F,qNu F,qRg hF,qRg hG,qGh okG,qGh okG,_,rfl,?_⟩;rw[if_pos rfl,qT3,decide_eq_true rfl];refine iteF ?_;refine⟨_,rfl,p,rfl,⟨_,SqL.of hp⟩,?_⟩;refine qBh (xs:=as.map V.ref) (fun i σ H'=>∃x2:Option V,σ=[some (.ref p),some (.ref p2),x2]/\Ext H H') ⟨none,rfl,Ext.refl _⟩ (fun i σ H' _ z=>by obtain⟨_,_,e⟩:=z;exact SqL.of (e _ _ hp)) ?_ ?_
 ·rintro i v σ H' hx ⟨x2,rfl,e⟩;obtain⟨c,rfl,hc⟩:=qE8 hx;obtain⟨rw1,hrw,hc1⟩:=qBm pr hc;have ok1:=okF rw1 (hAc hrw);refine⟨_,rfl,_,_,_,true,rfl,.lst (e _ _ hc1),kit_same _ _,true,rfl,iteF ?_⟩;refine⟨_,rfl,c,rfl,⟨_,SqL.of (e _ _ hc1)⟩,?_⟩;refine qAr (xs:=rw1.map V.str) (fun j ys H2=>H2=H'/\ys=[]) ⟨rfl,rfl⟩ (fun j ys H2 _ h=>by rw[h.1];exact SqL.of (e _ _ hc1)) ?_ ?_
  ·rintro j v ys H2 hx2 ⟨rfl,rfl⟩;obtain⟨y,rfl,hy⟩:=qDz hx2;exact⟨Sle.set _ (Sle.refl _) (fun u z=>by cases z),_,rfl,_,_,_,true,rfl,.str y,kit_same _ _,true,rfl,iteF (nxt (at_lt hx2) ⟨rfl,rfl⟩)⟩
  ·rintro ys H2 ⟨rfl,rfl⟩ l hl;have n1:=Ext.new hl (.lst []);refine⟨hAs _,fun l2 hl2=>?_⟩;have n2:=Ext.new hl2 (.lst []);refine⟨qSc [],qSc [],qN8 (n2 _ _ upd_same),qN8 upd_same,qCy _,qCy _,_,rfl,?_⟩;rw[if_pos rfl,qLg,decide_eq_true rfl];exact iteF ⟨_,rfl,(e.trans n1).trans n2⟩
 ·rintro σ H' ⟨x2,rfl,e⟩;exact q H' e
end
theorem qNb(m x y:Nat):dot m x y=dot m y x:=qBs fun j _=>Bool.and_comm _ _
theorem qJv(m x y:Nat):dot m (rv m x) (rv m y)=dot m x y:=by
 unfold dot;rw[<-qLp (fun j=>x.testBit j && y.testBit j) m];refine qBs fun j hj=>?_
 rw[qBe,qBe,decide_eq_true hj,hBg,hBg]
theorem dd{S:List Nat}{m:Nat}(h:RR S)(hm:∀s∈S,s<2^m){y:Nat}(hy:y<2^m)(ho:∀z∈crAll S m,dot m y z=false):Spn S y:=by
 have sp:=qF1 S S (fun s hs=>hs) y;have lead:=fun s hs=>qEk h (x:=y) s hs
 have lt:red1 S y<2^m:=by
  have:=Spn.lt hm sp;have e:red1 S y=(red1 S y^^^y)^^^y:=(qBb _ _).symm;rw[e];exact hC9 this hy
 have ort:∀p,p<m->¬isLd S p->dot m (red1 S y) (crM S p)=false:=fun p hp np=>by
  have e:red1 S y=(red1 S y^^^y)^^^y:=(qBb _ _).symm;rw[e,qF8,ho _ (hA3.mpr ⟨p,hAb.mpr ⟨hAf.mpr hp,by rw[decide_eq_false np];rfl⟩,rfl⟩),Bool.xor_false];refine qHy (fun s hs=>?_) sp;rw[qNb];exact qLj h hm hp np s hs
 have z:red1 S y=0:=hAo fun p=>by
  rw[hB6];by_cases hp:p<m
  ·by_cases np:isLd S p
   ·obtain⟨s,hs,rfl⟩:=np;exact lead s hs
   ·have:=ort p hp np;have bit:(crM S p).testBit p=true:=by
     rw[qGz h np,decide_eq_true rfl,decide_eq_false]
     ·rfl
     ·rintro⟨s,hs,_,e⟩;exact np ⟨s,hs,e⟩
    rw[qIp hp bit fun j hj nj=>?_]at this
    ·exact this
    ·rw[qGz h np,decide_eq_false (Ne.symm nj),Bool.false_xor];by_cases c:∃s∈S,s.testBit p=true/\s.log2=j
     ·obtain⟨s,hs,_,rfl⟩:=c;rw[lead s hs];rfl
     ·rw[decide_eq_false c,Bool.and_false]
  ·exact qDc lt (Nat.le_of_not_lt hp)
 have:y=red1 S y^^^y:=by rw[z,hDy]
 rw[this];exact sp
section
variable{m:Nat}{S:List Nat}
theorem nld(g:Gm m S){p:Nat}(hp:p<m):isLd (S.map (rv m)) (m - 1 - p)↔p∈S.map lo:=by
 constructor
 ·rintro⟨s',hs',e⟩;obtain⟨s,hs,rfl⟩:=hA3.mp hs';rw[qDd (g s hs).1 (g s hs).2]at e;have:=qJg (g s hs).1 (g s hs).2;exact hA3.mpr ⟨s,hs,by omega⟩
 ·intro z;obtain⟨s,hs,rfl⟩:=hA3.mp z;exact⟨rv m s,hA3.mpr ⟨s,hs,rfl⟩,qDd (g s hs).1 (g s hs).2⟩
theorem qVk(h:Stp m S){p:Nat}(hp:p<m)(np:p∉S.map lo):rv m (qLk S p)=crM (S.map (rv m)) (m - 1 - p):=hAo fun j=>by
 have g:=h.gm;have np':¬isLd (S.map (rv m)) (m - 1 - p):=fun z=>np ((nld g hp).mp z)
 rw[qGz h.rr np',qBe,qF9,qCi _ (qNc h.nd np)];have key:∀hj:j<m,(m - 1 - j∈(S.filter fun s:Nat=>s.testBit p).map lo)↔∃s∈S.map (rv m),s.testBit (m - 1 - p)=true/\s.log2=j:=fun hj=>by
  constructor
  ·intro z;obtain⟨s,hs,e⟩:=hA3.mp z;obtain⟨hs,hb⟩:=hAb.mp hs;refine⟨rv m s,hA3.mpr ⟨s,hs,rfl⟩,?_,?_⟩
   ·rw[qBe,decide_eq_true (by omega),show m - 1 - (m - 1 - p)=p by omega];exact hb
   ·rw[qDd (g s hs).1 (g s hs).2];omega
  ·rintro⟨s',hs',hb,e⟩;obtain⟨s,hs,rfl⟩:=hA3.mp hs';rw[qBe,decide_eq_true (by omega),show m - 1 - (m - 1 - p)=p by omega,hBg]at hb;rw[qDd (g s hs).1 (g s hs).2]at e;have:=qJg (g s hs).1 (g s hs).2;exact hA3.mpr ⟨s,hAb.mpr ⟨hs,hb⟩,by omega⟩
 by_cases hj:j<m
 ·rw[decide_eq_true hj,hBg];by_cases e:m - 1 - p=j
  ·rw[decide_eq_true e,decide_eq_true (hAg.mpr (.inl (by omega)))];rw[decide_eq_false]
   ·rfl
   ·rintro⟨s',hs',_,e'⟩;exact np' ⟨s',hs',e'.trans e.symm⟩
  ·rw[decide_eq_false e,Bool.false_xor];refine decide_eq_decide.mpr ?_;rw[hAg];constructor
   ·rintro(z|z)
    ·exact absurd (by omega:m - 1 - p=j) e
    ·exact(key hj).mp z
   ·exact fun z=>.inr ((key hj).mpr z)
 ·rw[decide_eq_false hj,Bool.false_and,decide_eq_false (by omega),decide_eq_false]
  ·rfl
  ·rintro⟨s',hs',_,e⟩;obtain⟨s,hs,rfl⟩:=hA3.mp hs';rw[qDd (g s hs).1 (g s hs).2]at e;have:=qJg (g s hs).1 (g s hs).2;omega
theorem qXu(h:Stp m S)(y:Nat):Spn ((crLA S m).map (rv m)) y↔Spn (crAll (S.map (rv m)) m) y:=qEd (fun z hz=>by
 obtain⟨x,hx,rfl⟩:=hA3.mp hz;obtain⟨p,hp,rfl⟩:=hA3.mp hx;obtain⟨h1,h2⟩:=hAb.mp hp;have hp':=hAf.mp h1;have np:p∉S.map lo:=by simpa using h2
 rw[qVk h hp' np];exact .mem (hA3.mpr ⟨m - 1 - p,hAb.mpr ⟨hAf.mpr (by omega),by rw[decide_eq_false fun z=>np ((nld h.gm hp').mp z)];rfl⟩,rfl⟩)) (fun z hz=>by
 obtain⟨q,hq,rfl⟩:=hA3.mp hz;obtain⟨h1,h2⟩:=hAb.mp hq;have hq':=hAf.mp h1;have nq:¬isLd (S.map (rv m)) q:=by simpa using h2
 have eq:q=m - 1 - (m - 1 - q):=by omega
 have np:m - 1 - q∉S.map lo:=fun z=>nq (by rw[eq];exact(nld h.gm (by omega)).mpr z)
 rw[eq,<-qVk h (by omega) np];exact .mem (hA3.mpr ⟨_,hA3.mpr ⟨m - 1 - q,hAb.mpr ⟨hAf.mpr (by omega),by rw[decide_eq_false np];rfl⟩,rfl⟩,rfl⟩)) y
structure Crs(m:Nat)(S R:List Nat):Prop where
 st:Stp m R
 i:∀y,Spn R y↔y<2^m/\∀s∈S,dot m y s=false
 ii:∀y,Spn S y↔y<2^m/\∀s∈R,dot m y s=false
theorem crs(h:Stp m S){R:List Nat}(p:R.Perm (redL (crLA S m)))(o:R.Pairwise fun a b=>lo a<=lo b):Crs m S R:=by
 have xl:=qIq h.gm h.nd;have st:Stp m R:=⟨_,xl,p,o⟩;obtain⟨_,e⟩:=qCp (m:=m) (crLA S m) xl;have sl:∀s∈S.map (rv m),s<2^m:=fun s hs=>by obtain⟨x,_,rfl⟩:=hA3.mp hs;exact qG6 _ _
 have base:∀y,Spn (R.map (rv m)) y↔Spn (crAll (S.map (rv m)) m) y:=fun y=>by
  rw[qCb (p.map (rv m)),e,qCj,qXu h]
 have i:∀y,Spn R y↔y<2^m/\∀s∈S,dot m y s=false:=fun y=>by
  constructor
  ·intro sy;have yl:=Spn.lt st.lt sy;refine⟨yl,fun s hs=>?_⟩;have:=(qJw h.rr sl (rv m y)).mp ((base _).mp ((qA3 st.lt yl).mpr sy));rw[<-qJv];exact this.2 _ (hA3.mpr ⟨s,hs,rfl⟩)
  ·rintro⟨yl,ho⟩;refine(qA3 st.lt yl).mp ((base _).mpr ((qJw h.rr sl (rv m y)).mpr ⟨qG6 _ _,fun s hs=>?_⟩));obtain⟨x,hx,rfl⟩:=hA3.mp hs;rw[qJv];exact ho x hx
 refine⟨st,i,fun y=>⟨fun sy=>?_,fun ⟨yl,ho⟩=>?_⟩⟩
 ·refine⟨Spn.lt h.lt sy,fun r hr=>?_⟩;rw[qNb];exact qBz (((i r).mp (.mem hr)).2) sy
 ·refine(qA3 h.lt yl).mp (dd h.rr sl (qG6 _ _) fun z hz=>?_);have sz:Spn (R.map (rv m)) z:=(base z).mpr (.mem hz);obtain⟨zl,sz'⟩:=(qOv st.lt z).mp sz;rw[<-qC2 zl,qJv];exact qBz ho sz'
end
theorem qLf:∀(n:Nat) (L:List Nat),L.Nodup->(∀x∈L,x<n)->((List.range n).filter fun p=>!decide (p∈L)).length+L.length=n:=by
 intro n L nd lt;have h1:((List.range n).filter fun p=>decide (p∈L)).length=L.length:=by
  have p:((List.range n).filter fun p=>decide (p∈L)).Perm L:=(hCp (hC5.filter _) nd).mpr fun x=>by
   rw[hAb,hAf];constructor
   ·rintro⟨_,h⟩;exact of_decide_eq_true h
   ·exact fun h=>⟨lt x h,decide_eq_true h⟩
  exact p.length_eq
 have h2:∀l:List Nat,(l.filter fun p=>!decide (p∈L)).length+(l.filter fun p=>decide (p∈L)).length=l.length:=by
  intro l
  induction l with
  |nil=>rfl
  |cons a l ih =>
   by_cases c:a∈L
   ·rw[hD5 (by rw[decide_eq_true c];decide),hD6 (by rw[decide_eq_true c]),hBc,hBc];omega
   ·rw[hD6 (by rw[decide_eq_false c];rfl),hD5 (by rw[decide_eq_false c];decide),hBc,hBc];omega
 have:=h2 (List.range n);rw[hAp]at this;omega
theorem qXt{m:Nat}{S R:List Nat}(h:Stp m S)(p:R.Perm (redL (crLA S m))):S.length+R.length=m:=by
 have xl:=qIq h.gm h.nd;obtain⟨_,e⟩:=qCp (m:=m) (crLA S m) xl;have l1:(redL (crLA S m)).length=(crLA S m).length:=by
  have:=congrArg List.length e;rw[hA1]at this;rw[this,qWn]
  ·rw[hA1]
  ·intro i x hx;rw[hAk]at hx;cases q:(crLA S m)[i]? with
   |none=>rw[q]at hx;cases hx
   |some c =>
    rw[q]at hx;have ex:rv m c=x:=hAt hx;unfold crLA at q;rw[hAk]at q;cases q2:((List.range m).filter fun p=>!decide (p∈S.map lo))[i]? with
    |none=>rw[q2]at q;cases q
    |some pp =>
     rw[q2]at q;have ec:qLk S pp=c:=hAt q;obtain⟨h1,h2⟩:=hAb.mp (hAc q2);have hp:=hAf.mp h1;have np:pp∉S.map lo:=by simpa using h2
     refine⟨m - 1 - pp,?_,fun y hy=>?_⟩
     ·rw[<-ex,<-ec,qBe,decide_eq_true (by omega),show m - 1 - (m - 1 - pp)=pp by omega,qF9,qCi _ (qNc h.nd np),decide_eq_true hA9];rfl
     ·rw[<-hE3]at hy;obtain⟨c2,hc2,rfl⟩:=hA3.mp hy;unfold crLA at hc2;rw[<-hE3]at hc2;obtain⟨p2,hp2,rfl⟩:=hA3.mp hc2;obtain⟨k1,k2⟩:=hAb.mp (hCg hp2);have np2:p2∉S.map lo:=by simpa using k2
      have ne:p2≠pp:=fun e2=>by
       subst e2;have nd:((List.range m).filter fun p=>!decide (p∈S.map lo)).Nodup:=hC5.filter _;obtain⟨k,hk,ek⟩:=hBy hp2;rw[hAl]at hk;rw[hE4]at ek;obtain⟨hi,ei⟩:=hAq.mp q2;have:=(hDq nd).mp (ek.trans ei.symm);omega
      rw[qBe,decide_eq_true (by omega),show m - 1 - (m - 1 - pp)=pp by omega,qF9,qCi _ (qNc h.nd np2),decide_eq_false]
      ·rfl
      ·intro z;rcases hAg.mp z with z|z
       ·exact ne z.symm
       ·obtain⟨s,hs,es⟩:=hA3.mp z;exact np (hA3.mpr ⟨s,(hAb.mp hs).1,es⟩)
 have l2:(crLA S m).length+S.length=m:=by
  unfold crLA;rw[hA1];have:=qLf m (S.map lo) h.nd fun x hx=>by
   obtain⟨s,hs,rfl⟩:=hA3.mp hx;exact qJg (h.gm s hs).1 (h.gm s hs).2
  rw[hA1]at this;exact this
 rw[p.length_eq,l1];omega
end My
namespace L2
open PySem PySem.Spec PyProof.Rows
theorem qWj{P:Program}{w:World}{K:PySem.W.Frag}{mg:Str->Option Value}{base:Heap}{A:Around}{outer:List Env}{s:Shared}{H:Hp}{Q:VK}{f c':Addr}{scope:Scope}{name qual:Str}{params:Arguments}{body:Expr}{x:Str}{pm ctv:Value}{v:V}{u:Value}{t:TE}{k:Nat}
  (hr:Room k A) (e0:Env0 P w K mg base A outer s H) (ho:s.heap.get? f=some (PySem.W.kla_obj name qual params body scope [] pm c' ctv)) (hcd:s.heap.CodeRec (.ref c') qual) (S:FnScope [x] [x] scope)
  (hb:bindArgs (PySem.W.kla_fn name qual params body scope [] pm (.ref c') ctv) ⟨[u],[]⟩=pure [(x,u)]) (r:qBq v u)
  (ht:PE (qCd CX0 P w K mg base [x] qual scope f (.ref c') A outer s H E0) body t) (hq:t (qFt [x] [v]) H Q) :
  codeAny (model P w) A (.call (.ref f) ⟨[u],[]⟩) (CR CX0 outer P w H s Q E0) s:=by
 have lim:s.heap.NoLimit:=e0.mod.nolimit.keeps fun b o e=>(e0.bs b o e).1
 refine PySem.W.kla_callFunE hr.depth ho rfl S.co S.gen rfl hcd ?_;rw[hb];have hkind:∀y∈[(x,u)],scope.names.lookup y.1=some .local\/(scope.names.lookup y.1=some .cell/\((cellsFrom (s.heap.objs.size+1) scope.names []).lookup y.1).isSome=true):=fun y hy=>by
  rw[hA5]at hy;subst hy;rcases S.par x hA9 with q|q
  ·exact .inl q
  ·exact .inr ⟨q,hDu _ _ _ (.inl q)⟩
 refine wpAny_pure (wpAny_newFunctionEnv_cells S.kind hkind fun env he s1 y=>?_);subst he;refine⟨lim.keeps y.toInCall.keep,PySem.W.kla_codeExpr ?_⟩;have I:Inv (qCd CX0 P w K mg base [x] qual scope f (.ref c') A outer s H E0) [] (qFt [x] [v]) H s1:=qJr S hr.hd e0 rfl (.cons r .nil) y;refine wpAny_mono (ht [] s1 (qFt [x] [v]) H Q I hq) (fun u' s' ⟨v',H',J,rv,q⟩=>⟨v',H',J.os,J.bare,J.base,J.hok,rv,q⟩) fun e s' hs=>hs
def ExtB(P:Addr)(H H':Hp):Prop:=∀b o,b≠P->H b=some o->H' b=some o
section
variable{X:Cx}{pins:List (Addr×Obj)}{σ:St}{H:Hp}{s:Shared}
theorem Inv.grown(I:Inv X pins σ H s)(hP:H P=some (.tbl ps))(hx:Heap.ExtBut P s.heap h')(hg:h'.get? P=some { cls:=.none,data:=.fields (ps++more) }) :
  Inv X pins σ (upd H P (.tbl (ps++more))) { s with heap:=h',toks:=tk }:=by
 have ne:∀b,H b=none->b≠P:=fun b n z=>by rw[z,hP]at n;cases n
 refine I.step (g':=s.gens) (d':=s.drawn) (ch:=[]) (fun _ z=>nomatch z) (fun b o _ _ _ e n=>hx b o (ne b n) e) (fun b o _ _ _ e n=>⟨o.slots,hx b o (ne b n) e⟩) (fun b o _ e n=>by rw[qAg (ne b n)];exact n) (fun b o _ e=>?_)
  (fun b xs q=>?_) (fun b o u q=>?_) (fun b qs q=>?_) (fun m hm=>hm.extBut hx (ne _ I.free)) (fun b u q=>?_) I.bare
 ·by_cases hb:b=P
  ·rw[hb];exact⟨_,hg⟩
  ·exact⟨o,hx b o hb e⟩
 ·have:b≠P:=fun z=>by rw[z,hP]at q;cases q
  rw[qAg this];exact q
 ·have:b≠P:=fun z=>by rw[z,hP]at q;cases q
  rw[qAg this];exact q
 ·by_cases hb:b=P
  ·subst hb;rw[hP]at q;cases q;exact⟨more,upd_same⟩
  ·exact⟨#[],by rw[qAg hb,q];simp⟩
 ·by_cases hb:b=P
  ·subst hb;rw[upd_same]at q;cases q;exact hg
  ·rw[qAg hb]at q;refine(I.hok b u q).stay (fun c v hc r=>hx c v ?_ r) (fun c r=>?_) fun c xs r=>?_
   ·rcases hc with rfl|hc
    ·exact hb
    ·intro z;rw[z,hP]at hc;cases hc
   ·have:c≠P:=fun z=>by rw[z,hP]at r;cases r
    rw[qAg this];exact r
   ·have:c≠P:=fun z=>by rw[z,hP]at r;cases r
    rw[qAg this];exact r
end
structure LamAt(X:Cx)(c P:Addr):Prop where
 code:X.env.code = .ref c
 hd:PySem.W.CodeHd X.base c P
 bl:X.base.BuiltinsAt X.mg P
def zCj(T:Addr)(H:Hp):Prop:=∀b,b≠T->H b=none\/∃o xs,H b=some (.frz o (.lst xs))
theorem qU4:∀ {l:List (Addr×β)} {a:Addr} {b:β},l.lookup a=some b->(a,b)∈l
 |[],_,_,h=>by cases h
 |(k,v) :: l,a,b,h=>by
  rw[hCz]at h;by_cases e:(a == k)=true
  ·rw[e]at h;cases h;rw[beq_iff_eq.mp e];exact hA9
  ·rw[Bool.not_eq_true]at e;rw[e]at h;exact hA8 _ (qU4 h)
theorem zB3{K:PySem.W.Frag}{h:Heap}{T:Addr}{ps:Array Value}(X:K.In h)(n:PySem.W.noTabs K=true)(e:h.get? T=some (PySem.W.tabObj ps)):K.lookup T=none:=by
 cases q:K.lookup T with
 |none=>rfl
 |some o =>
  have e2:=X T o q;rw[e]at e2;cases e2;have m:=qU4 q;have:=hD0.mp n _ m;cases this
theorem qQr{P:Program}{w:World}{K:PySem.W.Frag}{mg mb:Str->Option Value}{CX:CXT}{k:Nat}{fa a c T:Addr}{fd:FuncData}{x:Str}{sp:Sp}{s₁:Shared}{vs:List Value}{ns:List Int}
  (KX:K.In s₁.heap) (hns:s₁.heap.Ns mainGlobals mg) (hb:s₁.heap.Ns builtinsNs mb) (hbb:∀x:Str,x≠"__name__"->mb x=bootBuiltins x) (hlim:s₁.heap.NoLimit) (hg:s₁.gens=#[])
  (ha:s₁.heap.get? a=some { cls:=.type "list",data:=.seq vs.toArray }) (hi:IntsAre vs ns) (hl:ns.length<=sizeLine) (hr:Room k callerA)
  (hC:PySem.W.CodeHd s₁.heap c T) (hT:s₁.heap.get? T=some (PySem.W.tabObj #[])) (hnt:PySem.W.noTabs K=true) (hB:s₁.heap.BuiltinsAt mg T)
  (F:∀base:Heap,K.In base->base.Ns mainGlobals mg->PySem.W.CodeHd base c T->base.BuiltinsAt mg T->FnOk P w K mg base CX k fa fd [x] sp) (hbind:∀(s:Shared) (u:Value),BindsTo s fd ⟨[u],[]⟩ [(x,u)])
  (hsp:∀H:Hp,H T=some (.tbl #[])->SqL K H a (ns.map V.int)->sp [.ref a] H (fun v _=>v = .bl true) fun _ _ _=>False)
  (hCX:∀H e s',CX [] H s₁ (fun _ _ _=>False) e s'->False) :
  codeAny (model P w) callerA (.call (.ref fa) ⟨[.ref a],[]⟩) (fun r s'=>r = .ok (.ret (.bool true))/\OldK s₁.heap s'.heap/\s'.os=s₁.os/\AllBare s'.gens) s₁:=by
 have rv:=qGb hi;have lenV:=hi.length;have hKT:=zB3 KX hnt hT;have aT:a≠T:=fun z=>by rw[z,hT]at ha;cases ha
 have core:∀H:Hp,zCj T H->H T=some (.tbl #[])->SqL K H a (ns.map V.int)->HOk P w H s₁.heap->(∀b,H b≠none->b=a\/b=T)->(H a≠none->K.lookup a=none) ->
   codeAny (model P w) callerA (.call (.ref fa) ⟨[.ref a],[]⟩) (fun r s'=>r = .ok (.ret (.bool true))/\OldK s₁.heap s'.heap/\s'.os=s₁.os/\AllBare s'.gens) s₁:=by
  intro H hO hHT hS hok hA hK;have base_of:∀ {b:Addr} {o:Obj},s₁.heap.get? b=some o->H b=none->(qQ5 s₁.heap H).get? b=some o:=fun e n=>qT0 e n
  have noA:∀ {b:Addr} {o:Obj},s₁.heap.get? b=some o->(∀vs n,o.data≠.seq vs n)->o≠PySem.W.tabObj #[]->H b=none:=fun {b o} e d1 d2=>by
   cases q:H b with
   |none=>rfl
   |some u =>
    rcases hA b (by rw[q];simp) with e'|e'
    ·subst e';rw[ha]at e;cases e;exact absurd rfl (d1 _ _)
    ·subst e';rw[hT]at e;exact absurd (hAt e).symm d2
  have nsK:∀ {b:Addr} {m:Str->Option Value},s₁.heap.Ns b m->(qQ5 s₁.heap H).Ns b m:=fun {b m} ⟨o,es,ep,e,d,r⟩=>⟨o,es,ep,base_of e (noA e (fun _ _ z=>by rw[d]at z;cases z) (fun z=>by rw[z]at d;cases d)),d,r⟩
  have hKb:K.In (qQ5 s₁.heap H):=fun b o e=>base_of (KX b o e) (by
   cases q:H b with
   |none=>rfl
   |some u =>
    rcases hA b (by rw[q];simp) with e'|e'
    ·subst e';rw[hK (by rw[q];simp)]at e;cases e
    ·subst e';rw[hKT]at e;cases e)
  have hM:Mod K mg (qQ5 s₁.heap H):=⟨hKb,nsK hns,⟨mb,nsK hb,hbb⟩,let ⟨mc,h1,h2⟩:=hlim;⟨mc,nsK h1,h2⟩⟩;have hC':PySem.W.CodeHd (qQ5 s₁.heap H) c T:=by
   obtain⟨o,vs',file,tf,flags,tg,inF,text,tt,e1,e2,e3,r⟩:=hC;refine⟨o,vs',file,tf,flags,tg,inF,text,tt,base_of e1 (noA e1 (fun _ _ z=>by rw[e3]at z;cases z) (fun z=>by rw[z]at e2;cases e2)),e2,e3,r⟩
  have hB':(qQ5 s₁.heap H).BuiltinsAt mg T:=by
   obtain⟨bm,ob,b1,b2,b3,b4,b5,b6,b7,b8⟩:=hB;exact⟨bm,ob,b1,b2,b3,b4,base_of b5 (noA b5 (fun _ _ z=>by rw[b8]at z;cases z) (fun z=>by rw[z]at b8;cases b8)),b6,b7,b8⟩
  have e0:Env0 P w K mg (qQ5 s₁.heap H) callerA [] s₁ H:=⟨rfl,hM,fun b o e=>qXa e,Nat.le_of_eq (qQ4 _ _),trivial,fun b hb=>absurd (show b∈([]:List Addr) from hb) (by simp),hok,.of_eq hg⟩;refine codeAny_mono ((F _ hKb (nsK hns) hC' hB').run callerA [] s₁ H ⟨[.ref a],[]⟩ [.ref a] [.ref a] _ _ hr e0 (hbind s₁ (.ref a)) (.cons rfl .nil) (hsp H hHT hS)) fun r s' h=>?_
  cases r with
  |error e=>exact(hCX H e s' h).elim
  |ok fl =>
   cases fl with
   |next=>exact False.elim h
   |brk=>exact False.elim h
   |cont=>exact False.elim h
   |ret u =>
    obtain⟨v,H',os,bare,un,hok',r',q⟩:=h;have q':v = .bl true:=q;subst q';obtain rfl:u=Value.bool true:=r';obtain⟨more,hmT⟩:=un.tbls T _ hHT;have hTs:s'.heap.get? T=some { cls:=.none,data:=.fields (#[]++more) }:=hok' T _ hmT;refine⟨rfl,⟨fun b o e=>?_,fun b o e=>?_⟩,os,bare⟩
    ·by_cases hbT:b=T
     ·subst hbT;rw[hT]at e;cases e;exact .inr (.inl ⟨(hC.tab hT).isCodeTable,rfl,#[],more,rfl,hTs⟩)
     ·refine .inl ?_;cases q:H b with
      |none=>exact un.keep b o e q (by intro z;exact absurd (show b∈([]:List Addr) from z) (by simp)) (by simp)
      |some u =>
       rcases hO b hbT with z|⟨ob,xs,z⟩
       ·rw[q]at z;cases z
       ·have z2:=un.frzs b ob _ z;obtain⟨e1,_⟩:=hok b _ z;obtain⟨e2,_⟩:=hok' b _ z2;rw[e]at e1;cases e1;exact e2
    ·by_cases hbT:b=T
     ·rw[hbT];exact⟨_,hTs⟩
     ·cases q:H b with
      |none=>exact⟨o,un.keep b o e q (by intro z;exact absurd (show b∈([]:List Addr) from z) (by simp)) (by simp)⟩
      |some u =>
       rcases hO b hbT with z|⟨ob,xs,z⟩
       ·rw[q]at z;cases z
       ·obtain⟨e2,_⟩:=hok' b _ (un.frzs b ob _ z);exact⟨_,e2⟩
 have tOk:∀H:Hp,qBr P w H s₁.heap T (.tbl #[]):=fun _=>hT
 cases hk:K.lookup a with
 |some o =>
  have e:=KX a o hk;rw[ha]at e;cases e;refine core (fun b=>if b=T then some (.tbl #[]) else none) (fun b hb=>.inl (if_neg hb)) (if_pos rfl) (.inr ⟨_,vs.toArray,_,hk,rfl,rfl,rfl,by rw[hAd,lenV];exact hl,by simpa using rv⟩) (fun b u z=>?_) (fun b z=>?_) (fun z=>absurd (if_neg aT) z)
  ·by_cases hb:b=T
   ·have z':=(if_pos hb).symm.trans z;cases z';subst hb;exact tOk _
   ·have z':=(if_neg hb).symm.trans z;cases z'
  ·by_cases hb:b=T
   ·exact .inr hb
   ·exact absurd (if_neg hb) z
 |none =>
  refine core (fun b=>if b=T then some (.tbl #[]) else if b=a then some (.frz { cls:=.type "list",data:=.seq vs.toArray } (.lst (ns.map V.int))) else none) (fun b hbT=>?_) (if_pos rfl) (.inl (.inr ⟨{ cls:=.type "list",data:=.seq vs.toArray },(if_neg aT).trans (if_pos rfl)⟩)) (fun b u z=>?_) (fun b z=>?_) fun _=>hk
  ·by_cases hb:b=a
   ·exact .inr ⟨_,_,(if_neg hbT).trans (if_pos hb)⟩
   ·exact .inl ((if_neg hbT).trans (if_neg hb))
  ·by_cases hbT:b=T
   ·have z':=(if_pos hbT).symm.trans z;cases z';subst hbT;exact tOk _
   ·have z:=(if_neg hbT).symm.trans z;by_cases hb:b=a
    ·have z':=(if_pos hb).symm.trans z;cases z';subst hb;exact⟨ha,by rw[hA1];exact hl,vs,_,rv,ha⟩
    ·have z':=(if_neg hb).symm.trans z;cases z'
  ·by_cases hbT:b=T
   ·exact .inr hbT
   ·by_cases hb:b=a
    ·exact .inl hb
    ·exact absurd ((if_neg hbT).trans (if_neg hb)) z
theorem walk_ofT{l:PySem.W.OpenLaw}{n k:Nat}{q:Program}{loose:List Str}{XP:(Str->Option Value)->Heap->Prop}{YP:World->Heap->Prop}{d dr:DefRec}{K:Params->PySem.W.Frag}{CX:World->CXT}{sp:World->Addr->Sp}{x tx:Str}
  (hn:l.most=some n) (hn2:n<=sizeLine) (hdf:d.params.defaults=[]) (hr:Room k callerA)
  (hY:∀(w:World) (h:Heap),YP w h->(K w.params).In h) (hrec:(recsOf q).find? (fun e=>e.name == tx)=some dr)
  (hK:∀w:World,∃c T,PySem.W.tabIn (K w.params) tx=some (c,T)/\PySem.W.noTabs (K w.params)=true)
  (F:∀(w:World) (mg:Str->Option Value) (fa:Addr) (h:Heap) (c T:Addr),(K w.params).In h->h.Ns mainGlobals mg->mg d.name=some (.ref fa)->PySem.W.tabIn (K w.params) tx=some (c,T) ->
   ∃fd:FuncData,(∀(s:Shared) (u:Value),BindsTo s fd ⟨[u],[]⟩ [(x,u)]) /\
    ∀base:Heap,(K w.params).In base->base.Ns mainGlobals mg->PySem.W.CodeHd base c T->base.BuiltinsAt mg T->FnOk l.prog w (K w.params) mg base (CX w) k fa fd [x] (sp w T))
  (hsp:∀(w:World) (T:Addr) (H:Hp) (a:Addr) (ns:List Int),ns.length<=n->H T=some (.tbl #[])->SqL (K w.params) H a (ns.map V.int)->sp w T [.ref a] H (fun v _=>v = .bl true) fun _ _ _=>False)
  (hCX:∀(w:World) (H:Hp) (s:Shared) (e:Value) (s':Shared),CX w [] H s (fun _ _ _=>False) e s'->False) :
  PySem.W.WalkO q loose XP YP l.row.toRowW d [] (fun f vs=>PySem.call f vs):=by
 refine Att.attach_call hn hdf fun w s₀ s₁ mg mb fa o pm cd doc a vs ns G Y ho hd hcd hmg hobj hints hlen hg=>?_
 have KX:=hY w _ Y;obtain⟨c,T,ht,hnt⟩:=hK w;obtain⟨hC,hT⟩:=PySem.W.tab_of G.T KX hrec ht;obtain⟨bm,ob,b1,b2,b3,b4,b5,b6⟩:=G.T.bmain;have hbT:bm≠T:=fun z=>by rw[z,hT]at b3;cases b3;cases b4
 have hbG:bm≠mainGlobals:=fun z=>by
  obtain⟨o',es,ep,e,hd',_⟩:=G.T.g;rw[z,e]at b3;cases b3;rw[hd']at b6;cases b6
 obtain⟨fd,hb,hF⟩:=F w mg fa _ c T KX G.T.g hmg ht;exact qQr KX G.T.g G.T.b G.T.builtins G.T.nolimit hg hobj hints (hB2 hlen hn2) hr hC hT hnt ⟨bm,ob,b1,b2,hbG,hbT,b3,b4,b5,b6⟩ hF hb (fun H hO hS=>hsp w T H a ns hlen hO hS) fun H e s'=>hCX w H s₁ e s'
section
variable{P:Program}{w:World}{K:PySem.W.Frag}{mg:Str->Option Value}{base:Heap}
theorem Fun.okC{x qual:Str}{st:Stmt}{f:Addr}{fd:FuncData}{N ps:List Str}{k:Nat}{sp:Sp}(F:Fun K x qual st f fd)(S:FnScope N ps (qAd st))(len:∀vs H Q E,sp vs H Q E->vs.length=ps.length)
  (hbody:∀(A:Around) (outer:List Env) (s:Shared) (H:Hp) (vs:List V) (Q:VK) (E:XK),Room k (A.deeper (envOfC qual (qAd st) s.heap.objs.size f fd.code))->sp vs H Q E ->
   ∃t,PSs (qCd CX0 P w K mg base N qual (qAd st) f fd.code A outer s H E).nox (qBa st) t/\t { nx:=fun _ H'=>Q .non H',rt:=Q } (qFt N vs) H):FnOk P w K mg base CX0 (k+1) f fd ps sp:=by
 obtain⟨oc,od,kV,doc,pm,an,cdv,ct,osl,rfl,lk,hcd⟩:=F.ex;refine zAf lk hcd S len fun A outer s H vs Q E hr hsp=>?_
 obtain⟨t,h,q⟩:=hbody A outer s H vs Q E hr hsp;exact⟨t,h.nox,q⟩
theorem qXw{x qual:Str}{st:Stmt}{f c T:Addr}{fd:FuncData}(F:Fun K x qual st f fd)(a:PySem.W.nsIn K mainGlobals x=some (some (.ref f)))(h:PySem.W.tabIn K x=some (c,T)):fd.code = .ref c:=by
 obtain⟨oc,od,kV,doc,pm,an,cdv,ct,osl,rfl,lk,hcd⟩:=F.ex;unfold PySem.W.tabIn at h;rw[a]at h;dsimp only at h;rw[lk]at h;dsimp only at h;show cdv=_;cases cdv with
 |ref c2 =>
  dsimp only at h;split at h
  ·split at h
   ·cases h;rfl
   ·cases h
  ·cases h
 |_=>cases h
end
section
variable{X:Cx}{pins:List (Addr×Obj)}{σ:St}{H:Hp}{s:Shared}
theorem Inv.adoptX(I:Inv X pins σ H s)(w:Aw X pins a)(hn:H a=none)(hφ:qBr X.prog X.w (upd H a (.ext φ)) s.heap a (.ext φ)):Inv X pins σ (upd H a (.ext φ)) s:=by
 refine⟨I.ok,I.os,I.bare,⟨I.base.keep,I.base.slot,fun b o q n' hx=>?_,I.base.there,fun b xs q=>?_,fun b o u q=>?_,fun b ps q=>?_⟩,I.loc,I.cell,?_,fun x c q=>?_,fun p hp=>?_,fun b u q=>?_,I.len⟩
 ·rw[qAg (hAn (hAm (Heap.lt_size q) w.ab))];exact I.base.free b o q n' hx
 ·have:=I.base.tups b xs q;rw[qAg (qAi this hn)];exact this
 ·have:=I.base.frzs b o u q;rw[qAg (qAi this hn)];exact this
 ·obtain⟨m,this⟩:=I.base.tbls b ps q;exact⟨m,by rw[qAg (qAi this hn)];exact this⟩
 ·rw[qAg (Ne.symm w.loc)];exact I.free
 ·rw[qAg (w.cel x c q)];exact I.freeC x c q
 ·obtain⟨h1,h2,h3⟩:=I.pin p hp;exact⟨h1,by rw[qAg (w.pin p hp)];exact h2,h3⟩
 ·by_cases hb:b=a
  ·subst hb;rw[upd_same]at q;cases q;exact hφ
  ·rw[qAg hb]at q;exact(I.hok b u q).stay (fun c v _ r=>r) (fun c r=>by rw[qAg (qAi r hn)];exact r) fun c xs r=>by rw[qAg (qAi r hn)];exact r
end
noncomputable def qXx(c:Addr)(q:Str):HO:=.ext fun h=>h.CodeRec (.ref c) q
theorem qUa(r:h.CodeRec (.ref c) q):qBr P w H h c (qXx c q):=by
 obtain⟨c2,oc,vs,t,e,ho,hd,hv⟩:=id r;cases e;refine⟨r,⟨oc,ho⟩,fun h1 h2 r1 k=>?_⟩;obtain⟨c3,oc',vs',t',e',ho',hd',hv'⟩:=r1;cases e';exact⟨c,oc',vs',t',rfl,k _ ho',hd',hv'⟩
def TabW(H:Hp)(P:Addr)(lpos:Pos)(q:Str):Prop:=H P=some (.tbl #[])\/∃c',H P=some (.tbl #[rawInt lpos.line,rawInt lpos.col,.ref c'])/\H c'=some (qXx c' q)
theorem zAp(lpos:Pos)(v:Value):codeAmong lpos (#[rawInt lpos.line,rawInt lpos.col,v]:Array Value).toList=some v:=by
 show(if _ then _ else _)=_;simp
theorem TabW.ext(h:TabW H P lpos q)(e:∀b o,H b=some o->H' b=some o):TabW H' P lpos q:=by
 rcases h with h|⟨c,h1,h2⟩
 ·exact .inl (e _ _ h)
 ·exact .inr ⟨c,e _ _ h1,e _ _ h2⟩
section
variable{X:Cx}{k:Nat}
theorem zBd{K:PySem.W.Frag}{H H':Hp}{P l:Addr}{xs:List V}{ps:Array Value}(hP:H P=some (.tbl ps))(e:ExtB P H H')(hq:SqL K H l xs):SqL K H' l xs:=by
 rcases hq with (hq|⟨o,hq⟩)|hq
 ·exact .inl (.inl (e _ _ (fun z=>by rw[z,hP]at hq;cases hq) hq))
 ·exact .inl (.inr ⟨o,e _ _ (fun z=>by rw[z,hP]at hq;cases hq) hq⟩)
 ·exact .inr hq
end
noncomputable def gallop':Bool->Keyed->Array Keyed->Nat->Nat->Nat->StateT SortSt Sem (Option Nat):=sortPriv% PySem.Builtin.gallop
noncomputable def beyond'(left:Bool)(key:Keyed)(arr:Array Keyed)(base:Nat)(i:Nat):StateT SortSt Sem (Option Bool):=do
 let x ← elem' arr (base+i)
 if left then lt' x key else return (← lt' key x).map (!·)
noncomputable def g3(left:Bool)(key:Keyed)(arr:Array Keyed)(base n lo0 hi0:Nat):StateT SortSt Sem (Option Nat):=do
 let mut lo:=lo0
 let mut hi:=hi0
 for _ in [0:n] do
  if lo >= hi then break
  let m:=lo+(hi - lo) / 2
  let some more ← beyond' left key arr base m|return none
  if more then lo:=m+1 else hi:=m
 return some hi
theorem qN5(left:Bool)(key:Keyed)(arr:Array Keyed)(base n hint:Nat):gallop' left key arr base n hint=(do
 let mut lastofs:=0
 let mut ofs:=1
 let some right ← beyond' left key arr base hint|return none
 if right then
  let maxofs:=n - hint
  for _ in [0:n] do
   if ofs >= maxofs then break
   let some more ← beyond' left key arr base (hint+ofs)|return none
   if !more then break
   lastofs:=ofs
   ofs:=2*ofs+1
  g3 left key arr base n (hint+lastofs+1) (hint+min ofs maxofs)
 else
  let maxofs:=hint+1
  for _ in [0:n] do
   if ofs >= maxofs then break
   let some found ← beyond' left key arr base (hint - ofs)|return none
   if found then break
   lastofs:=ofs
   ofs:=2*ofs+1
  g3 left key arr base n (hint+1 - min ofs maxofs) (hint - lastofs)):=rfl
section
variable{prog:Program}{w:World}{A:Around}{E:Value->Shared->Prop}{s:Shared}
theorem qNi{left:Bool}{key:Keyed}{arr:Array Keyed}{base n hint:Nat}{Bd:Nat->Bool}{G:SortSt->Prop}{st:SortSt}{Q:Option Nat->SortSt->Prop}
  (hb:∀i,i<n->∀(st:SortSt) (Q:Option Bool->SortSt->Prop),G st->Q (some (Bd i)) st->wpS (model prog w) A E s (beyond' left key arr base i) Q st) (g:G st) (hh:hint<n) (mono:∀i j,i<=j->j<n->Bd j=true->Bd i=true)
  (h:∀k,k<=n->(∀i,i<k->Bd i=true)->(∀i,k<=i->i<n->Bd i=false)->Q (some k) st):wpS (model prog w) A E s (gallop' left key arr base n hint) Q st:=by
 rw[qN5];have third:∀lo hi,lo<=hi->hi<=n->(∀i,i<lo->Bd i=true)->(∀i,hi<=i->i<n->Bd i=false)->wpS (model prog w) A E s (g3 left key arr base n lo hi) Q st:=fun lo hi h1 h2 h3 h4=>by
  unfold g3;refine wpS_bind (wpS_mono (wpS_forRange (I:=fun x c st'=>∃lo hi,c=(none,lo,hi)/\st'=st/\lo<=hi/\hi<=n/\hi - lo+x<=n/\(∀i,i<lo->Bd i=true)/\∀i,hi<=i->i<n->Bd i=false)
   (Q:=fun c st'=>∃k,c=(none,k,k)/\st'=st/\k<=n/\(∀i,i<k->Bd i=true)/\∀i,k<=i->i<n->Bd i=false) ?_ ?_ ⟨lo,hi,rfl,rfl,h1,h2,by omega,h3,h4⟩) ?_)
  ·rintro x c st' _ hx ⟨lo,hi,rfl,rfl,h1,h2,h5,h3,h4⟩;dsimp only;split
   ·rename_i c;have:lo=hi:=by omega
    subst this;exact wpS_pure ⟨lo,rfl,rfl,h2,h3,h4⟩
   ·rename_i c;refine wpS_bind (hb _ (by omega) st' _ g ?_);dsimp only;split
    ·rename_i d;exact wpS_pure ⟨_,hi,rfl,rfl,by omega,h2,by omega,fun i hi'=>mono i _ (by omega) (by omega) d,h4⟩
    ·rename_i d;have d':Bd (lo+(hi - lo) / 2)=false:=by simpa using d
     refine wpS_pure ⟨lo,_,rfl,rfl,by omega,by omega,by omega,h3,fun i hi' hin=>?_⟩;cases z:Bd i with
     |false=>rfl
     |true=>rw[mono _ i hi' hin z]at d';cases d'
  ·rintro c st' ⟨lo,hi,rfl,rfl,h1,h2,h5,h3,h4⟩;have:lo=hi:=by omega
   subst this;exact⟨lo,rfl,rfl,h2,h3,h4⟩
  ·rintro c st' ⟨k,rfl,rfl,h1,h2,h3⟩;exact wpS_pure (h k h1 h2 h3)
 refine wpS_bind (hb hint hh st _ g ?_);dsimp only;split
 ·rename_i c0;refine wpS_bind (wpS_mono (wpS_forRange (I:=fun x c st'=>∃la of,c=(none,la,of)/\st'=st/\la<of/\hint+la<n/\Bd (hint+la)=true/\x<of)
   (Q:=fun c st'=>∃la of,c=(none,la,of)/\st'=st/\la<of/\hint+la<n/\Bd (hint+la)=true/\(n - hint<=of\/(hint+of<n/\Bd (hint+of)=false))) ?_ ?_ ⟨0,1,rfl,rfl,by omega,by omega,c0,by omega⟩) ?_)
  ·rintro x c st' _ hx ⟨la,of,rfl,rfl,h1,h2,h3,h4⟩;dsimp only;split
   ·rename_i c;exact wpS_pure ⟨la,of,rfl,rfl,h1,h2,h3,.inl c⟩
   ·rename_i c;refine wpS_bind (hb _ (by omega) st' _ g ?_);dsimp only;split
    ·rename_i d;exact wpS_pure ⟨la,of,rfl,rfl,h1,h2,h3,.inr ⟨by omega,by simpa using d⟩⟩
    ·rename_i d;exact wpS_pure ⟨of,2*of+1,rfl,rfl,by omega,by omega,by simpa using d,by omega⟩
  ·rintro c st' ⟨la,of,rfl,rfl,h1,h2,h3,h4⟩;exact⟨la,of,rfl,rfl,h1,h2,h3,.inl (by omega)⟩
  ·rintro c st' ⟨la,of,rfl,rfl,h1,h2,h3,h4⟩;dsimp only;refine third (hint+la+1) (hint+min of (n - hint)) ?_ (by omega) (fun i hi=>mono i _ (by omega) h2 h3) fun i hi hin=>?_
   ·rcases h4 with z|⟨z,_⟩ <;> omega
   ·rcases h4 with z|⟨z1,z2⟩
    ·omega
    ·cases z:Bd i with
     |false=>rfl
     |true=>rw[mono _ i (by omega) hin z]at z2;cases z2
 ·rename_i c0;have c0':Bd hint=false:=by simpa using c0
  refine wpS_bind (wpS_mono (wpS_forRange (I:=fun x c st'=>∃la of,c=(none,la,of)/\st'=st/\la<of/\la<=hint/\Bd (hint - la)=false/\x<of)
   (Q:=fun c st'=>∃la of,c=(none,la,of)/\st'=st/\la<of/\la<=hint/\Bd (hint - la)=false/\(hint+1<=of\/(of<=hint/\Bd (hint - of)=true))) ?_ ?_ ⟨0,1,rfl,rfl,by omega,by omega,c0',by omega⟩) ?_)
  ·rintro x c st' _ hx ⟨la,of,rfl,rfl,h1,h2,h3,h4⟩;dsimp only;split
   ·rename_i c;exact wpS_pure ⟨la,of,rfl,rfl,h1,h2,h3,.inl c⟩
   ·rename_i c;refine wpS_bind (hb _ (by omega) st' _ g ?_);dsimp only;split
    ·rename_i d;exact wpS_pure ⟨la,of,rfl,rfl,h1,h2,h3,.inr ⟨by omega,by simpa using d⟩⟩
    ·rename_i d;exact wpS_pure ⟨of,2*of+1,rfl,rfl,by omega,by omega,by simpa using d,by omega⟩
  ·rintro c st' ⟨la,of,rfl,rfl,h1,h2,h3,h4⟩;exact⟨la,of,rfl,rfl,h1,h2,h3,.inl (by omega)⟩
  ·rintro c st' ⟨la,of,rfl,rfl,h1,h2,h3,h4⟩;dsimp only;refine third (hint+1 - min of (hint+1)) (hint - la) ?_ (by omega) (fun i hi=>?_) fun i hi hin=>?_
   ·rcases h4 with z|⟨z,_⟩ <;> omega
   ·rcases h4 with z|⟨z1,z2⟩
    ·omega
    ·exact mono i _ (by omega) (by omega) z2
   ·cases z:Bd i with
    |false=>rfl
    |true=>rw[mono _ i hi hin z]at h3;cases h3
end
noncomputable def qA5:Nat->StateT SortSt Sem Unit:=sortPriv% PySem.Builtin.setMinGallop
noncomputable def mergeLo':Array Keyed->Array Keyed->StateT SortSt Sem (Array Keyed):=sortPriv% PySem.Builtin.mergeLo
noncomputable def dnA(a b out:Array Keyed)(ia ib:Nat):Array Keyed:=out++a.extract ia a.size++b.extract ib b.size
noncomputable def lsA(a b out:Array Keyed)(ia ib:Nat):Array Keyed:=out++b.extract ib b.size++a.extract ia a.size
theorem qK6(a b:Array Keyed):mergeLo' a b=(do
 rule "list.sort.merge-lo"
 let total:=a.size+b.size
 let mut out:Array Keyed:=#[<-elem' b 0]
 let mut ia:=0
 let mut ib:=1
 if ib == b.size then return dnA a b out ia ib
 if ia+1 == a.size then return lsA a b out ia ib
 let mut minGallop:=gallopOf (← get)
 for _ in [0:total] do
  let mut acount:=0
  let mut bcount:=0
  for _ in [0:total] do
   let some bWins ← lt' (← elem' b ib) (← elem' a ia)|return dnA a b out ia ib
   if bWins then
    out:=out.push (← elem' b ib);ib:=ib+1;bcount:=bcount+1;acount:=0
    if ib == b.size then return dnA a b out ia ib
    if bcount >= minGallop then break
   else
    out:=out.push (← elem' a ia);ia:=ia+1;acount:=acount+1;bcount:=0
    if ia+1 == a.size then return lsA a b out ia ib
    if acount >= minGallop then break
  rule "list.sort.gallop"
  minGallop:=minGallop+1
  for _ in [0:total] do
   if minGallop > 1 then minGallop:=minGallop - 1
   qA5 minGallop
   let some k ← gallop' false (← elem' b ib) a ia (a.size - ia) 0|return dnA a b out ia ib
   acount:=k
   if k > 0 then
    out:=out++a.extract ia (ia+k);ia:=ia+k
    if ia+1 == a.size then return lsA a b out ia ib
    if ia == a.size then return dnA a b out ia ib
   out:=out.push (← elem' b ib);ib:=ib+1
   if ib == b.size then return dnA a b out ia ib
   let some k ← gallop' true (← elem' a ia) b ib (b.size - ib) 0|return dnA a b out ia ib
   bcount:=k
   if k > 0 then
    out:=out++b.extract ib (ib+k);ib:=ib+k
    if ib == b.size then return dnA a b out ia ib
   out:=out.push (← elem' a ia);ia:=ia+1
   if ia+1 == a.size then return lsA a b out ia ib
   if acount<7 && bcount<7 then break
  minGallop:=minGallop+1
  qA5 minGallop
 unsupported "internal:list.sort.merge-bound"):=rfl
def Srd(rk:Keyed->Int)(l:List Keyed):Prop:=l.Pairwise fun x y=>rk x<=rk y
def Dn(rk:Keyed->Int)(all l:List Keyed):Prop:=l.Perm all/\Srd rk l
structure MI(rk:Keyed->Int)(all ra rb o:List Keyed):Prop where
 perm:(o++(ra++rb)).Perm all
 so:Srd rk o
 sa:Srd rk ra
 sb:Srd rk rb
 la:∀x∈o,∀y∈ra,rk x<=rk y
 lb:∀x∈o,∀y∈rb,rk x<=rk y
section
variable{rk:Keyed->Int}{all ra rb o xs:List Keyed}
theorem MI.symm(h:MI rk all ra rb o):MI rk all rb ra o:=⟨(List.perm_append_comm.append_left o).trans h.perm,h.so,h.sb,h.sa,h.lb,h.la⟩
theorem MI.as(h:MI rk all (xs++ra) rb o)(c:∀x∈xs,∀y∈rb,rk x<=rk y):MI rk all ra rb (o++xs):=by
 have p:=hAz.mp h.sa;refine⟨by simpa [hBj] using h.perm,hAz.mpr ⟨h.so,p.1,fun x hx y hy=>h.la x hx y (hAi _ hy)⟩,p.2.1,h.sb,fun x hx y hy=>?_,fun x hx y hy=>?_⟩
 ·rcases hAh.mp hx with z|z
  ·exact h.la x z y (hAa _ hy)
  ·exact p.2.2 x z y hy
 ·rcases hAh.mp hx with z|z
  ·exact h.lb x z y hy
  ·exact c x z y hy
theorem MI.bs(h:MI rk all ra (xs++rb) o)(c:∀x∈xs,∀y∈ra,rk x<=rk y):MI rk all ra rb (o++xs):=(h.symm.as c).symm
theorem MI.fin(h:MI rk all ra rb o)(c:∀x∈ra,∀y∈rb,rk x<=rk y):Dn rk all (o++(ra++rb)):=by
 refine⟨h.perm,hAz.mpr ⟨h.so,hAz.mpr ⟨h.sa,h.sb,c⟩,fun x hx y hy=>?_⟩⟩;rcases hAh.mp hy with z|z
 ·exact h.la x hx y z
 ·exact h.lb x hx y z
theorem MI.len(h:MI rk all ra rb o):o.length+(ra.length+rb.length)=all.length:=by
 have:=h.perm.length_eq
 simpa using this
theorem qCa(h:Srd rk (x :: l)):∀y∈x :: l,rk x<=rk y:=fun y hy=>by
 rcases hAg.mp hy with z|z
 ·rw[z];exact hDk _
 ·exact(hBl.mp h).1 y z
end
def Gal(st st':SortSt):Prop:=kindOf st'=kindOf st/\arrOf st'=arrOf st/\pendingOf st'=pendingOf st/\failedOf st'=failedOf st
theorem Gal.refl(st:SortSt):Gal st st:=⟨rfl,rfl,rfl,rfl⟩
theorem Gal.trans(h:Gal a b)(k:Gal b c):Gal a c:=⟨k.1.trans h.1,k.2.1.trans h.2.1,k.2.2.1.trans h.2.2.1,k.2.2.2.trans h.2.2.2⟩
theorem qDu(a:Array Keyed)(i j:Nat):(a.extract i j).toList=(a.toList.drop i).take (j - i):=by
 rw[Array.toList_extract]
theorem qIn(a:Array Keyed)(i:Nat):(a.extract i a.size).toList=a.toList.drop i:=by
 rw[qDu,hA7 (by simp)]
theorem qT6(a b out:Array Keyed)(ia ib:Nat):(dnA a b out ia ib).toList=out.toList++(a.toList.drop ia++b.toList.drop ib):=by
 unfold dnA;rw[hBx,hBx,qIn,qIn,hBj]
theorem qTu(a b out:Array Keyed)(ia ib:Nat):(lsA a b out ia ib).toList=out.toList++(b.toList.drop ib++a.toList.drop ia):=by
 unfold lsA;rw[hBx,hBx,qIn,qIn,hBj]
section
variable{prog:Program}{w:World}{A:Around}{E:Value->Shared->Prop}{s:Shared}{rk:Keyed->Int}{kd:SortKind}{D:Keyed->Prop}
def qG5(prog:Program)(w:World)(A:Around)(E:Value->Shared->Prop)(s:Shared)(rk:Keyed->Int)(kd:SortKind)(D:Keyed->Prop):Prop :=
 ∀x y,D x->D y->∀(st:SortSt) (Q:Option Bool->SortSt->Prop),kindOf st=kd->Q (some (decide (rk x<rk y))) st->wpS (model prog w) A E s (lt' x y) Q st
theorem qAz{arr:Array Keyed}{i:Nat}{p:Keyed}{Q:Keyed->SortSt->Prop}{st:SortSt}(e:arr[i]?=some p)(h:Q p st):wpS (model prog w) A E s (elem' arr i) Q st:=by
 rw[elem'_eq,e];exact wpS_pure h
noncomputable def gP(rk:Keyed->Int)(left:Bool)(key x:Keyed):Bool:=if left then decide (rk x<rk key) else !decide (rk key<rk x)
theorem qNj(ak:qG5 prog w A E s rk kd D){left:Bool}{key x:Keyed}{arr:Array Keyed}{base i:Nat}{Q:Option Bool->SortSt->Prop}{st:SortSt}(hk:kindOf st=kd)(dk:D key)(dx:D x)(e:arr[base+i]?=some x)
  (h:Q (some (gP rk left key x)) st):wpS (model prog w) A E s (beyond' left key arr base i) Q st:=by
 unfold beyond';refine wpS_bind (qAz e ?_);cases left with
 |true=>exact ak x key dx dk st Q hk h
 |false=>exact wpS_bind (ak key x dk dx st _ hk (wpS_pure h))
theorem qE0(ak:qG5 prog w A E s rk kd D){left:Bool}{key:Keyed}{arr:Array Keyed}{base n hint:Nat}{l:List Keyed}{Q:Option Nat->SortSt->Prop}{st:SortSt}(hk:kindOf st=kd)(dk:D key)(hl:(arr.toList.drop base).take n=l)(hn:l.length=n)
  (dl:∀x∈l,D x) (sl:Srd rk l) (hh:hint<n) (h:∀l1 l2,l=l1++l2->(∀x∈l1,gP rk left key x=true)->(∀x∈l2,gP rk left key x=false)->Q (some l1.length) st) :
  wpS (model prog w) A E s (gallop' left key arr base n hint) Q st:=by
 have at_:∀i,(hi:i<n)->arr[base+i]?=some (l[i]'(by omega)):=fun i hi=>by
  subst hl;rw[<-hAy];rw[hE4,List.getElem_drop,hA2]
 refine qNi (Bd:=fun i=>if c:i<l.length then gP rk left key (l[i]'c) else false) (G:=fun st=>kindOf st=kd) (fun i hi st Q g q=>?_) hk hh (fun i j hij hj q=>?_) fun k hk1 h1 h2=>?_
 ·refine qNj ak g dk (dl _ (hBn (by omega))) (at_ i hi) ?_;rw[dif_pos (by omega)]at q;exact q
 ·rw[dif_pos (by omega)]at q ⊢;by_cases e:i=j
  ·subst e;exact q
  ·have:=hDh.mp sl i j (by omega) (by omega) (by omega);unfold gP at q ⊢;cases left
   ·simp at q ⊢;omega
   ·simp at q ⊢;omega
 ·have e:=h (l.take k) (l.drop k) (List.take_append_drop k l).symm (fun x hx=>?_) fun x hx=>?_
  ·rw[hAl,Nat.min_eq_left (by omega)]at e;exact e
  ·obtain⟨i,hi,rfl⟩:=List.mem_iff_getElem.mp hx;rw[hAl]at hi;have:=h1 i (by omega);rw[dif_pos (by omega)]at this;rw[hE4];exact this
  ·obtain⟨i,hi,rfl⟩:=List.mem_iff_getElem.mp hx;rw[hCj]at hi;have:=h2 (k+i) (by omega) (by omega);rw[dif_pos (by omega)]at this;rw[List.getElem_drop];exact this
theorem qFu(g:Nat):qA5 g=modify fun st=>SortSt.mk' (kindOf st) (arrOf st) (pendingOf st) g (failedOf st):=rfl
theorem qFx{g:Nat}{st:SortSt}{Q:Unit->SortSt->Prop}(h:∀st',Gal st st'->Q () st'):wpS (model prog w) A E s (qA5 g) Q st:=by
 rw[qFu];exact wpS_modify (h _ ⟨rfl,rfl,rfl,rfl⟩)
abbrev G7:=ForInStep (Option (Array Keyed)×Array Keyed×Nat×Nat×Nat×Nat×Nat)
noncomputable def gl4(a b:Array Keyed)(ac bc mg:Nat)(out:Array Keyed)(ia ib:Nat):StateT SortSt Sem G7:=do
 let x ← elem' a ia
 if (ia+1+1 == a.size)=true then pure (.done (some (lsA a b (out.push x) (ia+1) ib),out.push x,ia+1,ib,mg,ac,bc))
 else if (decide (ac<7) && decide (bc<7))=true then pure (.done (none,out.push x,ia+1,ib,mg,ac,bc))
 else pure (.yield (none,out.push x,ia+1,ib,mg,ac,bc))
noncomputable def gl3(a b:Array Keyed)(ac mg:Nat)(out:Array Keyed)(ia ib bc0:Nat):StateT SortSt Sem G7:=do
 let y ← elem' b ib
 if (ib+1 == b.size)=true then pure (.done (some (dnA a b (out.push y) ia (ib+1)),out.push y,ia,ib+1,mg,ac,bc0))
 else
  let x ← elem' a ia
  let some k ← gallop' true x b (ib+1) (b.size - (ib+1)) 0|pure (.done (some (dnA a b (out.push y) ia (ib+1)),out.push y,ia,ib+1,mg,ac,bc0))
  if k > 0 then
    if (ib+1+k == b.size)=true then pure (.done (some (dnA a b (out.push y++b.extract (ib+1) (ib+1+k)) ia (ib+1+k)),out.push y++b.extract (ib+1) (ib+1+k),ia,ib+1+k,mg,ac,k))
    else gl4 a b ac k mg (out.push y++b.extract (ib+1) (ib+1+k)) ia (ib+1+k)
  else gl4 a b ac k mg (out.push y) ia (ib+1)
noncomputable def gl2(a b:Array Keyed)(mg:Nat)(out:Array Keyed)(ia ib ac0 bc0:Nat):StateT SortSt Sem G7:=do
 qA5 mg
 let y ← elem' b ib
 let some k ← gallop' false y a ia (a.size - ia) 0|pure (.done (some (dnA a b out ia ib),out,ia,ib,mg,ac0,bc0))
 if k > 0 then
   if (ia+k+1 == a.size)=true then pure (.done (some (lsA a b (out++a.extract ia (ia+k)) (ia+k) ib),out++a.extract ia (ia+k),ia+k,ib,mg,k,bc0))
   else if (ia+k == a.size)=true then pure (.done (some (dnA a b (out++a.extract ia (ia+k)) (ia+k) ib),out++a.extract ia (ia+k),ia+k,ib,mg,k,bc0))
   else gl3 a b k mg (out++a.extract ia (ia+k)) (ia+k) ib bc0
 else gl3 a b k mg out ia ib bc0
noncomputable def glT(a b:Array Keyed)(c:Option (Array Keyed)×Array Keyed×Nat×Nat×Nat×Nat×Nat):StateT SortSt Sem G7 :=
 if c.2.2.2.2.1 > 1 then gl2 a b (c.2.2.2.2.1 - 1) c.2.1 c.2.2.1 c.2.2.2.1 c.2.2.2.2.2.1 c.2.2.2.2.2.2 else gl2 a b c.2.2.2.2.1 c.2.1 c.2.2.1 c.2.2.2.1 c.2.2.2.2.2.1 c.2.2.2.2.2.2
theorem qFs(a:Array Keyed)(h:i<a.size):∃x,a[i]?=some x/\x∈a.toList/\a.toList.drop i=x :: a.toList.drop (i+1):=by
 refine⟨a[i],by simp[h],by simp,?_⟩;rw[hDg (by simpa using h)];simp
structure Lo(rk:Keyed->Int)(a b out:Array Keyed)(ia ib:Nat):Prop where
 mi:MI rk (a.toList++b.toList) (a.toList.drop ia) (b.toList.drop ib) out.toList
 ha:ia+1<a.size
 hb:ib<b.size
def LoT(rk:Keyed->Int)(a b:Array Keyed)(st:SortSt)(r:Array Keyed)(st':SortSt):Prop:=Gal st st'/\Dn rk (a.toList++b.toList) r.toList
theorem Lo.dn(m:MI rk (a.toList++b.toList) (a.toList.drop ia) (b.toList.drop ib) out.toList)(h:a.size<=ia\/b.size<=ib):Dn rk (a.toList++b.toList) (dnA a b out ia ib).toList:=by
 rw[qT6];refine m.fin fun x hx y hy=>?_
 rcases h with h|h
 ·rw[List.drop_eq_nil_of_le (by simpa using h)]at hx;cases hx
 ·rw[List.drop_eq_nil_of_le (by simpa using h)]at hy;cases hy
theorem Lo.ls(m:MI rk (a.toList++b.toList) (a.toList.drop ia) (b.toList.drop ib) out.toList)(h:ia+1=a.size)(hi:∀x∈a.toList.drop (a.size - 1),∀y∈b.toList,rk y<=rk x):Dn rk (a.toList++b.toList) (lsA a b out ia ib).toList:=by
 rw[qTu];refine m.symm.fin fun y hy x hx=>hi x ?_ y (hD1 hy)
 rw[show a.size - 1=ia by omega];exact hx
theorem qUg{a b out:Array Keyed}{ac bc mg ia ib:Nat}{st st0:SortSt}{Q:G7->SortSt->Prop}(L:Lo rk a b out ia ib)(lt:∀x,a[ia]?=some x->∀y∈b.toList.drop ib,rk x<=rk y)(hi:∀x∈a.toList.drop (a.size - 1),∀y∈b.toList,rk y<=rk x)(g:Gal st0 st)
  (hd:∀r c,LoT rk a b st0 r st->Q (.done (some r,c)) st) (hn:∀out' ia' mg ac bc,Lo rk a b out' ia' ib->out.size<out'.size->Q (.done (none,out',ia',ib,mg,ac,bc)) st/\Q (.yield (none,out',ia',ib,mg,ac,bc)) st) :
  wpS (model prog w) A E s (gl4 a b ac bc mg out ia ib) Q st:=by
 obtain⟨x,e,ex,ed⟩:=qFs a (i:=ia) (by have:=L.ha;omega);have m:MI rk (a.toList++b.toList) (a.toList.drop (ia+1)) (b.toList.drop ib) (out.push x).toList:=by
  have m:=L.mi;rw[ed]at m;rw[hC6];exact MI.as (xs:=[x]) m fun z hz y hy=>by
   rw[hA5.mp hz];exact lt x e y hy
 unfold gl4;refine wpS_bind (qAz e ?_);have h1:=L.ha;by_cases c:(ia+1+1 == a.size)=true
 ·rw[if_pos c];exact wpS_pure (hd _ _ ⟨g,Lo.ls m (by simpa using c) hi⟩)
 ·rw[if_neg c];have c':ia+1+1≠a.size:=by simpa using c
  have:=hn (out.push x) (ia+1) mg ac bc ⟨m,by omega,L.hb⟩ (by simp);split
  ·exact wpS_pure this.1
  ·exact wpS_pure this.2
theorem qJ9{i n:Nat}(h:(i == n)=true):n<=i:=Nat.le_of_eq (eq_of_beq h).symm
theorem qRa{b:Array Keyed}{i:Nat}{l1 l2:List Keyed}(e:b.toList.drop i=l1++l2):(b.extract i (i+l1.length)).toList=l1/\b.toList.drop (i+l1.length)=l2:=by
 refine⟨?_,?_⟩
 ·rw[qDu,e,show i+l1.length - i=l1.length by omega,hDn];rfl
 ·rw[<-List.drop_drop,e,hDo];rfl
theorem qUh(ak:qG5 prog w A E s rk kd D){a b out:Array Keyed}{ac mg bc0 ia ib:Nat}{st st0:SortSt}{Q:G7->SortSt->Prop}(hk:kindOf st=kd)(da:∀x∈a.toList,D x)(db:∀x∈b.toList,D x)(L:Lo rk a b out ia ib)(lt:∀y,b[ib]?=some y->∀x∈a.toList.drop ia,rk y<=rk x)(hi:∀x∈a.toList.drop (a.size - 1),∀y∈b.toList,rk y<=rk x)(g:Gal st0 st)
  (hd:∀r c,LoT rk a b st0 r st->Q (.done (some r,c)) st) (hn:∀out' ia' ib' mg ac bc,Lo rk a b out' ia' ib'->out.size<out'.size->Q (.done (none,out',ia',ib',mg,ac,bc)) st/\Q (.yield (none,out',ia',ib',mg,ac,bc)) st) :
  wpS (model prog w) A E s (gl3 a b ac mg out ia ib bc0) Q st:=by
 have h1:=L.ha;have h2:=L.hb;obtain⟨y,e,ey,ed⟩:=qFs b (i:=ib) h2;obtain⟨x,f,fx,fd⟩:=qFs a (i:=ia) (by omega);have m:MI rk (a.toList++b.toList) (a.toList.drop ia) (b.toList.drop (ib+1)) (out.push y).toList:=by
  have m:=L.mi;rw[ed]at m;rw[hC6];exact MI.bs (xs:=[y]) m fun z hz x hx=>by
   rw[hA5.mp hz];exact lt y e x hx
 have sh:=qCa (fd▸m.sa);unfold gl3;refine wpS_bind (qAz e ?_);by_cases c:(ib+1 == b.size)=true
 ·rw[if_pos c];exact wpS_pure (hd _ _ ⟨g,Lo.dn m (.inr (qJ9 c))⟩)
 ·rw[if_neg c];have c':ib+1≠b.size:=by simpa using c
  refine wpS_bind (qAz f ?_);refine wpS_bind (qE0 ak (l:=b.toList.drop (ib+1)) hk (da x fx) (hA7 (by simp)) (by simp) (fun z hz=>db z (hD1 hz)) m.sb (by omega) fun l1 l2 el p1 p2=>?_);have q1:∀z∈l1,rk z<rk x:=fun z hz=>by simpa [gP] using p1 z hz
  have q2:∀z∈l2,rk x<=rk z:=fun z hz=>by
   have:=p2 z hz;simp[gP]at this;exact this
  have X:=qRa el;dsimp only;by_cases k0:l1.length > 0
  ·rw[if_pos k0];have m2:MI rk (a.toList++b.toList) (a.toList.drop ia) (b.toList.drop (ib+1+l1.length)) (out.push y++b.extract (ib+1) (ib+1+l1.length)).toList:=by
    rw[hBx,X.1,X.2];rw[el]at m;exact m.bs fun z hz x' hx'=>by
     have a1:=q1 z hz;have a2:=sh x' (fd▸hx');omega
   by_cases d:(ib+1+l1.length == b.size)=true
   ·rw[if_pos d];exact wpS_pure (hd _ _ ⟨g,Lo.dn m2 (.inr (qJ9 d))⟩)
   ·rw[if_neg d];have d':ib+1+l1.length≠b.size:=by simpa using d
    have ll:(b.toList.drop (ib+1)).length=l1.length+l2.length:=by rw[el];simp
    rw[hCj]at ll;have ll':b.size - (ib+1)=l1.length+l2.length:=by simpa using ll
    refine qUg ⟨m2,h1,by omega⟩ (fun z hz y hy=>?_) hi g hd fun o i mg ac bc L' hs=>hn o i _ mg ac bc L' ?_
    ·rw[X.2]at hy;rw[f]at hz;cases hz;exact q2 y hy
    ·simp at hs;omega
  ·rw[if_neg k0];have n1:l1=[]:=hBe.mp (by omega);subst n1;refine qUg ⟨m,h1,by omega⟩ (fun z hz y hy=>?_) hi g hd fun o i mg ac bc L' hs=>hn o i _ mg ac bc L' ?_
   ·rw[el]at hy;rw[f]at hz;cases hz;exact q2 y hy
   ·simp at hs;omega
theorem qX9(ak:qG5 prog w A E s rk kd D){a b out:Array Keyed}{mg ac0 bc0 ia ib:Nat}{st st0:SortSt}{Q:G7->SortSt->Prop}(hk:kindOf st0=kd)(da:∀x∈a.toList,D x)(db:∀x∈b.toList,D x)(L:Lo rk a b out ia ib)(hi:∀x∈a.toList.drop (a.size - 1),∀y∈b.toList,rk y<=rk x)(g:Gal st0 st)
  (hd:∀r c st,LoT rk a b st0 r st->Q (.done (some r,c)) st) (hn:∀out' ia' ib' mg ac bc st,Gal st0 st->Lo rk a b out' ia' ib'->out.size<out'.size->Q (.done (none,out',ia',ib',mg,ac,bc)) st/\Q (.yield (none,out',ia',ib',mg,ac,bc)) st) :
  wpS (model prog w) A E s (gl2 a b mg out ia ib ac0 bc0) Q st:=by
 have h1:=L.ha;have h2:=L.hb;have m:=L.mi;obtain⟨y,e,ey,ed⟩:=qFs b (i:=ib) h2;have sh:=qCa (ed▸m.sb);unfold gl2;refine wpS_bind (qFx fun st1 g1=>?_);have g':=g.trans g1;refine wpS_bind (qAz e ?_);refine wpS_bind (qE0 ak (l:=a.toList.drop ia) (g'.1.trans hk) (db y ey) (hA7 (by simp)) (by simp) (fun z hz=>da z (hD1 hz)) m.sa (by omega) fun l1 l2 el p1 p2=>?_);have q1:∀z∈l1,rk z<=rk y:=fun z hz=>by simpa [gP] using p1 z hz
 have q2:∀z∈l2,rk y<rk z:=fun z hz=>by simpa [gP] using p2 z hz
 have X:=qRa el;dsimp only;by_cases k0:l1.length > 0
 ·rw[if_pos k0];have m2:MI rk (a.toList++b.toList) (a.toList.drop (ia+l1.length)) (b.toList.drop ib) (out++a.extract ia (ia+l1.length)).toList:=by
   rw[hBx,X.1,X.2];rw[el]at m;exact m.as fun z hz x' hx'=>by
    have a1:=q1 z hz;have a2:=sh x' (ed▸hx');omega
  by_cases d:(ia+l1.length+1 == a.size)=true
  ·rw[if_pos d];exact wpS_pure (hd _ _ _ ⟨g',Lo.ls m2 (by simpa using d) hi⟩)
  ·rw[if_neg d];by_cases d2:(ia+l1.length == a.size)=true
   ·rw[if_pos d2];exact wpS_pure (hd _ _ _ ⟨g',Lo.dn m2 (.inl (qJ9 d2))⟩)
   ·rw[if_neg d2];have d':ia+l1.length+1≠a.size:=by simpa using d
    have d2':ia+l1.length≠a.size:=by simpa using d2
    have ll:(a.toList.drop ia).length=l1.length+l2.length:=by rw[el];simp
    rw[hCj]at ll;have ll':a.size - ia=l1.length+l2.length:=by simpa using ll
    refine qUh ak (g'.1.trans hk) da db ⟨m2,by omega,h2⟩ (fun z hz x hx=>?_) hi g' (fun r c=>hd r c _) fun o i j mg ac bc L' hs=>hn o i j mg ac bc _ g' L' ?_
    ·rw[X.2]at hx;rw[e]at hz;cases hz;exact hE0 (q2 x hx)
    ·simp at hs;omega
 ·rw[if_neg k0];have n1:l1=[]:=hBe.mp (by omega);subst n1;refine qUh ak (g'.1.trans hk) da db L (fun z hz x hx=>?_) hi g' (fun r c=>hd r c _) fun o i j mg ac bc L' hs=>hn o i j mg ac bc _ g' L' hs
  rw[el]at hx;rw[e]at hz;cases hz;exact hE0 (q2 x hx)
theorem qKi(ak:qG5 prog w A E s rk kd D){a b:Array Keyed}{st:SortSt}{Q:Array Keyed->SortSt->Prop}(hk:kindOf st=kd)(da:∀x∈a.toList,D x)(db:∀x∈b.toList,D x)(sa:Srd rk a.toList)(sb:Srd rk b.toList)(h1:1<=a.size)(h2:1<=b.size)
  (lo:∀y∈b.toList.take 1,∀x∈a.toList,rk y<=rk x) (hi:∀x∈a.toList.drop (a.size - 1),∀y∈b.toList,rk y<=rk x) (h:∀r st',Gal st st'->Dn rk (a.toList++b.toList) r.toList->Q r st'):wpS (model prog w) A E s (mergeLo' a b) Q st:=by
 rw[qK6];refine wpS_bind (wpS_lift (wpAny_rule ⟨rfl,?_⟩));obtain⟨y,e,ey,ed⟩:=qFs b (i:=0) h2;refine wpS_bind (qAz e ?_);have m:MI rk (a.toList++b.toList) (a.toList.drop 0) (b.toList.drop (0+1)) (#[y]:Array Keyed).toList:=by
  have m0:MI rk (a.toList++b.toList) (a.toList.drop 0) (b.toList.drop 0) []:=⟨by simp,List.Pairwise.nil,by simpa using sa,by simpa using sb,fun x hx=>(by cases hx),fun x hx=>(by cases hx)⟩;rw[ed]at m0;refine MI.bs (xs:=[y]) m0 fun z hz x hx=>?_
  rw[hA5.mp hz];refine lo y ?_ x (hD1 hx);rw[List.drop_zero]at ed;rw[ed];exact hA9 ..
 by_cases e1:(1 == b.size)=true
 ·rw[if_pos e1];exact wpS_pure (h _ _ (Gal.refl _) (Lo.dn m (.inr (qJ9 e1))))
 rw[if_neg e1];by_cases e2:(0+1 == a.size)=true
 ·rw[if_pos e2];exact wpS_pure (h _ _ (Gal.refl _) (Lo.ls m (by simpa using e2) hi))
 rw[if_neg e2];have e1':1≠b.size:=by simpa using e1
 have e2':0+1≠a.size:=by simpa using e2
 refine wpS_bind (wpS_get ?_);have tot:∀ {o:Array Keyed} {i j:Nat},Lo rk a b o i j->o.size+3<=a.size+b.size:=fun {o i j} L=>by
  have:=L.mi.len;have:=L.ha;have:=L.hb;simp at *;omega
 refine wpS_bind (wpS_mono (wpS_forRange (I:=fun x c st'=>∃out ia ib mg,c=(none,out,ia,ib,mg)/\Lo rk a b out ia ib/\x+1<=out.size/\Gal st st')
  (Q:=fun c st'=>∃r c',c=(some r,c')/\LoT rk a b st r st') ?_ ?_ ⟨_,_,_,_,rfl,⟨m,by omega,by omega⟩,by simp,Gal.refl _⟩) ?_)
 ·rintro x c st1 _ hx ⟨out,ia,ib,mg,rfl,L,hs,g⟩;refine wpS_bind (wpS_mono (wpS_forRange (I:=fun y c st'=>∃o ia ib ac bc,c=(none,o,ia,ib,ac,bc)/\Lo rk a b o ia ib/\out.size+y<=o.size/\Gal st st')
   (Q:=fun c st'=>(∃r c',c=(some r,c')/\LoT rk a b st r st')\/∃o ia ib ac bc,c=(none,o,ia,ib,ac,bc)/\Lo rk a b o ia ib/\out.size<o.size/\Gal st st') ?_ ?_ ⟨_,_,_,_,_,rfl,L,hA6 _,g⟩) ?_)
  ·rintro y c st2 _ hy ⟨o,ja,jb,ac,bc,rfl,L2,hs2,g2⟩;have h1:=L2.ha;have h2:=L2.hb;have m:=L2.mi;obtain⟨v,f,fv,fd⟩:=qFs b (i:=jb) h2;obtain⟨u,p,pu,pd⟩:=qFs a (i:=ja) (by omega);refine wpS_bind (qAz f ?_);refine wpS_bind (qAz p ?_);refine wpS_bind (ak v u (db v fv) (da u pu) _ _ (g2.1.trans hk) ?_);have sv:=qCa (fd▸m.sb);have su:=qCa (pd▸m.sa);by_cases c:rk v<rk u
   ·rw[decide_eq_true c];have m2:MI rk (a.toList++b.toList) (a.toList.drop ja) (b.toList.drop (jb+1)) (o.push v).toList:=by
     rw[fd]at m;rw[hC6];refine MI.bs (xs:=[v]) m fun z hz x hx=>?_
     rw[hA5.mp hz];have:=su x (pd▸hx);omega
    dsimp only;rw[if_pos rfl];refine wpS_bind (qAz f ?_);by_cases q:(jb+1 == b.size)=true
    ·rw[if_pos q];exact wpS_pure (.inl ⟨_,_,rfl,g2,Lo.dn m2 (.inr (qJ9 q))⟩)
    ·rw[if_neg q];have q':jb+1≠b.size:=by simpa using q
     split
     ·exact wpS_pure (.inr ⟨_,_,_,_,_,rfl,⟨m2,h1,by omega⟩,by simp;omega,g2⟩)
     ·exact wpS_pure ⟨_,_,_,_,_,rfl,⟨m2,h1,by omega⟩,by simp;omega,g2⟩
   ·rw[decide_eq_false c];have m2:MI rk (a.toList++b.toList) (a.toList.drop (ja+1)) (b.toList.drop jb) (o.push u).toList:=by
     rw[pd]at m;rw[hC6];refine MI.as (xs:=[u]) m fun z hz x hx=>?_
     rw[hA5.mp hz];have:=sv x (fd▸hx);omega
    dsimp only;rw[if_neg (by decide)];refine wpS_bind (qAz p ?_);by_cases q:(ja+1+1 == a.size)=true
    ·rw[if_pos q];exact wpS_pure (.inl ⟨_,_,rfl,g2,Lo.ls m2 (eq_of_beq q) hi⟩)
    ·rw[if_neg q];have q':ja+1+1≠a.size:=by simpa using q
     split
     ·exact wpS_pure (.inr ⟨_,_,_,_,_,rfl,⟨m2,by omega,h2⟩,by simp;omega,g2⟩)
     ·exact wpS_pure ⟨_,_,_,_,_,rfl,⟨m2,by omega,h2⟩,by simp;omega,g2⟩
  ·rintro c st2 ⟨o,ja,jb,ac,bc,rfl,L2,hs2,g2⟩;have:=tot L2;omega
  ·rintro c st2 (⟨r,c',rfl,hr⟩|⟨o,ja,jb,ac,bc,rfl,L2,hs2,g2⟩)
   ·exact wpS_pure ⟨r,_,rfl,hr⟩
   ·refine wpS_bind (wpS_lift (wpAny_rule ⟨rfl,?_⟩));refine wpS_bind (wpS_mono (wpS_forRange (I:=fun y c st'=>∃o' ia ib mg ac bc,c=(none,o',ia,ib,mg,ac,bc)/\Lo rk a b o' ia ib/\o.size+y<=o'.size/\Gal st st')
     (Q:=fun c st'=>(∃r c',c=(some r,c')/\LoT rk a b st r st')\/∃o' ia ib mg ac bc,c=(none,o',ia,ib,mg,ac,bc)/\Lo rk a b o' ia ib/\o.size<=o'.size/\Gal st st') ?_ ?_ ⟨_,_,_,_,_,_,rfl,L2,hA6 _,g2⟩) ?_)
    ·rintro y c st3 _ hy ⟨o',ka,kb,mg',ac',bc',rfl,L3,hs3,g3⟩;have one:∀mg,wpS (model prog w) A E s (gl2 a b mg o' ka kb ac' bc') (fun r st'=>match r with | .done c'=>(∃r c'',c'=(some r,c'')/\LoT rk a b st r st')\/∃o' ia ib mg ac bc,c'=(none,o',ia,ib,mg,ac,bc)/\Lo rk a b o' ia ib/\o.size<=o'.size/\Gal st st' | .yield c'=>∃o' ia ib mg ac bc,c'=(none,o',ia,ib,mg,ac,bc)/\Lo rk a b o' ia ib/\o.size+(y+1)<=o'.size/\Gal st st') st3:=fun mg =>
      qX9 ak hk da db L3 hi g3 (fun r c st5 hr=>.inl ⟨r,c,rfl,hr⟩) fun o6 i j mg6 ac6 bc6 st6 g6 L6 hs6=>⟨.inr ⟨_,_,_,_,_,_,rfl,L6,by omega,g6⟩,⟨_,_,_,_,_,_,rfl,L6,by omega,g6⟩⟩
     refine wpS_mono (m:=glT a b (none,o',ka,kb,mg',ac',bc')) ?_ (fun r st' hr=>?_) (Q:=fun r st'=>match r with | .done c'=>(∃r c'',c'=(some r,c'')/\LoT rk a b st r st')\/∃o' ia ib mg ac bc,c'=(none,o',ia,ib,mg,ac,bc)/\Lo rk a b o' ia ib/\o.size<=o'.size/\Gal st st' | .yield c'=>∃o' ia ib mg ac bc,c'=(none,o',ia,ib,mg,ac,bc)/\Lo rk a b o' ia ib/\o.size+(y+1)<=o'.size/\Gal st st')
     ·unfold glT;split
      ·exact one _
      ·exact one _
     ·cases r with
      |done c'=>exact hr
      |yield c'=>exact hr
    ·rintro c st3 ⟨o',ka,kb,mg',ac',bc',rfl,L3,hs3,g3⟩;have:=tot L3;omega
    ·rintro c st3 (⟨r,c',rfl,hr⟩|⟨o',ka,kb,mg',ac',bc',rfl,L3,hs3,g3⟩)
     ·exact wpS_pure ⟨r,_,rfl,hr⟩
     ·refine wpS_bind (qFx fun st4 g4=>?_);exact wpS_pure ⟨_,_,_,_,rfl,L3,by show _<=o'.size;omega,g3.trans g4⟩
 ·rintro c st1 ⟨out,ia,ib,mg,rfl,L,hs,g⟩;have:=tot L;omega
 ·rintro c st1 ⟨r,c',rfl,hr⟩;exact wpS_pure (h _ _ hr.1 hr.2)
end
noncomputable def mergeHi':Array Keyed->Array Keyed->StateT SortSt Sem (Array Keyed):=sortPriv% PySem.Builtin.mergeHi
noncomputable def dnH(a b out:Array Keyed)(na nb:Nat):Array Keyed:=a.extract 0 na++b.extract 0 nb++out.reverse
noncomputable def fsH(a b out:Array Keyed)(na nb:Nat):Array Keyed:=b.extract 0 nb++a.extract 0 na++out.reverse
theorem qK7(a b:Array Keyed):mergeHi' a b=(do
 rule "list.sort.merge-hi"
 let total:=a.size+b.size
 let mut na:=a.size - 1
 let mut nb:=b.size
 let mut out:Array Keyed:=#[<-elem' a na]
 if na == 0 then return dnH a b out na nb
 if nb == 1 then return fsH a b out na nb
 let mut minGallop:=gallopOf (← get)
 for _ in [0:total] do
  let mut acount:=0
  let mut bcount:=0
  for _ in [0:total] do
   let some aWins ← lt' (← elem' b (nb - 1)) (← elem' a (na - 1))|return dnH a b out na nb
   if aWins then
    na:=na - 1;out:=out.push (← elem' a na);acount:=acount+1;bcount:=0
    if na == 0 then return dnH a b out na nb
    if acount >= minGallop then break
   else
    nb:=nb - 1;out:=out.push (← elem' b nb);bcount:=bcount+1;acount:=0
    if nb == 1 then return fsH a b out na nb
    if bcount >= minGallop then break
  rule "list.sort.gallop"
  minGallop:=minGallop+1
  for _ in [0:total] do
   if minGallop > 1 then minGallop:=minGallop - 1
   qA5 minGallop
   let some at_ ← gallop' false (← elem' b (nb - 1)) a 0 na (na - 1)|return dnH a b out na nb
   let k:=na - at_
   acount:=k
   if k > 0 then
    out:=out++(a.extract at_ na).reverse;na:=at_
    if na == 0 then return dnH a b out na nb
   nb:=nb - 1;out:=out.push (← elem' b nb)
   if nb == 1 then return fsH a b out na nb
   let some at_ ← gallop' true (← elem' a (na - 1)) b 0 nb (nb - 1)|return dnH a b out na nb
   let k:=nb - at_
   bcount:=k
   if k > 0 then
    out:=out++(b.extract at_ nb).reverse;nb:=at_
    if nb == 1 then return fsH a b out na nb
    if nb == 0 then return dnH a b out na nb
   na:=na - 1;out:=out.push (← elem' a na)
   if na == 0 then return dnH a b out na nb
   if acount<7 && bcount<7 then break
  minGallop:=minGallop+1
  qA5 minGallop
 unsupported "internal:list.sort.merge-bound"):=rfl
noncomputable def ng(rk:Keyed->Int)(x:Keyed):Int:=-rk x
theorem Dn.turn(h:Dn (ng rk) all l):Dn rk all l.reverse:=by
 refine⟨(List.reverse_perm l).trans h.1,List.pairwise_reverse.mpr (h.2.imp fun {x y} q=>?_)⟩;unfold ng at q;omega
theorem Srd.turn(h:Srd rk l):Srd (ng rk) l.reverse:=by
 refine List.pairwise_reverse.mpr (h.imp fun {x y} q=>?_);unfold ng;omega
theorem qM8(a:Array Keyed)(n:Nat):(a.extract 0 n).toList=a.toList.take n:=by
 rw[qDu,List.drop_zero,Nat.sub_zero]
theorem qT5(a b out:Array Keyed)(na nb:Nat):(dnH a b out na nb).toList=(out.toList++((b.toList.take nb).reverse++(a.toList.take na).reverse)).reverse:=by
 unfold dnH;simp[qM8]
theorem qT2(a b out:Array Keyed)(na nb:Nat):(fsH a b out na nb).toList=(out.toList++((a.toList.take na).reverse++(b.toList.take nb).reverse)).reverse:=by
 unfold fsH;simp[qM8]
theorem qDy(a:Array Keyed)(h:n<a.size):∃x,a[n]?=some x/\x∈a.toList/\(a.toList.take (n+1)).reverse=x :: (a.toList.take n).reverse:=by
 refine⟨a[n],by simp[h],by simp,?_⟩;rw[List.take_succ_eq_append_getElem (by simpa using h)];simp
theorem qVe{a:Array Keyed}{n:Nat}{l1 l2:List Keyed}(hn:n<=a.size)(e:a.toList.take n=l1++l2):(a.extract l1.length n).toList=l2/\a.toList.take l1.length=l1/\l1.length+l2.length=n:=by
 have ln:l1.length+l2.length=n:=by
  have:(a.toList.take n).length=l1.length+l2.length:=by rw[e];simp
  rw[hAl]at this;simp at this;omega
 refine⟨?_,?_,ln⟩
 ·rw[qDu,<-List.drop_take,e,hDo];rfl
 ·have:(a.toList.take n).take l1.length=l1:=by rw[e,hDn];rfl
  rw[List.take_take,Nat.min_eq_left (by omega)]at this;exact this
section
variable{prog:Program}{w:World}{A:Around}{E:Value->Shared->Prop}{s:Shared}{rk:Keyed->Int}{kd:SortKind}{D:Keyed->Prop}
abbrev H7:=ForInStep (Option (Array Keyed)×Nat×Nat×Array Keyed×Nat×Nat×Nat)
noncomputable def gh4(a b:Array Keyed)(ac bc mg:Nat)(out:Array Keyed)(na nb:Nat):StateT SortSt Sem H7:=do
 let x ← elem' a (na - 1)
 if (na - 1 == 0)=true then pure (.done (some (dnH a b (out.push x) (na - 1) nb),na - 1,nb,out.push x,mg,ac,bc))
 else if (decide (ac<7) && decide (bc<7))=true then pure (.done (none,na - 1,nb,out.push x,mg,ac,bc))
 else pure (.yield (none,na - 1,nb,out.push x,mg,ac,bc))
noncomputable def gh3(a b:Array Keyed)(ac mg:Nat)(out:Array Keyed)(na nb bc0:Nat):StateT SortSt Sem H7:=do
 let y ← elem' b (nb - 1)
 if (nb - 1 == 1)=true then pure (.done (some (fsH a b (out.push y) na (nb - 1)),na,nb - 1,out.push y,mg,ac,bc0))
 else
  let x ← elem' a (na - 1)
  let some k ← gallop' true x b 0 (nb - 1) (nb - 1 - 1)|pure (.done (some (dnH a b (out.push y) na (nb - 1)),na,nb - 1,out.push y,mg,ac,bc0))
  if nb - 1 - k > 0 then
    if (k == 1)=true then pure (.done (some (fsH a b (out.push y++(b.extract k (nb - 1)).reverse) na k),na,k,out.push y++(b.extract k (nb - 1)).reverse,mg,ac,nb - 1 - k))
    else if (k == 0)=true then pure (.done (some (dnH a b (out.push y++(b.extract k (nb - 1)).reverse) na k),na,k,out.push y++(b.extract k (nb - 1)).reverse,mg,ac,nb - 1 - k))
    else gh4 a b ac (nb - 1 - k) mg (out.push y++(b.extract k (nb - 1)).reverse) na k
  else gh4 a b ac (nb - 1 - k) mg (out.push y) na (nb - 1)
noncomputable def gh2(a b:Array Keyed)(mg:Nat)(out:Array Keyed)(na nb ac0 bc0:Nat):StateT SortSt Sem H7:=do
 qA5 mg
 let y ← elem' b (nb - 1)
 let some k ← gallop' false y a 0 na (na - 1)|pure (.done (some (dnH a b out na nb),na,nb,out,mg,ac0,bc0))
 if na - k > 0 then
   if (k == 0)=true then pure (.done (some (dnH a b (out++(a.extract k na).reverse) k nb),k,nb,out++(a.extract k na).reverse,mg,na - k,bc0))
   else gh3 a b (na - k) mg (out++(a.extract k na).reverse) k nb bc0
 else gh3 a b (na - k) mg out na nb bc0
noncomputable def ghT(a b:Array Keyed)(c:Option (Array Keyed)×Nat×Nat×Array Keyed×Nat×Nat×Nat):StateT SortSt Sem H7 :=
 if c.2.2.2.2.1 > 1 then gh2 a b (c.2.2.2.2.1 - 1) c.2.2.2.1 c.2.1 c.2.2.1 c.2.2.2.2.2.1 c.2.2.2.2.2.2 else gh2 a b c.2.2.2.2.1 c.2.2.2.1 c.2.1 c.2.2.1 c.2.2.2.2.2.1 c.2.2.2.2.2.2
abbrev HM(rk:Keyed->Int)(a b out:Array Keyed)(na nb:Nat):Prop:=MI (ng rk) (a.toList++b.toList) (a.toList.take na).reverse (b.toList.take nb).reverse out.toList
structure Hi(rk:Keyed->Int)(a b out:Array Keyed)(na nb:Nat):Prop where
 mi:HM rk a b out na nb
 ha:0<na
 hb:1<nb
 za:na<=a.size
 zb:nb<=b.size
theorem Hi.dn(m:HM rk a b out na nb)(h:na=0\/nb=0):Dn rk (a.toList++b.toList) (dnH a b out na nb).toList:=by
 rw[qT5];refine Dn.turn (m.symm.fin fun x hx y hy=>?_);rcases h with h|h
 ·subst h;cases hy
 ·subst h;cases hx
theorem Hi.fs(m:HM rk a b out na nb)(h:nb=1)(lo:∀y∈b.toList.take 1,∀x∈a.toList,rk y<=rk x):Dn rk (a.toList++b.toList) (fsH a b out na nb).toList:=by
 rw[qT2];refine Dn.turn (m.fin fun x hx y hy=>?_);subst h;have:=lo y (hDc.mp hy) x (hCg (hDc.mp hx));unfold ng;omega
theorem qUi{a b out:Array Keyed}{ac bc mg na nb:Nat}{st st0:SortSt}{Q:H7->SortSt->Prop}(L:Hi rk a b out na nb)(lt:∀x,a[na - 1]?=some x->∀y∈b.toList.take nb,rk y<=rk x)(g:Gal st0 st)
  (hd:∀r c,LoT rk a b st0 r st->Q (.done (some r,c)) st) (hn:∀out' na' mg ac bc,Hi rk a b out' na' nb->out.size<out'.size->Q (.done (none,na',nb,out',mg,ac,bc)) st/\Q (.yield (none,na',nb,out',mg,ac,bc)) st) :
  wpS (model prog w) A E s (gh4 a b ac bc mg out na nb) Q st:=by
 have h1:=L.ha;have h3:=L.za;obtain⟨x,e,ex,ed⟩:=qDy a (n:=na - 1) (by omega);rw[show na - 1+1=na by omega]at ed;have m:HM rk a b (out.push x) (na - 1) nb:=by
  have m:=L.mi;unfold HM at m ⊢;rw[ed]at m;rw[hC6];exact MI.as (xs:=[x]) m fun z hz y hy=>by
   rw[hA5.mp hz];have:=lt x e y (hDc.mp hy);unfold ng;omega
 unfold gh4;refine wpS_bind (qAz e ?_);by_cases c:(na - 1 == 0)=true
 ·rw[if_pos c];exact wpS_pure (hd _ _ ⟨g,Hi.dn m (.inl (eq_of_beq c))⟩)
 ·rw[if_neg c];have c':na - 1≠0:=by simpa using c
  have:=hn (out.push x) (na - 1) mg ac bc ⟨m,by omega,L.hb,by omega,L.zb⟩ (by simp);split
  ·exact wpS_pure this.1
  ·exact wpS_pure this.2
theorem qUj(ak:qG5 prog w A E s rk kd D){a b out:Array Keyed}{ac mg bc0 na nb:Nat}{st st0:SortSt}{Q:H7->SortSt->Prop}(hk:kindOf st=kd)(da:∀x∈a.toList,D x)(db:∀x∈b.toList,D x)(sb:Srd rk b.toList)(L:Hi rk a b out na nb)(lt:∀y,b[nb - 1]?=some y->∀x∈a.toList.take na,rk x<=rk y)(lo:∀y∈b.toList.take 1,∀x∈a.toList,rk y<=rk x)(g:Gal st0 st)
  (hd:∀r c,LoT rk a b st0 r st->Q (.done (some r,c)) st) (hn:∀out' na' nb' mg ac bc,Hi rk a b out' na' nb'->out.size<out'.size->Q (.done (none,na',nb',out',mg,ac,bc)) st/\Q (.yield (none,na',nb',out',mg,ac,bc)) st) :
  wpS (model prog w) A E s (gh3 a b ac mg out na nb bc0) Q st:=by
 have h1:=L.ha;have h2:=L.hb;have h3:=L.za;have h4:=L.zb;obtain⟨y,e,ey,ed⟩:=qDy b (n:=nb - 1) (by omega);rw[show nb - 1+1=nb by omega]at ed;obtain⟨x,f,fx,fd⟩:=qDy a (n:=na - 1) (by omega);rw[show na - 1+1=na by omega]at fd;have m:HM rk a b (out.push y) na (nb - 1):=by
  have m:=L.mi;unfold HM at m ⊢;rw[ed]at m;rw[hC6];exact MI.bs (xs:=[y]) m fun z hz x hx=>by
   rw[hA5.mp hz];have:=lt y e x (hDc.mp hx);unfold ng;omega
 have sh:=qCa (fd▸m.sa);unfold gh3;refine wpS_bind (qAz e ?_);by_cases c:(nb - 1 == 1)=true
 ·rw[if_pos c];exact wpS_pure (hd _ _ ⟨g,Hi.fs m (eq_of_beq c) lo⟩)
 ·rw[if_neg c];have c':nb - 1≠1:=by simpa using c
  refine wpS_bind (qAz f ?_);refine wpS_bind (qE0 ak (l:=b.toList.take (nb - 1)) hk (da x fx) (by rw[List.drop_zero]) (by simp;omega) (fun z hz=>db z (hCg hz)) (List.Pairwise.sublist (List.take_sublist _ _) sb) (by omega) fun l1 l2 el p1 p2=>?_);have q1:∀z∈l1,rk z<rk x:=fun z hz=>by simpa [gP] using p1 z hz
  have q2:∀z∈l2,rk x<=rk z:=fun z hz=>by
   have:=p2 z hz;simp[gP]at this;exact this
  obtain⟨X1,X2,X3⟩:=qVe (by omega) el;dsimp only;by_cases k0:nb - 1 - l1.length > 0
  ·rw[if_pos k0];have m2:HM rk a b (out.push y++(b.extract l1.length (nb - 1)).reverse) na l1.length:=by
    unfold HM at m ⊢;rw[hBx,Array.toList_reverse,X1,X2];rw[el,List.reverse_append]at m;exact m.bs fun z hz x' hx'=>by
     have a1:=q2 z (hDc.mp hz);have a2:=sh x' (fd▸hx');unfold ng at a2 ⊢;omega
   by_cases d:(l1.length == 1)=true
   ·rw[if_pos d];exact wpS_pure (hd _ _ ⟨g,Hi.fs m2 (eq_of_beq d) lo⟩)
   ·rw[if_neg d];by_cases d2:(l1.length == 0)=true
    ·rw[if_pos d2];exact wpS_pure (hd _ _ ⟨g,Hi.dn m2 (.inr (eq_of_beq d2))⟩)
    ·rw[if_neg d2];have d':l1.length≠1:=by simpa using d
     have d2':l1.length≠0:=fun z=>d2 (by rw[z];rfl)
     refine qUi ⟨m2,h1,by omega,h3,by omega⟩ (fun z hz y hy=>?_) g hd fun o i mg ac bc L' hs=>hn o i _ mg ac bc L' ?_
     ·rw[X2]at hy;rw[f]at hz;cases hz;exact hE0 (q1 y hy)
     ·simp at hs;omega
  ·rw[if_neg k0];have n1:l2=[]:=hBe.mp (by omega);subst n1;refine qUi ⟨m,h1,by omega,h3,by omega⟩ (fun z hz y hy=>?_) g hd fun o i mg ac bc L' hs=>hn o i _ mg ac bc L' ?_
   ·rw[el,hBd]at hy;rw[f]at hz;cases hz;exact hE0 (q1 y hy)
   ·simp at hs;omega
theorem qYa(ak:qG5 prog w A E s rk kd D){a b out:Array Keyed}{mg ac0 bc0 na nb:Nat}{st st0:SortSt}{Q:H7->SortSt->Prop}(hk:kindOf st0=kd)(da:∀x∈a.toList,D x)(db:∀x∈b.toList,D x)(sa:Srd rk a.toList)(sb:Srd rk b.toList)(L:Hi rk a b out na nb)(lo:∀y∈b.toList.take 1,∀x∈a.toList,rk y<=rk x)(g:Gal st0 st)
  (hd:∀r c st,LoT rk a b st0 r st->Q (.done (some r,c)) st) (hn:∀out' na' nb' mg ac bc st,Gal st0 st->Hi rk a b out' na' nb'->out.size<out'.size->Q (.done (none,na',nb',out',mg,ac,bc)) st/\Q (.yield (none,na',nb',out',mg,ac,bc)) st) :
  wpS (model prog w) A E s (gh2 a b mg out na nb ac0 bc0) Q st:=by
 have h1:=L.ha;have h2:=L.hb;have h3:=L.za;have h4:=L.zb;have m:=L.mi;obtain⟨y,e,ey,ed⟩:=qDy b (n:=nb - 1) (by omega);rw[show nb - 1+1=nb by omega]at ed;have sh:=qCa (ed▸m.sb);unfold gh2;refine wpS_bind (qFx fun st1 g1=>?_);have g':=g.trans g1;refine wpS_bind (qAz e ?_);refine wpS_bind (qE0 ak (l:=a.toList.take na) (g'.1.trans hk) (db y ey) (by rw[List.drop_zero]) (by simp;omega) (fun z hz=>da z (hCg hz)) (List.Pairwise.sublist (List.take_sublist _ _) sa) (by omega) fun l1 l2 el p1 p2=>?_);have q1:∀z∈l1,rk z<=rk y:=fun z hz=>by simpa [gP] using p1 z hz
 have q2:∀z∈l2,rk y<rk z:=fun z hz=>by simpa [gP] using p2 z hz
 obtain⟨X1,X2,X3⟩:=qVe (by omega) el;dsimp only;by_cases k0:na - l1.length > 0
 ·rw[if_pos k0];have m2:HM rk a b (out++(a.extract l1.length na).reverse) l1.length nb:=by
   unfold HM at m ⊢;rw[hBx,Array.toList_reverse,X1,X2];rw[el,List.reverse_append]at m;exact m.as fun z hz x' hx'=>by
    have a1:=q2 z (hDc.mp hz);have a2:=sh x' (ed▸hx');unfold ng at a2 ⊢;omega
  by_cases d2:(l1.length == 0)=true
  ·rw[if_pos d2];exact wpS_pure (hd _ _ _ ⟨g',Hi.dn m2 (.inl (eq_of_beq d2))⟩)
  ·rw[if_neg d2];have d2':l1.length≠0:=fun z=>d2 (by rw[z];rfl)
   refine qUj ak (g'.1.trans hk) da db sb ⟨m2,by omega,h2,by omega,h4⟩ (fun z hz x hx=>?_) lo g' (fun r c=>hd r c _) fun o i j mg ac bc L' hs=>hn o i j mg ac bc _ g' L' ?_
   ·rw[X2]at hx;rw[e]at hz;cases hz;exact q1 x hx
   ·simp at hs;omega
 ·rw[if_neg k0];have n1:l2=[]:=hBe.mp (by omega);subst n1;refine qUj ak (g'.1.trans hk) da db sb L (fun z hz x hx=>?_) lo g' (fun r c=>hd r c _) fun o i j mg ac bc L' hs=>hn o i j mg ac bc _ g' L' hs
  rw[el,hBd]at hx;rw[e]at hz;cases hz;exact q1 x hx
theorem qKj(ak:qG5 prog w A E s rk kd D){a b:Array Keyed}{st:SortSt}{Q:Array Keyed->SortSt->Prop}(hk:kindOf st=kd)(da:∀x∈a.toList,D x)(db:∀x∈b.toList,D x)(sa:Srd rk a.toList)(sb:Srd rk b.toList)(h1:1<=a.size)(h2:1<=b.size)
  (lo:∀y∈b.toList.take 1,∀x∈a.toList,rk y<=rk x) (hi:∀x∈a.toList.drop (a.size - 1),∀y∈b.toList,rk y<=rk x) (h:∀r st',Gal st st'->Dn rk (a.toList++b.toList) r.toList->Q r st'):wpS (model prog w) A E s (mergeHi' a b) Q st:=by
 rw[qK7];refine wpS_bind (wpS_lift (wpAny_rule ⟨rfl,?_⟩));obtain⟨x,e,ex,ed⟩:=qDy a (n:=a.size - 1) (by omega);rw[show a.size - 1+1=a.size by omega]at ed;refine wpS_bind (qAz e ?_);have m:HM rk a b #[x] (a.size - 1) b.size:=by
  have m0:MI (ng rk) (a.toList++b.toList) (a.toList.take a.size).reverse (b.toList.take b.size).reverse []:=by
   have ea:a.toList.take a.size=a.toList:=hA7 (by simp);have eb:b.toList.take b.size=b.toList:=hA7 (by simp);rw[ea,eb];refine⟨?_,List.Pairwise.nil,sa.turn,sb.turn,fun x hx=>(by cases hx),fun x hx=>(by cases hx)⟩;exact((List.reverse_perm _).append (List.reverse_perm _))
  rw[ed]at m0;refine MI.as (xs:=[x]) m0 fun z hz y hy=>?_
  rw[hA5.mp hz];have:=hi x ?_ y (hCg (hDc.mp hy))
  ·unfold ng;omega
  ·obtain⟨x',e',_,ed'⟩:=qFs a (i:=a.size - 1) (by omega);rw[e]at e';cases e';rw[ed'];exact hA9 ..
 by_cases e1:(a.size - 1 == 0)=true
 ·rw[if_pos e1];exact wpS_pure (h _ _ (Gal.refl _) (Hi.dn m (.inl (eq_of_beq e1))))
 rw[if_neg e1];by_cases e2:(b.size == 1)=true
 ·rw[if_pos e2];exact wpS_pure (h _ _ (Gal.refl _) (Hi.fs m (eq_of_beq e2) lo))
 rw[if_neg e2];have e1':a.size - 1≠0:=fun z=>e1 (by rw[z];rfl)
 have e2':b.size≠1:=fun z=>e2 (by rw[z];rfl)
 refine wpS_bind (wpS_get ?_);have tot:∀ {o:Array Keyed} {i j:Nat},Hi rk a b o i j->o.size+3<=a.size+b.size:=fun {o i j} L=>by
  have:=L.mi.len;have:=L.ha;have:=L.hb;have:=L.za;have:=L.zb;simp at *;omega
 refine wpS_bind (wpS_mono (wpS_forRange (I:=fun x c st'=>∃out na nb mg,c=(none,na,nb,out,mg)/\Hi rk a b out na nb/\x+1<=out.size/\Gal st st')
  (Q:=fun c st'=>∃r c',c=(some r,c')/\LoT rk a b st r st') ?_ ?_ ⟨_,_,_,_,rfl,⟨m,by omega,by omega,by omega,hA6 _⟩,by simp,Gal.refl _⟩) ?_)
 ·rintro x c st1 _ hx ⟨out,ia,ib,mg,rfl,L,hs,g⟩;refine wpS_bind (wpS_mono (wpS_forRange (I:=fun y c st'=>∃o ia ib ac bc,c=(none,ia,ib,o,ac,bc)/\Hi rk a b o ia ib/\out.size+y<=o.size/\Gal st st')
   (Q:=fun c st'=>(∃r c',c=(some r,c')/\LoT rk a b st r st')\/∃o ia ib ac bc,c=(none,ia,ib,o,ac,bc)/\Hi rk a b o ia ib/\out.size<o.size/\Gal st st') ?_ ?_ ⟨_,_,_,_,_,rfl,L,hA6 _,g⟩) ?_)
  ·rintro y c st2 _ hy ⟨o,ja,jb,ac,bc,rfl,L2,hs2,g2⟩;have h1:=L2.ha;have h2:=L2.hb;have h3:=L2.za;have h4:=L2.zb;have m:=L2.mi;obtain⟨v,f,fv,fd⟩:=qDy b (n:=jb - 1) (by omega);rw[show jb - 1+1=jb by omega]at fd;obtain⟨u,p,pu,pd⟩:=qDy a (n:=ja - 1) (by omega);rw[show ja - 1+1=ja by omega]at pd;refine wpS_bind (qAz f ?_);refine wpS_bind (qAz p ?_);refine wpS_bind (ak v u (db v fv) (da u pu) _ _ (g2.1.trans hk) ?_);have sv:=qCa (fd▸m.sb);have su:=qCa (pd▸m.sa);unfold ng at sv su;by_cases c:rk v<rk u
   ·rw[decide_eq_true c];have m2:HM rk a b (o.push u) (ja - 1) jb:=by
     unfold HM at m ⊢;rw[pd]at m;rw[hC6];refine MI.as (xs:=[u]) m fun z hz x hx=>?_
     rw[hA5.mp hz];have:=sv x (fd▸hx);unfold ng;omega
    dsimp only;rw[if_pos rfl];refine wpS_bind (qAz p ?_);by_cases q:(ja - 1 == 0)=true
    ·rw[if_pos q];exact wpS_pure (.inl ⟨_,_,rfl,g2,Hi.dn m2 (.inl (eq_of_beq q))⟩)
    ·rw[if_neg q];have q':ja - 1≠0:=fun z=>q (by rw[z];rfl)
     split
     ·exact wpS_pure (.inr ⟨_,_,_,_,_,rfl,⟨m2,by omega,h2,by omega,h4⟩,by simp;omega,g2⟩)
     ·exact wpS_pure ⟨_,_,_,_,_,rfl,⟨m2,by omega,h2,by omega,h4⟩,by simp;omega,g2⟩
   ·rw[decide_eq_false c];have m2:HM rk a b (o.push v) ja (jb - 1):=by
     unfold HM at m ⊢;rw[fd]at m;rw[hC6];refine MI.bs (xs:=[v]) m fun z hz x hx=>?_
     rw[hA5.mp hz];have:=su x (pd▸hx);unfold ng;omega
    dsimp only;rw[if_neg (by decide)];refine wpS_bind (qAz f ?_);by_cases q:(jb - 1 == 1)=true
    ·rw[if_pos q];exact wpS_pure (.inl ⟨_,_,rfl,g2,Hi.fs m2 (eq_of_beq q) lo⟩)
    ·rw[if_neg q];have q':jb - 1≠1:=fun z=>q (by rw[z];rfl)
     split
     ·exact wpS_pure (.inr ⟨_,_,_,_,_,rfl,⟨m2,h1,by omega,h3,by omega⟩,by simp;omega,g2⟩)
     ·exact wpS_pure ⟨_,_,_,_,_,rfl,⟨m2,h1,by omega,h3,by omega⟩,by simp;omega,g2⟩
  ·rintro c st2 ⟨o,ja,jb,ac,bc,rfl,L2,hs2,g2⟩;have:=tot L2;omega
  ·rintro c st2 (⟨r,c',rfl,hr⟩|⟨o,ja,jb,ac,bc,rfl,L2,hs2,g2⟩)
   ·exact wpS_pure ⟨r,_,rfl,hr⟩
   ·refine wpS_bind (wpS_lift (wpAny_rule ⟨rfl,?_⟩));refine wpS_bind (wpS_mono (wpS_forRange (I:=fun y c st'=>∃o' ia ib mg ac bc,c=(none,ia,ib,o',mg,ac,bc)/\Hi rk a b o' ia ib/\o.size+y<=o'.size/\Gal st st')
     (Q:=fun c st'=>(∃r c',c=(some r,c')/\LoT rk a b st r st')\/∃o' ia ib mg ac bc,c=(none,ia,ib,o',mg,ac,bc)/\Hi rk a b o' ia ib/\o.size<=o'.size/\Gal st st') ?_ ?_ ⟨_,_,_,_,_,_,rfl,L2,hA6 _,g2⟩) ?_)
    ·rintro y c st3 _ hy ⟨o',ka,kb,mg',ac',bc',rfl,L3,hs3,g3⟩;have one:∀mg,wpS (model prog w) A E s (gh2 a b mg o' ka kb ac' bc') (fun r st'=>match r with | .done c'=>(∃r c'',c'=(some r,c'')/\LoT rk a b st r st')\/∃o' ia ib mg ac bc,c'=(none,ia,ib,o',mg,ac,bc)/\Hi rk a b o' ia ib/\o.size<=o'.size/\Gal st st' | .yield c'=>∃o' ia ib mg ac bc,c'=(none,ia,ib,o',mg,ac,bc)/\Hi rk a b o' ia ib/\o.size+(y+1)<=o'.size/\Gal st st') st3:=fun mg =>
      qYa ak hk da db sa sb L3 lo g3 (fun r c st5 hr=>.inl ⟨r,c,rfl,hr⟩) fun o6 i j mg6 ac6 bc6 st6 g6 L6 hs6=>⟨.inr ⟨_,_,_,_,_,_,rfl,L6,by omega,g6⟩,⟨_,_,_,_,_,_,rfl,L6,by omega,g6⟩⟩
     refine wpS_mono (m:=ghT a b (none,ka,kb,o',mg',ac',bc')) ?_ (fun r st' hr=>?_) (Q:=fun r st'=>match r with | .done c'=>(∃r c'',c'=(some r,c'')/\LoT rk a b st r st')\/∃o' ia ib mg ac bc,c'=(none,ia,ib,o',mg,ac,bc)/\Hi rk a b o' ia ib/\o.size<=o'.size/\Gal st st' | .yield c'=>∃o' ia ib mg ac bc,c'=(none,ia,ib,o',mg,ac,bc)/\Hi rk a b o' ia ib/\o.size+(y+1)<=o'.size/\Gal st st')
     ·unfold ghT;split
      ·exact one _
      ·exact one _
     ·cases r with
      |done c'=>exact hr
      |yield c'=>exact hr
    ·rintro c st3 ⟨o',ka,kb,mg',ac',bc',rfl,L3,hs3,g3⟩;have:=tot L3;omega
    ·rintro c st3 (⟨r,c',rfl,hr⟩|⟨o',ka,kb,mg',ac',bc',rfl,L3,hs3,g3⟩)
     ·exact wpS_pure ⟨r,_,rfl,hr⟩
     ·refine wpS_bind (qFx fun st4 g4=>?_);exact wpS_pure ⟨_,_,_,_,rfl,L3,by show _<=o'.size;omega,g3.trans g4⟩
 ·rintro c st1 ⟨out,ia,ib,mg,rfl,L,hs,g⟩;have:=tot L;omega
 ·rintro c st1 ⟨r,c',rfl,hr⟩;exact wpS_pure (h _ _ hr.1 hr.2)
end
noncomputable def wrA(m:Array Keyed)(s:Nat)(a:Array Keyed):Array Keyed:=m.toList.zipIdx.foldl (fun a (p,j)=>a.setIfInBounds (s+j) p) a
theorem qK8(i:Nat):mergeAt' i=(do
 let s ← get
 let (some (sa,na,power),some (sb,nb,_)):=((pendingOf s)[i]?,(pendingOf s)[i+1]?)|unsupported "internal:list.sort.pending"
 set (setPending s (((pendingOf s).setIfInBounds i (sa,na+nb,power)).eraseIdxIfInBounds (i+1)))
 let some k ← gallop' false (← elem' (arrOf s) sb) (arrOf s) sa na 0|return false
 let (sa,na):=(sa+k,na - k)
 if na == 0 then return true
 let some nb ← gallop' true (← elem' (arrOf s) (sa+na - 1)) (arrOf s) sb nb (nb - 1)|return false
 if nb == 0 then return true
 let x:=(arrOf s).extract sa sb
 let y:=(arrOf s).extract sb (sb+nb)
 let merged ← if na<=nb then mergeLo' x y else mergeHi' x y
 modify fun s=>setArr s (wrA merged sa (arrOf s))
 return (failedOf (← get)).isNone):=rfl
theorem qOe(s:Nat):∀(l:List Keyed) (k:Nat) (a:Array Keyed),s+k+l.length<=a.size->((l.zipIdx k).foldl (fun a (p,j)=>a.setIfInBounds (s+j) p) a).toList=a.toList.take (s+k)++(l++a.toList.drop (s+k+l.length))
 |[],k,a,h=>by simp
 |p :: l,k,a,h=>by
  rw[List.zipIdx_cons,List.foldl_cons];have hl:s+k+(l.length+1)<=a.size:=h;rw[qOe s l (k+1) _ (by simp;omega)];have e:(a.setIfInBounds (s+k) p).toList=a.toList.set (s+k) p:=Array.toList_setIfInBounds ..;rw[e];have hs:s+k<a.toList.length:=by simp;omega
  have e1:(a.toList.set (s+k) p).take (s+(k+1))=a.toList.take (s+k)++[p]:=by
   rw[show s+(k+1)=s+k+1 by omega,List.take_succ_eq_append_getElem (by simpa using hs),List.take_set_of_le (hA6 _)];simp
  have e2:(a.toList.set (s+k) p).drop (s+(k+1)+l.length)=a.toList.drop (s+k+(p :: l).length):=by
   rw[List.drop_set_of_lt (by omega)];congr 1;simp;omega
  rw[e1,e2];simp
theorem qX8(e:a.toList=P++(X++S))(hm:m.toList=M)(hl:M.length=X.length):(wrA m P.length a).toList=P++(M++S):=by
 subst hm;have sz:a.size=P.length+(X.length+S.length):=by
  rw[<-hB3,e];simp
 unfold wrA;rw[qOe P.length m.toList 0 a (by omega),e,Nat.add_zero,hDn,hl]
 ·congr 2;rw[<-hBj,hDo];simp
 ·rfl
section
variable{prog:Program}{w:World}{A:Around}{E:Value->Shared->Prop}{s:Shared}{rk:Keyed->Int}{kd:SortKind}{D:Keyed->Prop}
theorem qVw{σ:Type}{M:Model}{st st':σ}{Q:PUnit->σ->Prop}(h:Q ⟨⟩ st'):wpS M A E s (set st':StateT σ Sem PUnit) Q st:=by
 unfold wpS;rw[StateT.run_set];exact wpAny_pure ⟨rfl,h⟩
theorem qVs{a:Array Keyed}{P S:List Keyed}{x:Keyed}(e:a.toList=P++x :: S):a[P.length]?=some x:=by
 rw[<-hAy,e,hCf (hA6 _)];simp
theorem qKk(ak:qG5 prog w A E s rk kd D){i:Nat}{st:SortSt}{Q:Bool->SortSt->Prop}{P X Y S:List Keyed}{pw q:Nat}(hk:kindOf st=kd)(hf:failedOf st=none)(e:(arrOf st).toList=P++(X++(Y++S)))(d:∀x∈(arrOf st).toList,D x)
  (p1:(pendingOf st)[i]?=some (P.length,X.length,pw)) (p2:(pendingOf st)[i+1]?=some (P.length+X.length,Y.length,q)) (sX:Srd rk X) (sY:Srd rk Y) (nX:X≠[]) (nY:Y≠[])
  (h:∀st' M,kindOf st'=kd->failedOf st'=none->pendingOf st'=((pendingOf st).setIfInBounds i (P.length,X.length+Y.length,pw)).eraseIdxIfInBounds (i+1)->(arrOf st').toList=P++(M++S)->Dn rk (X++Y) M->Q true st'):wpS (model prog w) A E s (mergeAt' i) Q st:=by
 rw[qK8];refine wpS_bind (wpS_get ?_);rw[p1,p2];dsimp only;refine wpS_bind (qVw ?_);obtain⟨b0,Y',eY⟩:=List.exists_cons_of_ne_nil nY;have sb0:=qCa (eY▸sY);rw[<-eY]at sb0;have eb:(arrOf st)[P.length+X.length]?=some b0:=by
  have:=qVs (a:=arrOf st) (P:=P++X) (x:=b0) (S:=Y'++S) (by rw[e,eY];simp)
  simpa using this
 have dX:∀x∈X,D x:=fun x hx=>d x (by rw[e];simp[hx])
 have dY:∀x∈Y,D x:=fun x hx=>d x (by rw[e];simp[hx])
 have mb:b0∈Y:=by rw[eY];exact hA9 ..
 refine wpS_bind (qAz eb ?_);refine wpS_bind (qE0 ak (l:=X) hk (dY _ mb) (by rw[e,hDo rfl,hDn rfl]) rfl dX sX (List.length_pos_iff.mpr nX) fun l1 l2 el q1 q2=>?_);have r1:∀z∈l1,rk z<=rk b0:=fun z hz=>by simpa [gP] using q1 z hz
 have r2:∀z∈l2,rk b0<rk z:=fun z hz=>by simpa [gP] using q2 z hz
 have lX:X.length=l1.length+l2.length:=by rw[el];simp
 have plain:(∀x∈X,∀y∈Y,rk x<=rk y)->Dn rk (X++Y) (X++Y):=fun c=>⟨hCd _,hAz.mpr ⟨sX,sY,c⟩⟩
 dsimp only;by_cases c:(X.length - l1.length == 0)=true
 ·rw[if_pos c];have c':X.length - l1.length=0:=eq_of_beq c;have n2:l2=[]:=hBe.mp (by omega);rw[n2,hBd]at el;exact wpS_pure (h _ (X++Y) hk hf rfl (by rw[hBj];exact e) (plain fun x hx y hy=>Int.le_trans (r1 x (el▸hx)) (sb0 y hy)))
 ·rw[if_neg c];have c':X.length - l1.length≠0:=fun z=>c (by rw[z];rfl)
  obtain⟨l3,z,e3⟩:∃l3 z,l2=l3++[z]:=by
   rcases List.eq_nil_or_concat l2 with z|⟨l3,z,hz⟩
   ·rw[z]at lX;simp at lX;omega
   ·exact⟨l3,z,by simpa using hz⟩
  have ez:(arrOf st)[P.length+l1.length+(X.length - l1.length) - 1]?=some z:=by
   have:=qVs (a:=arrOf st) (P:=P++l1++l3) (x:=z) (S:=Y++S) (by rw[e,el,e3];simp);rw[<-this];congr 1;have:l2.length=l3.length+1:=by rw[e3];simp
   simp;omega
  have mz:z∈X:=by rw[el,e3];simp
  have topz:∀x∈X,rk x<=rk z:=fun x hx=>by
   have e4:X=(l1++l3)++[z]:=by rw[el,e3];simp
   rw[e4]at hx sX;rcases hAh.mp hx with hx|hx
   ·exact(hAz.mp sX).2.2 x hx z (hA5.mpr rfl)
   ·rw[hA5.mp hx];exact hDk _
  refine wpS_bind (qAz ez ?_);refine wpS_bind (qE0 ak (l:=Y) hk (dX _ mz) (by rw[e,<-hBj,hDo (by simp),hDn rfl]) rfl dY sY (by have:=List.length_pos_iff.mpr nY;omega) fun m1 m2 em t1 t2=>?_);have u1:∀y∈m1,rk y<rk z:=fun y hy=>by simpa [gP] using t1 y hy
  have u2:∀y∈m2,rk z<=rk y:=fun y hy=>by
   have:=t2 y hy;simp[gP]at this;exact this
  dsimp only;by_cases f:(m1.length == 0)=true
  ·rw[if_pos f];have n1:m1=[]:=hBe.mp (eq_of_beq f);rw[n1,List.nil_append]at em;exact wpS_pure (h _ (X++Y) hk hf rfl (by rw[hBj];exact e) (plain fun x hx y hy=>Int.le_trans (topz x hx) (u2 y (em▸hy))))
  ·rw[if_neg f];have f':m1.length≠0:=fun z=>f (by rw[z];rfl)
   have ex:((arrOf st).extract (P.length+l1.length) (P.length+X.length)).toList=l2:=by
    rw[qDu,e,el,show P++((l1++l2)++(Y++S))=(P++l1)++(l2++(Y++S)) by simp,hDo (by simp),hDn (by simp;omega)]
   have ey:((arrOf st).extract (P.length+X.length) (P.length+X.length+m1.length)).toList=m1:=by
    rw[qDu,e,em,show P++(X++((m1++m2)++S))=(P++X)++(m1++(m2++S)) by simp,hDo (by simp),hDn (by omega)]
   have sx:((arrOf st).extract (P.length+l1.length) (P.length+X.length)).size=l2.length:=by rw[<-hB3,ex]
   have sy:((arrOf st).extract (P.length+X.length) (P.length+X.length+m1.length)).size=m1.length:=by rw[<-hB3,ey]
   have s2:Srd rk l2:=(hAz.mp (el▸sX)).2.1;have t2':Srd rk m1:=(hAz.mp (em▸sY)).1;have i1:∀x∈l2,x∈X:=fun x hx=>by rw[el];exact hAa _ hx
   have i2:∀x∈m1,x∈Y:=fun x hx=>by rw[em];exact hAi _ hx
   have lo:∀y∈m1.take 1,∀x∈l2,rk y<=rk x:=fun y hy x hx=>by
    have:y=b0:=by
     cases m1 with
     |nil=>cases hy
     |cons v m1 =>
      rw[eY]at em;injection em with e5 _
      rw[e5]
      simpa using hy
    rw[this];exact hE0 (r2 x hx)
   have hi:∀x∈l2.drop (l2.length - 1),∀y∈m1,rk y<=rk x:=fun x hx y hy=>by
    have:x=z:=by
     rw[e3]at hx
     simpa using hx
    rw[this];exact hE0 (u1 y hy)
   have post:∀(r:Array Keyed) (st':SortSt),Gal (setPending st (((pendingOf st).setIfInBounds i (P.length,X.length+Y.length,pw)).eraseIdxIfInBounds (i+1))) st'->Dn rk (l2++m1) r.toList->wpS (model prog w) A E s (do modify fun s=>setArr s (wrA r (P.length+l1.length) (arrOf s));return (failedOf (← get)).isNone) Q st':=fun r st' g dn=>by
    refine wpS_bind (wpS_modify ?_);refine wpS_bind (wpS_get ?_);have ef:failedOf st'=none:=g.2.2.2.trans hf;have ea:(arrOf st').toList=(P++l1)++((l2++m1)++(m2++S)):=by
     rw[g.2.1];show(arrOf st).toList=_;rw[e,el,em];simp
    have ew:=qX8 (m:=r) ea rfl dn.1.length_eq;rw[hAj]at ew;have fin:=h (setArr st' (wrA r (P.length+l1.length) (arrOf st'))) (l1++(r.toList++m2)) (g.1.trans hk) ef g.2.2.1 (by
     show(wrA r (P.length+l1.length) (arrOf st')).toList=_;rw[ew];simp) ?_
    ·have et:(failedOf (setArr st' (wrA r (P.length+l1.length) (arrOf st')))).isNone=true:=by
      show(failedOf st').isNone=true;rw[ef];rfl
     rw[et];exact wpS_pure fin
    ·refine⟨?_,?_⟩
     ·rw[el,em,hBj];refine hCw l1 ?_;rw[<-hBj];exact List.Perm.append_right m2 dn.1
     ·have mem:∀x∈r.toList,x∈l2\/x∈m1:=fun x hx=>hAh.mp (dn.1.mem_iff.mp hx)
      have sp:=hAz.mp (el▸sX);have sq:=hAz.mp (em▸sY);have am:∀y∈m2,y∈Y:=fun y hy=>by rw[em];exact hAa _ hy
      refine hAz.mpr ⟨sp.1,hAz.mpr ⟨dn.2,sq.2.1,fun x hx y hy=>?_⟩,fun x hx y hy=>?_⟩
      ·rcases mem x hx with k|k
       ·exact Int.le_trans (topz x (i1 x k)) (u2 y hy)
       ·exact sq.2.2 x k y hy
      ·rcases hAh.mp hy with k|k
       ·rcases mem y k with k|k
        ·exact sp.2.2 x hx y k
        ·exact Int.le_trans (r1 x hx) (sb0 y (i2 y k))
       ·exact Int.le_trans (r1 x hx) (sb0 y (am y k))
   by_cases sm:X.length - l1.length<=m1.length
   ·rw[if_pos sm];refine wpS_bind (qKi ak hk (fun x hx=>dX x (i1 x (ex▸hx))) (fun x hx=>dY x (i2 x (ey▸hx))) (ex.symm▸s2) (ey.symm▸t2') (by omega) (by omega) (by rw[ex,ey];exact lo) (by rw[ex,ey,sx];exact hi) fun r st' g dn=>?_);rw[ex,ey]at dn;exact post r st' g dn
   ·rw[if_neg sm];refine wpS_bind (qKj ak hk (fun x hx=>dX x (i1 x (ex▸hx))) (fun x hx=>dY x (i2 x (ey▸hx))) (ex.symm▸s2) (ey.symm▸t2') (by omega) (by omega) (by rw[ex,ey];exact lo) (by rw[ex,ey,sx];exact hi) fun r st' g dn=>?_);rw[ex,ey]at dn;exact post r st' g dn
end
noncomputable def kr(rk:Keyed->Int)(xs:Array Keyed)(i:Nat):Int:=match xs[i]? with
 |some p=>rk p
 |none=>0
theorem kr_congr(h:xs[i]?=ys[j]?):kr rk xs i=kr rk ys j:=by unfold kr;rw[h]
theorem qQs(hj:j<=xs.size)(k:Nat):kr rk (mirror xs i j ((j - i) / 2)) k=if i<=k/\k<j then kr rk xs (i+j - 1 - k) else kr rk xs k:=by
 have e:=getElem?_mirror_all (i:=i) hj k;split
 ·rename_i h;rw[if_pos h]at e;exact kr_congr e
 ·rename_i h;rw[if_neg h]at e;exact kr_congr e
theorem qU8(hs:src<xs.size)(hd:d<=src)(k:Nat):kr rk (bubble xs src d) k=if k=src - d then kr rk xs src else if src - d<k/\k<=src then kr rk xs (k - 1) else kr rk xs k:=by
 have e:=getElem?_bubble hs d hd k;split
 ·rename_i h;rw[if_pos h]at e;exact kr_congr e
 ·rename_i h;rw[if_neg h]at e;split
  ·rename_i h;rw[if_pos h]at e;exact kr_congr e
  ·rename_i h;rw[if_neg h]at e;exact kr_congr e
def Up(rk:Keyed->Int)(xs:Array Keyed)(lo n:Nat):Prop:=∀i j,i<=j->j<n->kr rk xs (lo+i)<=kr rk xs (lo+j)
def Dw(rk:Keyed->Int)(xs:Array Keyed)(lo n:Nat):Prop:=∀i j,i<=j->j<n->kr rk xs (lo+j)<=kr rk xs (lo+i)
structure Sf(a₀:Array Keyed)(lo:Nat)(kd:SortKind)(pd:Array (Nat×Nat×Nat))(st:SortSt):Prop where
 perm:(arrOf st).Perm a₀
 kind:kindOf st=kd
 failed:failedOf st=none
 pend:pendingOf st=pd
 low:∀i,i<lo->(arrOf st)[i]?=a₀[i]?
section
variable{prog:Program}{w:World}{A:Around}{E:Value->Shared->Prop}{s:Shared}{rk:Keyed->Int}{kd:SortKind}{D:Keyed->Prop}{a₀:Array Keyed}{lo:Nat}{pd:Array (Nat×Nat×Nat)}
theorem Sf.size{st:SortSt}(h:Sf a₀ lo kd pd st):(arrOf st).size=a₀.size:=h.perm.size_eq
theorem Sf.arr{st:SortSt}(h:Sf a₀ lo kd pd st){xs:Array Keyed}(p:xs.Perm (arrOf st))(l:∀i,i<lo->xs[i]?=(arrOf st)[i]?):Sf a₀ lo kd pd (setArr st xs):=⟨p.trans h.perm,h.kind,h.failed,h.pend,fun i hi=>(l i hi).trans (h.low i hi)⟩
theorem Sf.rev{st:SortSt}(h:Sf a₀ lo kd pd st){i j:Nat}(hi:lo<=i)(hj:j<=a₀.size):Sf a₀ lo kd pd (setArr st (mirror (arrOf st) i j ((j - i) / 2))):=h.arr (mirror_perm _ _ _ _) fun k hk=>by
 rw[getElem?_mirror_all (by rw[h.size];exact hj),if_neg (by omega)]
theorem qGa(ak:qG5 prog w A E s rk kd D)(d:∀x∈a₀.toList,D x){st:SortSt}{i j:Nat}{Q:Option Bool->SortSt->Prop}(F:Sf a₀ lo kd pd st)(hi:i<a₀.size)(hj:j<a₀.size)
  (h:Q (some (decide (kr rk (arrOf st) i<kr rk (arrOf st) j))) st):wpS (model prog w) A E s (ltAt' i j) Q st:=by
 have get:∀k,k<a₀.size->∃p,(arrOf st)[k]?=some p/\D p:=fun k hk=>by
  have hk':k<(arrOf st).size:=by rw[F.size];exact hk
  exact⟨(arrOf st)[k],getElem?_pos _ k hk',d _ ((hC2.mp F.perm).mem_iff.mp (by simp))⟩
 obtain⟨p,e1,d1⟩:=get i hi;obtain⟨q,e2,d2⟩:=get j hj;rw[ltAt'_eq];refine wpS_bind (wpS_get ?_);refine wpS_bind (qAz e1 ?_);refine wpS_bind (qAz e2 ?_);refine ak p q d1 d2 st Q F.kind ?_;unfold kr at h;rw[e1,e2]at h;exact h
noncomputable def zA2(lo a nrem:Nat):StateT SortSt Sem AscSt :=
 forIn [a:nrem] ((none,a):AscSt) fun _ c=>do
  let some smaller ← ltAt' (lo+c.2) (lo+c.2 - 1)|pure (ForInStep.done (some none,c.2))
  if smaller then pure (ForInStep.done (none,c.2)) else pure (ForInStep.yield (none,c.2+1))
noncomputable def qSi(lo n0 nrem:Nat):StateT SortSt Sem (Option Nat):=do
 reverseSlice' lo (lo+n0)
 let mut n:=n0
 for _ in [n:nrem] do
  let some smaller ← ltAt' (lo+n) (lo+n - 1)|return none
  if smaller then break
  n:=n+1
 return some n
noncomputable def qT8(lo n0 nrem:Nat):StateT SortSt Sem (Option Nat):=do
 rule "list.sort.descending-run"
 let mut n:=n0+1
 let mut neq:=0
 for _ in [n:nrem] do
  let some smaller ← ltAt' (lo+n) (lo+n - 1)|return none
  if smaller then
   if neq > 0 then reverseSlice' (lo+n - (neq+1)) (lo+n)
   neq:=0
  else
   let some larger ← ltAt' (lo+n - 1) (lo+n)|return none
   if larger then break
   neq:=neq+1
  n:=n+1
 if neq > 0 then reverseSlice' (lo+n - (neq+1)) (lo+n)
 reverseSlice' lo (lo+n)
 for _ in [n:nrem] do
  let some smaller ← ltAt' (lo+n) (lo+n - 1)|return none
  if smaller then break
  n:=n+1
 return some n
theorem qOg(ak:qG5 prog w A E s rk kd D)(d:∀x∈a₀.toList,D x){st:SortSt}{a nrem:Nat}{Q:AscSt->SortSt->Prop}(hn:lo+nrem<=a₀.size)(ha:1<=a)(han:a<=nrem)(F:Sf a₀ lo kd pd st)(u:Up rk (arrOf st) lo a)
  (h:∀n,a<=n->n<=nrem->Up rk (arrOf st) lo n->(n=nrem\/kr rk (arrOf st) (lo+n)<kr rk (arrOf st) (lo+(n - 1)))->Q (none,n) st):wpS (model prog w) A E s (zA2 lo a nrem) Q st:=by
 unfold zA2;refine wpS_forRange (I:=fun x c st'=>st'=st/\c=(none,x)/\Up rk (arrOf st) lo x) ?step ?fin ⟨rfl,rfl,u⟩
 case fin =>
  rintro c st' ⟨rfl,rfl,u'⟩;rw[show max a nrem=nrem by omega]at u' ⊢;exact h nrem han (hA6 _) u' (.inl rfl)
 case step =>
  rintro x c st' hax hxn ⟨rfl,rfl,u'⟩;refine wpS_bind (qGa ak d F (by show lo+x<_;omega) (by show lo+x - 1<_;omega) ?_);dsimp only;rw[show lo+x - 1=lo+(x - 1) by omega];by_cases c:kr rk (arrOf st') (lo+x)<kr rk (arrOf st') (lo+(x - 1))
  ·rw[decide_eq_true c];exact wpS_pure (h x hax (by omega) u' (.inr c))
  ·rw[decide_eq_false c];refine wpS_pure ⟨rfl,rfl,fun i j hij hj=>?_⟩;by_cases e:j<x
   ·exact u' i j hij e
   ·have e':j=x:=by omega
    subst e';by_cases e2:i=j
    ·subst e2;exact hDk _
    ·have:=u' i (j - 1) (by omega) (by omega);omega
theorem qLq(ak:qG5 prog w A E s rk kd D)(d:∀x∈a₀.toList,D x){st:SortSt}{n nrem:Nat}{Q:Option Nat->SortSt->Prop}(hn:lo+nrem<=a₀.size)(h1:1<=n)(hnn:n<=nrem)(F:Sf a₀ lo kd pd st)(u:Dw rk (arrOf st) lo n)
  (h:∀m st',Sf a₀ lo kd pd st'->1<=m->m<=nrem->Up rk (arrOf st') lo m->Q (some m) st'):wpS (model prog w) A E s (qSi lo n nrem) Q st:=by
 unfold qSi;have sz:=F.size;refine wpS_bind (wpS_reverse ?_);have F':=F.rev (i:=lo) (j:=lo+n) (hA6 _) (by omega);refine wpS_bind (wpS_mono (m:=zA2 lo n nrem) (qOg ak d (Q:=fun c st'=>∃m,c=(none,m)/\Sf a₀ lo kd pd st'/\1<=m/\m<=nrem/\Up rk (arrOf st') lo m) hn h1 hnn F' (fun i j hij hj=>?_) fun m hm1 hm2 hu _=>⟨m,rfl,F',by omega,hm2,hu⟩) ?_)
 ·show kr rk (mirror (arrOf st) lo (lo+n) ((lo+n - lo) / 2)) _<=kr rk (mirror (arrOf st) lo (lo+n) ((lo+n - lo) / 2)) _;rw[qQs (by omega),qQs (by omega),if_pos (by omega),if_pos (by omega)];have:=u (n - 1 - j) (n - 1 - i) (by omega) (by omega);rw[show lo+(lo+n) - 1 - (lo+i)=lo+(n - 1 - i) by omega,show lo+(lo+n) - 1 - (lo+j)=lo+(n - 1 - j) by omega];exact this
 ·rintro c st' ⟨m,rfl,F2,a1,a2,a3⟩;exact wpS_pure (h m st' F2 a1 a2 a3)
theorem qRc(u:Dw rk xs lo n)(h1:1<=n)(h:kr rk xs (lo+n)<=kr rk xs (lo+(n - 1))):Dw rk xs lo (n+1):=fun i j hij hj=>by
 by_cases e:j<n
 ·exact u i j hij e
 ·have e':j=n:=by omega
  subst e';by_cases e2:i=j
  ·subst e2;exact hDk _
  ·have:=u i (j - 1) (by omega) (by omega);omega
theorem qGt(hj:j<=xs.size)(h:∀k,i<=k->k<j->kr rk xs k=kr rk xs (j - 1))(k:Nat):kr rk (mirror xs i j ((j - i) / 2)) k=kr rk xs k:=by
 rw[qQs hj];split
 ·rw[h _ (by omega) (by omega),h k (by omega) (by omega)]
 ·rfl
theorem qLr(ak:qG5 prog w A E s rk kd D)(d:∀x∈a₀.toList,D x){st:SortSt}{n nrem:Nat}{Q:Option Nat->SortSt->Prop}(hn:lo+nrem<=a₀.size)(hnn:n+1<=nrem)(F:Sf a₀ lo kd pd st)(u:Dw rk (arrOf st) lo (n+1))
  (h:∀m st',Sf a₀ lo kd pd st'->1<=m->m<=nrem->Up rk (arrOf st') lo m->Q (some m) st'):wpS (model prog w) A E s (qT8 lo n nrem) Q st:=by
 unfold qT8;refine wpS_bind (wpS_lift (wpAny_rule ⟨rfl,?_⟩));refine wpS_bind (wpS_mono (wpS_forRange (I:=fun x c st'=>∃neq,c=(none,x,neq)/\Sf a₀ lo kd pd st'/\1<=x/\x<=nrem/\Dw rk (arrOf st') lo x/\neq+1<=x/\∀k,lo+x - (neq+1)<=k->k<lo+x->kr rk (arrOf st') k=kr rk (arrOf st') (lo+x - 1))
  (Q:=fun c st'=>∃x neq,c=(none,x,neq)/\Sf a₀ lo kd pd st'/\1<=x/\x<=nrem/\Dw rk (arrOf st') lo x/\neq+1<=x/\∀k,lo+x - (neq+1)<=k->k<lo+x->kr rk (arrOf st') k=kr rk (arrOf st') (lo+x - 1)) ?_ ?_ ⟨0,rfl,F,by omega,hnn,u,by omega,fun k k1 k2=>by congr 1;omega⟩) ?_)
 ·rintro x c st' hx1 hx2 ⟨neq,rfl,F',x1,xn,u',q1,q2⟩;have sz:=F'.size;refine wpS_bind (qGa ak d F' (by show lo+x<_;omega) (by show lo+x - 1<_;omega) ?_);dsimp only;have ex:lo+x - 1=lo+(x - 1):=by omega
  by_cases c:kr rk (arrOf st') (lo+x)<kr rk (arrOf st') (lo+x - 1)
  ·rw[decide_eq_true c];have u2:∀ys:Array Keyed,(∀k,kr rk ys k=kr rk (arrOf st') k)->Dw rk ys lo (x+1):=fun ys hy i j hij hj=>by
    rw[hy,hy];exact qRc u' x1 (by rw[<-ex];omega) i j hij hj
   show wpS _ _ _ _ (if neq > 0 then _ else _) _ _;by_cases n0:neq > 0
   ·rw[if_pos n0];refine wpS_bind (wpS_reverse (wpS_pure ⟨0,rfl,F'.rev (by omega) (by omega),by omega,by omega,u2 _ (qGt (by omega) q2),by omega,fun k k1 k2=>by congr 1;omega⟩))
   ·rw[if_neg n0];exact wpS_pure ⟨0,rfl,F',by omega,by omega,u2 _ (fun _=>rfl),by omega,fun k k1 k2=>by congr 1;omega⟩
  ·rw[decide_eq_false c];refine wpS_bind (qGa ak d F' (by show lo+x - 1<_;omega) (by show lo+x<_;omega) ?_);dsimp only;by_cases c2:kr rk (arrOf st') (lo+x - 1)<kr rk (arrOf st') (lo+x)
   ·rw[decide_eq_true c2];exact wpS_pure ⟨x,neq,rfl,F',x1,xn,u',q1,q2⟩
   ·rw[decide_eq_false c2];have e:kr rk (arrOf st') (lo+x)=kr rk (arrOf st') (lo+x - 1):=by omega
    refine wpS_pure ⟨neq+1,rfl,F',by omega,by omega,qRc u' x1 (by rw[<-ex];omega),by omega,fun k k1 k2=>?_⟩;rw[show lo+(x+1) - 1=lo+x by omega];by_cases ek:k=lo+x
    ·subst ek;rfl
    ·rw[e];exact q2 k (by omega) (by omega)
 ·rintro c st' ⟨neq,rfl,F',x1,xn,u',q1,q2⟩;exact⟨_,neq,rfl,F',x1,xn,u',q1,q2⟩
 ·rintro c st' ⟨x,neq,rfl,F',x1,xn,u',q1,q2⟩;have sz:=F'.size;show wpS _ _ _ _ (if neq > 0 then _ else _) _ _;by_cases n0:neq > 0
  ·rw[if_pos n0];refine wpS_bind (wpS_reverse ?_);refine wpS_mono (m:=qSi lo x nrem) (qLq ak d hn x1 xn (F'.rev (i:=lo+x - (neq+1)) (j:=lo+x) (by omega) (by omega)) (fun i j hij hj=>?_) h) fun _ _ q=>q
   show kr rk (mirror (arrOf st') _ _ _) _<=kr rk (mirror (arrOf st') _ _ _) _;rw[qGt (i:=lo+x - (neq+1)) (j:=lo+x) (by omega) q2,qGt (i:=lo+x - (neq+1)) (j:=lo+x) (by omega) q2];exact u' i j hij hj
  ·rw[if_neg n0];exact wpS_mono (m:=qSi lo x nrem) (qLq ak d hn x1 xn F' u' h) fun _ _ q=>q
theorem qSe(ak:qG5 prog w A E s rk kd D)(d:∀x∈a₀.toList,D x){st:SortSt}{nrem:Nat}{Q:Option Nat->SortSt->Prop}(hn:lo+nrem<=a₀.size)(h1:1<=nrem)(F:Sf a₀ lo kd pd st)
  (h:∀m st',Sf a₀ lo kd pd st'->1<=m->m<=nrem->Up rk (arrOf st') lo m->Q (some m) st'):wpS (model prog w) A E s (countRun' lo nrem) Q st:=by
 rw[countRun'_eq];have sz:=F.size;refine wpS_bind (wpS_mono (m:=zA2 lo 1 nrem) (qOg ak d (Q:=fun c st'=>st'=st/\∃n,c=(none,n)/\1<=n/\n<=nrem/\Up rk (arrOf st) lo n/\(n=nrem\/kr rk (arrOf st) (lo+n)<kr rk (arrOf st) (lo+(n - 1)))) hn (hA6 _) h1 F (fun i j hij hj=>?_) fun n a1 a2 a3 a4=>⟨rfl,n,rfl,a1,a2,a3,a4⟩) ?_)
 ·have:i=j:=by omega
  subst this;exact hDk _
 rintro c st' ⟨rfl,n,rfl,n1,n2,u,hor⟩;show wpS _ _ _ _ (if (n == nrem)=true then _ else _) _ _;by_cases e:(n == nrem)=true
 ·rw[if_pos e];exact wpS_pure (h n _ F n1 n2 u)
 ·rw[if_neg e];have e':n≠nrem:=by simpa using e
  have lt:=hor.resolve_left e';by_cases g:n > 1
  ·show wpS _ _ _ _ (if n > 1 then _ else _) _ _;rw[if_pos g];refine wpS_bind (qGa ak d F (by omega) (by omega) ?_);have ex:lo+n - 1=lo+(n - 1):=by omega
   by_cases c:kr rk (arrOf st') lo<kr rk (arrOf st') (lo+n - 1)
   ·rw[decide_eq_true c];exact wpS_pure (h n _ F n1 n2 u)
   ·rw[decide_eq_false c];have all:∀k,lo<=k->k<lo+n->kr rk (arrOf st') k=kr rk (arrOf st') (lo+n - 1):=fun k k1 k2=>by
     have a1:=u 0 (k - lo) (by omega) (by omega);have a2:=u (k - lo) (n - 1) (by omega) (by omega);rw[show lo+(k - lo)=k by omega]at a1 a2;rw[Nat.add_zero]at a1;rw[ex]at c ⊢;omega
    refine wpS_bind (wpS_reverse ?_);refine wpS_mono (m:=qT8 lo n nrem) (qLr ak d hn (by omega) (F.rev (hA6 _) (by omega)) (fun i j hij hj=>?_) h) fun _ _ q=>q
    show kr rk (mirror (arrOf st') _ _ _) _<=kr rk (mirror (arrOf st') _ _ _) _;rw[qGt (i:=lo) (j:=lo+n) (by omega) all,qGt (i:=lo) (j:=lo+n) (by omega) all];by_cases ej:j<n
    ·rw[all (lo+i) (by omega) (by omega),all (lo+j) (by omega) (by omega)];exact hDk _
    ·have ej':j=n:=by omega
     subst ej';by_cases ei:i=j
     ·subst ei;exact hDk _
     ·rw[all (lo+i) (by omega) (by omega),ex];omega
  ·show wpS _ _ _ _ (if n > 1 then _ else _) _ _;rw[if_neg g];have e1:n=1:=by omega
   subst e1;refine wpS_mono (m:=qT8 lo 1 nrem) (qLr ak d hn (by omega) F (fun i j hij hj=>?_) h) fun _ _ q=>q
   by_cases ei:i=j
   ·subst ei;exact hDk _
   ·have ei':i=0:=by omega
    have ej':j=1:=by omega
    subst ei' ej';exact hE0 lt
theorem qVv(ak:qG5 prog w A E s rk kd D)(d:∀x∈a₀.toList,D x){st:SortSt}{n ok:Nat}{Q:Bool->SortSt->Prop}(hn:lo+n<=a₀.size)(hok:ok<=n)(F:Sf a₀ lo kd pd st)(u:Up rk (arrOf st) lo ok)
  (h:∀st',Sf a₀ lo kd pd st'->Up rk (arrOf st') lo n->Q true st'):wpS (model prog w) A E s (binarySort' lo n ok) Q st:=by
 rw[binarySort'_eq];refine wpS_bind (wpS_mono (wpS_forRange (I:=fun k c st'=>c=(none,())/\Sf a₀ lo kd pd st'/\Up rk (arrOf st') lo (min k n))
  (Q:=fun c st'=>c=(none,())/\Sf a₀ lo kd pd st'/\Up rk (arrOf st') lo n) ?_ ?_ ⟨rfl,F,fun i j hij hj=>?_⟩) ?_)
 ·rintro k c st' hak hkn ⟨rfl,F',u'⟩;rw[show min k n=k by omega]at u';have sz:=F'.size;refine wpS_bind (wpS_mono (wpS_forRange (I:=fun x c st''=>st''=st'/\∃l r,c=(none,l,r)/\l<=r/\r<=k/\r - l<=k - x/\(∀i,i<l->kr rk (arrOf st') (lo+i)<=kr rk (arrOf st') (lo+k))/\(∀i,r<=i->i<k->kr rk (arrOf st') (lo+k)<kr rk (arrOf st') (lo+i)))
   (Q:=fun c st''=>st''=st'/\∃l r,c=(none,l,r)/\l<=k/\(∀i,i<l->kr rk (arrOf st') (lo+i)<=kr rk (arrOf st') (lo+k))/\(∀i,l<=i->i<k->kr rk (arrOf st') (lo+k)<kr rk (arrOf st') (lo+i))) ?_ ?_ ⟨rfl,0,k,rfl,by omega,by omega,by omega,fun i hi=>by omega,fun i h1 h2=>by omega⟩) ?_)
  ·rintro x c st2 _ hx ⟨rfl,l,r,rfl,lr,rk',m,a1,a2⟩;show wpS _ _ _ _ (if l >= r then _ else _) _ _;by_cases g:l >= r
   ·rw[if_pos g];have:l=r:=by omega
    subst this;exact wpS_pure ⟨rfl,l,l,rfl,rk',a1,a2⟩
   ·rw[if_neg g];refine wpS_bind (qGa ak d F' (by omega) (by show lo+(l+r) / 2<_;omega) ?_);dsimp only;by_cases c:kr rk (arrOf st2) (lo+k)<kr rk (arrOf st2) (lo+(l+r) / 2)
    ·rw[decide_eq_true c];refine wpS_pure ⟨rfl,l,(l+r) / 2,rfl,by omega,by omega,by omega,a1,fun i h1 h2=>?_⟩;exact Int.lt_of_lt_of_le c (u' _ _ h1 h2)
    ·rw[decide_eq_false c];refine wpS_pure ⟨rfl,(l+r) / 2+1,r,rfl,by omega,by omega,by omega,fun i h1=>?_,a2⟩;exact Int.le_trans (u' i ((l+r) / 2) (by omega) (by omega)) (Int.not_lt.mp c)
  ·rintro c st2 ⟨rfl,l,r,rfl,lr,rk',m,a1,a2⟩;have:l=r:=by omega
   subst this;exact⟨rfl,l,l,rfl,rk',a1,a2⟩
  ·rintro c st2 ⟨rfl,l,r,rfl,lk,a1,a2⟩;show wpS _ _ _ _ (do moveDown' (lo+k) (lo+l);pure (ForInStep.yield (none,()))) _ _;rw[moveDown'_eq];have ed:lo+k - (lo+l)=k - l:=by omega
   refine wpS_bind (wpS_modify (wpS_pure ⟨rfl,F'.arr (bubble_perm _ _ _) fun i hi=>?_,fun i j hij hj=>?_⟩))
   ·rw[getElem?_bubble (by omega) _ (by omega),if_neg (by omega),if_neg (by omega)]
   ·rw[show min (k+1) n=k+1 by omega]at hj;show kr rk (bubble (arrOf st2) (lo+k) (lo+k - (lo+l))) _<=kr rk (bubble (arrOf st2) (lo+k) (lo+k - (lo+l))) _;rw[qU8 (by omega) (by omega),qU8 (by omega) (by omega),ed,show lo+k - (k - l)=lo+l by omega];have p1:∀z,z<k+1->lo+z - 1=lo+(z - 1)\/z=0:=fun z hz=>by omega
    by_cases ej:j=l
    ·subst ej;rw[if_pos rfl];by_cases ei:i=j
     ·subst ei;rw[if_pos rfl];exact hDk _
     ·rw[if_neg (by omega),if_neg (by omega)];exact a1 i (by omega)
    ·rw[if_neg (c:=lo+j=lo+l) (by omega)];by_cases ej2:l<j
     ·rw[if_pos (c:=lo+l<lo+j/\lo+j<=lo+k) (by omega),show lo+j - 1=lo+(j - 1) by omega];by_cases ei:i=l
      ·subst ei;rw[if_pos rfl];exact hE0 (a2 _ (by omega) (by omega))
      ·rw[if_neg (c:=lo+i=lo+l) (by omega)];by_cases ei2:l<i
       ·rw[if_pos (by omega),show lo+i - 1=lo+(i - 1) by omega];exact u' _ _ (by omega) (by omega)
       ·rw[if_neg (by omega)];exact u' _ _ (by omega) (by omega)
     ·rw[if_neg (c:=lo+l<lo+j/\lo+j<=lo+k) (by omega),if_neg (by omega),if_neg (by omega)];exact u' _ _ (by omega) (by omega)
 ·rintro c st' ⟨hc,F',u'⟩;refine⟨hc,F',?_⟩
  rwa [show min (max (max ok 1) n) n=n by omega]at u'
 ·by_cases o0:ok=0
  ·have:i=j:=by omega
   subst this;exact hDk _
  ·exact u i j hij (by omega)
 ·rintro c st' ⟨rfl,F',u'⟩;exact wpS_pure (h st' F' u')
end
noncomputable def qOc:Nat->List (List Keyed)->List (Nat×Nat)
 |_,[]=>[]
 |k,R :: Rs=>(k,R.length) :: qOc (k+R.length) Rs
theorem qF4:∀(k:Nat) (U V:List (List Keyed)),qOc k (U++V)=qOc k U++qOc (k+U.flatten.length) V
 |k,[],V=>by simp[qOc]
 |k,R :: U,V=>by
  show(k,R.length) :: qOc (k+R.length) (U++V)=(k,R.length) :: (qOc (k+R.length) U++_);rw[qF4 (k+R.length) U V];congr 3;simp;omega
theorem qIf:∀(k:Nat) (U:List (List Keyed)),(qOc k U).length=U.length
 |_,[]=>rfl
 |k,R :: U=>by simp[qOc,qIf]
noncomputable def pr2(t:Nat×Nat×Nat):Nat×Nat:=(t.1,t.2.1)
def RI(rk:Keyed->Int)(kd:SortKind)(a₀:Array Keyed)(rest:List Keyed)(m:Nat)(st:SortSt):Prop:=∃Rs:List (List Keyed),(arrOf st).toList=Rs.flatten++rest/\(pendingOf st).toList.map pr2=qOc 0 Rs/\(∀R∈Rs,R≠[]/\Srd rk R)/\Rs.length=m/\kindOf st=kd/\failedOf st=none/\(arrOf st).toList.Perm a₀.toList
section
variable{prog:Program}{w:World}{A:Around}{E:Value->Shared->Prop}{s:Shared}{rk:Keyed->Int}{kd:SortKind}{D:Keyed->Prop}{a₀:Array Keyed}{rest:List Keyed}
theorem RI.psize{m:Nat}{st:SortSt}(h:RI rk kd a₀ rest m st):(pendingOf st).size=m:=by
 obtain⟨Rs,_,e,_,rfl,_⟩:=h;have:=congrArg List.length e;rw[qIf]at this
 simpa using this
theorem qEz(ak:qG5 prog w A E s rk kd D)(d:∀x∈a₀.toList,D x){i m:Nat}{st:SortSt}{Q:Bool->SortSt->Prop}(h:RI rk kd a₀ rest m st)(hi:i+1<m)(hq:∀st',RI rk kd a₀ rest (m - 1) st'->Q true st'):wpS (model prog w) A E s (mergeAt' i) Q st:=by
 obtain⟨Rs,e,ep,hR,rfl,hk,hf,hp⟩:=h;obtain⟨U,X,Y,V,rfl,hU⟩:∃U X Y V,Rs=U++X :: Y :: V/\U.length=i:=by
  refine⟨Rs.take i,Rs[i],Rs[i+1],Rs.drop (i+2),?_,by simp;omega⟩;rw[<-hDg,<-hDg,List.take_append_drop]
 rw[qF4]at ep;obtain⟨pu,pt,ept,epu,e2⟩:=List.map_eq_append_iff.mp ep;obtain⟨p,pt2,rfl,ep1,e3⟩:=List.map_eq_cons_iff.mp e2;obtain⟨q,pv,rfl,eq1,e4⟩:=List.map_eq_cons_iff.mp e3;obtain⟨a,b,c⟩:=p;obtain⟨a',b',c'⟩:=q;injection ep1 with ea eb
 injection eq1 with ea' eb'
 have eb:b=X.length:=eb;have ea:a=0+U.flatten.length:=ea;have ea':a'=0+U.flatten.length+X.length:=ea';have eb':b'=Y.length:=eb';rw[Nat.zero_add]at ea ea';subst ea eb ea' eb';have lu:pu.length=i:=by
  have:=congrArg List.length epu;rw[qIf]at this
  simpa [hU] using this
 have g1:(pendingOf st)[i]?=some (U.flatten.length,X.length,c):=by
  rw[<-hAy,ept,hCf (by omega),lu,Nat.sub_self];rfl
 have g2:(pendingOf st)[i+1]?=some (U.flatten.length+X.length,Y.length,c'):=by
  rw[<-hAy,ept,hCf (by omega),lu,show i+1 - i=1 by omega];rfl
 have hX:=hR X (by simp);have hY:=hR Y (by simp);refine qKk ak (P:=U.flatten) (X:=X) (Y:=Y) (S:=V.flatten++rest) hk hf (by rw[e];simp) (fun x hx=>d x (hp.mem_iff.mp hx)) g1 g2 hX.2 hY.2 hX.1 hY.1 fun st' M hk' hf' hp' ea' dn=>?_
 refine hq st' ⟨U++M :: V,by rw[ea'];simp,?_,fun R hR'=>?_,by simp,hk',hf',?_⟩
 ·rw[hp',Array.toList_eraseIdxIfInBounds,Array.toList_setIfInBounds,ept,qF4,List.set_append_right _ _ (by omega),lu,Nat.sub_self,List.eraseIdx_append_of_length_le (by omega),lu,show i+1 - i=1 by omega];rw[hA4,epu];congr 1;show(pr2 (U.flatten.length,X.length+Y.length,c)) :: pv.map pr2=(0+U.flatten.length,M.length) :: qOc (0+U.flatten.length+M.length) V;have lm:M.length=X.length+Y.length:=by rw[dn.1.length_eq];simp
  rw[e4,lm];unfold pr2;rw[Nat.zero_add,Nat.add_assoc]
 ·rcases hAh.mp hR' with z|z
  ·exact hR R (by simp[z])
  ·rcases hAg.mp z with z|z
   ·subst z;refine⟨fun z=>hX.1 ?_,dn.2⟩;have:=dn.1.length_eq;rw[z]at this;simp at this;exact hBe.mp (by omega)
   ·exact hR R (by simp[z])
 ·rw[ea'];refine List.Perm.trans ?_ hp;rw[e];have:(U++X :: Y :: V).flatten++rest=U.flatten++((X++Y)++(V.flatten++rest)):=by simp
  rw[this];exact hCw _ (List.Perm.append_right _ dn.1)
theorem qYc(e:xs.toList=P++T)(u:Up rk xs P.length n)(hn:n<=T.length):Srd rk (T.take n):=by
 refine hDh.mpr fun i j hi hj hij=>?_
 rw[hAl]at hi hj;have g:∀k,(h:k<T.length)->kr rk xs (P.length+k)=rk T[k]:=fun k h=>by
  unfold kr;rw[<-hAy,e,hCf (by omega),show P.length+k - P.length=k by omega,hA2 h]
 have:=u i j (by omega) (by omega);rw[g i (by omega),g j (by omega)]at this;rw[hE4,hE4];exact this
theorem RI.found{m n:Nat}{st st':SortSt}{pd:Array (Nat×Nat×Nat)}{lo:Nat}(h:RI rk kd a₀ rest m st)(hl:lo+rest.length=a₀.size)(F:Sf (arrOf st) lo kd (pendingOf st) st')(u:Up rk (arrOf st') lo n)(hn:n<=rest.length) :
  ∃rest',RI rk kd a₀ rest' m st'/\rest'.length=rest.length/\Srd rk (rest'.take n):=by
 obtain⟨Rs,e,ep,hR,rfl,hk,hf,hp⟩:=h;have sz:(arrOf st).toList.length=a₀.size:=by rw[hp.length_eq];simp
 have lf:Rs.flatten.length=lo:=by rw[e]at sz;simp at sz ⊢;omega
 have et:(arrOf st').toList.take lo=Rs.flatten:=by
  refine hD8 fun k=>?_
  by_cases c:k<lo
  ·rw[List.getElem?_take_of_lt c,hAy,F.low k c,<-hAy,e,hDf (by omega)]
  ·rw[List.getElem?_take_eq_none (by omega),hBw (by omega)]
 have ed:(arrOf st').toList=Rs.flatten++(arrOf st').toList.drop lo:=by rw[<-et,List.take_append_drop]
 have pt:(arrOf st').toList.Perm (arrOf st).toList:=hC2.mp F.perm;have ld:((arrOf st').toList.drop lo).length=rest.length:=by
  have:=pt.length_eq;rw[hCj,this,sz];omega
 refine⟨(arrOf st').toList.drop lo,⟨Rs,ed,by rw[F.pend];exact ep,hR,rfl,F.kind,F.failed,pt.trans hp⟩,ld,?_⟩;exact qYc (P:=Rs.flatten) ed (by rw[lf];exact u) (by rw[ld];exact hn)
theorem RI.pushed{m n:Nat}{st:SortSt}{lo:Nat}(h:RI rk kd a₀ rest m st)(hl:lo+rest.length=a₀.size)(sr:Srd rk (rest.take n))(h1:1<=n)(hn:n<=rest.length):RI rk kd a₀ (rest.drop n) (m+1) (setPending st ((pendingOf st).push (lo,n,0))):=by
 obtain⟨Rs,e,ep,hR,rfl,hk,hf,hp⟩:=h;have sz:(arrOf st).toList.length=a₀.size:=by rw[hp.length_eq];simp
 have lf:Rs.flatten.length=lo:=by rw[e]at sz;simp at sz ⊢;omega
 refine⟨Rs++[rest.take n],?_,?_,fun R hR'=>?_,by simp,hk,hf,hp⟩
 ·show(arrOf st).toList=_;rw[e];simp
 ·show((pendingOf st).push (lo,n,0)).toList.map pr2=_;rw[hC6,hA4,ep,qF4,lf];simp[qOc,pr2];try omega
 ·rcases hAh.mp hR' with z|z
  ·exact hR R z
  ·rw[hA5.mp z];refine⟨fun z=>?_,sr⟩;have:=congrArg List.length z;rw[hAl,List.length_nil]at this;omega
theorem RI.power{m pw:Nat}{st:SortSt}(h:RI rk kd a₀ rest m st):RI rk kd a₀ rest m (setPending st ((pendingOf st).modify ((pendingOf st).size - 1) fun (st,len,_)=>(st,len,pw))):=by
 obtain⟨Rs,e,ep,hR,rfl,hk,hf,hp⟩:=h;refine⟨Rs,e,?_,hR,rfl,hk,hf,hp⟩;rw[<-ep];show((pendingOf st).modify ((pendingOf st).size - 1) fun (st,len,_)=>(st,len,pw)).toList.map pr2=_;refine hD8 fun k=>?_
 rw[hAk,hAk,hAy,hAy,Array.getElem?_modify];split
 ·rename_i z;cases(pendingOf st)[k]? with
  |none=>rfl
  |some t=>rfl
 ·rfl
theorem qHl:∀(f n r:Nat),1<=n->1<=minRun' f n r
 |0,n,r,h=>by show 1<=n+r;omega
 |f+1,n,r,h=>by
  rw[minRun'_succ];split
  ·omega
  ·exact qHl f _ _ (by omega)
theorem qKe(ak:qG5 prog w A E s rk kd D)(d:∀x∈a₀.toList,D x){st:SortSt}{Q:Unit->SortSt->Prop}(h0:arrOf st=a₀)(hk:kindOf st=kd)(hf:failedOf st=none)(hp:pendingOf st=#[])
  (h:∀st',failedOf st'=none->Dn rk a₀.toList (arrOf st').toList->Q () st'):wpS (model prog w) A E s sortRuns' Q st:=by
 rw[sortRuns'_eq];refine wpS_bind (wpS_get ?_);rw[h0];have I0:RI rk kd a₀ a₀.toList 0 st:=⟨[],by rw[h0];rfl,by rw[hp];rfl,fun R hR=>(by cases hR),rfl,hk,hf,by rw[h0]⟩;refine wpS_bind (wpS_mono (wpS_forRange (I:=fun x c st'=>∃rest m lo,c=(none,lo)/\RI rk kd a₀ rest m st'/\lo+rest.length=a₀.size/\x<=lo)
  (Q:=fun c st'=>∃m lo,c=(none,lo)/\RI rk kd a₀ [] m st') ?_ ?_ ⟨_,0,0,rfl,I0,by simp,hA6 _⟩) ?_)
 ·rintro x c st' _ hx ⟨rest,m,lo,rfl,R,hl,hxl⟩;by_cases g:lo >= a₀.size
  ·show wpS _ _ _ _ (if lo >= a₀.size then _ else _) _ _;rw[if_pos g];have:rest=[]:=hBe.mp (by omega);subst this;exact wpS_pure ⟨m,lo,rfl,R⟩
  ·show wpS _ _ _ _ (if lo >= a₀.size then _ else _) _ _;rw[if_neg g];obtain⟨Rs,eR,ep,hR,eM,hk',hf',hp'⟩:=R;have R:RI rk kd a₀ rest m st':=⟨Rs,eR,ep,hR,eM,hk',hf',hp'⟩;have sz:(arrOf st').size=a₀.size:=by
    have:=hp'.length_eq
    simpa using this
   have F:Sf (arrOf st') lo kd (pendingOf st') st':=⟨Array.Perm.refl _,hk',hf',rfl,fun _ _=>rfl⟩;refine wpS_bind (qSe ak (fun x hx=>d x (hp'.mem_iff.mp hx)) (lo:=lo) (nrem:=a₀.size - lo) (by omega) (by omega) F fun n st2 F2 n1 n2 u2=>?_);have mp:=qHl a₀.size a₀.size 0 (by omega);have key:∀(n:Nat) (st2:SortSt),Sf (arrOf st') lo kd (pendingOf st') st2->Up rk (arrOf st2) lo n->1<=n->n<=rest.length->∃rest',RI rk kd a₀ rest' m st2/\rest'.length=rest.length/\Srd rk (rest'.take n)/\1<=n/\n<=rest'.length:=fun n st2 F2 u2 h1 hn=>by
    obtain⟨rest',R2,l2,s2⟩:=R.found (pd:=#[]) hl F2 u2 hn;exact⟨rest',R2,l2,s2,h1,by omega⟩
   by_cases c:n<minRun' a₀.size a₀.size 0
   ·show wpS _ _ _ _ (if n<minRun' a₀.size a₀.size 0 then _ else _) _ _;rw[if_pos c];refine wpS_bind (wpS_lift (wpAny_rule ⟨rfl,?_⟩));refine wpS_bind (qVv ak (fun x hx=>d x (hp'.mem_iff.mp hx)) (lo:=lo) (n:=min (a₀.size - lo) (minRun' a₀.size a₀.size 0)) (by omega) (by omega) F2 u2 fun st3 F3 u3=>?_);rw[if_neg (by decide)];obtain⟨rest',R2,l2,s2,b1,b2⟩:=key _ st3 F3 u3 (by omega) (by omega);dsimp only;generalize min (a₀.size - lo) (minRun' a₀.size a₀.size 0)=nn at s2 b1 b2 ⊢;refine wpS_bind (wpS_get ?_);have fin:∀(m':Nat) (st4:SortSt),RI rk kd a₀ rest' m' st4->∃rest m lo',((none,lo+nn):Option Unit×Nat)=(none,lo')/\RI rk kd a₀ rest m (setPending st4 ((pendingOf st4).push (lo,nn,0)))/\lo'+rest.length=a₀.size/\x+1<=lo':=fun m' st4 R4=>⟨_,_,_,rfl,RI.pushed R4 (by omega) s2 b1 b2,by rw[hCj];omega,by omega⟩
    generalize (pendingOf st3).back?=bk;rcases bk with _|⟨s1,n1,p3⟩
    ·refine wpS_bind (wpS_modify ?_);exact wpS_pure (fin _ _ R2)
    ·dsimp only;refine wpS_bind (wpS_mono (wpS_forRange (I:=fun _ c st'=>c=(none,())/\∃m,RI rk kd a₀ rest' m st') (Q:=fun c st'=>c=(none,())/\∃m,RI rk kd a₀ rest' m st') ?_ (fun _ _ z=>z) ⟨rfl,m,R2⟩) ?_)
     ·rintro x c st5 _ hx ⟨rfl,m',R'⟩;refine wpS_bind (wpS_get ?_);have sz:=R'.psize;have m2:∀t,(if (pendingOf st5).size > 1 then (pendingOf st5)[(pendingOf st5).size - 2]? else none)=some t->2<=m':=fun t eo=>by
       rcases hDx 1 (pendingOf st5).size with z|z
       ·omega
       ·rw[if_neg (by omega)]at eo;cases eo
      revert m2;generalize (if (pendingOf st5).size > 1 then (pendingOf st5)[(pendingOf st5).size - 2]? else none)=bo;intro m2;rcases bo with _|⟨q1,q2,older⟩
      ·exact wpS_pure ⟨rfl,m',R'⟩
      ·dsimp only;split
       ·exact wpS_pure ⟨rfl,m',R'⟩
       ·have:=m2 _ rfl;refine wpS_bind (qEz ak d R' (by omega) fun st2 R2=>?_);rw[if_neg (by decide)];exact wpS_pure ⟨rfl,m' - 1,R2⟩
     ·rintro c st5 ⟨rfl,m',R'⟩;refine wpS_bind (wpS_modify ?_);refine wpS_bind (wpS_modify ?_);exact wpS_pure (fin _ _ R'.power)
   ·show wpS _ _ _ _ (if n<minRun' a₀.size a₀.size 0 then _ else _) _ _;rw[if_neg c];obtain⟨rest',R2,l2,s2,b1,b2⟩:=key _ st2 F2 u2 (by omega) (by omega);dsimp only;refine wpS_bind (wpS_get ?_);have fin:∀(m':Nat) (st4:SortSt),RI rk kd a₀ rest' m' st4->∃rest m lo',((none,lo+n):Option Unit×Nat)=(none,lo')/\RI rk kd a₀ rest m (setPending st4 ((pendingOf st4).push (lo,n,0)))/\lo'+rest.length=a₀.size/\x+1<=lo':=fun m' st4 R4=>⟨_,_,_,rfl,RI.pushed R4 (by omega) s2 b1 b2,by rw[hCj];omega,by omega⟩
    generalize (pendingOf st2).back?=bk;rcases bk with _|⟨s1,n1,p3⟩
    ·refine wpS_bind (wpS_modify ?_);exact wpS_pure (fin _ _ R2)
    ·dsimp only;refine wpS_bind (wpS_mono (wpS_forRange (I:=fun _ c st'=>c=(none,())/\∃m,RI rk kd a₀ rest' m st') (Q:=fun c st'=>c=(none,())/\∃m,RI rk kd a₀ rest' m st') ?_ (fun _ _ z=>z) ⟨rfl,m,R2⟩) ?_)
     ·rintro x c st3 _ hx ⟨rfl,m',R'⟩;refine wpS_bind (wpS_get ?_);have sz:=R'.psize;have m2:∀t,(if (pendingOf st3).size > 1 then (pendingOf st3)[(pendingOf st3).size - 2]? else none)=some t->2<=m':=fun t eo=>by
       rcases hDx 1 (pendingOf st3).size with z|z
       ·omega
       ·rw[if_neg (by omega)]at eo;cases eo
      revert m2;generalize (if (pendingOf st3).size > 1 then (pendingOf st3)[(pendingOf st3).size - 2]? else none)=bo;intro m2;rcases bo with _|⟨q1,q2,older⟩
      ·exact wpS_pure ⟨rfl,m',R'⟩
      ·dsimp only;split
       ·exact wpS_pure ⟨rfl,m',R'⟩
       ·have:=m2 _ rfl;refine wpS_bind (qEz ak d R' (by omega) fun st2 R2=>?_);rw[if_neg (by decide)];exact wpS_pure ⟨rfl,m' - 1,R2⟩
     ·rintro c st3 ⟨rfl,m',R'⟩;refine wpS_bind (wpS_modify ?_);refine wpS_bind (wpS_modify ?_);exact wpS_pure (fin _ _ R'.power)
 ·rintro c st' ⟨rest,m,lo,rfl,R,hl,hxl⟩;have:rest=[]:=hBe.mp (by omega);subst this;exact⟨m,lo,rfl,R⟩
 ·rintro c st' ⟨m,lo,rfl,R⟩;have mle:m<=a₀.size:=by
   obtain⟨Rs,eR,ep,hR,rfl,hk',hf',hp'⟩:=R;have:∀(L:List (List Keyed)),(∀R∈L,R≠[])->L.length<=L.flatten.length:=fun L=>by
    induction L with
    |nil=>intro _;simp
    |cons a L ih =>
     intro h;have:=ih fun R hR=>h R (hA8 _ hR)
     have:=List.length_pos_iff.mpr (h a (hA9 ..));simp at *;omega
   have h1:=this Rs fun R hR'=>(hR R hR').1
   have h2:=hp'.length_eq;rw[eR]at h2;simp at h1 h2;omega
  refine wpS_bind (wpS_mono (wpS_forRange (I:=fun x c st'=>c=(none,())/\∃m,RI rk kd a₀ [] m st'/\(m+x<=a₀.size\/m<=1)) (Q:=fun c st'=>c=(none,())/\∃m,RI rk kd a₀ [] m st'/\m<=1) ?_ ?_ ⟨rfl,m,R,.inl (by omega)⟩) ?_)
  ·rintro x c st2 _ hx ⟨rfl,m',R',hm⟩;have sz:=R'.psize;refine wpS_bind (wpS_get ?_);show wpS _ _ _ _ (if (pendingOf st2).size<=1 then _ else _) _ _;by_cases g:(pendingOf st2).size<=1
   ·rw[if_pos g];exact wpS_pure ⟨rfl,m',R',by omega⟩
   ·rw[if_neg g];refine wpS_bind (qEz ak d R' ?_ fun st3 R3=>?_)
    ·have le:∀(c:Prop) [Decidable c] (i:Nat),(if c then i - 1 else i)<=i:=fun c _ i=>by split <;> omega
     exact hC8 (Nat.succ_le_succ (le _ _)) (by omega)
    ·exact wpS_pure ⟨rfl,m' - 1,R3,by omega⟩
  ·rintro c st2 ⟨rfl,m',R',hm⟩;exact⟨rfl,m',R',by omega⟩
  ·rintro c st2 ⟨rfl,m',R',hm⟩;refine wpS_pure (h _ ?_ ?_)
   ·obtain⟨Rs,eR,ep,hR,eM,hk',hf',hp'⟩:=R';exact hf'
   ·obtain⟨Rs,eR,ep,hR,rfl,hk',hf',hp'⟩:=R';refine⟨hp',?_⟩;rw[eR]
    match Rs,hm,hR with
    |[],_,_=>exact List.Pairwise.nil
    |[X],_,hR=>simpa using (hR X (by simp)).2
    |_ :: _ :: _,hm,_=>simp at hm
end
end L2
namespace L2
open PySem PySem.Spec PyProof.Rows PySem.W
section
variable{P:Program}{w:World}{A:Around}{E:Value->Shared->Prop}{s:Shared}{rk:Keyed->Int}{kd:SortKind}{D:Keyed->Prop}
theorem qLo(h:∀x y:Keyed,D x->D y->∀Q:Bool->Shared->Prop,Q (decide (rk x<rk y)) s->wpAny (model P w) A (keyLt' kd x.1 y.1) Q (fun _ _=>False) s):qG5 P w A E s rk kd D:=fun x y dx dy st Q hk hq=>by
 rw[lt'_eq];refine wpS_bind (wpS_get ?_);rw[hk];refine wpS_bind (wpS_lift (wpAny_attempt (wpAny_mono (h x y dx dy (fun b s'=>s'=s/\b=decide (rk x<rk y)) ⟨rfl,rfl⟩) (fun b s' z=>?_) fun _ _ (z:False)=>z.elim)));obtain⟨rfl,rfl⟩:=z;exact⟨rfl,wpS_pure hq⟩
theorem qH7(ak:qG5 P w A E s rk kd D)(d:∀x∈pz.toList,D x)(h:∀st',failedOf st'=none->Dn rk pz.toList (arrOf st').toList->Q ((),st') s) :
  wpAny (model P w) A (sortRuns'.run (SortSt.mk' kd pz #[] 7 none)) Q E s:=by
 have:=qKe (a₀:=pz) (st:=SortSt.mk' kd pz #[] 7 none) (Q:=fun _ st'=>Q ((),st') s) ak d rfl rfl rfl rfl h;unfold wpS at this;exact wpAny_mono this (fun r s' ⟨e,q⟩=>by subst e;exact q) fun _ _ e=>e
end
noncomputable def kLt(x y:List Str):Bool:=decide (x.length<y.length) || (decide (x.length=y.length) && ltL x y)
theorem qIl(x:List Str):kLt x x=false:=by simp[kLt,qK9]
theorem qJo(h:kLt x y=true)(h':kLt y z=true):kLt x z=true:=by
 simp only[kLt,hDl,hB4,decide_eq_true_eq]at *;rcases h with h|⟨h,q⟩
 ·rcases h' with h'|⟨h',q'⟩
  ·exact .inl (by omega)
  ·exact .inl (by omega)
 ·rcases h' with h'|⟨h',q'⟩
  ·exact .inl (by omega)
  ·exact .inr ⟨by omega,qEr _ _ _ q q'⟩
theorem kLt_tri(x y:List Str):kLt x y=true\/x=y\/kLt y x=true:=by
 simp only[kLt,hDl,hB4,decide_eq_true_eq];rcases hE2 x.length y.length with h|h|h
 ·exact .inl (.inl h)
 ·rcases ltL_tri x y with q|q|q
  ·exact .inl (.inr ⟨h,q⟩)
  ·exact .inr (.inl q)
  ·exact .inr (.inr (.inr ⟨h.symm,q⟩))
 ·exact .inr (.inr (.inl h))
theorem qVm:∀(l:List α),(∀x∈l,p x=true->q x=true)->l.countP p<=l.countP q
 |[],_=>hA6 _
 |a :: l,h=>by
  rw[List.countP_cons,List.countP_cons];have:=qVm l fun x hx=>h x (hA8 _ hx)
  have:=h a (hA9 ..);cases hp:p a <;> cases hq:q a <;> simp_all <;> omega
theorem qVl:∀(l:List α),(∀x∈l,p x=true->q x=true)->(∃x∈l,q x=true/\p x=false)->l.countP p<l.countP q
 |[],_,⟨_,h,_⟩=>by cases h
 |a :: l,h,⟨x,hx,h1,h2⟩=>by
  rw[List.countP_cons,List.countP_cons];have le:=qVm l fun x hx=>h x (hA8 _ hx)
  have ha:=h a (hA9 ..);rcases hAg.mp hx with e|e
  ·subst e;rw[h1,h2];simp;omega
  ·have:=qVl l (fun x hx=>h x (hA8 _ hx)) ⟨x,e,h1,h2⟩;cases hp:p a <;> cases hq:q a <;> simp_all <;> omega
noncomputable def rankT(ts:List (List Str))(t:List Str):Nat:=ts.countP fun u=>kLt u t
theorem qF2(hx:x∈ts)(h:kLt x y=true):rankT ts x<rankT ts y:=qVl ts (fun u _ q=>qJo q h) ⟨x,hx,h,qIl x⟩
theorem qMj(hx:x∈ts)(hy:y∈ts):decide ((rankT ts x:Int)<(rankT ts y:Int))=kLt x y:=by
 rcases kLt_tri x y with h|h|h
 ·have:=qF2 hx h;rw[h];simp;omega
 ·subst h;rw[qIl];simp
 ·have:=qF2 hy h;have z:kLt x y=false:=by
   cases q:kLt x y with
   |false=>rfl
   |true=>have:=qJo q h;rw[qIl]at this;cases this
  rw[z];simp;omega
theorem qGn(h:m.Perm l0):∀l:List α,l0=l.map f->∃l':List α,l'.Perm l/\l'.map f=m:=by
 induction h with
 |nil =>
  intro l e;cases l with
  |nil=>exact⟨[],List.Perm.nil,rfl⟩
  |cons _ _=>cases e
 |cons x p ih =>
  intro l e;cases l with
  |nil=>cases e
  |cons a l =>
   injection e with e1 e2
   obtain⟨l',p',q⟩:=ih l e2;exact⟨a :: l',p'.cons a,by rw[hB8,q,<-e1]⟩
 |swap x y l1 =>
  intro l e
  match l,e with
  |a :: b :: l,e =>
   injection e with e1 e2
   injection e2 with e2 e3
   exact⟨b :: a :: l,List.Perm.swap a b l,by rw[hB8,hB8,<-e1,<-e2,e3]⟩
 |trans p1 p2 ih1 ih2 =>
  intro l e;obtain⟨l1,q1,q2⟩:=ih2 l e;obtain⟨l2,q3,q4⟩:=ih1 l1 q2.symm;exact⟨l2,q3.trans q1,q4⟩
def qB8(h:Heap)(v:Value)(t:List Str):Prop:=∃(k a:Addr) (tok:Tok) (its:Array Value),v = .ref k/\IsTup h k #[.int t.length tok,.ref a]/\h.IsList a its/\StrsAre its.toList t
theorem qB8.uniq(a:qB8 h v t)(b:qB8 h v u):t=u:=by
 obtain⟨k,p,tok,its,rfl,⟨o,e,c,n,d⟩,⟨o1,e1,c1,n1,d1⟩,st⟩:=a;obtain⟨k2,p2,tok2,its2,ek,⟨o',e',c',n',d'⟩,⟨o2,e2,c2,n2,d2⟩,st2⟩:=b;cases ek;rw[e]at e';cases e';rw[d]at d';injection d' with d' _
 have:[Value.int t.length tok,Value.ref p]=[Value.int u.length tok2,Value.ref p2]:=congrArg Array.toList d';injection this with _ h2
 injection h2 with h2 _
 cases h2;rw[e1]at e2;cases e2;rw[d1]at d2;injection d2 with d2 _
 subst d2;rw[<-st.strs,<-st2.strs]
section
variable{P:Program}{w:World}{A:Around}{E:Value->Shared->Prop}{s:Shared}
open SeqAt in
theorem qRb(hu:A.units<cLine)(ha:s.heap.IsList a i1)(hb:s.heap.IsList b i2)(hx:StrsAre i1.toList x)(hy:StrsAre i2.toList y):EqAt A s (.ref a) (.ref b) (decide (x=y)):=by
 by_cases e:a=b
 ·subst e;obtain⟨o1,e1,c1,n1,d1⟩:=ha;obtain⟨o2,e2,c2,n2,d2⟩:=hb;rw[e1]at e2;cases e2;rw[d1]at d2;injection d2 with d2 _
  subst d2;have:x=y:=by rw[<-hx.strs,<-hy.strs]
  rw[decide_eq_true this];exact EqAt.same _
 ·have l1:i1.size=x.length:=by rw[<-hx.strs];simp
  have l2:i2.size=y.length:=by rw[<-hy.strs];simp
  by_cases hs:i1.size=i2.size
  ·have q:=RcAt.lists (e:=fun j=>x.getD j "" == y.getD j "") ha hb hs hu fun j h1 h2=>by
    obtain⟨t1,q1⟩:=qHx hx (i:=j) (by simpa using h1);obtain⟨t2,q2⟩:=qHx hy (i:=j) (by simpa using h2);rw[hAy,hCt h1]at q1;rw[hAy,hCt h2]at q2;rw[hAt q1,hAt q2];exact EqAt.str_str _ _ _ _
   have eb:(List.range i1.size).all (fun j=>x.getD j "" == y.getD j "")=decide (x=y):=by
    rw[hCu];simp only[hD0,hAf,beq_iff_eq,decide_eq_true_eq];constructor
    ·intro h;refine List.ext_getElem (by omega) fun j h1 h2=>?_
     have:=h j (by omega);rw[hAe,hAe,hA2 h1,hA2 h2]at this;exact this
    ·intro h j _;rw[h]
   rw[eb]at q;exact EqAt.of_refs e q
  ·have ne:x≠y:=fun z=>hs (by rw[l1,l2,z])
   rw[decide_eq_false ne];exact EqAt.of_refs e (RcAt.lists_lengths ha hb (by simpa using hs) hu)
theorem qQm(hu:A.units<cLine)(hl:s.heap.IsList l items)(hb:s.heap.IsList b items2)(hx:StrsAre items.toList x)(hy:StrsAre items2.toList y)
  (h:Q (ltL x y) s):wpAny (model P w) A (oneLt' false (.ref l) (.ref b)) Q E s:=by
 obtain⟨⟨cls,dd,data,sl⟩,ho,hc,n,hd⟩:=hl;obtain⟨⟨cls2,dd2,data2,sl2⟩,ho2,hc2,n2,hd2⟩:=hb;simp only at hc hd hc2 hd2;subst hc hd hc2 hd2;rw[oneLt'_eq];simp only[hC1,if_false];refine wpAny_bind (richCompare_meets_room (op:=.Lt) ⟨_,ho,rfl⟩ ⟨_,ho2,rfl⟩ F.slot_list_lt F.entry_list_lt (F.args_list_lt_2 _ _) (qM0 l b items items2 n n2 dd dd2 sl sl2 x y hx hy) ⟨⟨ho,ho2⟩,?_⟩ hu);refine⟨(fun z=>nomatch z),?_⟩;exact wpAny_truthy_bool h
theorem qQv(hu:A.units<cLine)(hx:qB8 s.heap x t)(hy:qB8 s.heap y u)(h:Q (kLt t u) s):wpAny (model P w) A (keyLt' (tuples' true) x y) Q E s:=by
 obtain⟨k,a,tok,its,rfl,⟨o,e,c,n,d⟩,ha,st⟩:=hx;obtain⟨k2,a2,tok2,its2,rfl,⟨o',e',c',n',d'⟩,ha2,st2⟩:=hy;refine kat_lt e d e' d' (kat_cons (wpAny_eqBool_int (kat_go (fun q=>kat_yes (kat_cons (qRb hu ha ha2 st st2 _ _ _ _ (kat_go (fun q2=>kat_yes (kat_nil ?_)) fun q2=>kat_no ?_)))) fun q=>kat_no ?_)))
 ·have e1:t.length=u.length:=Int.ofNat.inj (eq_of_beq q);have e2:t=u:=of_decide_eq_true q2;subst e2;rw[qIl]at h;exact h
 ·have e1:t.length=u.length:=Int.ofNat.inj (eq_of_beq q);refine qQm hu ha ha2 st st2 ?_;have:kLt t u=ltL t u:=by simp[kLt,e1]
  rw[this]at h;exact h
 ·have e1:t.length≠u.length:=by
   intro z;rw[z]at q;simp at q
  refine oneLt_int ?_;have:kLt t u=decide ((t.length:Int)<(u.length:Int)):=by
   simp only[kLt];rw[decide_eq_false e1];simp
  rw[this]at h;exact h
end
def zA3(H H':Hp):Prop:=∀b o,H b=some o->H' b=some o
theorem qUm{K:PySem.W.Frag}{H H':Hp}{l:Addr}{xs:List V}(e:zA3 H H')(hq:SqL K H l xs):SqL K H' l xs:=by
 rcases hq with (hq|⟨o,hq⟩)|hq
 ·exact .inl (.inl (e _ _ hq))
 ·exact .inl (.inr ⟨o,e _ _ hq⟩)
 ·exact .inr hq
theorem qFb:∀ {l:List α} {m:List β},Paired R l m->l.length=m.length
 |_,_,.nil=>rfl
 |_,_,.cons _ t=>by rw[hBc,hBc,qFb t]
theorem qHg{α β:Type}{R R':α->β->Prop}(h:∀a b,R a b->R' a b):∀ {l:List α} {m:List β},Paired R l m->Paired R' l m
 |_,_,.nil=>.nil
 |_,_,.cons a t=>.cons (h _ _ a) (qHg h t)
theorem paired_mem:∀ {l:List α} {m:List β},Paired R l m->(∀a b,b∈m->R a b->R' a b)->Paired R' l m
 |_,_,.nil,_=>.nil
 |_,_,.cons a t,h=>.cons (h _ _ (hA9 ..) a) (paired_mem t fun a b hb=>h a b (hA8 _ hb))
theorem qGo:∀ {l:List α} {m:List β},Paired R l m->R a b->Paired R (l++[a]) (m++[b])
 |_,_,.nil,h=>.cons h .nil
 |_,_,.cons q t,h=>.cons q (qGo t h)
theorem qCz:∀ {l:List α} {m:List β},Paired R l m->∀z∈l.zip m,R z.1 z.2
 |_,_,.nil,z,h=>by cases h
 |_,_,.cons q t,z,h=>by
  rcases hAg.mp h with e|e
  ·rw[e];exact q
  ·exact qCz t z e
theorem qD7:∀ {kA:List Value} {ps:List (Addr×List Str)},Paired (fun v p=>qB8 h v p.2) kA ps->∃fs:List Value,KatTups h kA fs/\fs.length=kA.length/\∀f∈fs,∃n t,f=Value.int n t
 |_,_,.nil=>⟨[],KatTups.nil,rfl,fun f hf=>by cases hf⟩
 |_,_,.cons a t=>by
  obtain⟨fs,k1,k2,k3⟩:=qD7 t;obtain⟨k,p,tok,its,rfl,⟨o,e,c,n,d⟩,_,_⟩:=a;refine⟨_ :: fs,KatTups.cons e c d rfl k1,by rw[hBc,hBc,k2],fun f hf=>?_⟩;rcases hAg.mp hf with z|z
  ·exact⟨_,tok,z⟩
  ·exact k3 f z
section
variable{X:Cx}
theorem qV9
  (I:Inv X ((kS,seqObj "list" kA.toArray en) :: (a,seqObj "list" #[] e1) :: pins) σ H s) (hk:kS≠a) (Hk:H kS=none) (Ha:H a=none) (wa:Aw X pins a) (wk:Aw X pins kS) (hu:A.units<cLine)
  (keys:Paired (fun v p=>qB8 s.heap v p.2) kA ps) (hn:ps.length<=5000)
  (h:∀(s':Shared) (ps':List (Addr×List Str)),ps'.Perm ps->ps'.Pairwise (fun p q=>kLt q.2 p.2=false)->Inv X pins σ (upd H a (.lst (ps'.map fun p=>V.ref p.1))) s'->P (.done (.ret .none)) s') :
  wpAny (model X.prog X.w) A (ksk_end a false (ps.map fun p=>Value.ref p.1).toArray e1 (.ref kS) kA.toArray) P E' s:=by
 have lk:=qFb keys;have ok:s.heap.get? kS=some (seqObj "list" kA.toArray en):=(I.pin (kS,_) (hAa _ (.head _))).1;have ez:(kA.toArray.zip (ps.map fun p=>Value.ref p.1).toArray).toList=(kA.zip ps).map fun z=>((z.1,Value.ref z.2.1):Keyed):=by
  rw[hE8];show kA.zip (ps.map fun p=>Value.ref p.1)=_;rw[List.zip_map_right];rfl
 have fin:∀(st:SortSt) (Z:List (Value×(Addr×List Str))),(arrOf st).toList=Z.map (fun z=>((z.1,Value.ref z.2.1):Keyed))->Z.Perm (kA.zip ps)->(Z.map Prod.snd).Pairwise (fun p q=>kLt q.2 p.2=false)->failedOf st=none->wpAny (model X.prog X.w) A (ksk_tail a false e1 (.ref kS) st) P E' s:=by
  intro st Z hZ hp ho hf;have lz:Z.length=ps.length:=by rw[hp.length_eq,List.length_zip];omega
  have es:((arrOf st).map (·.2)).toList=(Z.map Prod.snd).map fun p=>Value.ref p.1:=by
   rw[hDt,hZ,hAr,hAr];rfl
  have sz:(arrOf st).size=ps.length:=by rw[<-hB3,hZ,hA1,lz]
  obtain⟨n1,I1,_⟩:=Inv.repinL (fun _=>(#[]:Array Value)) I.unpin (wk.cons (Ne.symm hk)) Hk ok;have oa1:(s.heap.update kS (Obj.mapSeq fun _=>(#[]:Array Value))).get? a=some (seqObj "list" #[] e1):=(I1.pin (a,_) (hAa _ (.head _))).1;obtain⟨n2,I2,oa2⟩:=Inv.repinL (s:={ s with heap:=s.heap.update kS (Obj.mapSeq fun _=>(#[]:Array Value)) }) (fun _=>(arrOf st).map (·.2)) I1.unpin wa Ha oa1;unfold ksk_tail;try dsimp only
  refine wpAny_bind (listUpdate_at ok rfl ?_ (by rw[hAd,sizeLine_eq];omega) (hAs _));refine wpAny_bind (wpAny_letGo ?_);refine wpAny_bind (seqEpoch_at oa1 rfl ?_);refine wpAny_bind (listUpdate_at oa1 rfl ?_ (hAs _) (by simp only[hC1,if_false,Array.size_map];rw[sz,sizeLine_eq];omega));rw[hf];simp only[bne_self_eq_false,hC1,if_false];refine wpAny_pure (h _ (Z.map Prod.snd) ?_ ho ?_)
  ·have:=hp.map Prod.snd;rw[hDb (by omega)]at this;exact this
  ·refine I2.adoptL (its:=(Z.map Prod.snd).map fun p=>Value.ref p.1) (n:=n2) wa Ha ?_ (by rw[hA1,hA1,lz,sizeLine_eq];omega) ?_
   ·have:=qEc ((Z.map Prod.snd).map Prod.fst);rw[hAr,hAr (g:=Value.ref)]at this;exact this
   ·rw[<-es,Array.toArray_toList];exact oa2
 unfold ksk_end;try dsimp only
 simp only[hC1,if_false];by_cases h2:((ps.map fun p=>Value.ref p.1).toArray).size<2
 ·rw[if_pos h2,if_pos h2];refine wpAny_bind (wpAny_pure ?_);rw[StateT.run_pure];refine wpAny_bind (wpAny_pure ?_);try dsimp only
  refine fin (SortSt.mk' general' (kA.toArray.zip (ps.map fun p=>Value.ref p.1).toArray) #[] 7 none) (kA.zip ps) ez (hCd _) ?_ rfl;rw[hDb (by omega)];rw[hAd,hA1]at h2
  match ps,h2 with
  |[],_=>exact List.Pairwise.nil
  |[p],_=>exact hC4 ..
 ·rw[if_neg h2,if_neg h2];rw[hAd,hA1]at h2;obtain⟨fs,kt,fl,fa⟩:=qD7 keys;refine wpAny_bind (kat_kind (T:=.type "int") kt (by omega) (fun v hv=>?_) (by decide) ?_)
  ·obtain⟨x,t,rfl⟩:=fa v hv;exact .now
  show wpAny _ _ (sortRuns'.run (SortSt.mk' (tuples' true) _ #[] 7 none) >>= _) _ _ _;have ex:∀x:Keyed,∃r:Int,∀t,qB8 s.heap x.1 t->r=(rankT (ps.map Prod.snd) t:Int):=fun x=>by
   by_cases c:∃t,qB8 s.heap x.1 t
   ·obtain⟨t,ht⟩:=c;exact⟨(rankT (ps.map Prod.snd) t:Int),fun u hu=>by rw[ht.uniq hu]⟩
   ·exact⟨0,fun t ht=>absurd ⟨t,ht⟩ c⟩
  obtain⟨rk,hrk⟩:∃rk:Keyed->Int,∀x t,qB8 s.heap x.1 t->rk x=(rankT (ps.map Prod.snd) t:Int):=⟨fun x=>Classical.choose (ex x),fun x=>Classical.choose_spec (ex x)⟩;have at_:∀z∈kA.zip ps,qB8 s.heap z.1 z.2.2/\z.2.2∈ps.map Prod.snd:=fun z hz=>⟨qCz keys z hz,hA3.mpr ⟨z.2,(hDv hz).2,rfl⟩⟩
  have ak:qG5 X.prog X.w A E' s rk (tuples' true) (fun x=>∃t∈ps.map Prod.snd,qB8 s.heap x.1 t):=qLo fun x y ⟨t,ht,kx⟩ ⟨u,hu',ky⟩ Q hq=>by
   rw[hrk x t kx,hrk y u ky,qMj ht hu']at hq;exact qQv hu kx ky hq
  refine wpAny_bind (qH7 ak (fun x hx=>?_) fun st' hf dn=>?_)
  ·rw[ez]at hx;obtain⟨z,hz,rfl⟩:=hA3.mp hx;exact⟨_,(at_ z hz).2,(at_ z hz).1⟩
  ·obtain⟨Z,pZ,eZ⟩:=qGn dn.1 (kA.zip ps) ez;refine fin st' Z eZ.symm pZ ?_ hf;have so:=dn.2;rw[<-eZ]at so;have so:=hAv.mp so;refine hAv.mpr (so.imp_of_mem fun {x y} hx hy le=>?_);have ax:=at_ x (pZ.mem_iff.mp hx);have ay:=at_ y (pZ.mem_iff.mp hy);rw[hrk _ _ ax.1,hrk _ _ ay.1]at le;cases c:kLt y.2.2 x.2.2 with
   |false=>rfl
   |true =>
    have:=qF2 ay.2 c;omega
theorem qH1{pins:List (Addr×Obj)}{σ:St}{H1:Hp}{s1:Shared}{l f:Addr}{ps:List (Addr×List Str)}{Q:VK}(I1:Inv X pins σ H1 s1)(hq:SqL X.K H1 l (ps.map fun p=>V.ref p.1))(hrow:∀p∈ps,SqL X.K H1 p.1 (p.2.map V.str))(hn:ps.length<=5000)(hu:X.A.in1.in1.units<cLine)
  (hcall:∀p∈ps,∀(pins':List (Addr×Obj)) (s':Shared) (H':Hp),(∀q∈pins,q∈pins')->zA3 H1 H'->Inv X pins' σ H' s'->wpAny (model X.prog X.w) X.A.in1.in1 (call (.ref f) [.ref p.1]) (EP X pins' σ (fun v H2=>∃k,v = .ref k/\H' k=none/\H2=upd H' k (.tup [.int p.2.length,.ref p.1]))) (fun _ _=>False) s')
  (q:∀(r:Addr) (ps':List (Addr×List Str)) (H2:Hp),H1 r=none->zA3 H1 H2->H2 r=some (.lst (ps'.map fun p=>V.ref p.1))->ps'.Perm ps->ps'.Pairwise (fun p q=>kLt q.2 p.2=false)->Q (.ref r) H2) :
  wpAny (model X.prog X.w) X.A (call (.builtin "sorted") [.ref l] [(Str.ofString "key",.ref f)]) (EP X pins σ Q) X.xe s1:=by
 obtain⟨its,rv,pl,hz⟩:=I1.list hq;have ei:its=ps.map fun p=>Value.ref p.1:=by
  have rv':qA7 ((ps.map Prod.fst).map V.ref) its:=by rw[hAr];exact rv
  have:=refs_of rv';rw[hAr]at this;exact this
 have hl:its.length=ps.length:=by rw[ei,hA1]
 refine call_function_entry_kw kind_sorted plain_sorted entry_sorted (ksk_s1 _ _) ?_;unfold Builtin.«sorted»;refine wpAny_bind (m:=checkCount "sorted" 1 1 _) (wpAny_pure ?_);refine wpAny_bind (collect_list pl.isList ?_ (by rw[sizeLine_eq];omega));refine wpAny_bind (wpAny_newList ?_ (by rw[sizeLine_eq];omega));have hsz:((s1.heap.push (seqObj "list" #[] 0)).update s1.heap.objs.size (Obj.mapSeq (·++its.toArray))).objs.size=s1.heap.objs.size+1:=by
  rw[Heap.size_update,size_push']
 have keep:∀b o,s1.heap.get? b=some o->((s1.heap.push (seqObj "list" #[] 0)).update s1.heap.objs.size (Obj.mapSeq (·++its.toArray))).get? b=some o:=fun b o q=>by
  have hlt:b<s1.heap.objs.size:=Heap.lt_size q;rw[Heap.get?_update_ne _ _ _ _ (hAn hlt),Heap.get?_push_ne _ _ _ (hAn hlt)];exact q
 have hoL:(((s1.heap.push (seqObj "list" #[] 0)).update s1.heap.objs.size (Obj.mapSeq (·++its.toArray))).push (seqObj "list" its.toArray 0)).get? (s1.heap.objs.size+1)=some (seqObj "list" its.toArray 0):=by
  rw[<-hsz];exact Heap.get?_push_size _ rfl
 have I2:Inv X pins σ H1 { s1 with heap:=((s1.heap.push (seqObj "list" #[] 0)).update s1.heap.objs.size (Obj.mapSeq (·++its.toArray))).push (seqObj "list" its.toArray 0) } :=
  I1.kept (t':=s1.toks) fun b o q=>Heap.get?_push_of_some _ (keep b o q)
 show wpAny _ _ _ _ _ { s1 with heap:=((s1.heap.push (seqObj "list" #[] 0)).update s1.heap.objs.size (Obj.mapSeq (·++its.toArray))).push (seqObj "list" its.toArray 0) };rw[hsz];have nA:H1 (s1.heap.objs.size+1)=none:=I1.hok.fresh (hB7 _);have wA:Aw X pins (s1.heap.objs.size+1):=I1.aw (hB7 _);generalize s1.heap.objs.size+1=a at hoL nA wA;generalize hS:({ s1 with heap:=((s1.heap.push (seqObj "list" #[] 0)).update s1.heap.objs.size (Obj.mapSeq (·++its.toArray))).push (seqObj "list" its.toArray 0) }:Shared)=s2 at I2;have ho2:s2.heap.get? a=some (seqObj "list" its.toArray 0):=by rw[<-hS];exact hoL
 clear hoL hS;refine wpAny_bind (wpAny_holding (wpAny_call_entry_kw slot_list_sort ⟨_,ho2,rfl⟩ entry_list_sort ?body (ksk_l1 _ _)));show wpAny (model X.prog X.w) X.A.in1.in1 (Builtin.«list.sort» ⟨[.ref a],[(Str.ofString "key",.ref f)]⟩) _ _ _;rw[ksk_t1];unfold ksk_tree;refine wpAny_bind (listItems_at ho2 rfl ?_);refine wpAny_bind (listUpdate_at ho2 rfl ?_ (by rw[hAd,sizeLine_eq];omega) (hAs _));obtain⟨e1,I3,ho3⟩:=I2.repinL (fun _=>#[]) wA nA ho2;refine wpAny_bind (seqEpoch_at ho3 rfl ?_);refine wpAny_bind (wpAny_newTuple ?_ (by show its.length<=_;rw[sizeLine_eq];omega));refine wpAny_bind (wpAny_newList ?_ (hAs _));refine wpAny_holding ?_;have I4:Inv X pins σ H1 { s2 with heap:=((s2.heap.update a (Obj.mapSeq fun _=>(#[]:Array Value))).push (seqObj "tuple" its.toArray 0)) }:=I3.kept (t':=s2.toks) fun b o q=>Heap.get?_push_of_some _ q
 have nK:=I4.fresh;have wK:=I4.aw (hA6 _);have ho4:((s2.heap.update a (Obj.mapSeq fun _=>(#[]:Array Value))).push (seqObj "tuple" its.toArray 0)).get? a=some (seqObj "list" #[] e1):=Heap.get?_push_of_some _ ho3;have nka:((s2.heap.update a (Obj.mapSeq fun _=>(#[]:Array Value))).push (seqObj "tuple" its.toArray 0)).objs.size≠a:=hCo (Heap.lt_size ho4);have I5:Inv X pins σ H1 { s2 with heap:=((s2.heap.update a (Obj.mapSeq fun _=>(#[]:Array Value))).push (seqObj "tuple" its.toArray 0)).push (seqObj "list" #[] 0) }:=I4.kept (t':=s2.toks) fun b o q=>Heap.get?_push_of_some _ q
 have ho5:(((s2.heap.update a (Obj.mapSeq fun _=>(#[]:Array Value))).push (seqObj "tuple" its.toArray 0)).push (seqObj "list" #[] 0)).get? a=some (seqObj "list" #[] e1):=Heap.get?_push_of_some _ ho4;have hk5:(((s2.heap.update a (Obj.mapSeq fun _=>(#[]:Array Value))).push (seqObj "tuple" its.toArray 0)).push (seqObj "list" #[] 0)).get? ((s2.heap.update a (Obj.mapSeq fun _=>(#[]:Array Value))).push (seqObj "tuple" its.toArray 0)).objs.size=some (seqObj "list" #[] 0):=Heap.get?_push_size _ rfl;show wpAny _ _ (ksk_rest a (.ref f) false its.toArray e1 (.ref ((s2.heap.update a (Obj.mapSeq fun _=>(#[]:Array Value))).push (seqObj "tuple" its.toArray 0)).objs.size)) _ _ { s2 with heap:=((s2.heap.update a (Obj.mapSeq fun _=>(#[]:Array Value))).push (seqObj "tuple" its.toArray 0)).push (seqObj "list" #[] 0) }
 change H1 ((s2.heap.update a (Obj.mapSeq fun _=>(#[]:Array Value))).push (seqObj "tuple" its.toArray 0)).objs.size=none at nK
 change Aw X pins ((s2.heap.update a (Obj.mapSeq fun _=>(#[]:Array Value))).push (seqObj "tuple" its.toArray 0)).objs.size at wK
 have I6:=(I5.pinL wA nA ho5).pinL (wK.cons (Ne.symm nka)) nK hk5;generalize ((s2.heap.update a (Obj.mapSeq fun _=>(#[]:Array Value))).push (seqObj "tuple" its.toArray 0)).objs.size=kS at nK wK nka I6 ⊢;generalize ({ s2 with heap:=((s2.heap.update a (Obj.mapSeq fun _=>(#[]:Array Value))).push (seqObj "tuple" its.toArray 0)).push (seqObj "list" #[] 0) }:Shared)=s6 at I6 ⊢;unfold ksk_rest;refine wpAny_bind (wpAny_rule ?_)
 first
  |rw[List.forIn_toArray]
  |(rw[<-Array.forIn_toList];simp only[List.toList_toArray])
  |rw[<-Array.forIn_toList]
 refine wpAny_bind (ksk_fold (fun i s'=>∃(kA:List Value) (e:Nat) (H':Hp),Inv X ((kS,seqObj "list" kA.toArray e) :: (a,seqObj "list" #[] e1) :: pins) σ H' s'/\zA3 H1 H'/\Paired (fun v p=>∃k,v=Value.ref k/\H' k=some (.tup [.int (p.2.length:Int),.ref p.1])) kA (ps.take i)) its 0 s6 ⟨[],0,H1,I6,fun _ _ z=>z,by simpa using Paired.nil⟩ ?step ?done)
 case step =>
  rintro j x s' hx ⟨kA,e,H',I',ex,hk⟩;simp only[Nat.zero_add]at hk ⊢;have hj:j<its.length:=(hAq.mp hx).1;have hjn:j<ps.length:=by omega
  have hxe:x = .ref ps[j].1:=by
   rw[ei,hAk,hA2 hjn]at hx;exact(hAt hx).symm
  subst hxe;have hz:kA.length<=its.length:=by
   have h1:=qFb hk;rw[hAl]at h1;omega
  refine wpAny_bind (wpAny_attempt (wpAny_mono (hcall ps[j] (hBn hjn) _ s' H' (fun p hp=>hA8 _ (hA8 _ hp)) ex I') (fun v s'' he=>?_) fun _ _ (hF:False)=>hF.elim));obtain⟨w,H'',I8,rw',k,rfl,nk,e8⟩:=he;cases rw';subst e8;try dsimp only
  have ok2:s''.heap.get? kS=some (seqObj "list" kA.toArray e):=(I8.pin (kS,_) (hAa _ (.head _))).1;have nK8:upd H' k (.tup [.int ps[j].2.length,.ref ps[j].1]) kS=none:=(I8.pin (kS,_) (hAa _ (.head _))).2.1;obtain⟨n3,I3,ok3⟩:=I8.unpin.repinL (·.push (.ref k)) (wK.cons (Ne.symm nka)) nK8 ok2;have ek:ps.take (j+1)=ps.take j++[ps[j]]:=by rw[List.take_add_one,hA2 hjn];rfl
  refine wpAny_bind (listUpdate_at ok2 rfl ?_ (by rw[hAd,sizeLine_eq];omega) (hB2 (Nat.le_of_eq (Array.size_push ..)) (by rw[hAd,sizeLine_eq];omega)));have ea:kA.toArray.push (Value.ref k)=(kA++[Value.ref k]).toArray:=by simp
  rw[ea]at ok3;refine wpAny_pure ⟨rfl,kA++[.ref k],n3,_,I3.pinL (wK.cons (Ne.symm nka)) nK8 ok3,fun b o z=>?_,?_⟩
  ·have:=ex b o z;rw[qAg (qAi this nk)];exact this
  ·rw[ek];refine qGo (qHg (fun v p ⟨k2,z1,z2⟩=>⟨k2,z1,?_⟩) hk) ⟨k,rfl,upd_same⟩;rw[qAg (qAi z2 nk)];exact z2
 case done =>
  rintro s' ⟨kA,e,H',I',ex,hk⟩;have e3:ps.take (0+its.length)=ps:=hA7 (by omega);rw[e3]at hk;have ok2:s'.heap.get? kS=some (seqObj "list" kA.toArray e):=(I'.pin (kS,_) (hAa _ (.head _))).1;have nK':H' kS=none:=(I'.pin (kS,_) (hAa _ (.head _))).2.1;have nA':H' a=none:=(I'.pin (a,_) (hAa _ (.tail _ (.head _)))).2.1;try dsimp only
  refine wpAny_bind (listItems_at ok2 rfl ?_);have keys:Paired (fun v p=>qB8 s'.heap v p.2) kA ps:=paired_mem hk fun v p hp ⟨k,ev,hH⟩=>by
   obtain⟨i1,r1,t1,_⟩:=I'.tuple (Or.inl (.inl hH));obtain⟨i2,r2,⟨o,n,g1,g2,_,g4⟩,_⟩:=I'.list (qUm ex (hrow p hp));cases r1 with
   |cons r1 rr =>
    cases rr with
    |cons r3 rr =>
     cases rr;obtain⟨tok,rfl⟩:=r1;cases r3;exact⟨k,p.1,tok,i2.toArray,ev,t1,⟨o,g1,g2,n,g4⟩,by simpa using qCx r2⟩
  subst ei;refine qV9 I' nka nK' nA' wA wK hu keys hn fun s7 ps' hp ho I7=>⟨_,rfl,?_⟩
  refine wpAny_pure ⟨_,rfl,⟨.ref a,_,I7,rfl,q a ps' _ nA (fun b o z=>?_) upd_same hp ho⟩⟩;have:=ex b o z;rw[qAg (qAi this nA')];exact this
end
theorem qKc:∀vs:List Value,vs.zip vs=vs.map fun v=>((v,v):Keyed)
 |[]=>rfl
 |v :: vs=>by rw[List.zip_cons_cons,hB8,qKc vs]
section
variable{P:Program}{w:World}{A:Around}{E:Value->Shared->Prop}{s:Shared}
theorem qNq(ho:s.heap.get? a=some (seqObj "list" vs.toArray n))(hi:IntsAre vs ns)(hn:vs.length<=5000)
  (h:∀(out:List Value),out.Perm vs->(out.map numOf).Pairwise (·<=·)->R (.done (.ret .none)) { s with heap:=sortedHeap s.heap a vs out.toArray }):wpAny (model P w) A (Builtin.«list.sort» ⟨[.ref a],[]⟩) R E s:=by
 rw[list_sort_plain];have ha:a<s.heap.objs.size:=Heap.lt_size ho;refine wpAny_bind (listItems_at ho rfl (wpAny_bind (listUpdate_at ho rfl ?_ (by rw[hAd,sizeLine_eq];omega) (hAs _))));obtain⟨e1,ho1⟩:∃e1,(s.heap.update a (Obj.mapSeq fun _=>#[])).get? a=some (seqObj "list" #[] e1):=⟨_,get?_update_seq ho (fun _=>#[])⟩;refine wpAny_bind (seqEpoch_at ho1 rfl (wpAny_bind (wpAny_newTuple ?_ (by show vs.length<=_;rw[sizeLine_eq];omega))));refine wpAny_bind (wpAny_newList ?_ (hAs _));refine wpAny_holding ?_;have ho6:(((s.heap.update a (Obj.mapSeq fun _=>#[])).push (seqObj "tuple" vs.toArray 0)).push (seqObj "list" #[] 0)).get? a=some (seqObj "list" #[] e1):=Heap.get?_push_of_some _ (Heap.get?_push_of_some _ ho1);have keep:∀b o,b≠a->s.heap.get? b=some o->(((s.heap.update a (Obj.mapSeq fun _=>#[])).push (seqObj "tuple" vs.toArray 0)).push (seqObj "list" #[] 0)).get? b=some o:=fun b o hb e=>by
  refine Heap.get?_push_of_some _ (Heap.get?_push_of_some _ ?_);rw[Heap.get?_update_ne _ _ _ _ hb];exact e
 show wpAny (model P w) A _ R E { s with heap:=((s.heap.update a (Obj.mapSeq fun _=>#[])).push (seqObj "tuple" vs.toArray 0)).push (seqObj "list" #[] 0) };dsimp only;have fin:∀(st':SortSt) (out:List Value),(arrOf st').map (·.2)=out.toArray->failedOf st'=none->out.Perm vs->(out.map numOf).Pairwise (·<=·)->wpAny (model P w) A (do
   let touched:=(← seqEpoch a) != e1
   Builtin.List.listUpdate (.ref a) fun _=>(arrOf st').map (·.2)
   if let some e:=failedOf st' then rule "list.sort.comparison-raised";throw e
   if touched then rule "list.sort.modified";raiseError "ValueError" "list modified during sort"
   ret .none) R E { s with heap:=((s.heap.update a (Obj.mapSeq fun _=>#[])).push (seqObj "tuple" vs.toArray 0)).push (seqObj "list" #[] 0) }:=by
  intro st' out e hf hp hs;refine wpAny_bind (seqEpoch_at ho6 rfl ?_);refine wpAny_bind (listUpdate_at ho6 rfl ?_ (hAs _) (by rw[e,hAd,hp.length_eq,sizeLine_eq];omega));rw[hf];simp only[bne_self_eq_false,hC1,if_false];rw[e];exact wpAny_pure (h out hp hs)
 have ez:(vs.toArray.zip vs.toArray).toList=vs.map fun v=>((v,v):Keyed):=by
  rw[hE8];exact qKc vs
 by_cases h2:vs.toArray.size<2
 ·rw[if_pos h2,if_pos h2];refine wpAny_bind (wpAny_pure ?_);rw[StateT.run_pure];refine wpAny_bind (wpAny_pure (fin _ vs ?_ rfl (hCd _) ?_))
  ·show(vs.toArray.zip vs.toArray).map (·.2)=vs.toArray;apply hDs.mp;rw[hDt,hE8];exact hDb (hA6 _)
  ·rw[hAd]at h2
   match vs,h2 with
   |[],_=>exact List.Pairwise.nil
   |[p],_=>exact hC4 ..
 ·rw[if_neg h2,if_neg h2];have hl2:2<=vs.length:=by rw[hAd]at h2;omega
  rw[ksk_kind (keys:=vs.toArray) (kz:=ns) (by simpa using hi) (by rw[hAd];omega)];refine wpAny_bind (wpAny_pure ?_);have ak:qG5 P w A E { s with heap:=((s.heap.update a (Obj.mapSeq fun _=>#[])).push (seqObj "tuple" vs.toArray 0)).push (seqObj "list" #[] 0) } (fun x=>numOf x.1) oneType' (fun x=>∃n t,x.1=Value.int n t):=qLo fun x y ⟨n,t,ex⟩ ⟨m,u,ey⟩ Q hq=>by
   rw[ex,ey]at hq;rw[ex,ey,keyLt'_oneType];exact oneLt_int hq
  refine wpAny_bind (qH7 ak (fun x hx=>?_) fun st' hf dn=>?_)
  ·rw[ez]at hx;obtain⟨v,hv,rfl⟩:=hA3.mp hx;exact hi.all v hv
  ·obtain⟨L,pL,eL⟩:=qGn dn.1 vs ez;refine fin st' L ?_ hf pL ?_
   ·apply hDs.mp;rw[hDt,<-eL,hAr];show L.map _=L;exact List.map_id' L
   ·have so:=dn.2;rw[<-eL]at so;have so2:=hAv.mp so;exact hAv.mpr so2
end
section
variable{X:Cx}
theorem qJ1:qB7 X (.builtin "sorted") (fun xs H Q=>∃(p:Addr) (ns:List Int),xs=[.ref p]/\SqL X.K H p (ns.map V.int)/\ns.length<=5000/\∀(r:Addr) (ns':List Int),H r=none->ns'.Perm ns->ns'.Pairwise (·<=·)->Q (.ref r) (upd H r (.lst (ns'.map V.int)))):=by
 intro pins s σ H xs us Q I r h;obtain⟨p,ns,rfl,hq,hn,q⟩:=h;obtain⟨u,rfl,rx⟩:=qCv r;cases rx;obtain⟨its,rv,pl,hz⟩:=I.list hq;have hi:=qD8 rv;have hl:=hi.length;refine Calls.call_function_entry kind_sorted plain_sorted entry_sorted (args_sorted1 _) ?_;unfold Builtin.«sorted»;refine wpAny_bind (m:=checkCount "sorted" 1 1 _) (wpAny_pure (wpAny_bind (collect_list pl.isList ?_ (by rw[sizeLine_eq];omega))));refine wpAny_bind (wpAny_newList ?_ (by rw[sizeLine_eq];omega));have hsz:((s.heap.push (seqObj "list" #[] 0)).update s.heap.objs.size (Obj.mapSeq (·++its.toArray))).objs.size=s.heap.objs.size+1:=by rw[Heap.size_update,size_push']
 have hoL:(((s.heap.push (seqObj "list" #[] 0)).update s.heap.objs.size (Obj.mapSeq (·++its.toArray))).push (seqObj "list" its.toArray 0)).get? (s.heap.objs.size+1)=some (seqObj "list" its.toArray 0):=by
  rw[<-hsz];exact Heap.get?_push_size _ rfl
 have keep:∀b o,s.heap.get? b=some o->(((s.heap.push (seqObj "list" #[] 0)).update s.heap.objs.size (Obj.mapSeq (·++its.toArray))).push (seqObj "list" its.toArray 0)).get? b=some o:=fun b o e=>by
  have hlt:b<s.heap.objs.size:=Heap.lt_size e;rw[Heap.get?_push_ne _ _ _ (by rw[hsz];exact hAn (hBk hlt)),Heap.get?_update_ne _ _ _ _ (hAn hlt),Heap.get?_push_ne _ _ _ (hAn hlt)];exact e
 show wpAny _ _ _ _ _ { s with heap:=((s.heap.push (seqObj "list" #[] 0)).update s.heap.objs.size (Obj.mapSeq (·++its.toArray))).push (seqObj "list" its.toArray 0) };rw[hsz];refine wpAny_bind (wpAny_holding (wpAny_call_entry slot_list_sort ⟨_,hoL,rfl⟩ entry_list_sort (qNq hoL hi (by omega) fun out hp hs=>⟨_,rfl,?_⟩) (args_list_sort _)));have nz:H (s.heap.objs.size+1)=none:=I.hok.fresh (hB7 _);obtain⟨e,he⟩:=sortedAll_at s.heap its out.toArray;have ho:IntsAre out (out.map numOf):=intsAre_map out fun v hv=>hi.all v (hp.mem_iff.mp hv)
 have hpn:(out.map numOf).Perm ns:=by
  have:=hp.map numOf;rw[hi.nums]at this;exact this
 refine wpAny_pure ⟨_,rfl,.ref (s.heap.objs.size+1),_,I.laid (t':=s.toks) (a:=s.heap.objs.size+1) (o:=.lst ((out.map numOf).map V.int)) (h':=sortedAll s.heap its out.toArray) (fun b o eb=>sortedAll_old eb) (hB7 _) ⟨?_,out,e,qGb ho,he⟩,rfl,q _ (out.map numOf) nz hpn hs⟩;rw[hA1,hA1,hp.length_eq,sizeLine_eq];omega
end
def qOm(K:PySem.W.Frag)(P:Addr)(lpos:Pos)(q:Str)(t:TA):TE:=fun σ H Q=>t σ H fun vs H1=>∃(p:Addr) (ps:List (Addr×List Str)),vs=[.ref p]/\SqL K H1 p (ps.map fun p=>V.ref p.1)/\(∀x∈ps,SqL K H1 x.1 (x.2.map V.str))/\ps.length<=5000/\TabW H1 P lpos q /\
 ∀(r:Addr) (ps':List (Addr×List Str)) (H2:Hp),H1 r=none->ExtB P H1 H2->H2 r=some (.lst (ps'.map fun p=>V.ref p.1))->ps'.Perm ps->ps'.Pairwise (fun p q=>kLt q.2 p.2=false)->TabW H2 P lpos q->Q (.ref r) H2
section
variable{X:Cx}{k:Nat}
theorem qKz(L:LamAt X c P)(hr:Room (k+2) X.A)(hg:Gl X "sorted")(hm:X.mg "sorted" = none)(ha:PA X [e] t)
  (S:FnScope [x] [x] scope) (hcl:closureFor scope X.env=pure []) (hdef:defaultsOf params X.env=([],[]))
  (hb:∀(nm ql:Str) (pm cd ct u:Value),bindArgs { name:=nm,qualname:=ql,params,body:=.expr body,scope,globals:=mainGlobals,closure:=[],defaults:=.none,kwdefaults:=.none,doc:=.none,pyModule:=pm,annotations:=none,code:=cd,closureTuple:=ct,builtins:=builtinsNs } ⟨[u],[]⟩=pure [(x,u)])
  (hbody:∀(A:Around) (s:Shared) (H:Hp) (f:Addr) (cd:Value) (qual:Str),PE (qCd CX0 X.prog X.w X.K X.mg X.base [x] qual scope f cd A X.stack s H E0) body te)
  (hte:∀(a:Addr) (t:List Str) (H:Hp) (Q:VK),SqL X.K H a (t.map V.str)->(∀k,H k=none->Q (.ref k) (upd H k (.tup [.int t.length,.ref a])))->te [some (.ref a)] H Q)
  (he:backTo pos (starEach [e] X.env)=(false,eval e X.env) :: backTo pos (starEach [] X.env):=by rfl)
  (hplain:(backTo pos (starEach [e] X.env)).any (·.1)=false:=by rfl):PE X (.Call (.Name "sorted" p) [e] [⟨some "key",.Lambda params body scope lpos,kp⟩] pos) (qOm X.K P lpos (X.env.qual++"<lambda>") t):=by
 intro pins s σ H Q I h;refine wpAny_Call_Name_kw (qEt I hg hm (by decide +kernel:bootBuiltins "sorted" = some (.builtin "sorted")) ?_ (by decide) (by decide));refine PyProof.Rows.callWith_kw (thn (ha pos pins s σ H _ I h) fun us s1 ⟨vs,H1,I1,r1,q1⟩=>?_) he hplain;obtain⟨l,ps,rfl,hq,hrow,hn,tw,q⟩:=q1;obtain⟨u,rfl,rx⟩:=qCv r1;cases rx;have hgs:s1.heap.Ns mainGlobals X.mg:=I1.ok.mod.glob.keeps I1.bk;obtain⟨bm,ob,b1,b2,b3,b4,b5,b6⟩:=L.bl;have rest:∀(c':Addr) (ctv:Value) (h':Heap) (tk:Nat) (H2:Hp),Inv X pins σ H2 { s1 with heap:=h'.push (PySem.W.kla_obj "<lambda>" (X.env.qual++"<lambda>") params body scope [] ((X.mg "__name__").getD .none) c' ctv),toks:=tk }->H2 c'=some (qXx c' (X.env.qual++"<lambda>"))->H2 h'.objs.size=none->Aw X pins h'.objs.size->(∃ps,H1 P=some (.tbl ps))->ExtB P H1 H2->TabW H2 P lpos (X.env.qual++"<lambda>")->(∀r,H2 r=none->H1 r=none) ->
   wpAny (model X.prog X.w) X.A (call (.builtin "sorted") [.ref l] [(Str.ofString "key",.ref h'.objs.size)]) (EP X pins σ Q) X.xe { s1 with heap:=h'.push (PySem.W.kla_obj "<lambda>" (X.env.qual++"<lambda>") params body scope [] ((X.mg "__name__").getD .none) c' ctv),toks:=tk }:=by
  intro c' ctv h' tk H2 I2 hc' nF wF ⟨ps,hP⟩ eB tw2 back;have I3:Inv X ((h'.objs.size,PySem.W.kla_obj "<lambda>" (X.env.qual++"<lambda>") params body scope [] ((X.mg "__name__").getD .none) c' ctv) :: pins) σ H2
    { s1 with heap:=h'.push (PySem.W.kla_obj "<lambda>" (X.env.qual++"<lambda>") params body scope [] ((X.mg "__name__").getD .none) c' ctv),toks:=tk }:=I2.pins_of fun p hp=>by
   rcases hAg.mp hp with rfl|hp
   ·exact⟨Heap.get?_push_size _ rfl,nF,wF.loc,wF.fs,fun v z=>by cases z⟩
   ·exact I2.pin p (hAa _ hp)
  refine wpAny_mono (qH1 (Q:=Q) I3 (zBd hP eB hq) (fun p hp=>zBd hP eB (hrow p hp)) hn (by have:=(Room.in1 (Room.in1 hr)).un;omega) (fun p hp pins' s' H' sub ex I'=>?_) (fun r ps' H3 nr ex e3 hp ho=>?_)) (fun v s' ⟨y,H',J,ry,qq⟩=>⟨y,H',J.unpin,ry,qq⟩) fun _ _ z=>z
  ·have ho:=(I'.pin _ (hAa _ (sub _ (.head _)))).1;have hcr:s'.heap.CodeRec (.ref c') (X.env.qual++"<lambda>"):=(I'.hok c' _ (ex _ _ hc')).1;refine wpAny_call (codeAny_mono (qWj (v:=.ref p.1) (t:=te) (Q:=fun v H2=>∃k,v = .ref k/\H' k=none/\H2=upd H' k (.tup [.int p.2.length,.ref p.1])) (Room.in1 (Room.in1 hr)) I'.env0.in1.in1 ho hcr S (hb _ _ _ _ _ _) rfl (hbody _ _ _ _ _ _) (hte p.1 p.2 H' _ (qUm ex (zBd hP eB (hrow p hp))) fun k nk=>⟨k,rfl,nk,rfl⟩)) fun r s'' hq=>?_);cases r with
   |error e=>exact False.elim hq
   |ok fl =>
    cases fl with
    |ret u=>exact I'.after hq
    |next=>exact False.elim hq
    |brk=>exact False.elim hq
    |cont=>exact False.elim hq
  ·exact q r ps' H3 (back r nr) (fun b o hb e=>ex b o (eB b o hb e)) e3 hp ho (tw2.ext ex)
 rcases tw with hP|⟨c',hP,hc'⟩
 ·have hPh:s1.heap.get? P=some (PySem.W.tabObj #[]):=I1.hok P _ hP;have hgP:mainGlobals≠P:=fun z=>by
   obtain⟨o,es,ep,e1,hd,_⟩:=hgs;rw[z,hPh]at e1;cases e1;cases hd
  refine hDz (PySem.W.kla_eval hdef (PySem.W.kla_makeFunction (mg:=X.mg) hcl I1.ok.glob hgs L.code (L.hd.keeps I1.bk) hPh trivial rfl hgP ⟨bm,ob,b1,b2,b3,b4,I1.bk _ _ b5,b6⟩ fun c' ctv h' tk hx hge hlt hrec htb=>hE5 ?_));have hsz:s1.heap.objs.size<=h'.objs.size:=hBi (hC8 hge hlt);have I2:=I1.grown (more:=#[rawInt lpos.line,rawInt lpos.col,.ref c']) (tk:=tk) (h':=h'.push (PySem.W.kla_obj "<lambda>" (X.env.qual++"<lambda>") params body scope [] ((X.mg "__name__").getD .none) c' ctv)) hP (fun b o hb e=>Heap.get?_push_of_some _ (hx b o hb e)) (Heap.get?_push_of_some _ htb);have hPlt:P<s1.heap.objs.size:=Heap.lt_size hPh;have nC1:H1 c'=none:=I1.hok.fresh hge;have nC:upd H1 P (.tbl (#[]++#[rawInt lpos.line,rawInt lpos.col,.ref c'])) c'=none:=by
   rw[qAg (hCo (hAm hPlt hge))];exact nC1
  have wC:Aw X pins c':=I1.aw hge;have I3:=I2.adoptX wC nC (qUa (hrec.keeps fun b o e=>Heap.get?_push_of_some _ e));have nF1:H1 h'.objs.size=none:=I1.hok.fresh hsz;refine rest c' ctv h' tk _ I3 upd_same ?_ (I1.aw hsz) ⟨_,hP⟩ (fun b o hb e=>?_) (.inr ⟨c',?_,upd_same⟩) fun r hr0=>?_
  ·rw[qAg (hCo hlt),qAg (hCo (hAm hPlt hsz))];exact nF1
  ·rw[qAg (qAi e nC1),qAg hb];exact e
  ·rw[qAg (hAn (hAm hPlt hge)),upd_same];simp
  ·by_cases h1:r=c'
   ·rw[h1];exact nC1
   ·rw[qAg h1]at hr0;by_cases h2:r=P
    ·rw[h2,upd_same]at hr0;cases hr0
    ·rw[qAg h2]at hr0;exact hr0
 ·have hPh:s1.heap.get? P=some (PySem.W.tabObj #[rawInt lpos.line,rawInt lpos.col,.ref c']):=I1.hok P _ hP;refine hDz (PySem.W.kla_eval hdef (PySem.W.kla_makeFunctionHit (mg:=X.mg) hcl I1.ok.glob hgs L.code (L.hd.keeps I1.bk) hPh ?tri (zAp lpos _) ⟨bm,ob,b1,b2,b3,b4,I1.bk _ _ b5,b6⟩ fun ctv h' tk hk hsz=>hE5 ?_))
  case tri=>trivial
  have I2:Inv X pins σ H1 { s1 with heap:=h'.push (PySem.W.kla_obj "<lambda>" (X.env.qual++"<lambda>") params body scope [] ((X.mg "__name__").getD .none) c' ctv),toks:=tk }:=I1.kept (t':=tk) fun b o e=>Heap.get?_push_of_some _ (hk b o e)
  exact rest c' ctv h' tk H1 I2 hc' (I1.hok.fresh hsz) (I1.aw hsz) ⟨_,hP⟩ (fun b o _ e=>e) (.inr ⟨c',hP,hc'⟩) fun r z=>z
end
end L2
namespace My
open PySem L2
noncomputable def sumF(N:List Nat):List Nat:=N.foldl (fun S x=>S++S.map fun z=>z^^^x) [0]
theorem qCw(N:List Nat)(x:Nat):sumF (N++[x])=sumF N++(sumF N).map fun z=>z^^^x:=by unfold sumF;rw[hC7];rfl
theorem qOu{l:List Nat}{x z:Nat}:Spn (l++[x]) z↔Spn l z\/Spn l (z^^^x):=by
 constructor
 ·intro h
  induction h with
  |zero=>exact .inl .zero
  |add hm _ ih =>
   rename_i m y _;rcases hAh.mp hm with w|w
   ·rcases ih with i|i
    ·exact .inl (.add w i)
    ·refine .inr ?_;have:=Spn.add w i;rw[<-hCn]at this;exact this
   ·rw[hA5]at w;subst w;rcases ih with i|i
    ·refine .inr ?_;rw[Nat.xor_comm m y,qBb];exact i
    ·refine .inl ?_;rw[Nat.xor_comm m y];exact i
 ·have up:∀ {y},Spn l y->Spn (l++[x]) y:=fun hy=>hy.mono fun u hu=>.mem (hAi _ hu)
  rintro(h|h)
  ·exact up h
  ·have:=(up h).xor (Spn.mem (by simp:x∈l++[x]));rw[qBb]at this;exact this
theorem qBc(N:List Nat):∀z,z∈sumF N↔Spn N z:=by
 refine qEf (P:=fun N=>∀z,z∈sumF N↔Spn N z) (fun z=>?_) (fun l x ih z=>?_) N
 ·constructor
  ·intro h;have:z=0:=by simpa [sumF] using h
   rw[this];exact .zero
  ·intro h;have:z=0:=by
    cases h with
    |zero=>rfl
    |add hm _=>cases hm
   rw[this];simp[sumF]
 ·rw[qCw,hAh,qOu,ih,hA3];refine or_congr Iff.rfl ⟨fun ⟨y,hy,e⟩=>?_,fun h=>⟨z^^^x,(ih _).mpr h,qBb z x⟩⟩;rw[<-e,qBb];exact(ih y).mp hy
theorem qCn(N:List Nat):(sumF N).length=2^N.length:=by
 refine qEf (P:=fun N=>(sumF N).length=2^N.length) rfl (fun l x ih=>?_) N;rw[qCw,hAj,hA1,ih,hAj];show _=2^(l.length+1);rw[Nat.pow_succ];omega
theorem qYp(m:Nat)(N:List Nat):(sumF N).map (rv m)=sumF (N.map (rv m)):=by
 refine qEf (P:=fun N=>(sumF N).map (rv m)=sumF (N.map (rv m))) ?_ (fun l x ih=>?_) N
 ·show [rv m 0]=[0];rw[qD2]
 ·rw[qCw,hA4,hA4,hB8,List.map_nil,qCw,<-ih];congr 1;rw[hAr,hAr];refine hBq fun z _=>?_
  exact qMa m z x
abbrev RwO(F:List (List Str)):Prop:=F.Pairwise fun a b=>kLt b a=false
theorem qL9:∀ {F D:List (List Str)},RwO F->RwO D->F.Perm D->F=D
 |[],D,_,_,p=>(List.Perm.nil_eq p)
 |a :: F,[],_,_,p=>absurd p.symm.nil_eq (by simp)
 |a :: F,b :: D,hF,hD,p=>by
  have e:a=b:=by
   have ha:a∈b :: D:=p.mem_iff.mp hA9;have hb:b∈a :: F:=p.mem_iff.mpr hA9;rcases hAg.mp ha with h|h
   ·exact h
   ·rcases hAg.mp hb with h'|h'
    ·exact h'.symm
    ·have h1:=(hBl.mp hD).1 a h;have h2:=(hBl.mp hF).1 b h';rcases kLt_tri a b with q|q|q
     ·rw[h1]at q;cases q
     ·exact q
     ·rw[h2]at q;cases q
  subst e;rw[qL9 (hBl.mp hF).2 (hBl.mp hD).2 p.cons_inv]
structure Kp(H H':Hp):Prop where
 k:∀b o,(∀ps,o≠.tbl ps)->H b=some o->H' b=some o
 n:∀b,H' b=none->H b=none
theorem Kp.trans{H H1 H2:Hp}(a:Kp H H1)(b:Kp H1 H2):Kp H H2:=⟨fun c o n h=>b.k c o n (a.k c o n h),fun c h=>a.n c (b.n c h)⟩
theorem Ext.kp{H H':Hp}(e:Ext H H'):Kp H H':=⟨fun b o _ h=>e b o h,fun b h=>e.none h⟩
theorem zB7{P:Addr}{H H':Hp}{ps ps':Array Value}(e:ExtB P H H')(h:H P=some (.tbl ps))(h':H' P=some (.tbl ps')):Kp H H':=by
 refine⟨fun b o n q=>e b o (fun z=>by rw[z,h]at q;cases q;exact n _ rfl) q,fun b q=>?_⟩;cases r:H b with
 |none=>rfl
 |some o =>
  have:=e b o (fun z=>by rw[z,h']at q;cases q) r;rw[q]at this;cases this
theorem Kp.ls{H H':Hp}(e:Kp H H'){a:Addr}{r:List Str}(h:LsS H a r):LsS H' a r:=e.k _ _ (fun _ z=>by cases z) h
theorem Kp.lst{H H':Hp}(e:Kp H H'){a:Addr}{r:List V}(h:H a=some (.lst r)):H' a=some (.lst r):=e.k _ _ (fun _ z=>by cases z) h
theorem Kp.rows{H H':Hp}(e:Kp H H'){p:Addr}{F:List (List Str)}(h:qDb H p F):qDb H' p F:=by
 obtain⟨as,h1,h2⟩:=h;exact⟨as,e.lst h1,Paired.mapP h2 fun a r z=>e.ls z⟩
theorem Kp.tab{H H':Hp}(e:Kp H H'){T:Addr}{names:List Str}{rows:List (List Str)}(h:qC8 H T names rows):qC8 H' T names rows:=by
 obtain⟨a,b,h1,h2,h3⟩:=h;exact⟨a,b,e.k _ _ (fun _ z=>by cases z) h1,e.ls h2,e.rows h3⟩
theorem qR7:∀(n a b:Nat),a<=n->a&&&b=0->a+b=a ||| b
 |0,a,b,ha,_=>by
  have:a=0:=by omega
  subst this;simp
 |n+1,a,b,ha,h=>by
  by_cases z:a=0
  ·subst z;simp
  have h2:a / 2&&&b / 2=0:=by rw[<-Nat.and_div_two,h]
  have ih:=qR7 n (a / 2) (b / 2) (by omega) h2;have h0:(a&&&b).testBit 0=false:=by rw[h];exact hB6 0
  rw[hBa,hAw,hAw]at h0;have e0:(a ||| b).testBit 0=(decide (a % 2=1) || decide (b % 2=1)):=by rw[hD7,hAw,hAw]
  rw[hAw]at e0;have e1:(a ||| b) / 2=a / 2+b / 2:=by rw[Nat.or_div_two,ih]
  rw[show a+b=a ||| b↔a ||| b=a+b from eq_comm];generalize (a ||| b)=q at e0 e1 ⊢;have ma:a % 2=0\/a % 2=1:=by omega
  have mb:b % 2=0\/b % 2=1:=by omega
  rcases ma with ma|ma <;> rcases mb with mb|mb <;> rw[ma,mb]at h0 e0 <;> simp at h0 e0 <;> omega
theorem qX1{a b:Nat}(h:a&&&b=0)(i:Nat):(a+b).testBit i=(a.testBit i || b.testBit i):=by
 rw[qR7 a a b (hA6 _) h,hD7]
abbrev Dis(hs:List Nat):Prop:=hs.Pairwise fun a b=>a&&&b=0
theorem qKm:∀ {hs:List Nat},Dis hs->∀i,hs.sum.testBit i=true↔∃h∈hs,h.testBit i=true
 |[],_,i=>by
  rw[List.sum_nil,hB6];exact⟨fun h=>(by cases h),fun ⟨_,h,_⟩=>(by cases h)⟩
 |a :: l,d,i=>by
  obtain⟨d1,d2⟩:=hBl.mp d;have ih:=qKm d2;have z:a&&&l.sum=0:=hAo fun j=>by
   rw[hBa,hB6];by_cases w:l.sum.testBit j=true
   ·obtain⟨h,hh,hb⟩:=(ih j).mp w;have:=congrArg (fun x=>Nat.testBit x j) (d1 h hh);simp only[hBa,hB6,hb,Bool.and_true]at this;rw[this];rfl
   ·rw[Bool.not_eq_true]at w;rw[w,Bool.and_false]
  rw[List.sum_cons,qX1 z,hDl,ih i];constructor
  ·rintro(h|⟨u,hu,h⟩)
   ·exact⟨a,hA9,h⟩
   ·exact⟨u,hA8 _ hu,h⟩
  ·rintro⟨u,hu,h⟩;rcases hAg.mp hu with rfl|hu
   ·exact .inl h
   ·exact .inr ⟨u,hu,h⟩
noncomputable def blS(hs:List Nat)(n:Nat):List Nat:=(hs.filter fun h=>decide (h&&&n=0))++[(hs.filter fun h=>!decide (h&&&n=0)).sum]
structure BlI(m:Nat)(hs:List Nat):Prop where
 dis:Dis hs
 lt:∀h∈hs,∀i,h.testBit i=true->i<m
theorem qDm{a b:Nat}(h:∀i,a.testBit i=true->b.testBit i=true->False):a&&&b=0:=hAo fun i=>by
 rw[hBa,hB6];cases ha:a.testBit i with
 |false=>rfl
 |true =>
  cases hb:b.testBit i with
  |false=>rfl
  |true=>exact(h i ha hb).elim
theorem qBl{a b:Nat}(h:a&&&b=0){i:Nat}(ha:a.testBit i=true)(hb:b.testBit i=true):False:=by
 have:=congrArg (fun x=>Nat.testBit x i) h;simp only[hBa,ha,hb,hB6]at this;cases this
theorem qRj:∀ {hs:List Nat},Dis hs->∀ {a c:Nat},a∈hs->c∈hs->a≠c->a&&&c=0
 |h :: hs,d,a,c,ha,hc,ne=>by
  obtain⟨d1,d2⟩:=hBl.mp d;rcases hAg.mp ha with z1|z1
  ·rcases hAg.mp hc with z2|z2
   ·exact(ne (z1.trans z2.symm)).elim
   ·rw[z1];exact d1 c z2
  ·rcases hAg.mp hc with z2|z2
   ·rw[Nat.and_comm,z2];exact d1 a z1
   ·exact qRj d2 z1 z2 ne
theorem BlI.step{m:Nat}{hs:List Nat}(I:BlI m hs)(n:Nat):BlI m (blS hs n):=by
 have df:Dis (hs.filter fun h=>!decide (h&&&n=0)):=I.dis.sublist hB9;have sb:=qKm df;refine⟨hAz.mpr ⟨I.dis.sublist hB9,hC4 _ _,fun a ha b hb=>?_⟩,fun h hh i hi=>?_⟩
 ·rw[hA5]at hb;subst hb;obtain⟨a1,a2⟩:=hAb.mp ha;refine qDm fun i h1 h2=>?_
  obtain⟨c,hc,hi⟩:=(sb i).mp h2;obtain⟨c1,c2⟩:=hAb.mp hc;have ne:a≠c:=fun z=>by
   subst z;rw[a2]at c2;cases c2
  have:=qRj I.dis a1 c1 ne;exact qBl this h1 hi
 ·rcases hAh.mp hh with z|z
  ·exact I.lt h (hAb.mp z).1 i hi
  ·rw[hA5]at z;subst z;obtain⟨c,hc,hci⟩:=(sb i).mp hi;exact I.lt c (hAb.mp hc).1 i hci
theorem BlI.first(m:Nat):BlI m ((List.range m).map fun k=>2^k):=by
 refine⟨?_,fun h hh i hi=>?_⟩
 ·refine hAv.mpr ((hC5 (n:=m)).imp fun {a b} ne=>qDm fun i h1 h2=>?_);rw[hB0,decide_eq_true_iff]at h1 h2;exact ne (h1.trans h2.symm)
 ·obtain⟨k,hk,rfl⟩:=hA3.mp hh;rw[hB0,decide_eq_true_iff]at hi;rw[hAf]at hk;omega
structure Prt(m:Nat)(hs:List Nat):Prop where
 bl:BlI m hs
 cov:∀i,i<m->∃h∈hs,h.testBit i=true
 nz:∀h∈hs,h≠0
def Inn(z k:Nat):Prop:=∀i,z.testBit i=true->k.testBit i=true
theorem qM4{z k:Nat}(h:z&&&k=z):Inn z k:=fun i hi=>by
 rw[<-h,hBa,hB4]at hi;exact hi.2
theorem qFf{z k:Nat}(h:Inn z k):z&&&k=z:=hAo fun i=>by
 rw[hBa];cases q:z.testBit i with
 |false=>rfl
 |true=>rw[h i q];rfl
theorem qIm{z:Nat}(h:z≠0):∃i,z.testBit i=true:=⟨z.log2,hCk h⟩
theorem qF7{a b:Nat}(h:¬a&&&b=0):∃i,a.testBit i=true/\b.testBit i=true:=by
 obtain⟨i,hi⟩:=qIm h;rw[hBa,hB4]at hi;exact⟨i,hi⟩
theorem qTo{a b i:Nat}(ha:a.testBit i=true)(hb:b.testBit i=true):¬a&&&b=0:=fun z=>qBl z ha hb
theorem Prt.len{m:Nat}:∀ {hs:List Nat},Prt m hs->hs.length<=m:=fun {hs} p=>by
 have nd:(hs.map Nat.log2).Nodup:=by
  rw[List.Nodup,hAv];refine hBz (fun {a b} ha hb d e=>?_) p.bl.dis;have h1:=hCk (p.nz a ha);have h2:=hCk (p.nz b hb);rw[e]at h1;exact qBl d h1 h2
 have:=qQo nd (m:=m) fun x hx=>by
  obtain⟨h,hh,rfl⟩:=hA3.mp hx;exact p.bl.lt h hh _ (hCk (p.nz h hh))
 rw[hA1]at this;exact this
theorem Prt.first(m:Nat):Prt m ((List.range m).map fun k=>2^k):=by
 refine⟨BlI.first m,fun i hi=>⟨2^i,hA3.mpr ⟨i,hAf.mpr hi,rfl⟩,by rw[hB0,decide_eq_true rfl]⟩,fun h hh=>?_⟩;obtain⟨k,_,rfl⟩:=hA3.mp hh;exact hCo (hDj (by decide))
theorem mem_blS{hs:List Nat}{t h:Nat}:h∈blS hs t↔(h∈hs/\h&&&t=0)\/h=(hs.filter fun h=>!decide (h&&&t=0)).sum:=by
 unfold blS;rw[hAh,hAb,hA5,decide_eq_true_iff]
theorem qEq{m:Nat}{hs:List Nat}(p:Prt m hs)(t i:Nat):(hs.filter fun h=>!decide (h&&&t=0)).sum.testBit i=true↔∃h∈hs,¬h&&&t=0/\h.testBit i=true:=by
 rw[qKm (p.bl.dis.sublist hB9)];constructor
 ·rintro⟨h,hh,hi⟩;obtain⟨h1,h2⟩:=hAb.mp hh;exact⟨h,h1,by simpa using h2,hi⟩
 ·rintro⟨h,h1,h2,hi⟩;exact⟨h,hAb.mpr ⟨h1,by simpa using h2⟩,hi⟩
theorem Prt.has{m:Nat}{hs:List Nat}(p:Prt m hs){t:Nat}(lt:t<2^m):Inn t (hs.filter fun h=>!decide (h&&&t=0)).sum:=fun i hi=>by
 have il:i<m:=by
  by_cases q:i<m
  ·exact q
  ·rw[qDc lt (by omega)]at hi;cases hi
 obtain⟨h,hh,hb⟩:=p.cov i il;exact(qEq p t i).mpr ⟨h,hh,qTo hb hi,hb⟩
theorem Prt.step{m:Nat}{hs:List Nat}(p:Prt m hs){t:Nat}(lt:t<2^m)(nz:t≠0):Prt m (blS hs t):=by
 refine⟨p.bl.step t,fun i hi=>?_,fun h hh=>?_⟩
 ·obtain⟨h,hh,hb⟩:=p.cov i hi;by_cases e:h&&&t=0
  ·exact⟨h,mem_blS.mpr (.inl ⟨hh,e⟩),hb⟩
  ·exact⟨_,mem_blS.mpr (.inr rfl),(qEq p t i).mpr ⟨h,hh,e,hb⟩⟩
 ·rcases mem_blS.mp hh with ⟨h1,_⟩|rfl
  ·exact p.nz h h1
  ·obtain⟨i,hi⟩:=qIm nz;have:=p.has lt i hi;intro z;rw[z,hB6]at this;cases this
theorem Prt.grow{m:Nat}{hs:List Nat}(p:Prt m hs)(t:Nat){h:Nat}(hh:h∈hs):∃g∈blS hs t,Inn h g:=by
 by_cases e:h&&&t=0
 ·exact⟨h,mem_blS.mpr (.inl ⟨hh,e⟩),fun _ z=>z⟩
 ·exact⟨_,mem_blS.mpr (.inr rfl),fun i hi=>(qEq p t i).mpr ⟨h,hh,e,hi⟩⟩
theorem qDl{a b c:Nat}(h:Inn a b)(h':Inn b c):Inn a c:=fun i hi=>h' i (h i hi)
theorem qP5{m:Nat}:∀ {L hs:List Nat},Prt m hs->(∀t∈L,t<2^m/\t≠0)->Prt m (L.foldl blS hs)/\(∀h∈hs,∃g∈L.foldl blS hs,Inn h g)/\∀t∈L,∃g∈L.foldl blS hs,Inn t g
 |[],hs,p,_=>⟨p,fun h hh=>⟨h,hh,fun _ z=>z⟩,fun t ht=>(by cases ht)⟩
 |t :: L,hs,p,hL=>by
  obtain⟨lt,nz⟩:=hL t hA9;obtain⟨a,b,c⟩:=qP5 (L:=L) (hs:=blS hs t) (p.step lt nz) fun u hu=>hL u (hA8 _ hu)
  refine⟨a,fun h hh=>?_,fun u hu=>?_⟩
  ·obtain⟨g,hg,i1⟩:=p.grow t hh;obtain⟨g2,hg2,i2⟩:=b g hg;exact⟨g2,hg2,qDl i1 i2⟩
  ·rcases hAg.mp hu with rfl|hu
   ·obtain⟨g2,hg2,i2⟩:=b _ (mem_blS.mpr (.inr rfl));exact⟨g2,hg2,qDl (p.has lt) i2⟩
   ·exact c u hu
theorem qU9{m a b:Nat}(h:Inn a b):Inn (rv m a) (rv m b):=fun i hi=>by
 rw[qBe,hB4]at hi ⊢;exact⟨hi.1,h _ hi.2⟩
def Lst(N:List Nat)(t:Nat):Prop:=Spn N t/\t≠0/\∀o,Spn N o->o≠0->Inn o t->o=t
theorem qS5{S:List Nat}(r:RR S){s:Nat}(hs:s∈S):Lst S s:=by
 refine⟨.mem hs,r.nz s hs,fun o ho nz hi=>?_⟩;obtain⟨u,hu,e⟩:=qSq r ho nz;have b:=hi _ (hCk nz);have eu:u=s:=by
  by_cases q:u=s
  ·exact q
  ·have:=r.ne hs hu fun z=>q z.symm
   rw[e,b]at this;cases this
 subst eu;have z:o^^^u=0:=by
  refine qSo r (ho.xor (.mem hs)) fun T hT=>?_
  rw[hAu];by_cases q:T=u
  ·subst q;rw[r.self hT,e,hCk nz];rfl
  ·have h1:=r.ne hs hT fun z=>q z.symm
   rw[h1];cases h2:o.testBit T.log2 with
   |false=>rfl
   |true=>rw[hi _ h2]at h1;cases h1
 have:=congrArg (fun x=>x^^^u) z;simp only[qBb,hDy]at this;exact this
theorem qOo(S:List Nat):RR S->(sumF S).Nodup:=by
 refine qEf (P:=fun S=>RR S->(sumF S).Nodup) (fun _=>by show [0].Nodup;simp) (fun l x ih r=>?_) S;have rl:RR l:=⟨fun s hs=>r.nz s (hAi _ hs),r.ap.sublist (List.sublist_append_left l [x])⟩;have hx:x∈l++[x]:=hAa _ (hA5.mpr rfl);have hap:=hAz.mp r.ap;have bit:∀s∈l,s.testBit x.log2=false:=fun s hs=>(hap.2.2 s hs x (hA5.mpr rfl)).2
 have sb:∀z∈sumF l,z.testBit x.log2=false:=fun z hz=>qHz bit ((qBc l z).mp hz)
 rw[qCw,hE1];refine⟨ih rl,?_,fun a ha b hb e=>?_⟩
 ·refine hAv.mpr ((ih rl).imp fun {a b} ne e=>ne ?_);have:=congrArg (fun z=>z^^^x) e;simp only[qBb]at this;exact this
 ·obtain⟨c,hc,rfl⟩:=hA3.mp hb;have h1:=sb a ha;rw[e,hAu,sb c hc,r.self hx]at h1;cases h1
theorem qQk{f:Nat->Nat}{l:List Nat}(h:(l.map f).Nodup):l.Nodup:=by
 rw[List.Nodup,hAv]at h;exact h.imp fun {a b} ne e=>ne (by rw[e])
theorem TabOk.spnS{names:List Str}{rows:List (List Str)}(h:TabOk names rows){S:List Nat}(pS:S.Perm (red (rows.map (qAu names))))(z:Nat):Spn S z↔z<2^names.length/\Spn (numL names rows) (rv names.length z):=by
 obtain⟨g,e⟩:=h.num;rw[<-qOv fun x hx=>(g x hx).1,e];exact⟨fun a=>a.mono fun u hu=>.mem (pS.mem_iff.mp hu),fun a=>a.mono fun u hu=>.mem (pS.mem_iff.mpr hu)⟩
noncomputable def qUy(told:List Nat)(m:Nat):Bool:=!decide (m=0) && !(told.any fun o=>decide (o&&&m=o))
noncomputable def rmS(told:List Nat)(m:Nat):List Nat:=if qUy told m=true then told++[m] else told
noncomputable def rmF(L:List Nat):List Nat:=L.foldl rmS []
theorem qEj(L:List Nat)(m:Nat):rmF (L++[m])=rmS (rmF L) m:=by unfold rmF;rw[hC7];rfl
theorem qWm(L:List Nat):∀z∈rmF L,z∈L/\z≠0:=by
 refine qEf (P:=fun L=>∀z∈rmF L,z∈L/\z≠0) (fun z hz=>by cases hz) (fun l m ih z hz=>?_) L;rw[qEj]at hz;unfold rmS at hz;split at hz
 ·rename_i c;rcases hAh.mp hz with h|h
  ·exact⟨hAi _ (ih z h).1,(ih z h).2⟩
  ·rw[hA5.mp h];refine⟨by simp,fun e=>?_⟩;unfold qUy at c;rw[e]at c;simp at c
 ·exact⟨hAi _ (ih z hz).1,(ih z hz).2⟩
theorem qKu(L:List Nat):(rmF L).length<=L.length:=by
 refine qEf (P:=fun L=>(rmF L).length<=L.length) (hA6 _) (fun l m ih=>?_) L;rw[qEj];unfold rmS;split
 ·rw[hAj,hAj];exact Nat.add_le_add_right ih 1
 ·rw[hAj];omega
theorem qM5{a b:Nat}(h:Inn a b):a<=b:=by
 have:=qFf h;rw[<-this];exact Nat.and_le_right
theorem qWl(L:List Nat):(rmF L).Sublist L:=by
 refine qEf (P:=fun L=>(rmF L).Sublist L) (List.Sublist.refl _) (fun l m ih=>?_) L;rw[qEj];unfold rmS;split
 ·exact ih.append (List.Sublist.refl _)
 ·exact ih.trans (List.sublist_append_left _ _)
theorem qIj(P:List Nat):∀(n y:Nat),y<n->y∈P->y≠0->∃z∈P,z≠0/\Inn z y/\∀w∈P,w≠0->Inn w z->w=z
 |0,y,h,_,_=>absurd h (hCx _)
 |n+1,y,h,hy,nz=>by
  by_cases c:∀w∈P,w≠0->Inn w y->w=y
  ·exact⟨y,hy,nz,fun _ z=>z,c⟩
  ·obtain⟨w,hw⟩:=Classical.not_forall.mp c;have hw:w∈P/\w≠0/\Inn w y/\w≠y:=by
    by_cases a:w∈P
    ·by_cases b:w≠0
     ·by_cases d:Inn w y
      ·exact⟨a,b,d,fun e=>hw fun _ _ _=>e⟩
      ·exact absurd (fun _ _ q=>absurd q d) hw
     ·exact absurd (fun _ q _=>absurd q b) hw
    ·exact absurd (fun q _ _=>absurd q a) hw
   have lt:w<y:=Nat.lt_of_le_of_ne (qM5 hw.2.2.1) hw.2.2.2;obtain⟨z,z1,z2,z3,z4⟩:=qIj P n w (by omega) hw.1 hw.2.1;exact⟨z,z1,z2,qDl z3 hw.2.2.1,z4⟩
theorem qXi(L:List Nat):L.Pairwise (· < ·)->∀z,z∈rmF L↔z∈L/\z≠0/\∀y∈L,y≠0->Inn y z->y=z:=by
 refine qEf (P:=fun L=>L.Pairwise (· < ·)->∀z,z∈rmF L↔z∈L/\z≠0/\∀y∈L,y≠0->Inn y z->y=z) (fun _ z=>⟨fun h=>(by cases h),fun h=>(by cases h.1)⟩) (fun l m ih hp z=>?_) L;obtain⟨p1,_,p3⟩:=hAz.mp hp;have below:∀y∈l,y<m:=fun y hy=>p3 y hy m (hA5.mpr rfl)
 have ih:=ih p1;have any:(rmF l).any (fun o=>decide (o&&&m=o))=true↔∃o∈rmF l,Inn o m:=by
  rw[List.any_eq_true];exact⟨fun ⟨o,h1,h2⟩=>⟨o,h1,qM4 (of_decide_eq_true h2)⟩,fun ⟨o,h1,h2⟩=>⟨o,h1,decide_eq_true (qFf h2)⟩⟩
 have ok:qUy (rmF l) m=true↔m≠0/\¬∃o∈rmF l,Inn o m:=by
  unfold qUy;rw[hB4,<-any];simp
 have hS:z∈rmS (rmF l) m↔z∈rmF l\/(z=m/\qUy (rmF l) m=true):=by
  unfold rmS;split
  ·rename_i c;rw[hAh,hA5];exact⟨fun h=>h.imp id fun e=>⟨e,c⟩,fun h=>h.imp id fun e=>e.1⟩
  ·rename_i c;exact⟨fun h=>.inl h,fun h=>h.elim id fun e=>absurd e.2 c⟩
 rw[qEj,hS,ok];constructor
 ·rintro(h|⟨rfl,h1,h2⟩)
  ·obtain⟨a,b,c⟩:=(ih z).mp h;refine⟨hAi _ a,b,fun y hy nz hi=>?_⟩;rcases hAh.mp hy with q|q
   ·exact c y q nz hi
   ·rw[hA5.mp q]at hi;have:=qM5 hi;have:=below z a;omega
  ·refine⟨by simp,h1,fun y hy nz hi=>?_⟩;rcases hAh.mp hy with q|q
   ·obtain⟨w,w1,w2,w3,w4⟩:=qIj l (y+1) y (by omega) q nz;exact absurd ⟨w,(ih w).mpr ⟨w1,w2,w4⟩,qDl w3 hi⟩ h2
   ·exact hA5.mp q
 ·rintro⟨a,b,c⟩;rcases hAh.mp a with q|q
  ·exact .inl ((ih z).mpr ⟨q,b,fun y hy=>c y (hAi _ hy)⟩)
  ·have e:=hA5.mp q;subst e;refine .inr ⟨rfl,b,?_⟩;rintro⟨o,h1,h2⟩;obtain⟨o1,o2,_⟩:=(ih o).mp h1;have:=c o (hAi _ o1) o2 h2;have:=below o o1;omega
def qUn:Sp:=fun vs H Q _=>∃(p:Addr) (N:List Nat),vs=[.ref p]/\LsN H p N/\N.length<=12/\∀r H',Ext H H'->H r=none->LsN H' r (sumF N)->Q (.ref r) H'
noncomputable def lpI:Pos:=match (qBa qFn).getD 0 (.Pass ⟨0,0,0,0⟩) with
 |.Return (some (.Call _ _ [⟨_,.Lambda _ _ _ p,_⟩] _)) _=>p
 |_=>⟨0,0,0,0⟩
noncomputable abbrev qI:Str:=("in_order" : Str)++".<locals>."++"<lambda>"
theorem Ext.toB{P:Addr}{H H':Hp}(e:Ext H H'):ExtB P H H':=fun b o _ h=>e b o h
theorem _root_.L2.ExtB.trans{P:Addr}{H H1 H2:Hp}(a:ExtB P H H1)(b:ExtB P H1 H2):ExtB P H H2:=fun c o n h=>b c o n (a c o n h)
theorem TabW.extE{H H':Hp}{P:Addr}{lpos:Pos}{q:Str}(h:TabW H P lpos q)(e:Ext H H'):TabW H' P lpos q:=h.ext e
theorem TabW.tb{H:Hp}{P:Addr}{lpos:Pos}{q:Str}(h:TabW H P lpos q):∃ps,H P=some (.tbl ps):=by
 rcases h with h|⟨c,h,_⟩
 ·exact⟨_,h⟩
 ·exact⟨_,h⟩
def qO4(Pt:Addr):Sp:=fun vs H Q _=>∃(p:Addr) (as:List Addr) (F:List (List Str)),vs=[.ref p]/\H p=some (.lst (as.map V.ref))/\Paired (LsS H) as F/\F.length<=5000/\TabW H Pt lpI qI/\∀(r:Addr) (as':List Addr) (F':List (List Str)) (H':Hp),ExtB Pt H H'->H r=none->H' r=some (.lst (as'.map V.ref))->Paired (LsS H') as' F'->as'.Perm as->F'.Perm F->RwO F'->TabW H' Pt lpI qI->Q (.ref r) H'
def qNx(K:PySem.W.Frag):List V->Hp->VK->Prop:=fun xs H Q=>∃p ys,xs=[.ref p]/\(SqL K H p ys\/SqT K H p ys)/\Q (.int ys.length) H
theorem qZ5(K:PySem.W.Frag)(a:Addr)(t:List Str)(H:Hp)(Q:VK)(hs:SqL K H a (t.map V.str))(q:∀k,H k=none->Q (.ref k) (upd H k (.tup [.int t.length,.ref a]))):(qYi (qCh (tCB (qNx K) (qCh (qR9 0) qSl)) (qCh (qR9 0) qSl))) [some (.ref a)] H Q:=by
 refine⟨_,rfl,a,_,rfl,.inl hs,_,rfl,(by show 2<=sizeLine;decide),fun k hk=>?_⟩;rw[hA1];exact q k hk
theorem qFa{α β:Type}{R:α->β->Prop}:∀ {l:List (α×β)},(∀x∈l,R x.1 x.2)->Paired R (l.map Prod.fst) (l.map Prod.snd)
 |[],_=>.nil
 |x :: l,h=>.cons (h x hA9) (qFa fun y hy=>h y (hA8 _ hy))
theorem qPq{M:List Nat}{m:Nat}(h:RR M)(lt:∀x∈M,x<2^m):M.length<=m:=by
 have:=qQo (qN3 h) (m:=m) fun x hx=>by
  obtain⟨s,hs,rfl⟩:=hA3.mp hx;exact(Nat.log2_lt (h.nz s hs)).mpr (lt s hs)
 rw[hA1]at this;exact this
theorem qTr{names:List Str}(rows:List (List Str)):∀x∈rows.map (qAu names),x<2^names.length:=fun x hx=>by
 obtain⟨r,_,rfl⟩:=hA3.mp hx;exact qEp names r
theorem qKn{names:List Str}{rows:List (List Str)}{M:List Nat}(p:M.Perm (red (rows.map (qAu names)))):RR M/\(∀x∈M,x<2^names.length)/\M.length<=names.length:=by
 have rr:RR M:=(qC9 _).perm p;have lt:∀x∈M,x<2^names.length:=fun x hx=>qGi (qTr rows) x (p.mem_iff.mp hx)
 exact⟨rr,lt,qPq rr lt⟩
theorem qTq{ns:List Int}{ms:List Nat}(p:ns.Perm (ms.map fun n:Nat=>(n:Int))):∃hs:List Nat,ns=hs.map (fun n:Nat=>(n:Int))/\hs.Perm ms:=by
 refine⟨ns.map Int.toNat,?_,?_⟩
 ·rw[hAr];refine(List.map_id' ns).symm.trans (hBq fun x hx=>?_);obtain⟨n,_,rfl⟩:=hA3.mp (p.mem_iff.mp hx);rfl
 ·have:=p.map Int.toNat;rw[hAr]at this;refine this.trans (List.Perm.of_eq ?_);exact(hBq fun x _=>(hB1 x)).trans (List.map_id' ms)
theorem Ext.over'{H H':Hp}{p:Addr}{o:HO}(e:Ext (upd H p o) H')(h:H p=Option.none):Ext H H':=fun b u q=>e b u (by rw[qAg (qAi q h)];exact q)
def qUo:Sp:=fun vs H Q _=>∃(p:Addr) (ms:List Nat),vs=[.ref p]/\LsN H p ms/\ms.length<=12/\∀(r:Addr) (L:List Nat) (H':Hp),Ext H H'->H r=none->L.Perm (sumF ms)->L.Pairwise (·<=·)->LsN H' r (rmF L)->Q (.ref r) H'
def qLz(Pt:Addr):Sp:=fun vs H Q _=>∃(T:Addr) (names:List Str) (rows:List (List Str)),vs=[.ref T]/\qC8 H T names rows/\names.length<=12/\rows.length<=24/\TabW H Pt lpI qI/\∀(r:Addr) (as:List Addr) (F:List (List Str)) (M L:List Nat) (H':Hp),ExtB Pt H H'->H r=none->H' r=some (.lst (as.map V.ref))->Paired (LsS H') as F->as.Nodup->(∀a∈as,H a=none)->M.Perm (red (rows.map (qAu names)))->L.Perm (sumF M)->L.Pairwise (·<=·)->F.Perm ((rmF L).map (rowM names))->RwO F->TabW H' Pt lpI qI->Q (.ref r) H'
def qOx(Pt:Addr):Sp:=fun vs H Q _=>∃(T:Addr) (names:List Str) (rows:List (List Str)),vs=[.ref T]/\qC8 H T names rows/\names.length<=12/\rows.length<=24/\TabW H Pt lpI qI/\∀(r:Addr) (as:List Addr) (F:List (List Str)) (S C M L:List Nat) (H':Hp),ExtB Pt H H'->H r=none->H' r=some (.lst (as.map V.ref))->Paired (LsS H') as F->as.Nodup->(∀a∈as,H a=none)->S.Perm (red (rows.map (qAu names)))->C.Perm (red (crAll S names.length))->M.Perm (red ((C.map (rowM names)).map (qAu names)))->L.Perm (sumF M)->L.Pairwise (·<=·)->F.Perm ((rmF L).map (rowM names))->RwO F->TabW H' Pt lpI qI->Q (.ref r) H'
section
variable{P:Program}{w:World}{K:PySem.W.Frag}{mg:Str->Option Value}{base:Heap}{f f1 f2 f3 f4 f5 c Pt:Addr}{fd fd1 fd2 fd3 fd4 fd5:FuncData}
noncomputable abbrev suN:List Str:=["masks","told","mask"]
theorem qL3:FnScope suN ["masks"] (qAd qSy):=⟨rfl,rfl,rfl,by decide +kernel,rfl,by decide +kernel,by decide +kernel⟩
theorem qW0(F:Fun K "sums" "sums" qSy f fd):FnOk P w K mg base CX0 1 f fd ["masks"] qUn:=by
 refine F.ok qL3 (fun vs H Q E h=>?_) (fun cdv A outer s H vs Q E hr h=>?_)
 ·obtain⟨p,N,rfl,_⟩:=h;rfl
 obtain⟨p,N,rfl,hN,lN,q⟩:=h;refine⟨_,qAc (qAl (i:=1) qL3.nd rfl (Or.inl rfl) (qA6 (qAa qAe qAb))) (qAc (qA8 PassesOwn.never rfl (qAq (pv 0)) (qAh (i:=2) qL3.nd rfl (Or.inr rfl)) (qAf (qAl (i:=1) qL3.nd rfl (Or.inl rfl) (qAk qC0 (pv 1) (qBo (N:=suN) (sc:=qAd qSy) (N':=["one","mask"]) (sub:=[none,some 2]) rfl rfl (CmpOk.of (by decide +kernel)) rfl (qAq (pv 1)) (fun C s H fp=>⟨qAh (i:=0) (by show(["one","mask"]:List Str).Nodup;decide) rfl (Or.inl rfl),qAy,(qAk qDw (pv 0) (pv 1))⟩)))))) (qAf (qAv (pv 1)))),?_⟩;try dsimp only[Cx.wish,qCd]
 refine⟨(by show 1<=sizeLine;decide),fun s0 hs0=>?_⟩;have X3:=Ext.new hs0 (.lst [V.int 0]);refine⟨_,rfl,p,rfl,⟨_,SqL.of (X3 _ _ hN)⟩,?_⟩;refine qBh (xs:=N.map iV) (fun i σ H'=>∃(ps:Addr) (x2:Option V),σ=[some (.ref p),some (.ref ps),x2]/\Ext H H'/\H ps=none/\LsN H' ps (sumF (N.take i))) ⟨s0,none,rfl,X3,hs0,upd_same⟩ (fun i σ H' _ h=>by obtain⟨_,_,_,e,_⟩:=h;exact SqL.of (e _ _ hN)) ?_ ?_
 ·rintro i v σ H' hx ⟨ps,x2,rfl,e,ps0,hps⟩;obtain⟨y,rfl,hy⟩:=qBn hx;have hi:=at_lt hy;have lS:(sumF (N.take i)).length<=2048:=by
   rw[qCn,hAl];exact hB2 (hBt (by decide) (show min i N.length<=11 by omega)) (by decide)
  refine⟨_,rfl,_,rfl,ps,rfl,⟨_,SqL.of hps⟩,?_⟩;refine qAr (xs:=(sumF (N.take i)).map iV) (fun j ys H2=>H2=H'/\ys=(((sumF (N.take i)).take j).map fun z=>z^^^y).map iV) ⟨rfl,rfl⟩ (fun j ys H2 _ h=>by rw[h.1];exact SqL.of hps) ?_ ?_
  ·rintro j v ys H3 hx3 ⟨rfl,rfl⟩;obtain⟨z,rfl,hz⟩:=qBn hx3;have hj:=at_lt hz;refine⟨Sle.set _ (Sle.refl _) (fun u z=>by cases z),iteT (B:=False) ⟨_,rfl,_,rfl,_,_,rfl,rfl,?_⟩⟩;refine⟨by rw[hA1,hA1,hAl];exact qBi (by omega),nxt (at_lt hx3) ⟨rfl,?_⟩⟩;rw[qAm hz,hA4,hA4];show _++[V.int (Builtin.bitXor (z:Int) (y:Int))]=_;rw[qB3];rfl
  ·rintro ys H3 ⟨rfl,rfl⟩ l hl;rw[hA1,hA7 (hA6 _)];have Xl:=Ext.new hl (.lst (((sumF (N.take i)).map fun z=>z^^^y).map iV));refine⟨ps,l,_,_,rfl,rfl,Xl _ _ hps,upd_same,by rw[hA1,hA1,hA1];exact hBi (qBi (by omega)),fun l3 hl3=>?_⟩;have X4:=Ext.new hl3 (.lst ((sumF (N.take i)).map iV++((sumF (N.take i)).map fun z=>z^^^y).map iV));refine⟨l3,_,rfl,(e.trans Xl).trans X4,(e.trans Xl).none hl3,?_⟩;unfold LsN;rw[upd_same,qAm hy,qCw,hA4]
 rintro σ H3 ⟨ps,x2,rfl,e3,ps0,hps⟩;rw[hA1,hA7 (hA6 _)]at hps;exact⟨_,rfl,q ps H3 e3 ps0 hps⟩
theorem qWd:FnScope ["rows"] ["rows"] (qAd qFn):=⟨rfl,rfl,rfl,by decide +kernel,rfl,by decide +kernel,by decide +kernel⟩
theorem qTm(F:Fun K "in_order" "in_order" qFn f fd)(hcode:fd.code = .ref c)(hC:PySem.W.CodeHd base c Pt)(hB:base.BuiltinsAt mg Pt)(ml:mg "len" = none)(mso:mg "sorted" = none):FnOk P w K mg base CX0 3 f fd ["rows"] (qO4 Pt):=by
 refine F.okC qWd (fun vs H Q E h=>?_) (fun A outer s H vs Q E hr2 h=>?_)
 ·obtain⟨p,as,F,rfl,_⟩:=h;rfl
 obtain⟨p,as,F,rfl,hp,pr,lF,tw,q⟩:=h;have L:LamAt ((qCd CX0 P w K mg base ["rows"] "in_order" (qAd qFn) f fd.code A outer s H E).nox) c Pt:=⟨hcode,hC,hB⟩;refine⟨_,qAf (qAv (qKz (k:=0) (x:="row") (te:=(qYi (qCh (tCB (qNx K) (qCh (qR9 0) qSl)) (qCh (qR9 0) qSl)))) L hr2 rfl mso (qAa (pv 0) qAb) ⟨rfl,rfl,rfl,by decide +kernel,rfl,by decide +kernel,by decide +kernel⟩ rfl rfl (fun _ _ _ _ _ _=>rfl) (fun _ _ _ _ _ _=>(show PE _ _ (qYi (qCh (tCB (qNx K) (qCh (qR9 0) qSl)) (qCh (qR9 0) qSl))) from (qBk (qAa (qAn (show qB7 _ (.builtin "len") (qNx K) from qAo) rfl ml hBf (qAa (pv 0) qAb)) (qAa (pv 0) qAb))))) (qZ5 K))),?_⟩;try dsimp only[Cx.wish,qCd]
 have la:as.length=F.length:=pr.length;have e1:(as.zip F).map (fun p=>V.ref p.1)=as.map V.ref:=by
  have:(as.zip F).map Prod.fst=as:=List.map_fst_zip (by omega);rw[show(fun p:Addr×List Str=>V.ref p.1)=V.ref∘Prod.fst from rfl,<-hAr,this]
 obtain⟨tb,hP⟩:=My.TabW.tb tw;refine⟨_,rfl,p,as.zip F,rfl,SqL.of (by rw[e1];exact hp),fun x hx=>SqL.of (qCz pr x hx),by rw[List.length_zip];omega,tw,fun r ps' H2 r0 eB hr' pm so tw2=>?_⟩;have mem:∀x∈ps',LsS H2 x.1 x.2:=fun x hx=>by
  have h1:LsS H x.1 x.2:=qCz pr x (pm.mem_iff.mp hx);exact eB _ _ (fun z=>by rw[z]at h1;unfold LsS at h1;rw[hP]at h1;cases h1) h1
 refine q r (ps'.map Prod.fst) (ps'.map Prod.snd) H2 eB r0 (by rw[hAr];exact hr') (qFa mem) ?_ ?_ (hAv.mpr so) tw2
 ·have:=pm.map Prod.fst;rw[List.map_fst_zip (by omega)]at this;exact this
 ·have:=pm.map Prod.snd;rw[hDb (by omega)]at this;exact this
noncomputable abbrev rmN:List Str:=["steps","told","mask"]
theorem qPe:FnScope rmN ["steps"] (qAd qS0):=⟨rfl,rfl,rfl,by decide +kernel,rfl,by decide +kernel,by decide +kernel⟩
theorem qW1(F:Fun K "round_masks" "round_masks" qS0 f fd)
  (G1:Cl P w K mg base CX0 1 f1 fd1 ["masks"] qUn "sums")
  (mso:mg "sorted" = none) (man:mg "any" = none):FnOk P w K mg base CX0 2 f fd ["steps"] qUo:=by
 refine F.ok qPe (fun vs H Q E h=>?_) (fun cdv A outer s H vs Q E hr1 h=>?_)
 ·obtain⟨p,ms,rfl,_⟩:=h;rfl
 obtain⟨p,ms,rfl,hm,lm,q⟩:=h;refine⟨_,qAc (qAl (i:=1) qPe.nd rfl (Or.inl rfl) (qA6 qAb)) (qAc (qA8 PassesOwn.never rfl (qAq (qAn qJ1 rfl mso qB5 (qAa (qAt G1 hr1 rfl .nil qAs (qAa (pv 0) qAb)) qAb))) (qAh (i:=2) qPe.nd rfl (Or.inr rfl)) (qAf (qB2 (PW.pt (qP2 (qAp qId (pv 2) qAe (qAx _)) (qP1 (qI7 (qHe (qAn (qRy rfl) rfl man qR3 (qAa (qBo (N:=rmN) (sc:=qAd qS0) (N':=["one","mask"]) (sub:=[none,some 2]) rfl rfl (CmpOk.of (by decide +kernel)) rfl (qAq (pv 1)) (fun C s H fp=>⟨qAh (i:=0) (by show(["one","mask"]:List Str).Nodup;decide) rfl (Or.inl rfl),qAy,(qE9 qDj (qAk qCl (pv 0) (pv 1)) (pv 0) (qAx _))⟩)) qAb))))))) (qAf (qC3 (qFv hBb hBr hBs qBx (pv 1) (qAa (pv 2) qAb)))) qA4))) (qAf (qAv (pv 1)))),?_⟩;try dsimp only[Cx.wish,qCd]
 refine⟨hAs _,fun tl htl=>?_⟩;have X0:=Ext.new htl (.lst []);refine⟨_,rfl,p,ms,rfl,X0 _ _ hm,lm,fun sp H1 e1 _ hs1=>?_⟩;have lS:(sumF ms).length<=4096:=by
  rw[qCn];exact hB2 (hBt (by decide) lm) (by decide)
 refine⟨sp,(sumF ms).map (fun n:Nat=>(n:Int)),rfl,SqL.of (by rw[<-qCs];exact hs1),by rw[hA1];omega,fun rl ns' hrl pm so=>?_⟩;obtain⟨L,rfl,pL⟩:=qTq pm;have so':L.Pairwise (·<=·):=(hAv.mp so).imp fun {a b} z=>Int.ofNat_le.mp z
 have lL:L.length<=4096:=by rw[pL.length_eq];exact lS
 have X2:=Ext.new hrl (.lst ((L.map fun n:Nat=>(n:Int)).map V.int));have hr2:LsN (upd H1 rl (.lst ((L.map fun n:Nat=>(n:Int)).map V.int))) rl L:=by unfold LsN;rw[upd_same,qCs]
 have ht2:LsN (upd H1 rl (.lst ((L.map fun n:Nat=>(n:Int)).map V.int))) tl []:=X2 _ _ (e1 _ _ upd_same);have E2:=(e1.trans X2).over' htl;revert hr2 ht2 E2;generalize upd H1 rl (.lst ((L.map fun n:Nat=>(n:Int)).map V.int))=H2;intro hr2 ht2 E2;have tr:tl≠rl:=fun z=>by
  have h1:=e1 _ _ (show upd H tl (.lst []) tl=some (.lst []) from upd_same);rw[z,hrl]at h1;cases h1
 refine⟨rl,rfl,⟨_,SqL.of hr2⟩,?_⟩;refine qBh (xs:=L.map iV) (fun i σ H'=>∃x2:Option V,σ=[some (.ref p),some (.ref tl),x2]/\Ext H H'/\LsN H' rl L/\LsN H' tl (rmF (L.take i))) ⟨none,rfl,E2,hr2,ht2⟩ (fun i σ H' _ h=>by obtain⟨_,_,_,h,_⟩:=h;exact SqL.of h) ?_ ?_
 ·rintro i v σ H' hx ⟨x2,rfl,e,hr',ht'⟩;obtain⟨m,rfl,hmi⟩:=qBn hx;have hi:=at_lt hmi;have sz:(rmF (L.take i)).length<=4096:=by
   have:=qKu (L.take i);rw[hAl]at this;omega
  rw[qAm hmi,qEj];have nz:(!decide (V.int (m:Int)=V.int 0))=!decide (m=0):=by
   congr 1;exact decide_eq_decide.mpr ⟨fun h=>by have:=V.int.inj h;omega,fun h=>by rw[h];rfl⟩
  refine⟨_,rfl,rfl,_,rfl,?_⟩;rw[nz];cases m0:decide (m=0) with
  |true =>
   have:rmS (rmF (L.take i)) m=rmF (L.take i):=by
    unfold rmS qUy;rw[m0];rfl
   rw[this];rw[if_neg (by decide)];exact iteF ⟨_,rfl,e,hr',ht'⟩
  |false =>
   rw[if_pos (by decide)];refine⟨_,rfl,tl,rfl,⟨_,SqL.of ht'⟩,?_⟩;refine qAr (xs:=(rmF (L.take i)).map iV) (fun j ys H3=>H3=H'/\ys=(((rmF (L.take i)).take j).map fun o=>decide (o&&&m=o)).map V.bl) ⟨rfl,rfl⟩ (fun j ys H3 _ h=>by rw[h.1];exact SqL.of ht') ?_ ?_
   ·rintro j v ys H3 hx3 ⟨rfl,rfl⟩;obtain⟨o,rfl,ho⟩:=qBn hx3;have hj:=at_lt ho;refine⟨Sle.set _ (Sle.refl _) (fun u z=>by cases z),iteT (B:=False) ⟨_,rfl,_,rfl,_,_,rfl,rfl,_,rfl,rfl,?_⟩⟩;refine⟨by rw[hA1,hA1,hAl];exact qBi (by omega),nxt (at_lt hx3) ⟨rfl,?_⟩⟩;rw[qAm ho,hA4,hA4];show _++[V.bl (decide (V.int (Builtin.bitAnd (o:Int) (m:Int))=V.int (o:Int)))]=_;have eo:decide (V.int ((o&&&m:Nat):Int)=V.int (o:Int))=decide (o&&&m=o):=decide_eq_decide.mpr ⟨fun h=>Int.ofNat.inj (V.int.inj h),fun h=>by rw[h]⟩;rw[qBy,eo];rfl
   ·rintro ys H3 ⟨rfl,rfl⟩ bl hbl;rw[hA1,hA7 (hA6 _)];have Xb:=Ext.new hbl (.lst (((rmF (L.take i)).map fun o=>decide (o&&&m=o)).map V.bl));refine⟨bl,_,rfl,SqL.of upd_same,_,rfl,?_⟩;have ea:((rmF (L.take i)).map fun o=>decide (o&&&m=o)).any id=(rmF (L.take i)).any fun o=>decide (o&&&m=o):=by rw[List.any_map];rfl
    rw[ea];have ok:qUy (rmF (L.take i)) m=!((rmF (L.take i)).any fun o=>decide (o&&&m=o)):=by
     unfold qUy;rw[m0];rfl
    refine qDa (fun c=>?_) (fun c=>?_)
    ·refine⟨_,rfl,.inl ⟨rfl,_,SqL.of (Xb _ _ ht')⟩,_,rfl,tl,_,_,rfl,rfl,Xb _ _ ht',(by rw[hA1];exact qBi (by omega)),?_⟩;refine⟨_,rfl,(e.trans Xb).over htl _,?_,?_⟩
     ·unfold LsN;rw[qAg (Ne.symm tr)];exact Xb _ _ hr'
     ·unfold LsN rmS;rw[upd_same,ok,if_pos c,hA4];rfl
    ·refine⟨_,rfl,e.trans Xb,Xb _ _ hr',?_⟩;unfold rmS;rw[ok,if_neg c];exact Xb _ _ ht'
 rintro σ H3 ⟨x2,rfl,e3,hr3,ht3⟩;rw[hA1,hA7 (hA6 _)]at ht3;exact⟨_,rfl,q tl L H3 e3 htl pL so' ht3⟩
theorem qSw:FnScope ["table"] ["table"] (qAd qH6):=⟨rfl,rfl,rfl,by decide +kernel,rfl,by decide +kernel,by decide +kernel⟩
theorem qQh(F:Fun K "rounds" "rounds" qH6 f fd)
  (G1:Cl P w K mg base CX0 3 f1 fd1 ["rows"] (qO4 Pt) "in_order")
  (G2:Cl P w K mg base CX0 2 f2 fd2 ["steps"] qUo "round_masks")
  (G3:Cl P w K mg base CX0 3 f3 fd3 ["table"] qGd "step_masks")
  (G4:Cl P w K mg base CX0 1 f4 fd4 ["names","mask"] qGe "row_of"):FnOk P w K mg base CX0 4 f fd ["table"] (qLz Pt):=by
 refine F.ok qSw (fun vs H Q E h=>?_) (fun cdv A outer s H vs Q E hr3 h=>?_)
 ·obtain⟨T,names,rows,rfl,_⟩:=h;rfl
 obtain⟨T,names,rows,rfl,ti,ln,lr,tw,q⟩:=h;have hr1:=hr3.mono (j:=1) (by decide);have hr2:=hr3.mono (j:=2) (by decide);refine⟨_,qAf (qAv (qAt G1 hr3 rfl .nil qAs (qAa (qBo (N:=["table"]) (sc:=qAd qH6) (N':=["mask","table"]) (sub:=[none,some 0]) rfl rfl (CmpOk.of (by decide +kernel)) rfl (qAq (qAt G2 hr2 rfl .nil qAs (qAa (qAt G3 hr3 rfl .nil qAs (qAa (pv 0) qAb)) qAb))) (fun C s H fp=>⟨qAh (i:=0) (by show(["mask","table"]:List Str).Nodup;decide) rfl (Or.inl rfl),qAy,(qAt G4 hr1 rfl .nil qAs (qAa (qCm (show IxR _ (zBt K) from qEv) (pv 1) qAe (fun _ _=>rfl)) (qAa (pv 0) qAb)))⟩)) qAb))),?_⟩;try dsimp only[Cx.wish,qCd]
 obtain⟨na,nb,hT,hna,_⟩:=id ti;refine⟨_,rfl,T,names,rows,rfl,ti,lr,fun sm M H1 e1 _ hM pM dM=>?_⟩;obtain⟨_,_,lM⟩:=qKn pM;refine⟨sm,M,rfl,hM,by omega,fun rm L H2 e2 _ pL soL hL=>?_⟩;have E2:=e1.trans e2;have lL:(rmF L).length<=4096:=by
  refine hB2 (qKu L) ?_;rw[pL.length_eq,qCn];exact hB2 (hBt (by decide) (show M.length<=12 by omega)) (by decide)
 refine⟨rm,rfl,⟨_,SqL.of hL⟩,?_⟩;refine qAr (xs:=(rmF L).map iV) (fun j ys H3=>Ext H2 H3/\∃as,ys=as.map V.ref/\Paired (LsS H3) as (((rmF L).take j).map (rowM names))/\as.Nodup/\∀a∈as,H a=none) ⟨Ext.refl _,[],rfl,.nil,hE7,fun a ha=>(by cases ha)⟩ (fun j ys H3 _ h=>SqL.of (h.1 _ _ hL)) ?_ ?_
 ·rintro j v ys H3 hx ⟨e3,as,rfl,pr,nd,new⟩;obtain⟨x,rfl,hx'⟩:=qBn hx;have hj:=at_lt hx';have la:as.length=_:=pr.length;rw[hA1,hAl]at la;have E3:=E2.trans e3;refine⟨Sle.set _ (Sle.refl _) (fun u z=>by cases z),iteT (B:=False) ⟨_,rfl,T,_,_,_,rfl,rfl,SqT.of (E3 _ _ hT),(by exact atI_nat (j:=0) rfl),_,rfl,na,names,x,rfl,E3 _ _ hna,ln,fun r4 H4 e4 r40 h4=>⟨?_,nxt (at_lt hx) ⟨e3.trans e4,as++[r4],by rw[hA4];rfl,?_,?_,?_⟩⟩⟩⟩
  ·rw[hA1];exact qBi (by omega)
  ·rw[qAm hx',hA4];exact Paired.snoc (Paired.mapP pr fun a t z=>e4 _ _ z) h4
  ·refine hE1.mpr ⟨nd,hBp.mpr ⟨by simp,hE7⟩,fun a ha b hb z=>?_⟩;rw[hA5.mp hb]at z;obtain⟨t,_,ht⟩:=qCk pr a ha;rw[z]at ht;unfold LsS at ht;rw[r40]at ht;cases ht
  ·intro a ha;rcases hAh.mp ha with z|z
   ·exact new a z
   ·rw[hA5.mp z];exact E3.none r40
 ·rintro ys H3 ⟨e3,as,rfl,pr,nd,new⟩ b hb;rw[hA1,hA7 (hA6 _)]at pr;have Xb:=Ext.new hb (.lst (as.map V.ref));have E4:=(E2.trans e3).trans Xb;refine⟨b,as,(rmF L).map (rowM names),rfl,upd_same,Paired.mapP pr fun a t z=>Xb _ _ z,by rw[hA1];omega,My.TabW.extE tw E4,fun r as' F H5 eB r0 hr' prF pA pF soF tw5=>?_⟩;exact q r as' F M L H5 (ExtB.trans E4.toB eB) (E4.none r0) hr' prF (pA.nodup_iff.mpr nd) (fun a ha=>new a (pA.mem_iff.mp ha)) pM pL soL pF soF tw5
theorem qWb:FnScope ["table"] ["table"] (qAd qPk):=⟨rfl,rfl,rfl,by decide +kernel,rfl,by decide +kernel,by decide +kernel⟩
theorem qTh(F:Fun K "walls" "walls" qPk f fd)
  (G1:Cl P w K mg base CX0 4 f1 fd1 ["table"] (qLz Pt) "rounds")
  (G2:Cl P w K mg base CX0 4 f2 fd2 ["table"] qO5 "crossed"):FnOk P w K mg base CX0 5 f fd ["table"] (qOx Pt):=by
 refine F.ok qWb (fun vs H Q E h=>?_) (fun cdv A outer s H vs Q E hr4 h=>?_)
 ·obtain⟨T,names,rows,rfl,_⟩:=h;rfl
 obtain⟨T,names,rows,rfl,ti,ln,lr,tw,q⟩:=h;refine⟨_,qAf (qAv (qAt G1 hr4 rfl .nil qAs (qAa (qAt G2 hr4 rfl .nil qAs (qAa (pv 0) qAb)) qAb))),?_⟩;try dsimp only[Cx.wish,qCd]
 refine⟨_,rfl,T,names,rows,rfl,ti,ln,lr,fun T2 S C H1 e1 t0 tf pS pC dC=>?_⟩;obtain⟨rrS,ltS,_⟩:=qKn pS;have lc:∀x∈crAll S names.length,x<2^names.length:=fun x hx=>((qJw rrS ltS x).mp (.mem hx)).1
 have lC:C.length<=names.length:=qPq ((qC9 _).perm pC) fun x hx=>qGi lc x (pC.mem_iff.mp hx)
 refine⟨T2,names,C.map (rowM names),rfl,tf.tin,ln,by rw[hA1];omega,My.TabW.extE tw e1,fun r as F M L H2 eB r0 hr' prF nd new pM pL so pF soF tw2=>?_⟩;exact q r as F S C M L H2 (ExtB.trans e1.toB eB) (e1.none r0) hr' prF nd (fun a ha=>e1.none (new a ha)) pS pC pM pL so pF soF tw2
end
theorem zCx(z n:Nat):(V.int (Builtin.bitAnd (z:Int) (n:Int))=V.int 0)↔z&&&n=0:=by
 rw[qBy];exact⟨fun h=>by have:=V.int.inj h;omega,fun h=>by rw[h];rfl⟩
theorem qVq{z n:Nat}{c:Bool}(h:(!decide (V.int (Builtin.bitAnd (z:Int) (n:Int))=V.int 0))=c):(!decide (z&&&n=0))=c:=by
 rw[<-h,decide_eq_decide.mpr (zCx z n)]
theorem qVr{z n:Nat}{c:Bool}(h:decide (V.int (Builtin.bitAnd (z:Int) (n:Int))=V.int 0)=c):decide (z&&&n=0)=c:=by
 rw[<-h,decide_eq_decide.mpr (zCx z n)]
def qY2:Sp:=fun vs H Q _=>∃(T:Addr) (names:List Str) (rows:List (List Str)),vs=[.ref T]/\qC8 H T names rows/\TabOk names rows/\∀(r:Addr) (rs:List (List Str)) (S:List Nat) (H':Hp),Ext H H'->H r=none->zCi H H' r rs->S.Perm (red (rows.map (qAu names)))->Srt rs->rs.Perm ((S.foldl blS ((List.range names.length).map fun k=>2^k)).map (rowM names))->Q (.ref r) H'
section
variable{P:Program}{w:World}{K:PySem.W.Frag}{mg:Str->Option Value}{base:Heap}{f f1 f2 f3:Addr}{fd fd1 fd2 fd3:FuncData}
noncomputable abbrev boN:List Str:=["table","names","told","step","met"]
theorem qNr:FnScope boN ["table"] (qAd qD1):=⟨rfl,rfl,rfl,by decide +kernel,rfl,by decide +kernel,by decide +kernel⟩
theorem qZ2(F:Fun K "blocks" "blocks" qD1 f fd)
  (G1:Cl P w K mg base CX0 3 f1 fd1 ["table"] qGd "step_masks")
  (G2:Cl P w K mg base CX0 1 f2 fd2 ["names","mask"] qGe "row_of")
  (mr:mg "range" = none) (ml:mg "len" = none) (msu:mg "sum" = none) (mso:mg "sorted" = none):FnOk P w K mg base CX0 4 f fd ["table"] qY2:=by
 refine F.ok qNr (fun vs H Q E h=>?_) (fun cdv A outer s H vs Q E hr h=>?_)
 ·obtain⟨T,names,rows,rfl,_⟩:=h;rfl
 obtain⟨T,names,rows,rfl,ti,tok,q⟩:=h;have hr1:=hr.mono (j:=1) (by decide);have ln:=tok.ln;refine⟨_,(qAc (qAl (i:=1) qNr.nd rfl (Or.inr rfl) (qCm qEv (pv 0) qAe (fun _ _=>rfl))) (qAc (qG7 (i:=2) (N:=boN) (sc:=qAd qD1) (N':=["place"]) (sub:=[none]) rfl rfl (CmpOk.of (by decide +kernel)) rfl (qAw rfl mr (qAa (qAn qAo rfl ml hBf (qAa (pv 1) qAb)) qAb)) (fun C s H fp=>⟨qAh (i:=0) (by show(["place"]:List Str).Nodup;decide) rfl (Or.inl rfl),qAy,(qAk qEn qAe (pv 0))⟩) qNr.nd rfl (Or.inl rfl)) (qAc (qA8 PassesOwn.never rfl (qAq (qAt G1 hr rfl .nil qAs (qAa (pv 0) qAb))) (qAh (i:=3) qNr.nd rfl (Or.inr rfl)) (qAc (qG7 (i:=4) (N:=boN) (sc:=qAd qD1) (N':=["one","step"]) (sub:=[none,some 3]) rfl rfl (CmpOk.of (by decide +kernel)) rfl (qAq (pv 2)) (fun C s H fp=>⟨qAh (i:=0) (by show(["one","step"]:List Str).Nodup;decide) rfl (Or.inl rfl),(qB1 (qAp qId (qAk qCl (pv 0) (pv 1)) qAe (qAx _))),(pv 0)⟩) qNr.nd rfl (Or.inl rfl)) (qAf (qAl (i:=2) qNr.nd rfl (Or.inl rfl) (qAk qC0 (qBo (N:=boN) (sc:=qAd qD1) (N':=["one","step"]) (sub:=[none,some 3]) rfl rfl (CmpOk.of (by decide +kernel)) rfl (qAq (pv 2)) (fun C s H fp=>⟨qAh (i:=0) (by show(["one","step"]:List Str).Nodup;decide) rfl (Or.inl rfl),(qB1 (qAp qDj (qAk qCl (pv 0) (pv 1)) qAe (qAx _))),(pv 0)⟩)) (qA6 (qAa (qAn (qG0 rfl) rfl msu qG2 (qAa (pv 4) qAb)) qAb))))))) (qAf (qAv (qAn (qIs (zBp hr)) rfl mso qB5 (qAa (qBo (N:=boN) (sc:=qAd qD1) (N':=["mask","names"]) (sub:=[none,some 1]) rfl rfl (CmpOk.of (by decide +kernel)) rfl (qAq (pv 2)) (fun C s H fp=>⟨qAh (i:=0) (by show(["mask","names"]:List Str).Nodup;decide) rfl (Or.inl rfl),qAy,(qAt G2 hr1 rfl .nil qAs (qAa (pv 1) (qAa (pv 0) qAb)))⟩)) qAb))))))),?_⟩;try dsimp only[Cx.wish,qCd]
 obtain⟨ta,tb,hT,hta,htb⟩:=id ti;refine⟨_,rfl,T,_,_,_,rfl,rfl,SqT.of hT,(by exact atI_nat (j:=0) rfl),?_⟩;refine⟨_,rfl,ta,_,rfl,.inl (SqL.of hta),_,rfl,by omega,by rw[hA1];omega,?_⟩;rw[hA1];refine qCg (lo:=0) (n:=names.length) (fun i ys H2=>H2=H/\ys=((List.range i).map fun k=>2^k).map iV) ⟨rfl,rfl⟩ ?_ ?_
 ·rintro i ys H2 hi ⟨rfl,rfl⟩;refine⟨Sle.set _ (Sle.refl _) (fun u z=>by cases z),iteT (B:=False) ⟨_,rfl,_,_,rfl,rfl,⟨by omega,by omega,by decide⟩,?_⟩⟩;refine⟨by rw[hA1,hA1,hAp];exact qAj (by omega),nxt hi ⟨rfl,?_⟩⟩;rw[hCc,hA4,hA4];show _++[V.int (1*2^(0+(i:Int)).toNat)]=_;rw[show(0+(i:Int))=((i:Nat):Int) by omega,qE4];rfl
 rintro ys H2 ⟨rfl,rfl⟩ h0 hh0;have X0:=Ext.new hh0 (.lst (((List.range names.length).map fun k=>2^k).map iV));have hh:LsN (upd H2 h0 (.lst (((List.range names.length).map fun k=>2^k).map iV))) h0 ((List.range names.length).map fun k=>2^k):=upd_same;refine⟨_,rfl,T,names,rows,rfl,ti.ext X0,by have:=tok.lr;omega,fun ms S H1 e1 ms0 hS pS dS=>?_⟩;have E1:=X0.trans e1;have hh1:=e1 _ _ hh;have hta1:=E1 _ _ hta;have rS:RR S:=(qC9 _).perm pS;have okS:∀z∈S,z<2^names.length/\z≠0:=fun z hz=>⟨((tok.spnS pS z).mp (.mem hz)).1,rS.nz z hz⟩
 refine⟨ms,rfl,⟨_,SqL.of hS⟩,?_⟩;clear hh e1 X0;refine qBh (xs:=S.map iV) (fun i σ H'=>∃(ph:Addr) (x3 x4:Option V),σ=[some (.ref T),some (.ref ta),some (.ref ph),x3,x4]/\Ext H1 H'/\LsN H' ph ((S.take i).foldl blS ((List.range names.length).map fun k=>2^k))/\Prt names.length ((S.take i).foldl blS ((List.range names.length).map fun k=>2^k))) ⟨h0,none,none,rfl,Ext.refl _,hh1,Prt.first _⟩ (fun i σ H' _ h=>by obtain⟨_,_,_,_,e,_⟩:=h;exact SqL.of (e _ _ hS)) ?_ ?_
 ·rintro i v σ H' hx ⟨ph,x3,x4,rfl,e,hph,lh⟩;obtain⟨n,rfl,hn⟩:=qBn hx;have hi:=at_lt hn;have hsn:(S.take (i+1)).foldl blS ((List.range names.length).map fun k=>2^k)=blS ((S.take i).foldl blS ((List.range names.length).map fun k=>2^k)) n:=by
   rw[qAm hn,hC7];rfl
  rw[hsn];have nm:=okS n (hAc hn);have ls:=lh.step nm.1 nm.2;have lh:=lh.len;revert hph lh ls;generalize (S.take i).foldl blS ((List.range names.length).map fun k=>2^k)=hs;intro hph ls lh;refine⟨_,rfl,ph,rfl,⟨_,SqL.of hph⟩,?_⟩;refine qCe (fun h=>!decide (h&&&n=0)) (fun z=>z) hph (by omega) (fun z hz C B cc bb=>⟨Sle.set _ (Sle.refl _) (fun u z=>by cases z),?_⟩) ?_
  ·refine⟨_,rfl,_,rfl,_,_,rfl,rfl,rfl,_,rfl,?_⟩;exact qDa (fun c=>⟨_,rfl,cc (qVq c)⟩) (fun c=>bb (qVq (Bool.not_eq_true _▸c)))
  intro l1 hl1;rw[List.map_id'];have n1:=Ext.new hl1 (.lst ((hs.filter fun h=>!decide (h&&&n=0)).map iV));refine⟨_,rfl,ph,rfl,⟨_,SqL.of (n1 _ _ hph)⟩,?_⟩;refine qCe (fun h=>decide (h&&&n=0)) (fun z=>z) (n1 _ _ hph) (by omega) (fun z hz C B cc bb=>⟨Sle.set _ (Sle.refl _) (fun u z=>by cases z),?_⟩) ?_
  ·refine⟨_,rfl,_,rfl,_,_,rfl,rfl,rfl,_,rfl,?_⟩;exact qDa (fun c=>⟨_,rfl,cc (qVr c)⟩) (fun c=>bb (qVr (Bool.not_eq_true _▸c)))
  intro l2 hl2;rw[List.map_id'];have n2:=Ext.new hl2 (.lst ((hs.filter fun h=>decide (h&&&n=0)).map iV));have sumE:((hs.filter fun h=>!decide (h&&&n=0)).map fun n:Nat=>(n:Int)).sum=(((hs.filter fun h=>!decide (h&&&n=0)).sum:Nat):Int):=qFy _;refine⟨_,rfl,l1,(hs.filter fun h=>!decide (h&&&n=0)).map (fun n:Nat=>(n:Int)),rfl,SqL.of (by rw[n2 _ _ upd_same,qCs]),(by show 1<=sizeLine;decide),fun l3 hl3=>?_⟩;have n3:=Ext.new hl3 (.lst [V.int ((hs.filter fun h=>!decide (h&&&n=0)).map fun n:Nat=>(n:Int)).sum]);refine⟨l2,l3,_,_,rfl,rfl,n3 _ _ upd_same,upd_same,by rw[hA1];have:=hB5 (fun h=>decide (h&&&n=0)) hs;exact hBi (qAj (by show _+1<=_;omega)),fun l4 hl4=>?_⟩;refine⟨l4,_,_,rfl,e.trans (n1.trans (n2.trans (n3.trans (Ext.new hl4 _)))),?_,ls⟩;unfold LsN blS;rw[upd_same,hA4,sumE];rfl
 rintro σ H3 ⟨ph,x3,x4,rfl,e3,hph,lh⟩;rw[hA1,hA7 (hA6 _)]at hph lh;have lth:=lh.len;revert hph lth;generalize hhs:S.foldl blS ((List.range names.length).map fun k=>2^k)=hs;intro hph lth;have E3:=E1.trans e3;have hta3:=e3 _ _ hta1;refine⟨_,rfl,ph,rfl,⟨_,SqL.of hph⟩,?_⟩;refine qAr (xs:=hs.map iV) (fun j ys H4=>Ext H3 H4/\∃as,ys=as.map V.ref/\as.Nodup/\Paired (fun a r=>LsS H4 a r/\H2 a=none) as ((hs.take j).map (rowM names))) ⟨Ext.refl _,[],rfl,hE7,.nil⟩ (fun j ys H4 _ h=>SqL.of (h.1 _ _ hph)) ?_ ?_
 ·rintro j v ys H4 hx ⟨e4,as,rfl,nd,pr⟩;obtain⟨y,rfl,hy⟩:=qBn hx;have hj:=at_lt hy;have la:as.length=_:=pr.length;rw[hA1,hAl]at la;refine⟨Sle.set _ (Sle.refl _) (fun u z=>by cases z),iteT (B:=False) ⟨_,rfl,_,rfl,ta,names,y,rfl,e4 _ _ hta3,ln,fun r H5 e5 r0 hr5=>⟨?_,nxt (at_lt hx) ⟨e4.trans e5,as++[r],by rw[hA4];rfl,?_,?_⟩⟩⟩⟩
  ·rw[hA1];exact qAj (by omega)
  ·rw[hE1];refine⟨nd,by simp,fun a ha b hb z=>?_⟩;rw[hA5]at hb;obtain⟨_,_,h1,_⟩:=qCk pr a ha;unfold LsS at h1;rw[z,hb,r0]at h1;cases h1
  ·rw[qAm hy,hA4];exact Paired.snoc (Paired.mapP pr fun a t z=>⟨e5 _ _ z.1,z.2⟩) ⟨hr5,(E3.trans e4).none r0⟩
 ·rintro ys H4 ⟨e4,as,rfl,nd,pr⟩ l hl';rw[hA1,hA7 (hA6 _)]at pr;have la:as.length=(hs.map (rowM names)).length:=pr.length;have la':as.length=hs.length:=by rw[la,hA1]
  have X1:=Ext.new hl' (.lst (as.map V.ref));refine⟨l,as,hs.map (rowM names),rfl,SqL.of upd_same,Paired.mapP pr fun a t z=>SqL.of (X1 _ _ z.1),by omega,fun r o hr' g sp=>?_⟩;have X2:=X1.trans (Ext.new hr' (.lst ((o.toList.map fun i=>as.getD i 0).map V.ref)));have E4:=E3.trans e4;have gm:∀i∈o.toList,i<as.length:=fun i hi=>qVd g hi
  have nd':=(pick_perm g).nodup_iff.mpr nd;rw[la]at g sp;obtain⟨s1,s2⟩:=qN1 g sp;refine q r _ S _ (E4.trans X2) ((E4.trans X1).none hr') ⟨_,nd',upd_same,Paired.mapP (qGq pr gm) fun a t z=>⟨X2 _ _ z.1,z.2,qAi (X1 _ _ z.1) hr'⟩⟩ pS s1 ?_;rw[hhs];exact s2
end
def qHq(Sp:Nat->Prop)(E:Nat):Prop:=E≠0/\∀z,Inn z E->(∀u,Sp u->Sp (u&&&z))->z=0\/z=E
theorem qVa{a b:Nat}(h:Inn a b)(h':Inn b a):a=b:=hAo fun i=>by
 cases q:a.testBit i with
 |false =>
  cases q2:b.testBit i with
  |false=>rfl
  |true=>rw[h' i q2]at q;cases q
 |true=>exact(h i q).symm
theorem qXo(a b:Nat):Inn (a&&&b) a:=fun i hi=>by rw[hBa,hB4]at hi;exact hi.1
theorem qHq.tr1{Sp Sp':Nat->Prop}{E E':Nat}{φ ψ:Nat->Nat}(i1:∀u,Sp u->Inn u E)(pφ:∀z,Inn z E->Inn (φ z) E'/\ψ (φ z)=z)(pψ:∀z,Inn z E'->Inn (ψ z) E/\φ (ψ z)=z)
  (an:∀u z,Inn u E->Inn z E->φ (u&&&z)=φ u&&&φ z) (s:∀u,Inn u E->(Sp u↔Sp' (φ u))) (z0:φ 0=0) (zE:φ E=E') (h:qHq Sp E):qHq Sp' E':=by
 obtain⟨h1,h2⟩:=h;have EE:Inn E E:=fun _ z=>z
 refine⟨fun z=>h1 ?_,fun z hz hc=>?_⟩
 ·have:=(pφ E EE).2;rw[zE,z,<-z0,(pφ 0 (fun i hi=>by rw[hB6]at hi;cases hi)).2]at this;exact this.symm
 ·obtain⟨p1,p2⟩:=pψ z hz;rcases h2 (ψ z) p1 fun u hu=>by
   have iu:=i1 u hu;have q:Inn (u&&&ψ z) E:=fun i hi=>iu i (qXo _ _ i hi)
   rw[s _ q,an u _ iu p1,p2];exact hc _ ((s u iu).mp hu) with e|e
  ·left;rw[<-p2,e,z0]
  ·right;rw[<-p2,e,zE]
theorem qHq.tr{Sp Sp':Nat->Prop}{E E':Nat}{φ ψ:Nat->Nat}(i1:∀u,Sp u->Inn u E)(i2:∀u,Sp' u->Inn u E')(pφ:∀z,Inn z E->Inn (φ z) E'/\ψ (φ z)=z)(pψ:∀z,Inn z E'->Inn (ψ z) E/\φ (ψ z)=z)
  (an:∀u z,Inn u E->Inn z E->φ (u&&&z)=φ u&&&φ z) (s:∀u,Inn u E->(Sp u↔Sp' (φ u))) (z0:φ 0=0) (zE:φ E=E'):qHq Sp E↔qHq Sp' E':=by
 refine⟨qHq.tr1 i1 pφ pψ an s z0 zE,qHq.tr1 i2 pψ pφ (fun u z hu hz=>?_) (fun u hu=>?_) ?_ ?_⟩
 ·have a:=pψ u hu;have b:=pψ z hz;have q:Inn (ψ u&&&ψ z) E:=fun i hi=>a.1 i (qXo _ _ i hi)
  have:=(pφ _ q).2;rw[an _ _ a.1 b.1,a.2,b.2]at this;exact this
 ·have a:=pψ u hu;rw[s _ a.1,a.2]
 ·have:=(pφ 0 (fun i hi=>by rw[hB6]at hi;cases hi)).2;rw[z0]at this;exact this
 ·have:=(pφ E (fun _ z=>z)).2;rw[zE]at this;exact this
theorem qHq.congr{Sp Sp':Nat->Prop}{E:Nat}(h:∀u,Sp u↔Sp' u):qHq Sp E↔qHq Sp' E:=by
 unfold qHq;simp only[h]
theorem qJt{hs N:List Nat}{E:Nat}(dis:Dis hs)(nz:∀h∈hs,h≠0)(inE:∀h∈hs,Inn h E)(cov:∀i,E.testBit i=true->∃h∈hs,h.testBit i=true)(ls:∀t∈N,Lst N t)(inN:∀t∈N,∃h∈hs,Inn t h)
  (fine:∀z,(∀t∈N,Inn t z\/t&&&z=0)->∀h∈hs,Inn h z\/h&&&z=0):hs.length=1↔qHq (Spn N) E:=by
 constructor
 ·intro hl
  match hs,hl,nz,inE,cov,fine with
  |[h],_,nz,inE,cov,fine =>
   have eh:h=E:=qVa (inE h (.head _)) fun i hi=>by
    obtain⟨g,hg,b⟩:=cov i hi;rw[hA5.mp hg]at b;exact b
   subst eh;refine⟨nz h (.head _),fun z hz hc=>?_⟩;have key:∀t∈N,Inn t z\/t&&&z=0:=fun t ht=>by
    by_cases q:t&&&z=0
    ·exact .inr q
    ·left
     have:=(ls t ht).2.2 _ (hc t (.mem ht)) q (qXo _ _);exact qM4 this
   rcases fine z key h (.head _) with q|q
   ·exact .inr (qVa hz q)
   ·left
    have:=qFf hz;rw[Nat.and_comm]at this;rw[<-this];exact q
 ·rintro⟨h1,h2⟩;have al:∀h∈hs,h=E:=fun h hh=>by
   refine(h2 h (inE h hh) fun u hu=>?_).resolve_left (nz h hh)
   induction hu with
   |zero=>rw[Nat.zero_and];exact .zero
   |add hm _ ih =>
    rename_i x y _;have e:(x^^^y)&&&h=(x&&&h)^^^(y&&&h):=hAo fun i=>by
     simp only[hBa,hAu];cases x.testBit i <;> cases y.testBit i <;> cases h.testBit i <;> rfl
    rw[e];refine Spn.xor ?_ ih;obtain⟨g,hg,i'⟩:=inN x hm;by_cases q:x&&&h=0
    ·rw[q];exact .zero
    ·obtain⟨i,b1,b2⟩:=qF7 q;have:g=h:=by
      by_cases e:g=h
      ·exact e
      ·exact(qBl (qRj dis hg hh e) (i' i b1) b2).elim
     subst this;rw[qFf i'];exact .mem hm
  obtain⟨i,hi⟩:=qIm h1;obtain⟨g,hg,_⟩:=cov i hi
  match hs,al,dis,hg with
  |[],_,_,hg=>cases hg
  |[a],_,_,_=>rfl
  |a :: b :: l,al,dis,_ =>
   have ea:=al a (.head _);have eb:=al b (.tail _ (.head _));have:=(hBl.mp dis).1 b (.head _);rw[ea,eb,Nat.and_self]at this;exact absurd this h1
theorem qR4{m:Nat}{z:Nat}:∀ {L hs:List Nat},Prt m hs->(∀t∈L,t<2^m/\t≠0)->(∀t∈L,Inn t z\/t&&&z=0)->(∀h∈hs,Inn h z\/h&&&z=0)->∀h∈L.foldl blS hs,Inn h z\/h&&&z=0
 |[],hs,p,_,_,b=>b
 |t :: L,hs,p,hL,hg,b=>by
  obtain⟨lt,nz⟩:=hL t hA9;refine qR4 (L:=L) (hs:=blS hs t) (p.step lt nz) (fun u hu=>hL u (hA8 _ hu)) (fun u hu=>hg u (hA8 _ hu)) fun h hh=>?_
  rcases mem_blS.mp hh with ⟨h1,_⟩|rfl
  ·exact b h h1
  ·rcases hg t hA9 with q|q
   ·left
    intro i hi;obtain⟨u,hu,ne,ub⟩:=(qEq p t i).mp hi;obtain⟨j,j1,j2⟩:=qF7 ne;rcases b u hu with w|w
    ·exact w i ub
    ·exact(qBl w j1 (q j j2)).elim
   ·right
    refine qDm fun i hi hz=>?_
    obtain⟨u,hu,ne,ub⟩:=(qEq p t i).mp hi;obtain⟨j,j1,j2⟩:=qF7 ne;rcases b u hu with w|w
    ·exact qBl q j2 (w j j1)
    ·exact qBl w ub hz
theorem qCu(m i:Nat):(2^m - 1).testBit i=decide (i<m):=by rw[Nat.testBit_two_pow_sub_one]
theorem qN9{m:Nat}{S:List Nat}(r:RR S)(lt:∀s∈S,s<2^m):(S.foldl blS ((List.range m).map fun k=>2^k)).length=1↔qHq (Spn S) (2^m - 1):=by
 have hL:∀t∈S,t<2^m/\t≠0:=fun t ht=>⟨lt t ht,r.nz t ht⟩
 obtain⟨p,_,c⟩:=qP5 (Prt.first m) hL;refine qJt p.bl.dis p.nz (fun h hh i hi=>?_) (fun i hi=>?_) (fun t ht=>qS5 r ht) c fun z hz=>?_
 ·rw[qCu,decide_eq_true_iff];exact p.bl.lt h hh i hi
 ·rw[qCu,decide_eq_true_iff]at hi;exact p.cov i hi
 ·refine qR4 (Prt.first m) hL hz fun h hh=>?_
  obtain⟨k,_,rfl⟩:=hA3.mp hh;by_cases q:z.testBit k=true
  ·left
   intro i hi;rw[hB0,decide_eq_true_iff]at hi;subst hi;exact q
  ·right
   refine qDm fun i hi hz=>?_
   rw[hB0,decide_eq_true_iff]at hi;subst hi;exact q hz
noncomputable def hpI(p:Nat×List Nat)(h:Nat):Nat×List Nat:=if h&&&p.1=0 then (p.1,p.2++[h]) else (p.1 ||| h,p.2)
noncomputable def hpS(hs:List Nat)(t:Nat):List Nat:=(hs.foldl hpI (t,[])).2++[(hs.foldl hpI (t,[])).1]
noncomputable def hpF(L:List Nat):List Nat:=L.foldl hpS []
theorem qTz(L:List Nat)(t:Nat):hpF (L++[t])=hpS (hpF L) t:=by unfold hpF;rw[hC7];rfl
theorem zAd(hs:List Nat)(h:Nat)(p:Nat×List Nat):(hs++[h]).foldl hpI p=hpI (hs.foldl hpI p) h:=by rw[hC7];rfl
structure HpI(t:Nat)(pre:List Nat)(mask:Nat)(others:List Nat):Prop where
 sub:others.Sublist pre
 dis:∀o∈others,o&&&mask=0
 all:∀h∈pre,h∈others\/Inn h mask
 tt:Inn t mask
 bits:∀i,mask.testBit i=true->t.testBit i=true\/∃h∈pre,h.testBit i=true
 cl:∀z,(Inn t z\/t&&&z=0)->(∀h∈pre,Inn h z\/h&&&z=0)->Inn mask z\/mask&&&z=0
theorem qZm{a b c:Nat}(h:Inn a c)(h':Inn b c):Inn (a ||| b) c:=fun i hi=>by
 rw[hD7,hDl]at hi;exact hi.elim (h i) (h' i)
theorem qU2{a b c:Nat}(h:a&&&c=0)(h':b&&&c=0):(a ||| b)&&&c=0:=qDm fun i hi hz=>by
 rw[hD7,hDl]at hi;exact hi.elim (fun q=>qBl h q hz) fun q=>qBl h' q hz
theorem zCd(t:Nat):∀(pre:List Nat),Dis pre->HpI t pre (pre.foldl hpI (t,[])).1 (pre.foldl hpI (t,[])).2:=by
 refine qEe (P:=fun pre=>Dis pre->HpI t pre (pre.foldl hpI (t,[])).1 (pre.foldl hpI (t,[])).2) (fun _=>⟨List.Sublist.refl _,fun o ho=>(by cases ho),fun h hh=>(by cases hh),fun _ z=>z,fun i hi=>.inl hi,fun z h _=>h⟩) fun l h ih d=>?_
 have dl:Dis l:=(hAz.mp d).1;have dh:∀a∈l,a&&&h=0:=fun a ha=>(hAz.mp d).2.2 a ha h (hA5.mpr rfl)
 have I:=ih dl;rw[zAd];generalize l.foldl hpI (t,[])=p at I ⊢;unfold hpI;by_cases c:h&&&p.1=0
 ·rw[if_pos c];refine⟨I.sub.append (List.Sublist.refl _),fun o ho=>?_,fun x hx=>?_,I.tt,fun i hi=>?_,fun z hz hp=>I.cl z hz fun x hx=>hp x (hAi _ hx)⟩
  ·rcases hAh.mp ho with ho|ho
   ·exact I.dis o ho
   ·rw[hA5.mp ho];exact c
  ·rcases hAh.mp hx with hx|hx
   ·exact(I.all x hx).imp (hAi _) id
   ·exact .inl (hAa _ hx)
  ·exact(I.bits i hi).imp id fun ⟨x,hx,b⟩=>⟨x,hAi _ hx,b⟩
 ·rw[if_neg c];obtain⟨j,j1,j2⟩:=qF7 c;refine⟨I.sub.trans (List.sublist_append_left _ _),fun o ho=>?_,fun x hx=>?_,fun i hi=>?_,fun i hi=>?_,fun z hz hp=>?_⟩
  ·rw[Nat.and_comm];refine qU2 ?_ ?_
   ·rw[Nat.and_comm];exact I.dis o ho
   ·rw[Nat.and_comm];exact dh o (I.sub.mem ho)
  ·rcases hAh.mp hx with hx|hx
   ·exact(I.all x hx).imp id fun q i hi=>by rw[hD7,q i hi];rfl
   ·right
    rw[hA5.mp hx];intro i hi;rw[hD7,hi,Bool.or_true]
  ·rw[hD7,I.tt i hi];rfl
  ·rw[hD7,hDl]at hi;rcases hi with hi|hi
   ·exact(I.bits i hi).imp id fun ⟨x,hx,b⟩=>⟨x,hAi _ hx,b⟩
   ·exact .inr ⟨h,hAa _ (hA5.mpr rfl),hi⟩
  ·rcases I.cl z hz (fun x hx=>hp x (hAi _ hx)) with q|q <;> rcases hp h (hAa _ (hA5.mpr rfl)) with w|w
   ·exact .inl (qZm q w)
   ·exact(qBl w j1 (q j j2)).elim
   ·exact(qBl q j2 (w j j1)).elim
   ·exact .inr (qU2 q w)
structure HpO(L hs:List Nat):Prop where
 dis:Dis hs
 nz:∀h∈hs,h≠0
 bits:∀h∈hs,∀i,h.testBit i=true->∃t∈L,t.testBit i=true
 inn:∀t∈L,∃h∈hs,Inn t h
 cl:∀z,(∀t∈L,Inn t z\/t&&&z=0)->∀h∈hs,Inn h z\/h&&&z=0
theorem zAc:∀(L:List Nat),(∀t∈L,t≠0)->HpO L (hpF L):=by
 refine qEe (P:=fun L=>(∀t∈L,t≠0)->HpO L (hpF L)) (fun _=>⟨List.Pairwise.nil,fun h hh=>(by cases hh),fun h hh=>(by cases hh),fun t ht=>(by cases ht),fun z _ h hh=>(by cases hh)⟩) fun L t ih nz=>?_
 have I:=ih fun u hu=>nz u (hAi _ hu)
 have J:=zCd t (hpF L) I.dis;rw[qTz];unfold hpS;generalize (hpF L).foldl hpI (t,[])=p at J ⊢;have tl:t∈L++[t]:=hAa _ (hA5.mpr rfl);have mem:∀ {h:Nat},h∈p.2++[p.1]->h∈hpF L\/h=p.1:=fun {h} hh=>(hAh.mp hh).imp (fun q=>J.sub.mem q) hA5.mp
 refine⟨?_,fun h hh=>?_,fun h hh i hi=>?_,fun u hu=>?_,fun z hz h hh=>?_⟩
 ·refine hAz.mpr ⟨I.dis.sublist J.sub,hC4 ..,fun a ha b hb=>?_⟩;rw[hA5.mp hb];exact J.dis a ha
 ·rcases mem hh with q|rfl
  ·exact I.nz h q
  ·intro e;obtain⟨i,hi⟩:=qIm (nz t tl);have:=J.tt i hi;rw[e,hB6]at this;cases this
 ·rcases mem hh with q|rfl
  ·obtain⟨u,hu,b⟩:=I.bits h q i hi;exact⟨u,hAi _ hu,b⟩
  ·rcases J.bits i hi with q|⟨g,hg,b⟩
   ·exact⟨t,tl,q⟩
   ·obtain⟨u,hu,b⟩:=I.bits g hg i b;exact⟨u,hAi _ hu,b⟩
 ·rcases hAh.mp hu with hu|hu
  ·obtain⟨g,hg,q⟩:=I.inn u hu;rcases J.all g hg with w|w
   ·exact⟨g,hAi _ w,q⟩
   ·exact⟨p.1,hAa _ (hA5.mpr rfl),qDl q w⟩
  ·rw[hA5.mp hu];exact⟨p.1,hAa _ (hA5.mpr rfl),J.tt⟩
 ·have cL:=I.cl z fun u hu=>hz u (hAi _ hu)
  rcases mem hh with q|rfl
  ·exact cL h q
  ·exact J.cl z (hz t tl) cL
noncomputable def sgF(E:Nat):List Nat:=((List.range 12).filter fun k=>E.testBit k).map fun k=>2^k
theorem qIh{E t:Nat}:t∈sgF E↔∃k,k<12/\E.testBit k=true/\t=2^k:=by
 unfold sgF;rw[hA3];exact⟨fun ⟨k,h,e⟩=>⟨k,hAf.mp (hAb.mp h).1,(hAb.mp h).2,e.symm⟩,fun ⟨k,h1,h2,e⟩=>⟨k,hAb.mpr ⟨hAf.mpr h1,h2⟩,e.symm⟩⟩
theorem qXm{N:List Nat}{E:Nat}(ls:∀t∈N,Lst N t)(lE:E<2^12)(inE:∀t∈N,Inn t E):(hpF (N++sgF E)).length=1↔qHq (Spn N) E:=by
 have nz:∀t∈N++sgF E,t≠0:=fun t ht=>by
  rcases hAh.mp ht with q|q
  ·exact(ls t q).2.1
  ·obtain⟨k,_,_,rfl⟩:=qIh.mp q;exact hCo (hDj (by decide))
 have I:=zAc _ nz;refine qJt I.dis I.nz (fun h hh i hi=>?_) (fun i hi=>?_) ls (fun t ht=>I.inn t (hAi _ ht)) fun z hz=>I.cl z fun t ht=>?_
 ·obtain⟨t,ht,b⟩:=I.bits h hh i hi;rcases hAh.mp ht with q|q
  ·exact inE t q i b
  ·obtain⟨k,_,e,rfl⟩:=qIh.mp q;rw[hB0,decide_eq_true_iff]at b;subst b;exact e
 ·have il:i<12:=by
   by_cases q:i<12
   ·exact q
   ·rw[qDc lE (by omega)]at hi;cases hi
  obtain⟨g,hg,q⟩:=I.inn (2^i) (hAa _ (qIh.mpr ⟨i,il,hi,rfl⟩));exact⟨g,hg,q i (by rw[hB0,decide_eq_true rfl])⟩
 ·rcases hAh.mp ht with q|q
  ·exact hz t q
  ·obtain⟨k,_,e,rfl⟩:=qIh.mp q;by_cases w:z.testBit k=true
   ·left
    intro i hi;rw[hB0,decide_eq_true_iff]at hi;subst hi;exact w
   ·right
    refine qDm fun i hi hz=>?_
    rw[hB0,decide_eq_true_iff]at hi;subst hi;exact w hz
def QuP(N:List Nat)(m w:Nat):Prop:=qHq (fun u=>Spn N u/\u&&&w=0) ((2^m - 1)^^^w)
theorem qN7{m w:Nat}(lw:w<2^m)(i:Nat):((2^m - 1)^^^w).testBit i=true↔i<m/\w.testBit i=false:=by
 rw[hAu,qCu];by_cases q:i<m
 ·rw[decide_eq_true q];cases w.testBit i <;> simp[q]
 ·rw[decide_eq_false q,qDc lw (by omega)];simp[q]
theorem qDe{names:List Str}(nd:names.Nodup){z i:Nat}{n:Str}(hi:names[i]?=some n):n∈rowL names z↔z.testBit i=true:=by
 rw[qBg];constructor
 ·rintro⟨j,hj,e,b⟩;rw[qGv nd hi e];exact b
 ·intro b;exact⟨i,(hAq.mp hi).1,hi,b⟩
theorem lb{names:List Str}(r:List Str){i:Nat}{n:Str}(hi:names[i]?=some n):(rv names.length (qAu names r)).testBit i=true↔n∈r:=by
 have il:=(hAq.mp hi).1;rw[qBe,qA1,decide_eq_true il,decide_eq_true (show names.length - 1 - i<names.length by omega),show names.length - 1 - (names.length - 1 - i)=i by omega];simp[hi]
theorem qS8{names:List Str}{w:Nat}{n:Str}:n∈restF names (rowL names w++[])↔n∈names/\n∉rowL names w:=by
 unfold restF;rw[hAb,hBd];simp
theorem qNy{names:List Str}{rows:List (List Str)}(tok:TabOk names rows){w:Nat}(lw:w<2^names.length){S M S':List Nat}(pS:S.Perm (red (rows.map (qAu names))))
  (pM:M.Perm (red ((qEu names S (rowL names w)).map (piM names (restF names (rowL names w++[])))))) (pS':S'.Perm (red ((M.map (rowM (restF names (rowL names w++[])))).map (qAu (restF names (rowL names w++[])))))) :
  (S'.foldl blS ((List.range (restF names (rowL names w++[])).length).map fun k=>2^k)).length=1↔QuP (numL names rows) names.length w:=by
 have nd:=qDv tok.rn;obtain⟨rest,hrest⟩:∃rest,rest=restF names (rowL names w++[]):=⟨_,rfl⟩;have rm:∀ {n:Str},n∈rest↔n∈names/\n∉rowL names w:=fun {n}=>by rw[hrest];exact qS8
 have ndr:rest.Nodup:=by rw[hrest];exact nd.sublist hB9
 rw[<-hrest]at pM pS' ⊢;clear hrest;have sub:∀n∈rest,n∈names:=fun n hn=>(rm.mp hn).1
 have ltM:∀z∈M,z<2^rest.length:=fun z hz=>qGi (fun x hx=>by obtain⟨y,_,rfl⟩:=hA3.mp hx;exact qEp _ _) z (pM.mem_iff.mp hz)
 have eM:(M.map (rowM rest)).map (qAu rest)=M:=by
  rw[hAr]
  conv=>rhs;rw[<-hDp M]
  exact hBq fun c hc=>qDk ndr (ltM c hc)
 rw[eM]at pS';have ltS':∀s∈S',s<2^rest.length:=fun s hs=>qGi ltM s (pS'.mem_iff.mp hs)
 rw[qN9 ((qC9 _).perm pS') ltS'];have sp':∀y,Spn S' y↔∃z,Spn S z/\(∀n∈rowL names w,chi names z n=false)/\y=piM names rest z:=fun y=>by
  rw[qCb pS',qCj,qCb pM,qCj,qZh nd sub];constructor
  ·rintro⟨z,hz,e⟩;obtain⟨a,b⟩:=(qJm nd S _ (fun n hn=>by obtain⟨i,hi,e,_⟩:=qBg.mp hn;exact hAc e) z).mp hz;exact⟨z,a,b,e⟩
  ·rintro⟨z,a,b,e⟩;exact⟨z,(qJm nd S _ (fun n hn=>by obtain⟨i,hi,e,_⟩:=qBg.mp hn;exact hAc e) z).mpr ⟨a,b⟩,e⟩
 have gN:=tok.num.1;have ltN:∀u,Spn (numL names rows) u->u<2^names.length:=fun u hu=>Spn.lt (fun y hy=>(gN y hy).1) hu
 have iE:∀u,Spn (numL names rows) u/\u&&&w=0->Inn u ((2^names.length - 1)^^^w):=fun u ⟨h1,h2⟩ i hi=>by
  rw[qN7 lw];refine⟨?_,?_⟩
  ·by_cases q:i<names.length
   ·exact q
   ·rw[qDc (ltN u h1) (by omega)]at hi;cases hi
  ·cases q:w.testBit i with
   |false=>rfl
   |true=>exact(qBl h2 hi q).elim
 have ltE:∀z,Inn z ((2^names.length - 1)^^^w)->z<2^names.length:=fun z hz=>hBh _ fun i hi=>by
  cases q:z.testBit i with
  |false=>rfl
  |true=>have:=((qN7 lw i).mp (hz i q)).1;omega
 have inr:∀ {z:Nat} {n:Str},Inn z ((2^names.length - 1)^^^w)->n∈rowL names z->n∈rest:=fun {z n} hz hn=>by
  obtain⟨i,hi,e,b⟩:=qBg.mp hn;refine rm.mpr ⟨hAc e,fun h=>?_⟩;have:=(qDe nd e).mp h;rw[((qN7 lw i).mp (hz i b)).2]at this;cases this
 have back:∀z,Inn z ((2^names.length - 1)^^^w)->rv names.length (qAu names (rowM rest (qAu rest (rowL names z))))=z:=fun z hz=>hAo fun i=>by
  by_cases il:i<names.length
  ·have e:names[i]?=some names[i]:=hA2 il;rw[hCu,lb _ e,<-qDe nd e];constructor
   ·intro h;have hr:=qMc h;have:=qNe ndr (rowL names z) hr;rw[show chi rest (qAu rest (rowL names z)) names[i]=true from decide_eq_true h]at this;exact of_decide_eq_true this.symm
   ·intro h;have:=qNe ndr (rowL names z) (inr hz h);rw[decide_eq_true h]at this;exact of_decide_eq_true this
  ·rw[qBe,decide_eq_false il,qDc (ltE z hz) (by omega)];rfl
 symm
 refine qHq.tr (φ:=fun z=>qAu rest (rowL names z)) (ψ:=fun z=>rv names.length (qAu names (rowM rest z))) iE (fun u hu=>?_) (fun z hz=>⟨?_,back z hz⟩) (fun z hz=>⟨?_,?_⟩) (fun u z hu hz=>?_) (fun u hu=>?_) ?_ ?_
 ·have:=Spn.lt ltS' hu;intro i hi;rw[qCu,decide_eq_true_iff];by_cases q:i<rest.length
  ·exact q
  ·rw[qDc this (by omega)]at hi;cases hi
 ·intro i hi;rw[qCu,decide_eq_true_iff];by_cases q:i<rest.length
  ·exact q
  ·rw[qDc (qEp _ _) (by omega)]at hi;cases hi
 ·intro i hi;have il:i<names.length:=by
   by_cases q:i<names.length
   ·exact q
   ·rw[qBe,decide_eq_false q]at hi;cases hi
  have e:names[i]?=some names[i]:=hA2 il;have h:=rm.mp (qMc ((lb _ e).mp hi));refine(qN7 lw i).mpr ⟨il,?_⟩;cases q:w.testBit i with
  |false=>rfl
  |true=>exact absurd ((qDe nd e).mpr q) h.2
 ·have zl:z<2^rest.length:=hBh _ fun i hi=>by
   cases q:z.testBit i with
   |false=>rfl
   |true=>have:=hz i q;rw[qCu,decide_eq_true_iff]at this;omega
  refine(qTs (r':=rowM rest z) fun n hn=>?_).trans (qDk ndr zl);obtain⟨i,il,e⟩:=hBy (sub n hn);have e':names[i]?=some n:=by rw[hA2 il,e]
  rw[qDe nd e',lb _ e']
 ·refine hAo fun j=>?_
  rw[hBa,qA1,qA1,qA1];by_cases jl:j<rest.length
  ·have e:rest[rest.length - 1 - j]?=some rest[rest.length - 1 - j]:=hA2 (by omega);obtain⟨i,il,e2⟩:=hBy (sub _ (hAc e));have e':names[i]?=some rest[rest.length - 1 - j]:=by rw[hA2 il,e2]
   have f:∀x,decide (∃n,rest[rest.length - 1 - j]?=some n/\n∈rowL names x)=x.testBit i:=fun x=>by
    rw[hCu,decide_eq_true_iff,<-qDe nd e'];exact⟨fun ⟨n,h1,h2⟩=>by rw[e]at h1;cases h1;exact h2,fun h=>⟨_,e,h⟩⟩
   rw[f,f,f,decide_eq_true jl,hBa];rfl
  ·rw[decide_eq_false jl];rfl
 ·show(Spn (numL names rows) u/\u&&&w=0)↔Spn S' (qAu rest (rowL names u));rw[sp'];constructor
  ·rintro⟨h1,h2⟩;refine⟨rv names.length u,(tok.spnS pS _).mpr ⟨qG6 _ _,by rw[qC2 (ltN u h1)];exact h1⟩,fun n hn=>?_,by show _=qAu rest (rowM names (rv names.length u));rw[qDf]⟩;refine decide_eq_false fun h=>?_
   rw[qDf]at h;obtain⟨i,hi,e,b⟩:=qBg.mp hn;exact qBl h2 ((qDe nd e).mp h) b
  ·rintro⟨z,h1,h2,h3⟩;obtain⟨zl,h4⟩:=(tok.spnS pS z).mp h1;have dz:rv names.length z&&&w=0:=qDm fun i hi hw=>by
    have il:i<names.length:=by
     by_cases q:i<names.length
     ·exact q
     ·rw[qDc lw (by omega)]at hw;cases hw
    have e:names[i]?=some names[i]:=hA2 il;have:=h2 _ ((qDe nd e).mpr hw);have h5:=(qDe nd e).mpr hi;rw[<-qDf,qC2 zl]at h5;exact of_decide_eq_false this h5
   have iz:=iE _ ⟨h4,dz⟩;have ez:qAu rest (rowL names (rv names.length z))=qAu rest (rowL names u):=by
    rw[h3,<-qDf,qC2 zl]
   have:=back _ iz;rw[ez,back u hu]at this;rw[this];exact⟨h4,dz⟩
 ·show qAu rest (rowL names 0)=0;have:rowL names 0=[]:=by
   rw[List.eq_nil_iff_forall_not_mem];intro n hn;obtain⟨i,_,_,b⟩:=qBg.mp hn;rw[hB6]at b;cases b
  rw[this,qIi]
 ·show qAu rest (rowL names ((2^names.length - 1)^^^w))=2^rest.length - 1;refine hAo fun j=>?_
  rw[qA1,qCu];by_cases jl:j<rest.length
  ·have e:rest[rest.length - 1 - j]?=some rest[rest.length - 1 - j]:=hA2 (by omega);obtain⟨h1,h2⟩:=rm.mp (hAc e);obtain⟨i,il,e2⟩:=hBy h1;have e':names[i]?=some rest[rest.length - 1 - j]:=by rw[hA2 il,e2]
   rw[decide_eq_true jl,hBg];refine decide_eq_true ⟨_,e,(qDe nd e').mpr ((qN7 lw i).mpr ⟨il,?_⟩)⟩;cases q:w.testBit i with
   |false=>rfl
   |true=>exact absurd ((qDe nd e').mpr q) h2
  ·rw[decide_eq_false jl];rfl
theorem QuP.congr{N N':List Nat}(h:∀u,Spn N u↔Spn N' u){m w:Nat}:QuP N m w↔QuP N' m w:=qHq.congr fun u=>by rw[h]
theorem qPx{N Q:List Nat}{m w:Nat}(m12:m<=12)(lw:w<2^m)(ltN:∀u,Spn N u->u<2^m)(sp:∀u,Spn Q u↔Spn N u/\u&&&w=0)(ls:∀t∈Q,Lst Q t):(hpF (Q++sgF ((2^m - 1)^^^w))).length=1↔QuP N m w:=by
 rw[qXm ls]
 ·exact qHq.congr sp
 ·refine hAm (hC9 (by have:=Nat.two_pow_pos m;omega) lw) (hBt (by decide) m12)
 ·intro t ht i hi;obtain⟨h1,h2⟩:=(sp t).mp (.mem ht);refine(qN7 lw i).mpr ⟨?_,?_⟩
  ·by_cases q:i<m
   ·exact q
   ·rw[qDc (ltN t h1) (by omega)]at hi;cases hi
  ·cases q:w.testBit i with
   |false=>rfl
   |true=>exact(qBl h2 hi q).elim
def WaP(N:List Nat)(m x:Nat):Prop:=(x<2^m/\∀s∈N,dot m x s=false)/\x≠0/\∀o,(o<2^m/\∀s∈N,dot m o s=false)->o≠0->Inn o x->o=x
theorem qMd{names:List Str}(nd:names.Nodup){x y:Nat}(hx:x<2^names.length)(hy:y<2^names.length)(e:rowL names x=rowL names y):x=y:=by
 have:=congrArg (qAu names) e;rw[qDt nd,qDt nd]at this;rw[<-qC2 hx,this,qC2 hy]
theorem qOh{names:List Str}{rows:List (List Str)}(tok:TabOk names rows){S C M L:List Nat}{F:List (List Str)}(pS:S.Perm (red (rows.map (qAu names))))(pC:C.Perm (red (crAll S names.length)))(pM:M.Perm (red ((C.map (rowM names)).map (qAu names))))(pL:L.Perm (sumF M))(so:L.Pairwise (·<=·))(pF:F.Perm ((rmF L).map (rowM names))) :
  F.Nodup/\∀row,row∈F↔∃x,WaP (numL names rows) names.length x/\row=rowL names x:=by
 have nd:=qDv tok.rn;obtain⟨g,e⟩:=tok.num;have rS:RR S:=(qC9 _).perm pS;have lS:∀s∈S,s<2^names.length:=fun s hs=>((tok.spnS pS s).mp (.mem hs)).1
 have lc:∀x∈crAll S names.length,x<2^names.length:=fun x hx=>((qJw rS lS x).mp (.mem hx)).1
 have ltC:∀c∈C,c<2^names.length:=fun c hc=>qGi lc c (pC.mem_iff.mp hc)
 have eC:(C.map (rowM names)).map (qAu names)=C:=by
  rw[hAr]
  conv=>rhs;rw[<-hDp C]
  exact hBq fun c hc=>qDk nd (ltC c hc)
 rw[eC]at pM;have rrM:RR M:=(qC9 _).perm pM;have ndL:L.Nodup:=pL.nodup_iff.mpr (qOo M rrM);have lt:L.Pairwise (· < ·):=(so.and ndL).imp fun {a b} h=>Nat.lt_of_le_of_ne h.1 h.2
 have mL:∀z,z<2^names.length->(rv names.length z∈L↔z<2^names.length/\∀s∈numL names rows,dot names.length z s=false):=fun z zl=>by
  rw[pL.mem_iff,qBc,qCb pM,qCj,qCb pC,qCj,qJw rS lS];constructor
  ·rintro⟨_,h⟩;refine⟨zl,fun s hs=>?_⟩;have hs':rv names.length s∈S:=pS.mem_iff.mpr (by rw[<-e];exact hA3.mpr ⟨s,hs,rfl⟩);have:=h _ hs';rw[qJv]at this;exact this
  ·rintro⟨_,h⟩;refine⟨qG6 _ _,fun s hs=>?_⟩;have hs':=pS.mem_iff.mp hs;rw[<-e]at hs';obtain⟨t,ht,rfl⟩:=hA3.mp hs';rw[qJv];exact h t ht
 have ltL:∀z∈L,z<2^names.length:=fun z hz=>by
  rw[pL.mem_iff,qBc,qCb pM,qCj]at hz;exact Spn.lt ltC hz
 have mR:∀x,x<2^names.length->(rv names.length x∈rmF L↔WaP (numL names rows) names.length x):=fun x xl=>by
  rw[qXi L lt,mL x xl];unfold WaP;refine and_congr_right fun _=>?_
  constructor
  ·rintro⟨h1,h2⟩;refine⟨fun z=>h1 (by rw[z,qD2]),fun o ho oz oi=>?_⟩;have:=h2 (rv names.length o) ((mL o ho.1).mpr ho) (qNt ho.1 oz) (qU9 oi);rw[<-qC2 ho.1,this,qC2 xl]
  ·rintro⟨h1,h2⟩;refine⟨qNt xl h1,fun y hy yz yi=>?_⟩;have yl:=ltL y hy;have hy':rv names.length (rv names.length y)∈L:=by rw[qC2 yl];exact hy
   have i2:Inn (rv names.length y) x:=by
    have:=qU9 (m:=names.length) yi;rw[qC2 xl]at this;exact this
   have:=h2 (rv names.length y) ((mL _ (qG6 _ _)).mp hy') (qNt yl yz) i2;rw[<-this,qC2 yl]
 have lR:∀z∈rmF L,z<2^names.length:=fun z hz=>ltL z (qWm L z hz).1
 refine⟨pF.nodup_iff.mpr (hAv.mpr ((ndL.sublist (qWl L)).imp_of_mem fun {a b} ha hb ne e=>ne (by rw[<-qDk nd (lR a ha),<-qDk nd (lR b hb),e]))),fun row=>?_⟩
 ·rw[pF.mem_iff,hA3];constructor
  ·rintro⟨z,hz,rfl⟩;have zl:=lR z hz;exact⟨rv names.length z,(mR _ (qG6 _ _)).mp (by rw[qC2 zl];exact hz),by rw[<-qDf,qC2 zl]⟩
  ·rintro⟨x,hx,rfl⟩;exact⟨rv names.length x,(mR x hx.1.1).mpr hx,qDf x⟩
def QuR(names:List Str)(rows:List (List Str))(row:List Str):Prop:=QuP (numL names rows) names.length (rv names.length (qAu names row))
theorem QuR.of{names:List Str}{rows:List (List Str)}(nd:names.Nodup){x:Nat}(hx:x<2^names.length):QuR names rows (rowL names x)↔QuP (numL names rows) names.length x:=by
 unfold QuR;rw[qDt nd,qC2 hx]
open Classical in
noncomputable def quF(names:List Str)(rows:List (List Str))(ps:List (Addr×List Str)):List (Addr×List Str):=ps.filter fun p=>decide (QuR names rows p.2)
theorem qS7{names:List Str}{rows:List (List Str)}(tok:TabOk names rows)(g:List Str){M:List Nat}(lM:M.length<=12)(ltM:∀z∈M,z<2^(restF names g).length):TabOk (restF names g) (M.map (rowM (restF names g))):=by
 refine⟨List.Pairwise.sublist hB9 tok.rn,fun x hx=>tok.ok x (hAb.mp hx).1,hB2 (hB5 _ _) tok.ln,by rw[hA1];omega,fun r hr=>?_⟩;obtain⟨c,hc,rfl⟩:=hA3.mp hr;exact⟨rv (restF names g).length c,by rw[<-qDf,qC2 (ltM c hc)]⟩
def qYy:Sp:=fun vs H Q _=>∃(T pw:Addr) (names:List Str) (rows:List (List Str)) (x:Nat),vs=[.ref T,.ref pw]/\qC8 H T names rows/\TabOk names rows/\LsS H pw (rowL names x)/\x<2^names.length/\∀(b:Bool) (H':Hp),Ext H H'->(b=true↔QuP (numL names rows) names.length x)->Q (.bl b) H'
def qYu(Pt:Addr):Sp:=fun vs H Q _=>∃(T:Addr) (names:List Str) (rows:List (List Str)),vs=[.ref T]/\qC8 H T names rows/\TabOk names rows/\TabW H Pt lpI qI/\∀(r:Addr) (ps:List (Addr×List Str)) (H':Hp),ExtB Pt H H'->H r=none->H' r=some (.lst (ps.map fun p=>V.ref p.1))->(∀p∈ps,LsS H' p.1 p.2/\H p.1=none/\p.1≠r)->(ps.map Prod.fst).Nodup->ps.length<=4096->RwO (ps.map Prod.snd)->(ps.map Prod.snd).Nodup->(∀row,row∈ps.map Prod.snd↔∃x,WaP (numL names rows) names.length x/\QuP (numL names rows) names.length x/\row=rowL names x)->TabW H' Pt lpI qI->Q (.ref r) H'
theorem qH8(names:List Str)(x:Nat):(rowL names x).length<=names.length:=by
 unfold rowL;have:=List.length_filterMap_le (fun i=>if x.testBit i=true then names[i]? else none) (List.range names.length);rw[hAp]at this;exact this
section
variable{P:Program}{w:World}{K:PySem.W.Frag}{mg:Str->Option Value}{base:Heap}{f f1 f2 Pt:Addr}{fd fd1 fd2:FuncData}
theorem zBh:FnScope ["table","wall"] ["table","wall"] (qAd zBm):=⟨rfl,rfl,rfl,by decide +kernel,rfl,by decide +kernel,by decide +kernel⟩
theorem qZy(F:Fun K "is_quiet" "is_quiet" zBm f fd)
  (G1:Cl P w K mg base CX0 4 f1 fd1 ["table","taken","shrunk_ones"] qUq "left")
  (G2:Cl P w K mg base CX0 4 f2 fd2 ["table"] qY2 "blocks")
  (ml:mg "len" = none):FnOk P w K mg base CX0 5 f fd ["table","wall"] qYy:=by
 refine F.ok zBh (fun vs H Q E h=>?_) (fun cdv A outer s H vs Q E hr h=>?_)
 ·obtain⟨T,pw,names,rows,x,rfl,_⟩:=h;rfl
 obtain⟨T,pw,names,rows,x,rfl,ti,tok,hw,hx,q⟩:=h;refine⟨_,qAf (qAv (qE9 qDj (qAn qAo rfl ml hBf (qAa (qAt G2 hr rfl .nil qAs (qAa (qAt G1 hr rfl .nil qAs (qAa (pv 0) (qAa (pv 1) (qAa (qA6 qAb) qAb)))) qAb)) qAb)) qAe (qAx _))),?_⟩;try dsimp only[Cx.wish,qCd]
 have ln:=tok.ln;have lr:=tok.lr;have lw:=qH8 names x;refine⟨_,rfl,_,rfl,hAs _,fun e0 he0=>?_⟩;have X0:=Ext.new he0 (.lst []);refine⟨T,pw,e0,names,rows,rowL names x,[],rfl,ti.ext X0,X0 _ _ hw,upd_same,qDv tok.rn,fun n hn=>?_,fun n hn=>(by cases hn),ln,by omega,by omega,by decide,fun T' S M H1 e1 T0 tf pS pM dM=>?_⟩
 ·obtain⟨i,_,e,_⟩:=qBg.mp hn;exact hAc e
 have ltM:∀z∈M,z<2^(restF names (rowL names x++[])).length:=fun z hz=>qGi (fun x hx=>by obtain⟨y,_,rfl⟩:=hA3.mp hx;exact qEp _ _) z (pM.mem_iff.mp hz)
 have lM:M.length<=12:=by
  have h1:=qPq ((qC9 _).perm pM) ltM;have:(restF names (rowL names x++[])).length<=names.length:=hB5 _ _;omega
 refine⟨T',_,_,rfl,tf.tin,qS7 tok _ lM ltM,fun r rs S' H2 e2 r0 hrs pS' srt pr=>?_⟩;obtain⟨as,nd,hr',pra⟩:=hrs;refine⟨r,_,rfl,.inl (SqL.of hr'),rfl,q _ _ ((X0.trans e1).trans e2) ?_⟩;have key:=qNy tok hx pS pM pS';have la:as.length=rs.length:=pra.length;have lp:rs.length=(S'.foldl blS ((List.range (restF names (rowL names x++[])).length).map fun k=>2^k)).length:=by rw[pr.length_eq,hA1]
 rw[<-key,<-lp,<-la,decide_eq_true_iff,hA1];exact⟨fun h=>by have:=V.int.inj h;omega,fun h=>by rw[h];rfl⟩
theorem qWc:FnScope ["table"] ["table"] (qAd qL8):=⟨rfl,rfl,rfl,by decide +kernel,rfl,by decide +kernel,by decide +kernel⟩
theorem qZr(F:Fun K "quiet_ones" "quiet_ones" qL8 f fd)
  (G1:Cl P w K mg base CX0 5 f1 fd1 ["table"] (qOx Pt) "walls")
  (G2:Cl P w K mg base CX0 5 f2 fd2 ["table","wall"] qYy "is_quiet"):FnOk P w K mg base CX0 6 f fd ["table"] (qYu Pt):=by
 refine F.ok qWc (fun vs H Q E h=>?_) (fun cdv A outer s H vs Q E hr h=>?_)
 ·obtain⟨T,names,rows,rfl,_⟩:=h;rfl
 obtain⟨T,names,rows,rfl,ti,tok,tw,q⟩:=h;refine⟨_,qAf (qAv (qBo (N:=["table"]) (sc:=qAd qL8) (N':=["wall","table"]) (sub:=[none,some 0]) rfl rfl (CmpOk.of (by decide +kernel)) rfl (qAq (qAt G1 hr rfl .nil qAs (qAa (pv 0) qAb))) (fun C s H fp=>⟨qAh (i:=0) (by show(["wall","table"]:List Str).Nodup;decide) rfl (Or.inl rfl),(qB1 (qHe (qAt G2 hr rfl .nil qAs (qAa (pv 1) (qAa (pv 0) qAb))))),(pv 0)⟩))),?_⟩;try dsimp only[Cx.wish,qCd]
 have ln:=tok.ln;have lr:=tok.lr;refine⟨_,rfl,T,names,rows,rfl,ti,ln,by omega,tw,fun r as F S C M L H1 eB r0 hr' prF nd new pS pC pM pL so pF soF tw1=>?_⟩;obtain⟨tb,hb⟩:=My.TabW.tb tw;obtain⟨tb1,hb1⟩:=My.TabW.tb tw1;have k1:=zB7 eB hb hb1;have ti1:=k1.tab ti;obtain⟨ndF,mF⟩:=qOh tok pS pC pM pL so pF;have la:as.length=F.length:=prF.length;have lF:F.length<=4096:=by
  rw[pF.length_eq,hA1];refine hB2 (qKu L) ?_;rw[pL.length_eq,qCn];exact hB2 (hBt (by decide) (show M.length<=12 by have:=(qKn pM).2.2;omega)) (by decide)
 refine⟨r,rfl,⟨_,SqL.of hr'⟩,?_⟩;refine qAr (xs:=as.map V.ref) (fun j ys H2=>Ext H1 H2/\ys=(quF names rows ((as.zip F).take j)).map fun p=>V.ref p.1) ⟨Ext.refl _,rfl⟩ (fun j ys H2 _ h=>SqL.of (h.1 _ _ hr')) ?_ ?_
 ·rintro j v ys H2 hx ⟨e2,rfl⟩;obtain⟨c,rfl,hc⟩:=qE8 hx;obtain⟨row,hrw,hc1⟩:=qBm prF hc;have hj:=at_lt hc;have hz:(as.zip F)[j]?=some (c,row):=by rw[List.getElem?_zip_eq_some];exact⟨hc,hrw⟩
  obtain⟨x,hx2,rfl⟩:=(mF row).mp (hAc hrw);have st:quF names rows ((as.zip F).take (j+1))=quF names rows ((as.zip F).take j)++quF names rows [(c,rowL names x)]:=by
   unfold quF;rw[qAm hz,hBm]
  have lq:(quF names rows ((as.zip F).take j)).length<=j:=by
   unfold quF;refine hB2 (hB5 _ _) ?_;rw[hAl];omega
  refine⟨Sle.set _ (Sle.refl _) (fun u z=>by cases z),?_⟩;refine⟨_,rfl,_,rfl,T,c,names,rows,x,rfl,ti1.ext e2,tok,e2 _ _ hc1,hx2.1.1,fun b H3 e3 hb=>⟨b,rfl,?_⟩⟩;have one:quF names rows [(c,rowL names x)]=if b=true then [(c,rowL names x)] else []:=by
   have h1:QuR names rows (rowL names x)↔b=true:=(QuR.of (qDv tok.rn) hx2.1.1).trans hb.symm;unfold quF;by_cases z:b=true
   ·rw[if_pos z,hD6 (by simpa using h1.mpr z)];rfl
   ·rw[if_neg z,hD5 (by simpa using fun h=>z (h1.mp h))];rfl
  refine qDa (fun z=>?_) (fun z=>?_)
  ·refine⟨_,rfl,by rw[hA1];exact qBi (by omega),nxt (at_lt hx) ⟨e2.trans e3,?_⟩⟩;rw[st,one,if_pos z,hA4];rfl
  ·refine nxt (at_lt hx) ⟨e2.trans e3,?_⟩;rw[st,one,if_neg z,hBd]
 ·rintro ys H2 ⟨e2,rfl⟩ l hl;rw[hA1,hA7 (by rw[List.length_zip];omega)];have Xl:=Ext.new hl (.lst ((quF names rows (as.zip F)).map fun p=>V.ref p.1));have E:=e2.trans Xl;have sub:(quF names rows (as.zip F)).Sublist (as.zip F):=hB9;have sf:((quF names rows (as.zip F)).map Prod.fst).Sublist as:=by
   have:=sub.map Prod.fst;rw[List.map_fst_zip (by omega)]at this;exact this
  have ss:((quF names rows (as.zip F)).map Prod.snd).Sublist F:=by
   have:=sub.map Prod.snd;rw[hDb (by omega)]at this;exact this
  refine q l _ _ (ExtB.trans eB E.toB) (k1.n l (e2.none hl)) upd_same (fun p hp=>?_) (nd.sublist sf) ?_ (soF.sublist ss) (ndF.sublist ss) (fun row=>?_) (My.TabW.extE tw1 E)
  ·have hm:=sub.mem hp;have h1:LsS H1 p.1 p.2:=qCz prF p hm;refine⟨E _ _ h1,new _ (hDv hm).1,fun z=>?_⟩;have:=e2 _ _ h1;rw[z,hl]at this;cases this
  ·have:=sub.length_le;rw[List.length_zip]at this;omega
  ·rw[hA3];constructor
   ·rintro⟨p,hp,rfl⟩;obtain⟨hm,hq⟩:=hAb.mp hp;obtain⟨x,hx2,ex⟩:=(mF p.2).mp (hDv hm).2;have hq:QuR names rows p.2:=by simpa using hq
    rw[ex]at hq;exact⟨x,hx2,(QuR.of (qDv tok.rn) hx2.1.1).mp hq,ex⟩
   ·rintro⟨x,h1,h2,rfl⟩;have hm:=(mF _).mpr ⟨x,h1,rfl⟩;obtain⟨i,hi,e⟩:=hBy hm;refine⟨(as[i]'(by omega),rowL names x),hAb.mpr ⟨hAc (i:=i) (by rw[List.getElem?_zip_eq_some];exact⟨hA2 (by omega),by rw[hA2 hi,e]⟩),?_⟩,rfl⟩
    simpa using (QuR.of (qDv tok.rn) h1.1.1).mpr h2
end
end My
namespace L2
open PySem PySem.Spec PyProof.Rows
section
variable{X:Cx}
theorem qRx(hc:X.calm=true):qB7 X (.builtin "max") (fun xs H Q=>∃(p:Addr) (ns:List Int),xs=[.ref p]/\SqL X.K H p (ns.map V.int)/\ns≠[]/\∀M,M∈ns->(∀a,a∈ns->a<=M)->Q (.int M) H):=by
 intro pins s σ H xs us Q I r h;obtain⟨p,ns,rfl,hq,ne,q⟩:=h;obtain⟨u,rfl,rx⟩:=qCv r;cases rx;obtain⟨its,rv,pl,hz⟩:=I.list hq;obtain⟨ys,rfl,rfl⟩:=qLd rv;have e:(ys.map (fun p=>Value.int p.1 p.2)).toArray=intItems ys.toArray:=by unfold intItems;simp
 have pl':=pl.isList;rw[e]at pl';have hsz:0<ys.toArray.size:=by
  rw[hAd];cases ys with
  |nil=>exact absurd rfl ne
  |cons _ _=>exact Nat.succ_pos _
 refine max_intList (I.ok.hd hc) pl' hsz fun v h' tk hv hk=>?_
 obtain⟨t,rfl⟩:=intItems_at hv;obtain⟨h1,h2⟩:=argBest_gt (numAt ys.toArray) (ys.toArray.size - 1);refine⟨.int _,H,I.kept (t':=tk) hk,⟨t,rfl⟩,q _ ?_ fun a ha=>?_⟩
 ·rw[numAt_eq];exact getD_mem (by rw[hA1,hB3];exact hC8 h1 (Nat.sub_lt hsz Nat.one_pos))
 ·obtain⟨j,hj,rfl⟩:=mem_getD (by simpa using ha:a∈ys.toArray.toList.map (·.1));rw[hA1,hB3]at hj;rw[<-numAt_eq];exact h2 j (Nat.le_sub_one_of_lt hj)
end
end L2
namespace L2
open PySem PySem.Spec PyProof.Rows PySem.W
theorem qB8.keeps{h h':Heap}{v:Value}{t:List Str}(k:qB8 h v t)(e:∀b o,h.get? b=some o->h'.get? b=some o):qB8 h' v t:=by
 obtain⟨k,a,tok,its,ev,⟨o,e1,c,n,d⟩,⟨o1,e2,c1,n1,d1⟩,st⟩:=k;exact⟨k,a,tok,its,ev,⟨o,e _ _ e1,c,n,d⟩,⟨o1,e _ _ e2,c1,n1,d1⟩,st⟩
theorem qGp{h:Heap}:∀ {ps:List (Addr×List Str)},(∀p∈ps,qB8 h (.ref p.1) p.2)->Paired (fun v p=>qB8 h v p.2) (ps.map fun p=>Value.ref p.1) ps
 |[],_=>.nil
 |p :: ps,k=>.cons (k p (.head _)) (qGp fun q hq=>k q (.tail _ hq))
section
variable{P:Program}{w:World}{A:Around}{E:Value->Shared->Prop}{s:Shared}
theorem qV4{a:Addr}{ps:List (Addr×List Str)}{n:Nat}{R:_}(ho:s.heap.get? a=some (seqObj "list" (ps.map fun p=>Value.ref p.1).toArray n))(hk:∀h':Heap,(∀b o,b≠a->s.heap.get? b=some o->h'.get? b=some o)->∀p∈ps,qB8 h' (.ref p.1) p.2)(hn:ps.length<=5000)(hu:A.units<cLine)
  (h:∀(ps':List (Addr×List Str)),ps'.Perm ps->ps'.Pairwise (fun p q=>kLt q.2 p.2=false)->R (.done (.ret .none)) { s with heap:=sortedHeap s.heap a (ps.map fun p=>Value.ref p.1) (ps'.map fun p=>Value.ref p.1).toArray }):wpAny (model P w) A (Builtin.«list.sort» ⟨[.ref a],[]⟩) R E s:=by
 rw[list_sort_plain];have lv:(ps.map fun p=>Value.ref p.1).length=ps.length:=hA1 ..;have ha:a<s.heap.objs.size:=Heap.lt_size ho;refine wpAny_bind (listItems_at ho rfl (wpAny_bind (listUpdate_at ho rfl ?_ (by rw[hAd,sizeLine_eq];omega) (hAs _))));obtain⟨e1,ho1⟩:∃e1,(s.heap.update a (Obj.mapSeq fun _=>#[])).get? a=some (seqObj "list" #[] e1):=⟨_,get?_update_seq ho (fun _=>#[])⟩;refine wpAny_bind (seqEpoch_at ho1 rfl (wpAny_bind (wpAny_newTuple ?_ (by show(ps.map fun p=>Value.ref p.1).length<=_;rw[sizeLine_eq];omega))));refine wpAny_bind (wpAny_newList ?_ (hAs _));refine wpAny_holding ?_;have ho6:(((s.heap.update a (Obj.mapSeq fun _=>#[])).push (seqObj "tuple" (ps.map fun p=>Value.ref p.1).toArray 0)).push (seqObj "list" #[] 0)).get? a=some (seqObj "list" #[] e1):=Heap.get?_push_of_some _ (Heap.get?_push_of_some _ ho1);have keep:∀b o,b≠a->s.heap.get? b=some o->(((s.heap.update a (Obj.mapSeq fun _=>#[])).push (seqObj "tuple" (ps.map fun p=>Value.ref p.1).toArray 0)).push (seqObj "list" #[] 0)).get? b=some o:=fun b o hb e=>by
  refine Heap.get?_push_of_some _ (Heap.get?_push_of_some _ ?_);rw[Heap.get?_update_ne _ _ _ _ hb];exact e
 have keys:=hk _ keep;show wpAny (model P w) A _ R E { s with heap:=((s.heap.update a (Obj.mapSeq fun _=>#[])).push (seqObj "tuple" (ps.map fun p=>Value.ref p.1).toArray 0)).push (seqObj "list" #[] 0) };dsimp only;have fin:∀(st':SortSt) (ps':List (Addr×List Str)),(arrOf st').map (·.2)=(ps'.map fun p=>Value.ref p.1).toArray->failedOf st'=none->ps'.Perm ps->ps'.Pairwise (fun p q=>kLt q.2 p.2=false)->wpAny (model P w) A (do
   let touched:=(← seqEpoch a) != e1
   Builtin.List.listUpdate (.ref a) fun _=>(arrOf st').map (·.2)
   if let some e:=failedOf st' then rule "list.sort.comparison-raised";throw e
   if touched then rule "list.sort.modified";raiseError "ValueError" "list modified during sort"
   ret .none) R E { s with heap:=((s.heap.update a (Obj.mapSeq fun _=>#[])).push (seqObj "tuple" (ps.map fun p=>Value.ref p.1).toArray 0)).push (seqObj "list" #[] 0) }:=by
  intro st' ps' e hf hp hs;refine wpAny_bind (seqEpoch_at ho6 rfl ?_);refine wpAny_bind (listUpdate_at ho6 rfl ?_ (hAs _) (by rw[e,hAd,hA1,hp.length_eq,sizeLine_eq];omega));rw[hf];simp only[bne_self_eq_false,hC1,if_false];rw[e];exact wpAny_pure (h ps' hp hs)
 have ez:((ps.map fun p=>Value.ref p.1).toArray.zip (ps.map fun p=>Value.ref p.1).toArray).toList=ps.map fun p=>((Value.ref p.1,Value.ref p.1):Keyed):=by
  rw[hE8];show(ps.map fun p=>Value.ref p.1).zip (ps.map fun p=>Value.ref p.1)=_;rw[qKc,hAr];rfl
 by_cases h2:(ps.map fun p=>Value.ref p.1).toArray.size<2
 ·rw[if_pos h2,if_pos h2];refine wpAny_bind (wpAny_pure ?_);rw[StateT.run_pure];refine wpAny_bind (wpAny_pure (fin _ ps ?_ rfl (hCd _) ?_))
  ·show((ps.map fun p=>Value.ref p.1).toArray.zip (ps.map fun p=>Value.ref p.1).toArray).map (·.2)=(ps.map fun p=>Value.ref p.1).toArray;apply hDs.mp;rw[hDt,ez,hAr];rfl
  ·rw[hAd,lv]at h2
   match ps,h2 with
   |[],_=>exact List.Pairwise.nil
   |[p],_=>exact hC4 ..
 ·rw[if_neg h2,if_neg h2];have hl2:2<=ps.length:=by rw[hAd,lv]at h2;omega
  obtain⟨fs,kt,fl,fa⟩:=qD7 (qGp keys);refine wpAny_bind (kat_kind (T:=.type "int") kt (by rw[fl,lv];omega) (fun v hv=>?_) (by decide) ?_)
  ·obtain⟨x,t,rfl⟩:=fa v hv;exact .now
  show wpAny _ _ (sortRuns'.run (SortSt.mk' (tuples' true) _ #[] 7 none) >>= _) _ _ _;generalize hS:({ s with heap:=((s.heap.update a (Obj.mapSeq fun _=>#[])).push (seqObj "tuple" (ps.map fun p=>Value.ref p.1).toArray 0)).push (seqObj "list" #[] 0) }:Shared)=s6 at fin ⊢;have keys:∀p∈ps,qB8 s6.heap (.ref p.1) p.2:=by rw[<-hS];exact keys
  have ex:∀x:Keyed,∃r:Int,∀t,qB8 s6.heap x.1 t->r=(rankT (ps.map Prod.snd) t:Int):=fun x=>by
   by_cases c:∃t,qB8 s6.heap x.1 t
   ·obtain⟨t,ht⟩:=c;exact⟨(rankT (ps.map Prod.snd) t:Int),fun u hu=>by rw[ht.uniq hu]⟩
   ·exact⟨0,fun t ht=>absurd ⟨t,ht⟩ c⟩
  obtain⟨rk,hrk⟩:∃rk:Keyed->Int,∀x t,qB8 s6.heap x.1 t->rk x=(rankT (ps.map Prod.snd) t:Int):=⟨fun x=>Classical.choose (ex x),fun x=>Classical.choose_spec (ex x)⟩;have ak:qG5 P w A E s6 rk (tuples' true) (fun x=>∃t∈ps.map Prod.snd,qB8 s6.heap x.1 t):=qLo fun x y ⟨t,ht,kx⟩ ⟨u,hu',ky⟩ Q hq=>by
   rw[hrk x t kx,hrk y u ky,qMj ht hu']at hq;exact qQv hu kx ky hq
  refine wpAny_bind (qH7 ak (fun x hx=>?_) fun st' hf dn=>?_)
  ·rw[ez]at hx;obtain⟨p,hp,rfl⟩:=hA3.mp hx;exact⟨_,hA3.mpr ⟨p,hp,rfl⟩,keys p hp⟩
  ·obtain⟨Z,pZ,eZ⟩:=qGn dn.1 ps ez;refine fin st' Z ?_ hf pZ ?_
   ·apply hDs.mp;rw[hDt,<-eZ,hAr];rfl
   ·have so:=dn.2;rw[<-eZ]at so;have so:=hAv.mp so;refine so.imp_of_mem fun {x y} hx hy le=>?_
    have mx:=pZ.mem_iff.mp hx;have my:=pZ.mem_iff.mp hy;rw[hrk _ _ (keys x mx),hrk _ _ (keys y my)]at le;cases c:kLt y.2 x.2 with
    |false=>rfl
    |true =>
     have:=qF2 (hA3.mpr ⟨y,my,rfl⟩) c;omega
end
section
variable{X:Cx}{k:Nat}
theorem qIt(hr:Room (k+2) X.A):qB7 X (.builtin "sorted") (fun xs H Q=>∃(p:Addr) (ps:List (Addr×List Str)),xs=[.ref p]/\SqL X.K H p (ps.map fun p=>V.ref p.1)/\(∀z∈ps,∃a,SqT X.K H z.1 [.int z.2.length,.ref a]/\SqL X.K H a (z.2.map V.str))/\ps.length<=5000/\∀(r:Addr) (ps':List (Addr×List Str)),H r=none->ps'.Perm ps->ps'.Pairwise (fun p q=>kLt q.2 p.2=false)->Q (.ref r) (upd H r (.lst (ps'.map fun p=>V.ref p.1)))):=by
 intro pins s σ H xs us Q I r h;obtain⟨p,ps,rfl,hq,ht,hn,q⟩:=h;obtain⟨u,rfl,rx⟩:=qCv r;cases rx;obtain⟨its,rv,pl,hz⟩:=I.list hq;have ei:its=ps.map fun p=>Value.ref p.1:=by
  have rv':qA7 ((ps.map Prod.fst).map V.ref) its:=by rw[hAr];exact rv
  have:=refs_of rv';rw[hAr]at this;exact this
 have hl:its.length=ps.length:=by rw[ei,hA1]
 have keys:∀p∈ps,qB8 s.heap (.ref p.1) p.2:=fun p hp=>by
  obtain⟨a,h1,h2⟩:=ht p hp;obtain⟨i1,r1,t1,_⟩:=I.tuple h1;obtain⟨i2,r2,⟨o,n,g1,g2,_,g4⟩,_⟩:=I.list h2;cases r1 with
  |cons r1 rr =>
   cases rr with
   |cons r3 rr =>
    cases rr;obtain⟨tok,rfl⟩:=r1;cases r3;exact⟨p.1,a,tok,i2.toArray,rfl,t1,⟨o,g1,g2,n,g4⟩,by simpa using qCx r2⟩
 refine Calls.call_function_entry kind_sorted plain_sorted entry_sorted (args_sorted1 _) ?_;unfold Builtin.«sorted»;refine wpAny_bind (m:=checkCount "sorted" 1 1 _) (wpAny_pure (wpAny_bind (collect_list pl.isList ?_ (by rw[sizeLine_eq];omega))));refine wpAny_bind (wpAny_newList ?_ (by rw[sizeLine_eq];omega));have hsz:((s.heap.push (seqObj "list" #[] 0)).update s.heap.objs.size (Obj.mapSeq (·++its.toArray))).objs.size=s.heap.objs.size+1:=by rw[Heap.size_update,size_push']
 have hoL:(((s.heap.push (seqObj "list" #[] 0)).update s.heap.objs.size (Obj.mapSeq (·++its.toArray))).push (seqObj "list" its.toArray 0)).get? (s.heap.objs.size+1)=some (seqObj "list" its.toArray 0):=by
  rw[<-hsz];exact Heap.get?_push_size _ rfl
 have keep:∀b o,s.heap.get? b=some o->(((s.heap.push (seqObj "list" #[] 0)).update s.heap.objs.size (Obj.mapSeq (·++its.toArray))).push (seqObj "list" its.toArray 0)).get? b=some o:=fun b o e=>by
  have hlt:b<s.heap.objs.size:=Heap.lt_size e;rw[Heap.get?_push_ne _ _ _ (by rw[hsz];exact hAn (hBk hlt)),Heap.get?_update_ne _ _ _ _ (hAn hlt),Heap.get?_push_ne _ _ _ (hAn hlt)];exact e
 show wpAny _ _ _ _ _ { s with heap:=((s.heap.push (seqObj "list" #[] 0)).update s.heap.objs.size (Obj.mapSeq (·++its.toArray))).push (seqObj "list" its.toArray 0) };rw[hsz];subst ei;refine wpAny_bind (wpAny_holding (wpAny_call_entry slot_list_sort ⟨_,hoL,rfl⟩ entry_list_sort (qV4 hoL (fun h' hk p hp=>(keys p hp).keeps fun b o e=>hk b o (hAn (hBk (Heap.lt_size e))) (keep b o e)) hn (by have:=(Room.in1 (Room.in1 hr)).un;omega) fun ps' hp hs=>⟨_,rfl,?_⟩) (args_list_sort _)));have nz:H (s.heap.objs.size+1)=none:=I.hok.fresh (hB7 _);obtain⟨e,he⟩:=sortedAll_at s.heap (ps.map fun p=>Value.ref p.1) (ps'.map fun p=>Value.ref p.1).toArray;refine wpAny_pure ⟨_,rfl,.ref (s.heap.objs.size+1),_,I.laid (t':=s.toks) (a:=s.heap.objs.size+1) (o:=.lst (ps'.map fun p=>V.ref p.1)) (h':=sortedAll s.heap (ps.map fun p=>Value.ref p.1) (ps'.map fun p=>Value.ref p.1).toArray) (fun b o eb=>sortedAll_old eb) (hB7 _) ⟨?_,ps'.map fun p=>Value.ref p.1,e,?_,he⟩,rfl,q _ ps' nz hp hs⟩
 ·rw[hA1,hp.length_eq,sizeLine_eq];omega
 ·have:=qEc (ps'.map Prod.fst);rw[hAr,hAr]at this;exact this
end
end L2
namespace My
open PySem L2
noncomputable def kpF(S:List Nat)(x:Nat):List Nat:=(sumF S).filter fun z=>decide (z&&&x=0)
noncomputable def smF(U:List Nat):List Nat:=U.filter fun z=>!decide (z=0)
noncomputable def leI(U:List Nat)(t:Nat):List Nat:=(smF U).filter fun o=>!decide (o=t) && decide (o&&&t=o)
noncomputable def leF(U:List Nat):List Nat:=(smF U).filter fun t=>decide (leI U t=[])
def qYx:Sp:=fun vs H Q _=>∃(pn pm:Addr) (names:List Str) (ms:List Nat),vs=[.ref pn,.ref pm]/\LsS H pn names/\names.length<=12/\LsN H pm ms/\ms.length<=4096/\∀(r:Addr) (D:List (List Str)) (H':Hp),Ext H H'->H r=none->qDb H' r D->D.Perm (ms.map (rowL names))->RwO D->Q (.ref r) H'
theorem qOw(S:List Nat)(x u:Nat):Spn (kpF S x) u↔Spn S u/\u&&&x=0:=by
 have mem:∀z,z∈kpF S x↔Spn S z/\z&&&x=0:=fun z=>by
  unfold kpF;rw[hAb,qBc,decide_eq_true_iff]
 constructor
 ·intro h
  induction h with
  |zero=>exact⟨.zero,Nat.zero_and _⟩
  |add m _ ih =>
   obtain⟨a,b⟩:=(mem _).mp m;refine⟨a.xor ih.1,?_⟩;refine qDm fun i h1 h2=>?_
   rw[hAu]at h1;rename_i p q _;cases e1:p.testBit i with
   |true=>exact qBl b e1 h2
   |false =>
    rw[e1,Bool.false_xor]at h1;exact qBl ih.2 h1 h2
 ·exact fun h=>.mem ((mem u).mpr h)
theorem qXj{N:List Nat}(t:Nat):t∈leF (sumF N)↔Lst N t:=by
 have ms:∀z,z∈smF (sumF N)↔Spn N z/\z≠0:=fun z=>by
  unfold smF;rw[hAb,qBc];simp
 unfold leF;rw[hAb,ms,decide_eq_true_iff,List.eq_nil_iff_forall_not_mem];unfold Lst leI;constructor
 ·rintro⟨⟨a,b⟩,c⟩;refine⟨a,b,fun o ho oz oi=>?_⟩;by_cases e:o=t
  ·exact e
  ·refine(c o (hAb.mpr ⟨(ms o).mpr ⟨ho,oz⟩,?_⟩)).elim;rw[decide_eq_false e,decide_eq_true (qFf oi)];rfl
 ·rintro⟨a,b,c⟩;refine⟨⟨a,b⟩,fun o ho=>?_⟩;obtain⟨h1,h2⟩:=hAb.mp ho;obtain⟨h3,h4⟩:=(ms o).mp h1;simp only[hB4,Bool.not_eq_true',decide_eq_false_iff_not,decide_eq_true_eq]at h2;exact h2.1 (c o h3 h4 (qM4 h2.2))
theorem Stp.sumNd{m:Nat}{S:List Nat}(h:Stp m S):(sumF S).Nodup:=by
 have:=qOo _ h.rr;rw[<-qYp]at this;exact qQk this
section
variable{P:Program}{w:World}{K:PySem.W.Frag}{mg:Str->Option Value}{base:Heap}{f f1 f2 f3 f4 f5:Addr}{fd fd1 fd2 fd3 fd4 fd5:FuncData}
noncomputable abbrev zAz:List Str:=["_law_names_here","_law_masks","_law_rows"]
theorem qY7:FnScope zAz ["_law_names_here","_law_masks"] (qAd qX4):=⟨rfl,rfl,rfl,by decide +kernel,rfl,by decide +kernel,by decide +kernel⟩
theorem qZv(F:Fun K "_law_in_order" "_law_in_order" qX4 f fd)
  (G1:Cl P w K mg base CX0 1 f1 fd1 ["_law_names_here","_law_mask"] qH0 "_law_row")
  (ml:mg "len" = none) (mso:mg "sorted" = none):FnOk P w K mg base CX0 3 f fd ["_law_names_here","_law_masks"] qYx:=by
 refine F.ok qY7 (fun vs H Q E h=>?_) (fun cdv A outer s H vs Q E hr2 h=>?_)
 ·obtain⟨pn,pm,names,ms,rfl,_⟩:=h;rfl
 obtain⟨pn,pm,names,ms,rfl,hn,ln,hm,lm,q⟩:=h;have hr1:=hr2.mono (j:=1) (by decide);refine⟨_,qAc (qG7 (i:=2) (N:=zAz) (sc:=qAd qX4) (N':=["_law_mask","_law_names_here"]) (sub:=[none,some 0]) rfl rfl (CmpOk.of (by decide +kernel)) rfl (qAq (pv 1)) (fun C s H fp=>⟨qAh (i:=0) (by show(["_law_mask","_law_names_here"]:List Str).Nodup;decide) rfl (Or.inl rfl),qAy,(qK0 (row_of G1.g) hr1 rfl G1.m G1.k G1.b .nil qAs (qAa (pv 1) (qAa (pv 0) qAb)))⟩) qY7.nd rfl (Or.inl rfl)) (qAf (qAv (qBo (N:=zAz) (sc:=qAd qX4) (N':=["_law_many","_law_row_here"]) (sub:=[none,none]) rfl rfl (CmpOk.of (by decide +kernel)) rfl (qAq (qAn (qIt (k:=0) hr2) rfl mso qB5 (qAa (qBo (N:=zAz) (sc:=qAd qX4) (N':=["_law_row_here"]) (sub:=[none]) rfl rfl (CmpOk.of (by decide +kernel)) rfl (qAq (pv 2)) (fun C s H fp=>⟨qAh (i:=0) (by show(["_law_row_here"]:List Str).Nodup;decide) rfl (Or.inl rfl),qAy,(qBk (qAa (qAn (show qB7 _ (.builtin "len") (qNx K) from qAo) rfl ml hBf (qAa (pv 0) qAb)) (qAa (pv 0) qAb)))⟩)) qAb))) (fun C s H fp=>⟨(show PG _ _ (zA1 K 2 _) from qGm rfl (qBf (qAh (i:=0) (by show(["_law_many","_law_row_here"]:List Str).Nodup;decide) rfl (Or.inl rfl)) (qBf (qAh (i:=1) (by show(["_law_many","_law_row_here"]:List Str).Nodup;decide) rfl (Or.inl rfl)) qD3))),qAy,(pv 1)⟩)))),?_⟩;try dsimp only[Cx.wish,qCd]
 refine⟨_,rfl,pm,rfl,⟨_,SqL.of hm⟩,?_⟩;refine qAr (xs:=ms.map iV) (fun j ys H2=>Ext H H2/\∃as:List Addr,ys=as.map V.ref/\Paired (LsS H2) as ((ms.take j).map (rowL names))) ⟨Ext.refl _,[],rfl,.nil⟩ (fun j ys H2 _ h=>SqL.of (h.1 _ _ hm)) ?_ ?_
 ·rintro j v ys H2 hx ⟨e2,as,rfl,pr⟩;obtain⟨x,rfl,hx2⟩:=qBn hx;have hj:=at_lt hx2;have la:as.length=_:=pr.length;rw[hA1,hAl]at la;refine⟨Sle.set _ (Sle.refl _) (fun u z=>by cases z),iteT (B:=False) ⟨_,rfl,_,rfl,pn,names,x,rfl,e2 _ _ hn,ln,fun r H3 e3 r0 hr'=>⟨?_,nxt (at_lt hx) ⟨e2.trans e3,as++[r],by rw[hA4];rfl,?_⟩⟩⟩⟩
  ·rw[hA1];exact qBi (by omega)
  ·rw[qAm hx2,hA4];exact Paired.snoc (Paired.mapP pr fun a t z=>e3 _ _ z) hr'
 rintro ys H2 ⟨e2,as,rfl,pr⟩ rw0 hrw0;rw[hA1,hA7 (hA6 _)]at pr;have la:as.length=_:=pr.length;rw[hA1]at la;have X3:=Ext.new hrw0 (.lst (as.map V.ref));have hw3:upd H2 rw0 (.lst (as.map V.ref)) rw0=some (.lst (as.map V.ref)):=upd_same;have pr3:Paired (LsS (upd H2 rw0 (.lst (as.map V.ref)))) as (ms.map (rowL names)):=Paired.mapP pr fun a t z=>X3 _ _ z
 have E3:=e2.trans X3;revert hw3 pr3 E3;generalize upd H2 rw0 (.lst (as.map V.ref))=H3;intro hw3 pr3 E3;refine⟨_,rfl,rw0,rfl,⟨_,SqL.of hw3⟩,?_⟩;refine qAr (xs:=as.map V.ref) (fun j ys H4=>Ext H3 H4/\∃ks:List (Addr×List Str),ys=ks.map (fun p=>V.ref p.1)/\ks.map Prod.snd=(ms.map (rowL names)).take j/\∀z∈ks,∃a∈as,H4 z.1=some (.tup [.int z.2.length,.ref a])/\LsS H3 a z.2) ⟨Ext.refl _,[],rfl,rfl,fun z hz=>(by cases hz)⟩ (fun j ys H4 _ h=>SqL.of (h.1 _ _ hw3)) ?_ ?_
 ·rintro j v ys H4 hx ⟨e4,ks,rfl,ek,hk⟩;obtain⟨c,rfl,hc⟩:=qE8 hx;obtain⟨row,hrow,hc1⟩:=qBm pr3 hc;have hj:=at_lt hc;have lk:ks.length=j:=by
   have:=congrArg List.length ek;rw[hA1,hAl,hA1]at this;omega
  refine⟨Sle.set _ (Sle.refl _) (fun u z=>by cases z),iteT (B:=False) ⟨_,rfl,c,_,rfl,.inl (SqL.of (e4 _ _ hc1)),_,rfl,(by show 2<=sizeLine;decide),fun k hk0=>⟨?_,nxt (at_lt hx) ⟨e4.trans (Ext.new hk0 _),ks++[(k,row)],by rw[hA4];rfl,?_,fun z hz=>?_⟩⟩⟩⟩
  ·rw[hA1];exact qBi (by omega)
  ·rw[qAm hrow,hA4,ek];rfl
  ·rcases hAh.mp hz with hz|hz
   ·obtain⟨a,ha,h1,h2⟩:=hk z hz;exact⟨a,ha,(Ext.new hk0 _) _ _ h1,h2⟩
   ·rw[hA5.mp hz];refine⟨c,hAc hc,?_,hc1⟩;rw[upd_same,hA1]
 rintro ys H4 ⟨e4,ks,rfl,ek,hk⟩ tl htl;rw[hA1,hA7 (by rw[hA1];omega)]at ek;have lk:ks.length=ms.length:=by
  have:=congrArg List.length ek;rw[hA1,hA1]at this;exact this
 have X5:=Ext.new htl (.lst (ks.map fun p=>V.ref p.1));refine⟨tl,ks,rfl,SqL.of upd_same,fun z hz=>?_,by omega,fun r ks' r0 pk so=>?_⟩
 ·obtain⟨a,_,h1,h2⟩:=hk z hz;exact⟨a,SqT.of (X5 _ _ h1),SqL.of (X5 _ _ (e4 _ _ h2))⟩
 have X6:=X5.trans (Ext.new r0 (.lst (ks'.map fun p=>V.ref p.1)));have hr6:upd (upd H4 tl (.lst (ks.map fun p=>V.ref p.1))) r (.lst (ks'.map fun p=>V.ref p.1)) r=some (.lst (ks'.map fun p=>V.ref p.1)):=upd_same;have lk':ks'.length=ms.length:=by rw[pk.length_eq,lk]
 have E6:=(E3.trans e4).trans X6;have hk6:∀z∈ks',∃a∈as,upd (upd H4 tl (.lst (ks.map fun p=>V.ref p.1))) r (.lst (ks'.map fun p=>V.ref p.1)) z.1=some (.tup [.int z.2.length,.ref a])/\LsS (upd (upd H4 tl (.lst (ks.map fun p=>V.ref p.1))) r (.lst (ks'.map fun p=>V.ref p.1))) a z.2:=fun z hz=>by
  obtain⟨a,ha,h1,h2⟩:=hk z (pk.mem_iff.mp hz);exact⟨a,ha,X6 _ _ h1,X6 _ _ (e4 _ _ h2)⟩
 revert hr6 E6 hk6;generalize upd (upd H4 tl (.lst (ks.map fun p=>V.ref p.1))) r (.lst (ks'.map fun p=>V.ref p.1))=H6;intro hr6 E6 hk6;refine⟨r,rfl,⟨_,SqL.of hr6⟩,?_⟩;refine qAr (xs:=ks'.map fun p=>V.ref p.1) (fun j ys H7=>H7=H6/\∃bs:List Addr,ys=bs.map V.ref/\Paired (LsS H6) bs ((ks'.map Prod.snd).take j)) ⟨rfl,[],rfl,.nil⟩ (fun j ys H7 _ h=>by rw[h.1];exact SqL.of hr6) ?_ ?_
 ·rintro j v ys H7 hx ⟨rfl,bs,rfl,pb⟩;obtain⟨z,hz,rfl⟩:∃z,ks'[j]?=some z/\V.ref z.1=v:=by
   rw[hAk]at hx;cases e:ks'[j]? with
   |none=>rw[e]at hx;cases hx
   |some z=>rw[e]at hx;exact⟨z,rfl,hAt hx⟩
  have hj:=at_lt hz;obtain⟨a,ha,h1,h2⟩:=hk6 z (hAc hz);have lb:bs.length=_:=pb.length;rw[hAl,hA1]at lb;refine⟨z.1,_,rfl,SqT.of h1,rfl,_,_,rfl,_,_,rfl,rfl,Sle.set _ (Sle.set _ (Sle.refl _) (fun u z=>by cases z)) (fun u z=>by cases z),iteT (B:=False) ⟨_,rfl,?_,nxt (at_lt hx) ⟨rfl,bs++[a],by rw[hA4];rfl,?_⟩⟩⟩
  ·rw[hA1];exact qBi (by omega)
  ·rw[qAm (t:=z.2) (by rw[hAk,hz];rfl)];exact Paired.snoc pb h2
 rintro ys H7 ⟨rfl,bs,rfl,pb⟩ l hl;rw[hA1,hA7 (by rw[hA1];exact hA6 _)]at pb;have X8:=Ext.new hl (.lst (bs.map V.ref));refine q l (ks'.map Prod.snd) _ (E6.trans X8) (E6.none hl) ⟨bs,upd_same,Paired.mapP pb fun a t z=>X8 _ _ z⟩ ?_ (hAv.mpr so);rw[<-ek];exact pk.map _
end
noncomputable def whF(s i:Nat):List (Nat×Nat):=((List.range i).map fun k=>[(k,(k+1) % s),(k,s)]).flatten
noncomputable def cmF(w i:Nat):List (Nat×Nat):=((List.range i).map fun a=>(List.range (w - a)).map fun j=>(a,a+1+j)).flatten
noncomputable def prF(i:Nat):List (Nat×Nat):=((List.range i).map fun k=>[(k,(k+1) % 3),(3+k,3+(k+1) % 3),(k,k+3)]).flatten
noncomputable def rgF(n:Nat):List (Nat×Nat):=(List.range n).map fun k=>(k,(k+1) % n)
noncomputable def acF:List (Nat×Nat):=(List.range 4).map fun k=>(k,k+4)
noncomputable def qOb(way sp:Nat):List (Nat×Nat) :=
 if way<3 then whF sp sp++(if way=2/\3<sp/\sp<6 then [(0,2)] else [])
 else if way<5 then cmF way (way+1)
 else if way=5 then zA0
 else if way=7 then rgF 4++(rgF 4).map (fun p=>(4+p.1,4+p.2))++acF
 else if way=8 then rgF 8++acF
 else prF 3
noncomputable def zCn:List (List (Nat×Nat)×Nat×List Nat):=[([(0,1),(0,3),(1,2),(1,3),(2,0),(2,3)],4,[57,50,44]),([(0,1),(0,4),(1,2),(1,4),(2,3),(2,4),(3,0),(3,4)],5,[201,194,44,176]),([(0,1),(0,5),(1,2),(1,5),(2,3),(2,5),(3,4),(3,5),(4,0),(4,5)],6,[777,770,44,176,704]),([(0,1),(0,6),(1,2),(1,6),(2,3),(2,6),(3,4),(3,6),(4,5),(4,6),(5,0),(5,6)],7,[3081,3074,44,176,704,2816]),([(0,1),(0,4),(1,2),(1,4),(2,3),(2,4),(3,0),(3,4),(0,2)],5,[201,194,460,336,480]),([(0,1),(0,5),(1,2),(1,5),(2,3),(2,5),(3,4),(3,5),(4,0),(4,5),(0,2)],6,[777,770,1804,1936,1824,704]),([(0,1),(0,2),(0,3),(1,2),(1,3),(2,3)],4,[21,38,56]),([(0,1),(0,2),(0,3),(0,4),(1,2),(1,3),(1,4),(2,3),(2,4),(3,4)],5,[73,266,524,336,608,896]),([(0,3),(0,4),(0,5),(1,3),(1,4),(1,5),(2,3),(2,4),(2,5)],6,[325,390,360,432]),([(0,1),(3,4),(0,3),(1,2),(4,5),(1,4),(2,0),(5,3),(2,5)],6,[369,146,452,312]),([(0,1),(1,2),(2,3),(3,0),(4,5),(5,6),(6,7),(7,4),(0,4),(1,5),(2,6),(3,7)],8,[993,1570,3140,2440,240]),([(0,1),(1,2),(2,3),(3,4),(4,5),(5,6),(6,7),(7,0),(0,4),(1,5),(2,6),(3,7)],8,[737,1570,3140,2440,496])]
noncomputable def sols:List (List (Nat×Nat)):=zCn.map (·.1)
theorem qY3:∀way<9,∀j<4,qOb way (3+j)∈sols:=by decide +kernel
theorem qC1{α:Type}(f:Nat->List α)(i:Nat):((List.range (i+1)).map f).flatten=((List.range i).map f).flatten++f i:=by
 rw[hCc,hA4,List.flatten_append];simp
theorem qKl(s:Nat):∀i,(whF s i).length=2*i
 |0=>rfl
 |i+1=>by
  have ih:=qKl s i;unfold whF at ih ⊢;rw[qC1,hAj,ih];show 2*i+2=_;omega
theorem qKx:∀i,(prF i).length=3*i
 |0=>rfl
 |i+1=>by
  have ih:=qKx i;unfold prF at ih ⊢;rw[qC1,hAj,ih];show 3*i+3=_;omega
theorem qRs(w:Nat):∀i,(cmF w i).length<=w*i
 |0=>hAs _
 |i+1=>by
  have ih:=qRs w i;unfold cmF at ih ⊢;rw[qC1,hAj,hA1,hAp,Nat.mul_add];omega
abbrev PrA(H:Hp):Addr->Nat×Nat->Prop:=fun a f=>H a=some (.tup [iV f.1,iV f.2])
theorem qDh{α β:Type}{R:α->β->Prop}:∀ {a:List α} {b:List β} {c:List α} {d:List β},Paired R a b->Paired R c d->Paired R (a++c) (b++d)
 |_,_,_,_,.nil,h=>h
 |_,_,_,_,.cons r p,h=>.cons r (qDh p h)
theorem qTw{H:Hp}{p:Addr}{as bs:List Addr}{ts us:List (Nat×Nat)}(h1:Paired (PrA H) as ts)(h2:Paired (PrA H) bs us)(hp:H p=none):qB6 (upd H p (.lst (as.map V.ref++bs.map V.ref))) p (ts++us) :=
 ⟨as++bs,by rw[upd_same,hA4],Paired.mapP (qDh h1 h2) fun a t z=>(Ext.new hp _) _ _ z⟩
theorem qHp{H:Hp}{l l2:Addr}{as bs:List Addr}{ts us:List (Nat×Nat)}{Q:VK}(h1:H l=some (.lst (as.map V.ref)))(p1:Paired (PrA H) as ts)(h2:H l2=some (.lst (bs.map V.ref)))(p2:Paired (PrA H) bs us)(n:ts.length+us.length<=1000)(q:∀p,H p=none->qB6 (upd H p (.lst (as.map V.ref++bs.map V.ref))) p (ts++us)->Q (.ref p) (upd H p (.lst (as.map V.ref++bs.map V.ref)))):zCr (.ref l) (.ref l2) H Q :=
 ⟨l,l2,_,_,rfl,rfl,h1,h2,by rw[hA1,hA1,p1.length,p2.length];exact hBi (qAj n),fun p hp=>q p hp (qTw p1 p2 hp)⟩
section
variable{σ0:St}{g:TG}{tt:TT}{te:TE}{Q:List V->Hp->Prop}{H1:Hp}
theorem qDp{lo:Int}{n:Nat}(f:Nat->Nat×Nat)(n9:n<=100)
  (hs:∀j H,j<n->Ext H1 H->∀(C:V->Hp->Prop) (N:Hp->Prop),(∀T,H T=none->C (.ref T) (upd H T (.tup [iV (f j).1,iV (f j).2])))->g (.int (lo+(j:Int))) σ0 H fun σ2 H2=>Sle σ0 σ2/\tt σ2 H2 fun b H3=>if b=true then te σ2 H3 C else N H3)
  (hd:∀as H,Ext H1 H->Paired (PrA H) as ((List.range n).map f)->Q (as.map V.ref) H):qEw (Itr lo n) σ0 g tt te Q H1:=by
 refine qCg (fun i ys H=>Ext H1 H/\∃as:List Addr,ys=as.map V.ref/\Paired (PrA H) as ((List.range i).map f)) ⟨Ext.refl _,[],rfl,.nil⟩ ?_ ?_
 ·rintro i ys H hi ⟨e,as,rfl,pr⟩;have la:=pr.length;rw[hA1,hAp]at la;refine hs i H hi e _ _ fun T hT=>⟨by rw[hA1];exact qAj (by omega),nxt hi ⟨e.trans (Ext.new hT _),as++[T],by rw[hA4];rfl,?_⟩⟩
  rw[hCc,hA4];exact qDh (Paired.mapP pr fun a t z=>(Ext.new hT _) _ _ z) (.cons upd_same .nil)
 ·rintro ys H ⟨e,as,rfl,pr⟩;exact hd as H e pr
end
def qYs:Sp:=fun vs H Q _=>∃(d:Addr) (n:Int),vs=[.ref d]/\H d=some (.lst [.int n])/\∀(r:Addr) (ts:List (Nat×Nat)) (H':Hp),Dr d H H'->H r=none->qB6 H' r ts->ts∈sols->Q (.ref r) H'
section
variable{P:Program}{w:World}{K:PySem.W.Frag}{mg:Str->Option Value}{base:Heap}{f f1:Addr}{fd fd1:FuncData}
noncomputable abbrev soN:List Str:=["_law_draw","_law_way","_law_spokes","_law_ties","_law_k","_law_one","_law_rim"]
theorem qEh:FnScope soN ["_law_draw"] (qAd qSb):=⟨rfl,rfl,rfl,by decide +kernel,rfl,by decide +kernel,by decide +kernel⟩
theorem qZp(F:Fun K "_law_solid" "_law_solid" qSb f fd)(G1:Cl P w K mg base CX0 1 f1 fd1 ["_law_draw","_law_many"] qGc "_law_take")
  (mr:mg "range" = none):FnOk P w K mg base CX0 2 f fd ["_law_draw"] qYs:=by
 refine F.ok qEh (fun vs H Q E h=>?_) (fun cdv A outer s H vs Q E hr h=>?_)
 ·obtain⟨d,n,rfl,_⟩:=h;rfl
 obtain⟨d,n,rfl,hd,q⟩:=h;refine⟨_,(qAc (qAl (i:=1) qEh.nd rfl (Or.inl rfl) (qAt G1 hr rfl .nil qAs (qAa (pv 0) (qAa qAe qAb)))) (qAc (qAl (i:=2) qEh.nd rfl (Or.inl rfl) (qAk qA0 qAe (qAt G1 hr rfl .nil qAs (qAa (pv 0) (qAa qAe qAb))))) (qAc (qAl (i:=3) qEh.nd rfl (Or.inl rfl) (qA6 qAb)) (qAc (qBj (qB2 (qAp qQf (pv 1) qAe (qAx _)) (qAc (qBj (qA8 PassesOwn.never rfl (qAw rfl mr (qAa (pv 2) qAb)) (qAh (i:=4) qEh.nd rfl (Or.inl rfl)) (qAf (qAl (i:=3) qEh.nd rfl (Or.inl rfl) (qAk qC0 (pv 3) (qA6 (qAa (qBk (qAa (pv 4) (qAa (qAk qB9 (qAk qA0 (pv 4) qAe) (pv 2)) qAb))) (qAa (qBk (qAa (pv 4) (qAa (pv 2) qAb))) qAb)))))))) (qAf (qB2 (PW.pt (qP2 (qAp qDj (pv 1) qAe (qAx _)) (qP2 (qAp qTg (pv 2) qAe (qAx _)) (qP1 (qAp qQf (pv 2) qAe (qAx _)))))) (qAf (qC3 (qFv hBb hBr hBs qBx (pv 3) (qAa (qBk (qAa qAe (qAa qAe qAb))) qAb)))) qA4))) (qAf (qB2 (qAp qQf (pv 1) qAe (qAx _)) (qAf (qA8 PassesOwn.never rfl (qAw rfl mr (qAa (qAk qA0 (pv 1) qAe) qAb)) (qAh (i:=5) qEh.nd rfl (Or.inr rfl)) (qAf (qAl (i:=3) qEh.nd rfl (Or.inl rfl) (qAk qC0 (pv 3) (qBo (N:=soN) (sc:=qAd qSb) (N':=["_law_other","_law_one"]) (sub:=[none,some 5]) rfl rfl (CmpOk.of (by decide +kernel)) rfl (qI9 rfl mr (qAa (qAk qA0 (pv 5) qAe) (qAa (qAk qA0 (pv 1) qAe) qAb))) (fun C s H fp=>⟨qAh (i:=0) (by show(["_law_other","_law_one"]:List Str).Nodup;decide) rfl (Or.inl rfl),qAy,(qBk (qAa (pv 1) (qAa (pv 0) qAb)))⟩))))))) (qAf (qB2 (qAp qDj (pv 1) qAe (qAx _)) (qAf (qG7 (i:=3) (N:=soN) (sc:=qAd qSb) (N':=["_law_k"]) (sub:=[none]) rfl rfl (CmpOk.of (by decide +kernel)) rfl (qAw rfl mr (qAa qAe qAb)) (fun C s H fp=>⟨qAh (i:=0) (by show(["_law_k"]:List Str).Nodup;decide) rfl (Or.inl rfl),qAy,(qBk (qAa (qAk qIe (pv 0) qAe) (qAa (qAk qA0 qAe (qAk qB9 (pv 0) qAe)) qAb)))⟩) qEh.nd rfl (Or.inl rfl))) (qAf (qB2 (qAp qDj (pv 1) qAe (qAx _)) (qAc (qBj (qG7 (i:=6) (N:=soN) (sc:=qAd qSb) (N':=["_law_k"]) (sub:=[none]) rfl rfl (CmpOk.of (by decide +kernel)) rfl (qAw rfl mr (qAa qAe qAb)) (fun C s H fp=>⟨qAh (i:=0) (by show(["_law_k"]:List Str).Nodup;decide) rfl (Or.inl rfl),qAy,(qBk (qAa (pv 0) (qAa (qAk qB9 (qAk qA0 (pv 0) qAe) qAe) qAb)))⟩) qEh.nd rfl (Or.inl rfl))) (qAf (qAl (i:=3) qEh.nd rfl (Or.inl rfl) (qAk qC0 (qAk qC0 (pv 6) (qBo (N:=soN) (sc:=qAd qSb) (N':=["_law_one","_law_other"]) (sub:=[none,none]) rfl rfl (CmpOk.of (by decide +kernel)) rfl (qAq (pv 6)) (fun C s H fp=>⟨(show PG _ _ (zA1 K 2 _) from qGm rfl (qBf (qAh (i:=0) (by show(["_law_one","_law_other"]:List Str).Nodup;decide) rfl (Or.inl rfl)) (qBf (qAh (i:=1) (by show(["_law_one","_law_other"]:List Str).Nodup;decide) rfl (Or.inl rfl)) qD3))),qAy,(qBk (qAa (qAk qA0 qAe (pv 0)) (qAa (qAk qA0 qAe (pv 1)) qAb)))⟩))) (qBo (N:=soN) (sc:=qAd qSb) (N':=["_law_k"]) (sub:=[none]) rfl rfl (CmpOk.of (by decide +kernel)) rfl (qAw rfl mr (qAa qAe qAb)) (fun C s H fp=>⟨qAh (i:=0) (by show(["_law_k"]:List Str).Nodup;decide) rfl (Or.inl rfl),qAy,(qBk (qAa (pv 0) (qAa (qAk qA0 (pv 0) qAe) qAb)))⟩)))))) (qAf (qB2 (qAp qDj (pv 1) qAe (qAx _)) (qAf (qAl (i:=3) qEh.nd rfl (Or.inl rfl) (qAk qC0 (qBo (N:=soN) (sc:=qAd qSb) (N':=["_law_k"]) (sub:=[none]) rfl rfl (CmpOk.of (by decide +kernel)) rfl (qAw rfl mr (qAa qAe qAb)) (fun C s H fp=>⟨qAh (i:=0) (by show(["_law_k"]:List Str).Nodup;decide) rfl (Or.inl rfl),qAy,(qBk (qAa (pv 0) (qAa (qAk qB9 (qAk qA0 (pv 0) qAe) qAe) qAb)))⟩)) (qBo (N:=soN) (sc:=qAd qSb) (N':=["_law_k"]) (sub:=[none]) rfl rfl (CmpOk.of (by decide +kernel)) rfl (qAw rfl mr (qAa qAe qAb)) (fun C s H fp=>⟨qAh (i:=0) (by show(["_law_k"]:List Str).Nodup;decide) rfl (Or.inl rfl),qAy,(qBk (qAa (pv 0) (qAa (qAk qA0 (pv 0) qAe) qAb)))⟩))))) (qAf (qA8 PassesOwn.never rfl (qAw rfl mr (qAa qAe qAb)) (qAh (i:=4) qEh.nd rfl (Or.inl rfl)) (qAf (qAl (i:=3) qEh.nd rfl (Or.inl rfl) (qAk qC0 (pv 3) (qA6 (qAa (qBk (qAa (pv 4) (qAa (qAk qB9 (qAk qA0 (pv 4) qAe) qAe) qAb))) (qAa (qBk (qAa (qAk qA0 qAe (pv 4)) (qAa (qAk qA0 qAe (qAk qB9 (qAk qA0 (pv 4) qAe) qAe)) qAb))) (qAa (qBk (qAa (pv 4) (qAa (qAk qA0 (pv 4) qAe) qAb))) qAb))))))))))))))))))) (qAf (qAv (pv 3))))))),?_⟩;try dsimp only[Cx.wish,qCd]
 refine⟨_,rfl,d,n,9,rfl,hd,by decide,by decide,fun q1 way wa wb=>?_⟩;refine⟨_,rfl,d,q1,4,rfl,upd_same,by decide,by decide,fun q2 j ja jb=>?_⟩;rw[qE1];obtain⟨way,rfl⟩:=hCe wa;obtain⟨j,rfl⟩:=hCe ja;refine⟨_,_,rfl,rfl,?_⟩;have D1:Dr d H (upd H d (.lst [.int q2])):=(Dr.refl hd).take q2;have esp:(3:Int)+((j:Nat):Int)=((3+j:Nat):Int):=by omega
 dsimp only;rw[esp];obtain⟨sp,hsp⟩:∃sp,3+j=sp:=⟨_,rfl⟩;have si:=qY3 way (by omega) j (by omega);rw[hsp]at si ⊢;refine⟨hAs _,fun l0 hl0=>?_⟩;have D2:=D1.new hl0 (.lst []);have l00:=D1.none hl0;have l0d:=D1.ne hl0;have hl1:upd (upd H d (.lst [.int q2])) l0 (.lst []) l0=some (.lst []):=upd_same;revert D2 hl1;generalize upd (upd H d (.lst [.int q2])) l0 (.lst [])=H2;intro D2 hl1;have wlt:∀ {k:Nat},(decide (((way:Nat):Int)<((k:Nat):Int))=true)↔way<k:=by intro k;rw[decide_eq_true_iff];omega
 have weq:∀ {k:Nat},(decide (V.int ((way:Nat):Int)=V.int ((k:Nat):Int))=true)↔way=k:=by
  intro k;rw[decide_eq_true_iff];exact⟨fun z=>by have:=V.int.inj z;omega,fun z=>by rw[z]⟩
 refine⟨fun σ' H'=>∃(l:Addr) (x4 x5 x6:Option V),σ'=[some (.ref d),some (iV way),some (iV sp),some (.ref l),x4,x5,x6]/\Dr d H H'/\H l=none/\qB6 H' l (qOb way sp),?_,?_⟩
 case refine_2 =>
  rintro _ H3 ⟨l,x4,x5,x6,rfl,dr,l0n,kt⟩;exact⟨_,rfl,q l _ H3 dr l0n kt si⟩
 refine⟨_,rfl,_,_,rfl,rfl,_,rfl,qDa (fun c=>?_) (fun c=>?_)⟩
 ·have c':way<3:=(wlt (k:=3)).mp c;refine⟨fun σ' H'=>∃(l:Addr) (x4:Option V),σ'=[some (.ref d),some (iV way),some (iV sp),some (.ref l),x4,none,none]/\Dr d H H'/\H l=none/\l≠d/\qB6 H' l (whF sp sp),?_,?_⟩
  ·refine⟨_,rfl,(sp:Int),rfl,by omega,by omega,?_⟩;refine qBd (lo:=0) (n:=((sp:Int)).toNat) (fun i σ H'=>∃(l:Addr) (x4:Option V),σ=[some (.ref d),some (iV way),some (iV sp),some (.ref l),x4,none,none]/\Dr d H H'/\H l=none/\l≠d/\qB6 H' l (whF sp i)) ⟨l0,none,rfl,D2,l00,l0d,⟨[],hl1,.nil⟩⟩ ?_ ?_
   ·rintro i σ H' hi ⟨l,x4,rfl,dr,ln,ld,⟨as,hl,pr⟩⟩;rw[show(0+(i:Int))=((i:Nat):Int) by omega];have la:=pr.length;have lw:=qKl sp i;refine⟨_,rfl,_,rfl,_,rfl,_,_,rfl,rfl,_,rfl,_,_,rfl,rfl,(by show(0:Int)<_;omega),(by show 2<=sizeLine;decide),fun a1 h1=>?_⟩;refine⟨_,rfl,_,rfl,(by show 2<=sizeLine;decide),fun a2 h2=>?_⟩;refine⟨(by show 2<=sizeLine;decide),fun l2 hl2=>?_⟩;have ev:((i:Int)+1) % (sp:Int)=(((i+1) % sp:Nat):Int):=by rw[Int.natCast_emod,hDm];rfl
    dsimp only at h2 hl2 ⊢;rw[ev]at h2 hl2 ⊢;have X2:=Ext.new h2 (.tup [iV i,iV sp]);have X3:=Ext.new hl2 (.lst [.ref a1,.ref a2]);have X:=(Ext.new h1 (.tup [iV i,iV ((i+1) % sp)])).trans (X2.trans X3);refine qHp (bs:=[a1,a2]) (us:=[(i,(i+1) % sp),(i,sp)]) (X _ _ hl) (Paired.mapP pr fun a t z=>X _ _ z) upd_same (.cons ((X2.trans X3) _ _ upd_same) (.cons (X3 _ _ upd_same) .nil)) (by rw[lw];show 2*i+2<=1000;omega) fun p hp kc=>?_
    have ec:whF sp (i+1)=whF sp i++[(i,(i+1) % sp),(i,sp)]:=qC1 _ i;rw[<-ec]at kc;have dr5:=dr.ext X;exact⟨p,_,rfl,dr5.new hp _,dr5.none hp,dr5.ne hp,kc⟩
   ·rintro σ H' ⟨l,x4,rfl,dr,ln,ld,kt⟩;rw[hB1]at kt;exact⟨l,x4,rfl,dr,ln,ld,kt⟩
  rintro _ H3 ⟨l,x4,rfl,dr,ln,ld,⟨as,hl,pr⟩⟩;have la:=pr.length;rw[qKl]at la;have base:¬(way=2/\3<sp/\sp<6)->∃(l':Addr) (x4' x5 x6:Option V),[some (V.ref d),some (iV way),some (iV sp),some (V.ref l),x4,none,none]=[some (.ref d),some (iV way),some (iV sp),some (.ref l'),x4',x5,x6]/\Dr d H H3/\H l'=none/\qB6 H3 l' (qOb way sp):=fun no=>by
   refine⟨l,x4,none,none,rfl,dr,ln,?_⟩;unfold qOb;rw[if_pos c',if_neg no,hBd];exact⟨as,hl,pr⟩
  refine⟨_,rfl,rfl,_,rfl,qDa (fun c1=>?_) (fun c1=>iteF (base fun z=>c1 ((weq (k:=2)).mpr z.1)))⟩;refine⟨_,rfl,_,_,rfl,rfl,_,rfl,qDa (fun c2=>?_) (fun c2=>iteF (base fun z=>c2 (decide_eq_true (by show(3:Int)<_;omega))))⟩;refine⟨_,rfl,_,_,rfl,rfl,_,rfl,qDa (fun c3=>?_) (fun c3=>base fun z=>c3 (decide_eq_true (by show _<(6:Int);omega)))⟩;have c2':(3:Int)<(sp:Int):=of_decide_eq_true c2;have c3':(sp:Int)<6:=of_decide_eq_true c3;have c1':=(weq (k:=2)).mp c1;refine⟨_,rfl,.inl ⟨rfl,_,SqL.of hl⟩,(by show 2<=sizeLine;decide),fun a a0=>?_⟩;have X:=Ext.new a0 (.tup [V.int 0,V.int 2]);have al:l≠a:=qAi hl a0;refine⟨l,_,_,rfl,rfl,X _ _ hl,by rw[hA1];exact qAj (by omega),?_⟩;refine⟨l,_,_,_,rfl,(dr.ext X).over ln ld _,ln,?_⟩;unfold qOb;rw[if_pos c',if_pos ⟨c1',by omega,by omega⟩];refine⟨as++[a],by rw[upd_same,hA4];rfl,qDh (Paired.mapP pr fun b t z=>?_) (.cons ?_ .nil)⟩
  ·show upd _ _ _ b=_;rw[qAg (fun e=>by rw[e,hl]at z;cases z)];exact X _ _ z
  ·show upd _ _ _ a=_;rw[qAg (Ne.symm al)];exact upd_same
 have c':¬way<3:=fun z=>c ((wlt (k:=3)).mpr z)
 refine⟨_,rfl,_,_,rfl,rfl,_,rfl,qDa (fun c2=>?_) (fun c2=>?_)⟩
 ·have c2':way<5:=(wlt (k:=5)).mp c2;refine⟨_,rfl,_,_,rfl,rfl,((way:Int)+1),rfl,by omega,by omega,?_⟩;refine qBd (lo:=0) (n:=((way:Int)+1).toNat) (fun i σ H'=>∃(l:Addr) (x5:Option V),σ=[some (.ref d),some (iV way),some (iV sp),some (.ref l),none,x5,none]/\Dr d H H'/\H l=none/\l≠d/\qB6 H' l (cmF way i)) ⟨l0,none,rfl,D2,l00,l0d,⟨[],hl1,.nil⟩⟩ ?_ ?_
  ·rintro i σ H' hi ⟨l,x5,rfl,dr,ln,ld,⟨as,hl,pr⟩⟩;rw[show(0+(i:Int))=((i:Nat):Int) by omega];have la:=pr.length;have lc:=qRs way i;have li:way*i<=4*5:=Nat.mul_le_mul (by omega) (by omega);refine⟨_,rfl,_,rfl,_,_,rfl,rfl,_,rfl,_,_,rfl,rfl,_,_,rfl,⟨by omega,by omega,by omega,by omega⟩,?_⟩;have en:(((way:Int)+1) - ((i:Int)+1)).toNat=way - i:=by omega
   rw[en];refine qDp (fun j=>(i,i+1+j)) (by omega) (fun j H3 hj e3 C N cc=>?_) fun bs H3 e3 pb l2 hl2=>?_
   ·refine⟨Sle.set _ (Sle.refl _) (fun u z=>by cases z),iteT (B:=N H3) ⟨_,rfl,_,rfl,(by show 2<=sizeLine;decide),fun T hT=>?_⟩⟩;have:=cc T hT;rw[show iV (i+1+j)=V.int ((i:Int)+1+(j:Int)) from rfl]at this;exact this
   ·have X2:=Ext.new hl2 (.lst (bs.map V.ref));have X:=e3.trans X2;refine qHp (X _ _ hl) (Paired.mapP pr fun a t z=>X _ _ z) upd_same (Paired.mapP pb fun a t z=>X2 _ _ z) (by rw[hA1,hAp];omega) fun p hp kc=>?_
    have ec:cmF way (i+1)=cmF way i++(List.range (way - i)).map fun j=>(i,i+1+j):=qC1 _ i
    rw[<-ec]at kc;have dr5:=dr.ext X;exact⟨p,_,rfl,dr5.new hp _,dr5.none hp,dr5.ne hp,kc⟩
  ·rintro σ H' ⟨l,x5,rfl,dr,ln,ld,kt⟩;rw[show((way:Int)+1).toNat=way+1 by omega]at kt;refine⟨l,none,x5,none,rfl,dr,ln,?_⟩;unfold qOb;rw[if_neg c',if_pos c2'];exact kt
 have c2':¬way<5:=fun z=>c2 ((wlt (k:=5)).mpr z)
 have solve:∀(l:Addr) (x4 x5 x6:Option V) (H':Hp) (ts:List (Nat×Nat)),Dr d H H'->H l=none->qB6 H' l ts->qOb way sp=ts->∃(l':Addr) (x4' x5' x6':Option V),[some (V.ref d),some (iV way),some (iV sp),some (V.ref l),x4,x5,x6]=[some (.ref d),some (iV way),some (iV sp),some (.ref l'),x4',x5',x6']/\Dr d H H'/\H l'=none/\qB6 H' l' (qOb way sp):=fun l x4 x5 x6 H' ts dr ln kt e=>⟨l,x4,x5,x6,rfl,dr,ln,by rw[e];exact kt⟩
 refine⟨_,rfl,rfl,_,rfl,qDa (fun c3=>?_) (fun c3=>?_)⟩
 ·have c3':=(weq (k:=5)).mp c3;refine⟨9,rfl,by decide,by decide,?_⟩;refine qDp (fun j=>(j / 3,3+j % 3)) (by decide) (fun j H3 hj e3 C N cc=>?_) fun bs H3 e3 pb l2 hl2=>?_
  ·rw[show(0+(j:Int))=((j:Nat):Int) by omega];refine⟨Sle.set _ (Sle.refl _) (fun u z=>by cases z),iteT (B:=N H3) ⟨_,rfl,_,_,rfl,rfl,⟨by decide,by decide⟩,_,rfl,_,_,rfl,rfl,(by show(0:Int)<_;decide),_,_,rfl,rfl,(by show 2<=sizeLine;decide),fun T hT=>?_⟩⟩;have:=cc T hT;rw[show iV (j / 3)=V.int (((j:Nat):Int) / 3) from by show V.int _=V.int _;rw[Int.natCast_ediv];rfl,show iV (3+j % 3)=V.int (3+((j:Nat):Int) % 3) from by show V.int _=V.int _;rw[hDm,Int.natCast_emod];rfl]at this;exact this
  ·have dr5:=D2.ext e3;refine solve l2 _ _ _ _ zA0 (dr5.new hl2 _) (dr5.none hl2) ⟨bs,upd_same,Paired.mapP pb fun a t z=>(Ext.new hl2 _) _ _ z⟩ ?_;unfold qOb;rw[if_neg c',if_neg c2',if_pos c3']
 have c3':¬way=5:=fun z=>c3 ((weq (k:=5)).mpr z)
 have ring:∀n:Nat,∀j:Nat,V.int ((((j:Nat):Int)+1) % ((n:Nat):Int))=iV ((j+1) % n):=fun n j=>by show V.int _=V.int _;rw[Int.natCast_emod,hDm];rfl
 refine⟨_,rfl,rfl,_,rfl,qDa (fun c4=>?_) (fun c4=>?_)⟩
 ·have c4':=(weq (k:=7)).mp c4;refine⟨fun σ' H'=>∃r,σ'=[some (.ref d),some (iV way),some (iV sp),some (.ref l0),none,none,some (.ref r)]/\Ext H2 H'/\qB6 H' r (rgF 4),?_,?_⟩
  ·refine⟨4,rfl,by decide,by decide,?_⟩;refine qDp (fun j=>(j,(j+1) % 4)) (by decide) (fun j H3 hj e3 C N cc=>?_) fun bs H3 e3 pb l2 hl2=>?_
   ·rw[show(0+(j:Int))=((j:Nat):Int) by omega];refine⟨Sle.set _ (Sle.refl _) (fun u z=>by cases z),iteT (B:=N H3) ⟨_,rfl,_,rfl,_,_,rfl,rfl,_,_,rfl,rfl,(by show(0:Int)<_;decide),(by show 2<=sizeLine;decide),fun T hT=>?_⟩⟩;have:=cc T hT;rw[<-ring 4 j]at this;exact this
   ·exact⟨l2,rfl,e3.trans (Ext.new hl2 _),⟨bs,upd_same,Paired.mapP pb fun a t z=>(Ext.new hl2 _) _ _ z⟩⟩
  rintro _ H3 ⟨r,rfl,e3,⟨rs,hr3,pr3⟩⟩;have lr:=pr3.length;have lr4:rs.length=4:=by rw[lr];rfl
  have D3:=D2.ext e3;refine⟨_,rfl,_,rfl,r,rfl,⟨_,SqL.of hr3⟩,?_⟩;refine qAr (xs:=rs.map V.ref) (fun i ys H4=>Ext H3 H4/\∃as:List Addr,ys=as.map V.ref/\Paired (PrA H4) as (((rgF 4).take i).map fun p=>(4+p.1,4+p.2))) ⟨Ext.refl _,[],rfl,.nil⟩ (fun i ys H4 _ h=>SqL.of (h.1 _ _ hr3)) ?_ ?_
  ·rintro i v ys H4 hx ⟨e4,as,rfl,pa⟩;obtain⟨a,rfl,ha⟩:=qE8 hx;obtain⟨u,hu,hau⟩:=qBm pr3 ha;have la:=pa.length;rw[hA1,hAl]at la;have hi:=at_lt hx;rw[hA1]at hi;refine⟨a,_,rfl,SqT.of (e4 _ _ hau),rfl,_,_,rfl,_,_,rfl,rfl,Sle.set _ (Sle.set _ (Sle.refl _) (fun u z=>by cases z)) (fun u z=>by cases z),iteT (B:=False) ⟨_,rfl,_,_,rfl,rfl,_,rfl,_,_,rfl,rfl,(by show 2<=sizeLine;decide),fun T hT=>⟨by rw[hA1];exact qAj (by omega),nxt (at_lt hx) ⟨e4.trans (Ext.new hT _),as++[T],by rw[hA4];rfl,?_⟩⟩⟩⟩;rw[qAm hu,hA4];exact qDh (Paired.mapP pa fun a t z=>(Ext.new hT _) _ _ z) (.cons upd_same .nil)
  ·rintro ys H4 ⟨e4,as,rfl,pa⟩ l2 hl2;rw[hA1,lr,hA7 (hA6 _)]at pa;have X2:=Ext.new hl2 (.lst (as.map V.ref));have X4:=e4.trans X2;refine qHp (X4 _ _ hr3) (Paired.mapP pr3 fun a t z=>X4 _ _ z) upd_same (Paired.mapP pa fun a t z=>X2 _ _ z) (by decide) fun l3 hl3 kc=>?_
   obtain⟨cs,hc3,pc3⟩:=id kc;refine⟨4,rfl,by decide,by decide,?_⟩;refine qDp (fun j=>(j,j+4)) (by decide) (fun j H6 hj e6 C N cc=>?_) fun bs H6 e6 pb l4 hl4=>?_
   ·rw[show(0+(j:Int))=((j:Nat):Int) by omega];exact⟨Sle.set _ (Sle.refl _) (fun u z=>by cases z),iteT (B:=N H6) ⟨_,rfl,_,rfl,_,_,rfl,rfl,(by show 2<=sizeLine;decide),fun T hT=>cc T hT⟩⟩
   ·have X5:=Ext.new hl4 (.lst (bs.map V.ref));have X6:=e6.trans X5;have D6:=((D3.ext X4).ext (Ext.new hl3 _)).ext X6;refine qHp (X6 _ _ hc3) (Paired.mapP pc3 fun a t z=>X6 _ _ z) upd_same (Paired.mapP pb fun a t z=>X5 _ _ z) (by decide) fun p hp kc=>?_
    refine solve p _ _ _ _ _ (D6.new hp _) (D6.none hp) kc ?_;unfold qOb;rw[if_neg c',if_neg c2',if_neg c3',if_pos c4'];rfl
 have c4':¬way=7:=fun z=>c4 ((weq (k:=7)).mpr z)
 refine⟨_,rfl,rfl,_,rfl,qDa (fun c5=>?_) (fun c5=>?_)⟩
 ·have c5':=(weq (k:=8)).mp c5;refine⟨8,rfl,by decide,by decide,?_⟩;refine qDp (fun j=>(j,(j+1) % 8)) (by decide) (fun j H3 hj e3 C N cc=>?_) fun as H3 e3 pa l2 hl2=>?_
  ·rw[show(0+(j:Int))=((j:Nat):Int) by omega];refine⟨Sle.set _ (Sle.refl _) (fun u z=>by cases z),iteT (B:=N H3) ⟨_,rfl,_,rfl,_,_,rfl,rfl,_,_,rfl,rfl,(by show(0:Int)<_;decide),(by show 2<=sizeLine;decide),fun T hT=>?_⟩⟩;have:=cc T hT;rw[<-ring 8 j]at this;exact this
  ·have X2:=Ext.new hl2 (.lst (as.map V.ref));have D5:=D2.ext (e3.trans X2);refine⟨4,rfl,by decide,by decide,?_⟩;refine qDp (fun j=>(j,j+4)) (by decide) (fun j H6 hj e6 C N cc=>?_) fun bs H6 e6 pb l4 hl4=>?_
   ·rw[show(0+(j:Int))=((j:Nat):Int) by omega];exact⟨Sle.set _ (Sle.refl _) (fun u z=>by cases z),iteT (B:=N H6) ⟨_,rfl,_,rfl,_,_,rfl,rfl,(by show 2<=sizeLine;decide),fun T hT=>cc T hT⟩⟩
   ·have X5:=Ext.new hl4 (.lst (bs.map V.ref));have X6:=e6.trans X5;have D6:=D5.ext X6;refine qHp (X6 _ _ upd_same) (Paired.mapP pa fun a t z=>X6 _ _ (X2 _ _ z)) upd_same (Paired.mapP pb fun a t z=>X5 _ _ z) (by decide) fun p hp kc=>?_
    refine solve p _ _ _ _ _ (D6.new hp _) (D6.none hp) kc ?_;unfold qOb;rw[if_neg c',if_neg c2',if_neg c3',if_neg c4',if_pos c5'];rfl
 have c5':¬way=8:=fun z=>c5 ((weq (k:=8)).mpr z)
 refine⟨3,rfl,by decide,by decide,?_⟩;refine qBd (lo:=0) (n:=(3:Int).toNat) (fun i σ H'=>∃(l:Addr) (x4:Option V),σ=[some (.ref d),some (iV way),some (iV sp),some (.ref l),x4,none,none]/\Dr d H H'/\H l=none/\l≠d/\qB6 H' l (prF i)) ⟨l0,none,rfl,D2,l00,l0d,⟨[],hl1,.nil⟩⟩ ?_ ?_
 ·rintro i σ H' hi ⟨l,x4,rfl,dr,ln,ld,⟨as,hl,pr⟩⟩;have hi':i<3:=hi;rw[show(0+(i:Int))=((i:Nat):Int) by omega];have la:=pr.length;rw[qKx]at la;refine⟨_,rfl,_,rfl,_,rfl,_,_,rfl,rfl,_,_,rfl,rfl,(by show(0:Int)<_;decide),(by show 2<=sizeLine;decide),fun a1 h1=>?_⟩;refine⟨_,rfl,_,_,rfl,rfl,_,rfl,_,_,rfl,rfl,_,_,rfl,rfl,(by show(0:Int)<_;decide),_,_,rfl,rfl,(by show 2<=sizeLine;decide),fun a2 h2=>?_⟩;refine⟨_,rfl,_,rfl,_,_,rfl,rfl,(by show 2<=sizeLine;decide),fun a3 h3=>?_⟩;refine⟨(by show 3<=sizeLine;decide),fun l2 hl2=>?_⟩;have r1:=ring 3 i;have r2:V.int (3+(((i:Nat):Int)+1) % 3)=iV (3+(i+1) % 3):=by
   have:=V.int.inj r1;show V.int _=V.int _;rw[hDm,<-this];rfl
  dsimp only at h2 h3 hl2 ⊢;have v1:V.int ((((i:Nat):Int)+1) % 3)=iV ((i+1) % 3):=r1;rw[v1]at h2 h3 hl2 ⊢;rw[r2]at h3 hl2 ⊢;have X2:=Ext.new h2 (.tup [V.int (3+((i:Nat):Int)),iV (3+(i+1) % 3)]);have X3:=Ext.new h3 (.tup [iV i,V.int (((i:Nat):Int)+3)]);have X4:=Ext.new hl2 (.lst [.ref a1,.ref a2,.ref a3]);have X:=(Ext.new h1 (.tup [iV i,iV ((i+1) % 3)])).trans (X2.trans (X3.trans X4));refine qHp (bs:=[a1,a2,a3]) (us:=[(i,(i+1) % 3),(3+i,3+(i+1) % 3),(i,i+3)]) (X _ _ hl) (Paired.mapP pr fun a t z=>X _ _ z) upd_same (.cons ((X2.trans (X3.trans X4)) _ _ upd_same) (.cons ((X3.trans X4) _ _ upd_same) (.cons (X4 _ _ upd_same) .nil))) (by rw[qKx];show 3*i+3<=1000;omega) fun p hp kc=>?_
  have ec:prF (i+1)=prF i++[(i,(i+1) % 3),(3+i,3+(i+1) % 3),(i,i+3)]:=qC1 _ i;rw[<-ec]at kc;have dr5:=dr.ext X;exact⟨p,_,rfl,dr5.new hp _,dr5.none hp,dr5.ne hp,kc⟩
 ·rintro σ H' ⟨l,x4,rfl,dr,ln,ld,kt⟩;refine solve l _ _ _ H' _ dr ln kt ?_;unfold qOb;rw[if_neg c',if_neg c2',if_neg c3',if_neg c4',if_neg c5'];rfl
end
def Clo(U:List Nat):Prop:=∀z,Spn U z->z∈U
theorem Clo.kp(N:List Nat)(x:Nat):Clo (kpF N x):=fun z hz=>by
 obtain⟨a,b⟩:=(qOw N x z).mp hz;unfold kpF;rw[hAb,qBc,decide_eq_true_iff];exact⟨a,b⟩
theorem qXy{U:List Nat}(h:Clo U)(t:Nat):t∈leF U↔Lst U t:=by
 have ms:∀z,z∈smF U↔Spn U z/\z≠0:=fun z=>by
  unfold smF;rw[hAb];simp only[Bool.not_eq_true',decide_eq_false_iff_not];exact⟨fun a=>⟨.mem a.1,a.2⟩,fun a=>⟨h z a.1,a.2⟩⟩
 unfold leF;rw[hAb,ms,decide_eq_true_iff,List.eq_nil_iff_forall_not_mem];unfold Lst leI;constructor
 ·rintro⟨⟨a,b⟩,c⟩;refine⟨a,b,fun o ho oz oi=>?_⟩;by_cases e:o=t
  ·exact e
  ·refine(c o (hAb.mpr ⟨(ms o).mpr ⟨ho,oz⟩,?_⟩)).elim;rw[decide_eq_false e,decide_eq_true (qFf oi)];rfl
 ·rintro⟨a,b,c⟩;refine⟨⟨a,b⟩,fun o ho=>?_⟩;obtain⟨h1,h2⟩:=hAb.mp ho;obtain⟨h3,h4⟩:=(ms o).mp h1;simp only[hB4,Bool.not_eq_true',decide_eq_false_iff_not,decide_eq_true_eq]at h2;exact h2.1 (c o h3 h4 (qM4 h2.2))
theorem qVu{a b:Nat}(h:Inn b a):Inn (a^^^b) a:=fun i hi=>by
 rw[hAu]at hi;cases e:a.testBit i with
 |true=>rfl
 |false =>
  rw[e,Bool.false_xor]at hi;have:=h i hi;rw[e]at this;exact this
theorem qVo{U:List Nat}(h:Clo U)(u:Nat):Spn (leF U) u↔Spn U u:=by
 constructor
 ·exact fun a=>a.mono fun x hx=>((qXy h x).mp hx).1
 ·have:∀n u,u<n->Spn U u->Spn (leF U) u:=by
   intro n
   induction n with
   |zero=>intro u hu;exact absurd hu (hCx _)
   |succ n ih =>
    intro u hu hs;by_cases u0:u=0
    ·subst u0;exact .zero
    obtain⟨z,hz,nz,zi,mn⟩:=qIj U (u+1) u (hBv _) (h u hs) u0;have lz:z∈leF U:=(qXy h z).mpr ⟨.mem hz,nz,fun o ho oz oi=>mn o (h o ho) oz oi⟩;have le:=qM5 (qVu zi);have ne:u^^^z≠u:=fun e=>nz (by
     have:=congrArg (u^^^·) e
     simpa [<-hCn] using this)
    have:=ih (u^^^z) (by omega) (hs.xor (.mem hz));have r:=this.xor (.mem lz)
    rwa [hCn,hEb,Nat.xor_zero]at r
  exact this (u+1) u (hBv _)
structure Pair2(m:Nat)(T B:List Nat):Prop where
 lT:∀x∈T,x<2^m
 lB:∀x∈B,x<2^m
 b:∀y,Spn B y↔y<2^m/\∀t∈T,dot m y t=false
 t:∀y,Spn T y↔y<2^m/\∀b∈B,dot m y b=false
theorem qOt(l:List Nat):∃S:List Nat,S.Perm l/\S.Pairwise fun a b=>lo a<=lo b:=by
 refine⟨l.mergeSort (fun a b=>decide (lo a<=lo b)),List.mergeSort_perm _ _,?_⟩;have:=List.pairwise_mergeSort (le:=fun a b=>decide (lo a<=lo b)) (fun a b c h1 h2=>decide_eq_true (hB2 (of_decide_eq_true h1) (of_decide_eq_true h2))) (fun a b=>by
  rcases Nat.le_total (lo a) (lo b) with z|z
  ·rw[decide_eq_true z];rfl
  ·rw[decide_eq_true z,Bool.or_true]) l
 exact this.imp fun h=>of_decide_eq_true h
theorem qSn{a b:List Nat}(na:(sumF a).Nodup)(nb:(sumF b).Nodup)(h:∀y,Spn a y↔Spn b y):a.length=b.length:=by
 have p:(sumF a).Perm (sumF b):=(hCp na nb).mpr fun z=>by rw[qBc,qBc];exact h z
 have:=p.length_eq;rw[qCn,qCn]at this;rcases hE2 a.length b.length with z|z|z
 ·exact absurd this (hAn (hE6 (by decide) z))
 ·exact z
 ·exact absurd this.symm (hAn (hE6 (by decide) z))
theorem qVz{a b:List Nat}(na:(sumF a).Nodup)(h:∀y,Spn a y->Spn b y)(l:a.length=b.length)(y:Nat)(hy:Spn b y):Spn a y:=by
 apply hCi;intro no;have nm:y∉sumF a:=fun z=>no ((qBc a y).mp z)
 have:=hCy (l₁:=y :: sumF a) (l₂:=sumF b) (hBp.mpr ⟨nm,na⟩) fun z hz=>by
  rcases hAg.mp hz with rfl|hz
  ·exact(qBc b z).mpr hy
  ·exact(qBc b z).mpr (h z ((qBc a z).mp hz))
 rw[hBc,qCn,qCn,l]at this;omega
theorem qOq{m:Nat}{S xs:List Nat}(lt:∀x∈xs,x<2^m)(p:S.Perm (redL xs))(o:S.Pairwise fun a b=>lo a<=lo b)(y:Nat):Spn xs y↔Spn S y:=by
 have h:Stp m S:=⟨xs,lt,p,o⟩;obtain⟨_,e⟩:=qCp (m:=m) xs lt;have key:∀y,Spn (xs.map (rv m)) y↔Spn (S.map (rv m)) y:=fun y=>by rw[<-qCj (xs.map (rv m)),<-e,qCb ((p.map (rv m)).symm)]
 constructor
 ·intro s;have l:=Spn.lt lt s;exact(qA3 h.lt l).mp ((key _).mp ((qA3 lt l).mpr s))
 ·intro s;have l:=Spn.lt h.lt s;exact(qA3 lt l).mp ((key _).mpr ((qA3 h.lt l).mpr s))
theorem qTf{m:Nat}{T B:List Nat}(lT:∀x∈T,x<2^m)(lB:∀x∈B,x<2^m)(nT:(sumF T).Nodup)(nB:(sumF B).Nodup)(len:T.length+B.length=m)(o:∀b∈B,∀t∈T,dot m b t=false):Pair2 m T B:=by
 obtain⟨S,pS,oS⟩:=qOt (redL T);obtain⟨R,pR,oR⟩:=qOt (redL (crLA S m));have st:Stp m S:=⟨T,lT,pS,oS⟩;have c:=crs st pR oR;have sp:=qOq lT pS oS;have l1:T.length=S.length:=qSn nT st.sumNd sp;have l2:=qXt st pR;have hB:∀y,Spn B y->Spn R y:=fun y hy=>hy.mono fun x hx=>(c.i x).mpr ⟨lB x hx,fun s hs=>qBz (o x hx) ((sp s).mpr (.mem hs))⟩
 have hR:=qVz nB hB (by omega);have iR:∀y,Spn R y↔Spn B y:=fun y=>⟨hR y,hB y⟩
 refine⟨lT,lB,fun y=>?_,fun y=>?_⟩
 ·rw[<-iR,c.i];exact and_congr_right fun _=>⟨fun h t ht=>qBz h ((sp t).mp (.mem ht)),fun h s hs=>qBz h ((sp s).mpr (.mem hs))⟩
 ·rw[sp,c.ii];exact and_congr_right fun _=>⟨fun h t ht=>qBz h ((iR t).mpr (.mem ht)),fun h s hs=>qBz h ((iR s).mp (.mem hs))⟩
noncomputable def qL(m:Nat)(T B:List Nat):List Nat:=(leF (sumF T)).filter fun x=>decide ((hpF (leF (kpF B x)++sgF ((2^m - 1)^^^x))).length=1)
theorem qMt{m:Nat}{T B:List Nat}(m12:m<=12)(h:Pair2 m T B)(x:Nat):x∈qL m T B↔WaP B m x/\QuP B m x:=by
 unfold qL;rw[hAb,decide_eq_true_iff,qXj];have w:Lst T x↔WaP B m x:=by
  unfold Lst WaP;constructor
  ·rintro⟨a,b,d⟩;exact⟨(h.t x).mp a,b,fun o ho=>d o ((h.t o).mpr ho)⟩
  ·rintro⟨a,b,d⟩;exact⟨(h.t x).mpr a,b,fun o ho=>d o ((h.t o).mp ho)⟩
 rw[w];refine and_congr_right fun wa=>?_
 have cl:=Clo.kp B x;refine qPx m12 wa.1.1 (fun u hu=>Spn.lt h.lB hu) (fun u=>?_) fun t ht=>?_
 ·rw[qVo cl,qOw]
 ·obtain⟨a,b,c⟩:=(qXy cl t).mp ht;exact⟨.mem ht,b,fun o ho=>c o ((qVo cl o).mp ho)⟩
noncomputable def okP(m:Nat)(T B:List Nat):Bool:=T.all (fun x=>decide (x<2^m)) && B.all (fun x=>decide (x<2^m)) && decide ((sumF T).Nodup) && decide ((sumF B).Nodup) && decide (T.length+B.length=m) && B.all fun b=>T.all fun t=>!dot m b t
theorem qEm{m:Nat}{T B:List Nat}(h:okP m T B=true):Pair2 m T B:=by
 unfold okP at h;simp only[hB4,hD0,decide_eq_true_eq,Bool.not_eq_true']at h;obtain⟨⟨⟨⟨⟨h1,h2⟩,h3⟩,h4⟩,h5⟩,h6⟩:=h;exact qTf h1 h2 h3 h4 h5 h6
theorem zCp:okP 7 [85,102,120] [97,82,52,120]=true/\(∀i∈List.range 7,2<=((qL 7 [85,102,120] [97,82,52,120]).filter fun x=>x.testBit i).length)/\(∃i∈List.range 7,3<=((qL 7 [85,102,120] [97,82,52,120]).filter fun x=>x.testBit i).length)/\(qL 7 [85,102,120] [97,82,52,120]).Nodup:=by
 decide +kernel
theorem zDc:okP 7 [97,82,52,120] [85,102,120]=true/\(∀i∈List.range 7,2<=((qL 7 [97,82,52,120] [85,102,120]).filter fun x=>x.testBit i).length)/\(∃i∈List.range 7,3<=((qL 7 [97,82,52,120] [85,102,120]).filter fun x=>x.testBit i).length)/\(qL 7 [97,82,52,120] [85,102,120]).Nodup:=by
 decide +kernel
theorem zDb:okP 10 [73,266,524,336,608,896] [15,113,402,676]=true/\(∀i∈List.range 10,2<=((qL 10 [73,266,524,336,608,896] [15,113,402,676]).filter fun x=>x.testBit i).length)/\(∃i∈List.range 10,3<=((qL 10 [73,266,524,336,608,896] [15,113,402,676]).filter fun x=>x.testBit i).length)/\(qL 10 [73,266,524,336,608,896] [15,113,402,676]).Nodup:=by
 decide +kernel
theorem zDa:okP 9 [325,390,360,432] [7,56,448,73,146]=true/\(∀i∈List.range 9,2<=((qL 9 [325,390,360,432] [7,56,448,73,146]).filter fun x=>x.testBit i).length)/\(∃i∈List.range 9,3<=((qL 9 [325,390,360,432] [7,56,448,73,146]).filter fun x=>x.testBit i).length)/\(qL 9 [325,390,360,432] [7,56,448,73,146]).Nodup:=by
 decide +kernel
theorem qHs(f:Nat->Bool):∀m:Nat,xsum m f=decide (((List.range m).filter f).length % 2=1)
 |0=>rfl
 |m+1=>by
  unfold xsum;rw[qHs f m,hCc,hBm,hAj];cases e:f m with
  |true =>
   rw[show(List.filter f [m]).length=1 by simp[e]];by_cases c:((List.range m).filter f).length % 2=1
   ·rw[decide_eq_true c,decide_eq_false (by omega)];rfl
   ·rw[decide_eq_false c,decide_eq_true (by omega)];rfl
  |false =>
   rw[show(List.filter f [m]).length=0 by simp[e],Nat.add_zero,Bool.xor_false]
structure Ord2(m:Nat)(os:List Nat):Prop where
 l:os.length=m
 nd:os.Nodup
 lt:∀x∈os,x<m
section
variable{m:Nat}{os:List Nat}
theorem Ord2.map(h:Ord2 m os):(List.range m).map (fun k=>os.getD k 0)=os:=by
 refine List.ext_getElem (by rw[hA1,hAp,h.l]) fun i h1 h2=>?_
 simp[hAe,hA2 h2]
theorem Ord2.perm(h:Ord2 m os):os.Perm (List.range m):=by
 refine(hCp h.nd hC5).mpr fun x=>⟨fun hx=>hAf.mpr (h.lt x hx),fun hx=>?_⟩
 apply hCi;intro no;have:=hCy (l₁:=x :: os) (l₂:=List.range m) (hBp.mpr ⟨no,h.nd⟩) fun z hz=>by
  rcases hAg.mp hz with rfl|hz
  ·exact hx
  ·exact hAf.mpr (h.lt z hz)
 rw[hBc,hAp,h.l]at this;omega
theorem Ord2.onto(h:Ord2 m os){i:Nat}(hi:i<m):∃k,k<m/\os.getD k 0=i:=by
 have:i∈(List.range m).map fun k=>os.getD k 0:=by rw[h.map];exact h.perm.mem_iff.mpr (hAf.mpr hi)
 obtain⟨k,hk,e⟩:=hA3.mp this;exact⟨k,hAf.mp hk,e⟩
theorem Ord2.at(h:Ord2 m os){k:Nat}(hk:k<m):os.getD k 0<m:=by
 rw[hAe,hA2 (by rw[h.l];exact hk)];exact h.lt _ (hBn _)
theorem Ord2.inj(h:Ord2 m os){k j:Nat}(hk:k<m)(hj:j<m)(e:os.getD k 0=os.getD j 0):k=j:=by
 rw[hAe,hAe,hA2 (by rw[h.l];exact hk),hA2 (by rw[h.l];exact hj)]at e;exact(hDq h.nd).mp e
noncomputable def pbF(os:List Nat)(m x:Nat):Nat:=mxM os x m
theorem qQd(h:Ord2 m os)(x i:Nat):(pbF os m x).testBit i=true↔∃k,k<m/\x.testBit k=true/\os.getD k 0=i:=by
 unfold pbF mxM;rw[qCi,decide_eq_true_iff]
 ·constructor
  ·intro z;obtain⟨k,hk,e⟩:=hA3.mp z;obtain⟨h1,h2⟩:=hAb.mp hk;exact⟨k,hAf.mp h1,h2,e⟩
  ·rintro⟨k,hk,hb,e⟩;exact hA3.mpr ⟨k,hAb.mpr ⟨hAf.mpr hk,hb⟩,e⟩
 ·have sub:(((List.range m).filter fun k=>x.testBit k).map fun k=>os.getD k 0).Sublist ((List.range m).map fun k=>os.getD k 0):=hB9.map _;rw[h.map]at sub;exact h.nd.sublist sub
theorem qDg(h:Ord2 m os)(x:Nat){k:Nat}(hk:k<m):(pbF os m x).testBit (os.getD k 0)=x.testBit k:=by
 rw[hCu,qQd h];constructor
 ·rintro⟨j,hj,hb,e⟩;rw[<-h.inj hj hk e];exact hb
 ·exact fun hb=>⟨k,hk,hb,rfl⟩
theorem qD5(h:Ord2 m os)(x:Nat):pbF os m x<2^m:=hBh _ fun i hi=>by
 cases e:(pbF os m x).testBit i with
 |false=>rfl
 |true =>
  obtain⟨k,hk,_,e2⟩:=(qQd h x i).mp e;have:=h.at hk;omega
noncomputable def qbF(os:List Nat)(m y:Nat):Nat:=(((List.range m).filter fun k=>y.testBit (os.getD k 0)).map fun l=>2^l).sum
theorem qPz(y k:Nat):(qbF os m y).testBit k=(decide (k<m) && y.testBit (os.getD k 0)):=by
 unfold qbF;rw[qCi _ (hC5.sublist hB9),hCu,decide_eq_true_iff,hAb,hAf,hB4,decide_eq_true_iff]
theorem qPy(y:Nat):qbF os m y<2^m:=hBh _ fun i hi=>by
 rw[qPz,decide_eq_false (by omega)];rfl
theorem qM6{m x i:Nat}(h:x<2^m)(hi:m<=i):x.testBit i=false:=Nat.testBit_lt_two_pow (hAm h (hBt (by decide) hi))
theorem qD9{m x y:Nat}(hx:x<2^m)(hy:y<2^m)(h:∀i,i<m->x.testBit i=y.testBit i):x=y:=hAo fun i=>by
 by_cases c:i<m
 ·exact h i c
 ·rw[qM6 hx (by omega),qM6 hy (by omega)]
theorem qGl(h:Ord2 m os){x:Nat}(hx:x<2^m):qbF os m (pbF os m x)=x:=qD9 (qPy _) hx fun i hi=>by
 rw[qPz,decide_eq_true hi,hBg,qDg h x hi]
theorem qWx(h:Ord2 m os){y:Nat}(hy:y<2^m):pbF os m (qbF os m y)=y:=qD9 (qD5 h _) hy fun i hi=>by
 obtain⟨k,hk,rfl⟩:=h.onto hi;rw[qDg h _ hk,qPz,decide_eq_true hk,hBg]
theorem qU1(h:Ord2 m os)(x y:Nat):pbF os m (x&&&y)=pbF os m x&&&pbF os m y:=qD9 (qD5 h _) (hC8 Nat.and_le_left (qD5 h _)) fun i hi=>by
 obtain⟨k,hk,rfl⟩:=h.onto hi;rw[hBa,qDg h _ hk,qDg h _ hk,qDg h _ hk,hBa]
theorem qJa(h:Ord2 m os)(x y:Nat):pbF os m (x^^^y)=pbF os m x^^^pbF os m y:=qD9 (qD5 h _) (hC9 (qD5 h _) (qD5 h _)) fun i hi=>by
 obtain⟨k,hk,rfl⟩:=h.onto hi;rw[hAu,qDg h _ hk,qDg h _ hk,qDg h _ hk,hAu]
theorem pb_zero(h:Ord2 m os):pbF os m 0=0:=qD9 (qD5 h _) (hDj (by decide)) fun i hi=>by
 obtain⟨k,hk,rfl⟩:=h.onto hi;rw[qDg h _ hk,hB6,hB6]
theorem zBy(h:Ord2 m os){x:Nat}(hx:x<2^m)(e:pbF os m x=0):x=0:=by
 have a:=qGl h hx;have b:=qGl h (x:=0) (hDj (by decide));rw[pb_zero h]at b;rw[e,b]at a;exact a.symm
theorem qMn(h:Ord2 m os){x y:Nat}(hx:x<2^m):Inn (pbF os m x) (pbF os m y)↔Inn x y:=by
 constructor
 ·intro z i hi;by_cases c:i<m
  ·have:=z (os.getD i 0) (by rw[qDg h _ c];exact hi)
   rwa [qDg h _ c]at this
  ·rw[qM6 hx (by omega)]at hi;cases hi
 ·intro z i hi;obtain⟨k,hk,hb,rfl⟩:=(qQd h x i).mp hi;rw[qDg h _ hk];exact z k hb
theorem qMo(h:Ord2 m os)(x y:Nat):dot m (pbF os m x) (pbF os m y)=dot m x y:=by
 unfold dot;rw[qHs,qHs];have e:((List.range m).filter fun j=>(pbF os m x).testBit j && (pbF os m y).testBit j).length=((List.range m).filter fun j=>x.testBit j && y.testBit j).length:=by
  rw[<-(h.perm.filter _).length_eq];have key:∀g:Nat->Bool,(os.filter g).length=((List.range m).filter fun k=>g (os.getD k 0)).length:=fun g=>by
   have e:=congrArg (fun l=>(List.filter g l).length) h.map;rw[<-e];show((List.map _ (List.range m)).filter g).length=_;rw[List.filter_map,hA1];rfl
  rw[key];congr 1;refine List.filter_congr fun k hk=>?_
  have hk':=hAf.mp hk;show((pbF os m x).testBit (os.getD k 0) && (pbF os m y).testBit (os.getD k 0))=_;rw[qDg h x hk',qDg h y hk']
 rw[e]
end
structure Mvd(m:Nat)(os N B:List Nat):Prop where
 o:Ord2 m os
 lN:∀y,Spn N y->y<2^m
 lB:∀y,Spn B y->y<2^m
 s:∀y,y<2^m->(Spn N (pbF os m y)↔Spn B y)
section
variable{m:Nat}{os N B:List Nat}
theorem qVf(N:List Nat)(m x:Nat):(∀s∈N,dot m x s=false)↔∀s,Spn N s->dot m x s=false:=⟨fun h s hs=>qBz h hs,fun h s hs=>h s (.mem hs)⟩
theorem Mvd.ev(h:Mvd m os N B){x:Nat}:(∀s∈N,dot m (pbF os m x) s=false)↔∀s∈B,dot m x s=false:=by
 rw[qVf,qVf];constructor
 ·intro z s hs;have:=z (pbF os m s) ((h.s s (h.lB s hs)).mpr hs)
  rwa [qMo h.o]at this
 ·intro z s hs;have l:=h.lN s hs;have e:=qWx h.o l;rw[<-e,qMo h.o];exact z _ ((h.s _ (qPy _)).mp (by rw[e];exact hs))
theorem Mvd.wall(h:Mvd m os N B){x:Nat}(hx:x<2^m):WaP N m (pbF os m x)↔WaP B m x:=by
 unfold WaP;have z0:pbF os m x≠0↔x≠0:=by
  constructor
  ·intro z e;subst e;exact z (pb_zero h.o)
  ·intro z e;exact z (zBy h.o hx e)
 rw[h.ev,z0];refine and_congr (and_congr_left fun _=>⟨fun _=>hx,fun _=>qD5 h.o x⟩) (and_congr_right fun _=>⟨fun a o ho oz oi=>?_,fun a o ho oz oi=>?_⟩)
 ·have p:=a (pbF os m o) ⟨qD5 h.o o,h.ev.mpr ho.2⟩ (fun e=>oz (zBy h.o ho.1 e)) ((qMn h.o ho.1).mpr oi);rw[<-qGl h.o ho.1,p,qGl h.o hx]
 ·have e:=qWx h.o ho.1;rw[<-e]at ho oz oi ⊢;have p:=a (qbF os m o) ⟨qPy _,h.ev.mp ho.2⟩ (fun z=>oz (by rw[z,pb_zero h.o])) ((qMn h.o (qPy _)).mp oi);rw[p]
theorem Mvd.quiet(h:Mvd m os N B){x:Nat}(hx:x<2^m):QuP N m (pbF os m x)↔QuP B m x:=by
 unfold QuP;have pl:∀ {w},w<2^m->(2^m - 1)^^^w<2^m:=fun hw=>hC9 (by have:=hDj (n:=m) (by decide:0<2);omega) hw
 have full:pbF os m (2^m - 1)=2^m - 1:=qD9 (qD5 h.o _) (by have:=hDj (n:=m) (by decide:0<2);omega) fun i hi=>by
  obtain⟨k,hk,rfl⟩:=h.o.onto hi;rw[qDg h.o _ hk,qCu,qCu,decide_eq_true hk,decide_eq_true hi]
 have dz:∀u w:Nat,u<2^m->u&&&w=0->Inn u ((2^m - 1)^^^w):=fun u w hu e i hi=>by
  rw[hAu,qCu];have c:i<m:=by
   apply hCi;intro c;rw[qM6 hu (by omega)]at hi;cases hi
  cases e2:w.testBit i with
  |false=>rw[decide_eq_true c];rfl
  |true=>exact(qBl e hi e2).elim
 have iw:∀ {w z:Nat},w<2^m->Inn z ((2^m - 1)^^^w)->z<2^m:=fun hw hz=>hC8 (qM5 hz) (pl hw)
 symm
 refine qHq.tr (φ:=pbF os m) (ψ:=qbF os m) (fun u hu=>dz u x (h.lB u hu.1) hu.2) (fun u hu=>dz u _ (h.lN u hu.1) hu.2) (fun z hz=>?_) (fun z hz=>?_) (fun u z _ _=>qU1 h.o u z) (fun u hu=>?_) (pb_zero h.o) ?_
 ·have zl:=iw hx hz;refine⟨?_,qGl h.o zl⟩;have:=(qMn h.o (y:=(2^m - 1)^^^x) zl).mpr hz
  rwa [qJa h.o,full]at this
 ·have zl:=iw (qD5 h.o x) hz;have e:=qWx h.o zl;refine⟨?_,e⟩;refine(qMn h.o (qPy _)).mp ?_;rw[e,qJa h.o,full];exact hz
 ·have ul:=iw hx hu;rw[<-qU1 h.o];refine and_congr (h.s u ul).symm ⟨fun z=>by rw[z,pb_zero h.o],fun z=>?_⟩;have l:u&&&x<2^m:=hC8 Nat.and_le_left ul;exact zBy h.o l z
 ·rw[qJa h.o,full]
end
theorem qI0{m:Nat}{T S R:List Nat}(lt:∀x∈T,x<2^m)(pS:S.Perm (redL T))(oS:S.Pairwise fun a b=>lo a<=lo b)(pR:R.Perm (redL (crLA S m)))(oR:R.Pairwise fun a b=>lo a<=lo b):Stp m R/\∀y,Spn R y↔y<2^m/\∀t∈T,dot m y t=false:=by
 have c:=crs ⟨T,lt,pS,oS⟩ pR oR;have sp:=qFz lt pS oS;exact⟨c.st,fun y=>(c.i y).trans (and_congr_right fun _=>⟨fun h t ht=>qBz h ((sp t).mp (.mem ht)),fun h s hs=>qBz h ((sp s).mpr (.mem hs))⟩)⟩
theorem qOs(k:Key):∀(l:List (Key×Key)) (i j:Nat),(stF k i l).testBit j=(decide (i<=j) && match l[j - i]? with|some t=>atK k t|none=>false)
 |[],i,j=>by show(0:Nat).testBit j=_;rw[hB6];simp
 |t :: l,i,j=>by
  show((if atK k t=true then 2^i else 0)^^^stF k (i+1) l).testBit j=_;rw[hAu,qOs k l (i+1) j];by_cases c:i=j
  ·subst c;rw[Nat.sub_self,decide_eq_true (hA6 _),decide_eq_false (by omega),Bool.false_and,Bool.xor_false,hBg];show _=atK k t;split
   ·rename_i z;rw[hB0,decide_eq_true rfl,z]
   ·rename_i z;rw[hB6];simp at z;exact z.symm
  ·have e:(if atK k t=true then 2^i else 0).testBit j=false:=by
    split
    ·rw[hB0,decide_eq_false c]
    ·exact hB6 _
   rw[e,Bool.false_xor];by_cases c2:i<=j
   ·have c3:i+1<=j:=by omega
    rw[decide_eq_true c2,decide_eq_true c3,show j - i=(j - (i+1))+1 by omega,List.getElem?_cons_succ]
   ·rw[decide_eq_false c2,decide_eq_false (by omega)];rfl
theorem qOr(ts:List (Nat×Nat))(k:Key){j:Nat}{t:Nat×Nat}(h:ts[j]?=some t):(stK (nK ts) k).testBit j=atK k (Sum.inl (t.1:Int),Sum.inl (t.2:Int)):=by
 unfold stK;rw[qOs,decide_eq_true (hAs _),Nat.sub_zero,show(nK ts)[j]?=some (Sum.inl (t.1:Int),Sum.inl (t.2:Int)) by unfold nK;rw[hAk,h];rfl];rfl
noncomputable def qD6(ts0:List (Nat×Nat))(os:List Nat):List (Nat×Nat):=os.map fun i=>ts0.getD i (0,0)
theorem qD4{ts0:List (Nat×Nat)}{os:List Nat}{m:Nat}(l:ts0.length=m)(o:Ord2 m os)(k:Key):pbF os m (stK (nK (qD6 ts0 os)) k)=stK (nK ts0) k:=by
 have lk:=qLv (nK ts0) k;rw[qFq,l]at lk;refine qD9 (qD5 o _) lk fun i hi=>?_
 obtain⟨j,hj,rfl⟩:=o.onto hi;rw[qDg o _ hj];have h1:ts0[os.getD j 0]?=some (ts0.getD (os.getD j 0) (0,0)):=by
  rw[hAe (l:=ts0),hA2 (by rw[l];exact hi)];rfl
 have h2:(qD6 ts0 os)[j]?=some (ts0.getD (os.getD j 0) (0,0)):=by
  unfold qD6;rw[hAk,hA2 (by rw[o.l];exact hj),hAe (l:=os),hA2 (by rw[o.l];exact hj)];rfl
 rw[qOr _ k h1,qOr _ k h2]
structure SolOk(ts0:List (Nat×Nat))(n:Nat)(T B S0:List Nat):Prop where
 m12:ts0.length<=12
 b:∀t∈ts0,t.1<n/\t.2<n
 e:(List.range n).map (fun p=>stK (nK ts0) (Sum.inl ((p:Nat):Int)))=S0
 nd:S0.Nodup
 nz:0∉S0
 ok:okP ts0.length T B=true
 q:∀x,x∈qL ts0.length T B↔x∈S0
 t:∀t∈T,t∈S0
 s:∀s∈S0,s∈sumF T
noncomputable def qSa(ts:List (Nat×Nat))(n:Nat):List Nat:=(List.range n).map fun p=>stK (nK ts) (Sum.inl ((p:Nat):Int))
noncomputable def zCo(e:List (Nat×Nat)×Nat×List Nat):Bool:=decide (e.1.length<=12) && e.1.all (fun t=>decide (t.1<e.2.1/\t.2<e.2.1)) && decide (qSa e.1 e.2.1).Nodup && decide (0∉qSa e.1 e.2.1) && okP e.1.length (qSa e.1 e.2.1).dropLast e.2.2 && (qL e.1.length (qSa e.1 e.2.1).dropLast e.2.2).all (fun x=>decide (x∈qSa e.1 e.2.1)) && (qSa e.1 e.2.1).all (fun x=>decide (x∈qL e.1.length (qSa e.1 e.2.1).dropLast e.2.2)) && (qSa e.1 e.2.1).all fun s=>decide (s∈sumF (qSa e.1 e.2.1).dropLast)
theorem qV5:zCn.all zCo=true:=by decide +kernel
theorem qV6:∀ts∈sols,∃n T B S0,SolOk ts n T B S0:=by
 intro ts h;obtain⟨e,he,rfl⟩:=hA3.mp h;have c:=hD0.mp qV5 e he;unfold zCo at c;simp only[hB4,hD0,decide_eq_true_eq]at c;obtain⟨⟨⟨⟨⟨⟨⟨h1,h2⟩,h3⟩,h4⟩,h5⟩,h6⟩,h7⟩,h8⟩:=c;exact⟨e.2.1,_,e.2.2,qSa e.1 e.2.1,h1,h2,rfl,h3,h4,h5,fun x=>⟨h6 x,h7 x⟩,fun t ht=>(List.dropLast_sublist _).subset ht,h8⟩
section
variable{ts0:List (Nat×Nat)}{n:Nat}{T B S0 os N:List Nat}
theorem SolOk.mvd(h:SolOk ts0 n T B S0)(o:Ord2 ts0.length os)(hN:∀y,Spn N y↔y<2^ts0.length/\∀k,dot ts0.length y (stK (nK (qD6 ts0 os)) k)=false):Mvd ts0.length os B N:=by
 have p:=qEm h.ok;refine⟨o,fun y hy=>Spn.lt p.lB hy,fun y hy=>((hN y).mp hy).1,fun y hy=>?_⟩;rw[p.b,hN];have all:(∀t∈T,dot ts0.length (pbF os ts0.length y) t=false)↔∀k,dot ts0.length (pbF os ts0.length y) (stK (nK ts0) k)=false:=by
  constructor
  ·intro z k;rcases st_pt h.b k with e|⟨p,hp,rfl⟩
   ·rw[e];exact qGy _ _
   ·have:stK (nK ts0) (Sum.inl ((p:Nat):Int))∈S0:=by rw[<-h.e];exact hA3.mpr ⟨p,hAf.mpr hp,rfl⟩
    exact qBz z ((qBc T _).mp (h.s _ this))
  ·intro z t ht;have:=h.t t ht;rw[<-h.e]at this;obtain⟨p,_,rfl⟩:=hA3.mp this;exact z _
 rw[all];refine and_congr ⟨fun _=>hy,fun _=>qD5 o _⟩ ⟨fun z k=>?_,fun z k=>?_⟩
 ·have:=z k;rw[<-qD4 rfl o k,qMo o]at this;exact this
 ·rw[<-qD4 rfl o k,qMo o];exact z k
theorem SolOk.star(h:SolOk ts0 n T B S0)(o:Ord2 ts0.length os){p:Nat}(hp:p<n):stK (nK (qD6 ts0 os)) (Sum.inl ((p:Nat):Int))≠0:=fun z=>h.nz (by
 rw[<-h.e];refine hA3.mpr ⟨p,hAf.mpr hp,?_⟩;rw[<-qD4 rfl o,z,pb_zero o])
theorem qXg{ts0:List (Nat×Nat)}(o:Ord2 ts0.length os){t:Nat×Nat}(ht:t∈qD6 ts0 os):t∈ts0:=by
 obtain⟨i,hi,rfl⟩:=hA3.mp ht;have:=o.lt i hi;rw[hAe,hA2 this];exact hBn _
theorem SolOk.quiet(h:SolOk ts0 n T B S0)(o:Ord2 ts0.length os)(hN:∀y,Spn N y↔y<2^ts0.length/\∀k,dot ts0.length y (stK (nK (qD6 ts0 os)) k)=false){ks:List Key}(ndk:ks.Nodup)(ck:∀k,stK (nK (qD6 ts0 os)) k≠0->k∈ks)(ek:∀k∈ks,∃t∈nK (qD6 ts0 os),k=t.1\/k=t.2) :
  (ks.map (stK (nK (qD6 ts0 os)))).Nodup/\∀x,x∈ks.map (stK (nK (qD6 ts0 os)))↔WaP N ts0.length x/\QuP N ts0.length x:=by
 have mv:=h.mvd o hN;have p:=qEm h.ok;have pt:∀k∈ks,∃p,p<n/\k=Sum.inl ((p:Nat):Int):=fun k hk=>by
  obtain⟨t,ht,e⟩:=ek k hk;obtain⟨u,hu,rfl⟩:=hA3.mp ht;have:=h.b u (qXg o hu);rcases e with rfl|rfl
  ·exact⟨u.1,this.1,rfl⟩
  ·exact⟨u.2,this.2,rfl⟩
 constructor
 ·refine hAv.mpr (ndk.imp_of_mem fun {a b} ha hb ne e=>ne ?_);obtain⟨p1,h1,rfl⟩:=pt a ha;obtain⟨p2,h2,rfl⟩:=pt b hb;have e2:stK (nK ts0) (Sum.inl ((p1:Nat):Int))=stK (nK ts0) (Sum.inl ((p2:Nat):Int)):=by rw[<-qD4 rfl o,<-qD4 rfl o,e]
  have nd:=h.nd;rw[<-h.e]at nd;have g:∀ {p:Nat},p<n->((List.range n).map fun p=>stK (nK ts0) (Sum.inl ((p:Nat):Int)))[p]?=some (stK (nK ts0) (Sum.inl ((p:Nat):Int))):=fun hp=>by rw[hAk,hCs hp];rfl
  have hl:((List.range n).map fun p=>stK (nK ts0) (Sum.inl ((p:Nat):Int))).length=n:=by rw[hA1,hAp]
  have a1:=(hAq.mp (g h1));have a2:=(hAq.mp (g h2));have:p1=p2:=(hDq (h₀:=a1.1) (h₁:=a2.1) nd).mp (a1.2.trans (e2.trans a2.2.symm));rw[this]
 ·intro x;have lt:∀k,stK (nK (qD6 ts0 os)) k<2^ts0.length:=fun k=>by
   have:=qLv (nK (qD6 ts0 os)) k
   rwa [qFq,show(qD6 ts0 os).length=ts0.length by unfold qD6;rw[hA1,o.l]]at this
  have key:x<2^ts0.length->(x∈ks.map (stK (nK (qD6 ts0 os)))↔pbF os ts0.length x∈S0):=fun hx=>by
   rw[<-h.e];constructor
   ·intro z;obtain⟨k,hk,rfl⟩:=hA3.mp z;obtain⟨p,hp,rfl⟩:=pt k hk;exact hA3.mpr ⟨p,hAf.mpr hp,(qD4 rfl o _).symm⟩
   ·intro z;obtain⟨p,hp,e⟩:=hA3.mp z;have hp':=hAf.mp hp;refine hA3.mpr ⟨_,ck _ (h.star o hp'),?_⟩;rw[<-qD4 rfl o]at e;have:=congrArg (qbF os ts0.length) e
    rwa [qGl o (lt _),qGl o hx]at this
  constructor
  ·intro z;obtain⟨k,hk,e⟩:=hA3.mp z;have hx:x<2^ts0.length:=by rw[<-e];exact lt k
   have:=(qMt h.m12 p _).mp ((h.q _).mpr ((key hx).mp z));exact⟨(mv.wall hx).mp this.1,(mv.quiet hx).mp this.2⟩
  ·rintro⟨a,b⟩;have hx:=a.1.1;exact(key hx).mpr ((h.q _).mp ((qMt h.m12 p _).mpr ⟨(mv.wall hx).mpr a,(mv.quiet hx).mpr b⟩))
end
theorem qYq{m:Nat}{os:List Nat}(o:Ord2 m os){L:List Nat}(z:Nat):Spn (L.map fun s=>mxM os s m) z↔∃y,Spn L y/\z=pbF os m y:=by
 constructor
 ·intro h
  induction h with
  |zero=>exact⟨0,.zero,(pb_zero o).symm⟩
  |add mm _ ih =>
   obtain⟨s,hs,rfl⟩:=hA3.mp mm;obtain⟨y,hy,rfl⟩:=ih;exact⟨s^^^y,(Spn.mem hs).xor hy,(qJa o s y).symm⟩
 ·rintro⟨y,hy,rfl⟩
  induction hy with
  |zero=>rw[pb_zero o];exact .zero
  |add mm _ ih =>
   rw[qJa o];exact(Spn.mem (hA3.mpr ⟨_,mm,rfl⟩)).xor ih
def zAq(m:Nat)(T B:List Nat):Prop:=okP m T B=true/\(∀i∈List.range m,2<=((qL m T B).filter fun x=>x.testBit i).length)/\(∃i∈List.range m,3<=((qL m T B).filter fun x=>x.testBit i).length)/\(qL m T B).Nodup
theorem qV7{m:Nat}{R:List Nat}(h:SmR m R):∃T B,zAq m T B/\∀y,Spn B y↔Spn R y:=by
 rcases h with ⟨rfl,S,pS,oS,pR,oR⟩|⟨rfl,h⟩|⟨rfl,h⟩|⟨rfl,h⟩
 ·refine⟨_,_,zCp,fun y=>?_⟩;rw[(qEm zCp.1).b];exact((qI0 (m:=7) (by decide) pS oS pR oR).2 y).symm
 ·exact⟨_,_,zDc,h⟩
 ·refine⟨_,_,zDb,fun y=>?_⟩;rw[<-h y];exact⟨fun z=>z.mono (by
   have:∀x∈[15,113,402,676],x∈([15,113,402,676,840]:List Nat):=by decide
   exact fun x hx=>.mem (this x hx)),fun z=>z.mono (by
   have:∀x∈[15,113,402,676,840],x∈sumF [15,113,402,676]:=by decide +kernel
   exact fun x hx=>(qBc _ x).mp (this x hx))⟩
 ·refine⟨_,_,zDa,fun y=>?_⟩;rw[<-h y];exact⟨fun z=>z.mono (by
   have:∀x∈[7,56,448,73,146],x∈([7,56,448,73,146,292]:List Nat):=by decide
   exact fun x hx=>.mem (this x hx)),fun z=>z.mono (by
   have:∀x∈[7,56,448,73,146,292],x∈sumF [7,56,448,73,146]:=by decide +kernel
   exact fun x hx=>(qBc _ x).mp (this x hx))⟩
theorem zAo{names:List Str}(nd:names.Nodup){m:Nat}(lm:names.length=m)(m12:m<=12){T B N os:List Nat}(ok:zAq m T B)(o:Ord2 m os)(mv:Mvd m os N B){F:List (List Str)}(mF:∀row,row∈F↔∃x,WaP N m x/\QuP N m x/\row=rowL names x){k:Nat}(hk:k<m){nm:Str}(hn:names[os.getD k 0]?=some nm) :
  ((qL m T B).filter fun x=>x.testBit k).length<=(F.filter fun row=>decide (nm∈row)).length:=by
 have p:=qEm ok.1;have lt:∀x∈qL m T B,x<2^m:=fun x hx=>((qMt m12 p x).mp hx).1.1.1
 rw[<-hA1 (f:=fun x=>rowL names (pbF os m x))];have nd2:(((qL m T B).filter fun x=>x.testBit k).map fun x=>rowL names (pbF os m x)).Nodup:=hAv.mpr ((ok.2.2.2.sublist hB9).imp_of_mem fun {a b} ha hb ne e=>ne (by
  have la:=lt a (hAb.mp ha).1;have lb:=lt b (hAb.mp hb).1;have:=qMd nd (by rw[lm];exact qD5 o a) (by rw[lm];exact qD5 o b) e;rw[<-qGl o la,this,qGl o lb]))
 refine hCy nd2 fun row hr=>?_
 obtain⟨x,hx,rfl⟩:=hA3.mp hr;obtain⟨h1,h2⟩:=hAb.mp hx;have:=(qMt m12 p x).mp h1;have hxl:=lt x h1;refine hAb.mpr ⟨(mF _).mpr ⟨_,(mv.wall hxl).mpr this.1,(mv.quiet hxl).mpr this.2,rfl⟩,decide_eq_true ?_⟩;rw[qDe nd hn,qDg o _ hk];exact h2
end My
namespace L2
open PySem PySem.Spec PyProof.Rows
section
variable{X:Cx}
theorem qRw(hc:X.calm=true):qB7 X (.builtin "min") (fun xs H Q=>∃(p:Addr) (ns:List Int),xs=[.ref p]/\SqL X.K H p (ns.map V.int)/\ns≠[]/\∀M,M∈ns->(∀a,a∈ns->M<=a)->Q (.int M) H):=by
 intro pins s σ H xs us Q I r h;obtain⟨p,ns,rfl,hq,ne,q⟩:=h;obtain⟨u,rfl,rx⟩:=qCv r;cases rx;obtain⟨its,rv,pl,hz⟩:=I.list hq;obtain⟨ys,rfl,rfl⟩:=qLd rv;have e:(ys.map (fun p=>Value.int p.1 p.2)).toArray=intItems ys.toArray:=by unfold intItems;simp
 have pl':=pl.isList;rw[e]at pl';have hsz:0<ys.toArray.size:=by
  rw[hAd];cases ys with
  |nil=>exact absurd rfl ne
  |cons _ _=>exact Nat.succ_pos _
 refine min_intList (I.ok.hd hc) pl' hsz fun v h' tk hv hk=>?_
 obtain⟨t,rfl⟩:=intItems_at hv;obtain⟨h1,h2⟩:=argBest_lt (numAt ys.toArray) (ys.toArray.size - 1);refine⟨.int _,H,I.kept (t':=tk) hk,⟨t,rfl⟩,q _ ?_ fun a ha=>?_⟩
 ·rw[numAt_eq];exact getD_mem (by rw[hA1,hB3];exact hC8 h1 (Nat.sub_lt hsz Nat.one_pos))
 ·obtain⟨j,hj,rfl⟩:=mem_getD (by simpa using ha:a∈ys.toArray.toList.map (·.1));rw[hA1,hB3]at hj;rw[<-numAt_eq];exact h2 j (Nat.le_sub_one_of_lt hj)
end
end L2
namespace My
open PySem L2
noncomputable def cnF(F:List (List Str))(n:Str):Nat:=(F.filter fun row=>decide (n∈row)).length
def qY1:Sp:=fun vs H Q _=>∃(pf pn:Addr) (ps:List (Addr×List Str)) (names:List Str),vs=[.ref pf,.ref pn]/\H pf=some (.lst (ps.map fun p=>V.ref p.1))/\(∀p∈ps,LsS H p.1 p.2)/\ps.length<=4096/\LsS H pn names/\names.length<=12 /\
 ∀r H',Ext H H'->H r=none->LsN H' r (names.map (cnF (ps.map Prod.snd)))->Q (.ref r) H'
section
variable{P:Program}{w:World}{K:PySem.W.Frag}{mg:Str->Option Value}{base:Heap}{f f1:Addr}{fd fd1:FuncData}
theorem zBi:FnScope ["_law_found","_law_names_here"] ["_law_found","_law_names_here"] (qAd qZc):=⟨rfl,rfl,rfl,by decide +kernel,rfl,by decide +kernel,by decide +kernel⟩
theorem qZ1(F:Fun K "_law_counts" "_law_counts" qZc f fd)(ml:mg "len" = none):FnOk P w K mg base CX0 1 f fd ["_law_found","_law_names_here"] qY1:=by
 refine F.ok zBi (fun vs H Q E h=>?_) (fun cdv A outer s H vs Q E hr h=>?_)
 ·obtain⟨pf,pn,ps,names,rfl,_⟩:=h;rfl
 obtain⟨pf,pn,ps,names,rfl,hf,hps,lps,hn,ln,q⟩:=h;refine⟨_,(qAf (qAv (qBo (N:=["_law_found","_law_names_here"]) (sc:=qAd qZc) (N':=["_law_name","_law_found"]) (sub:=[none,some 0]) rfl rfl (CmpOk.of (by decide +kernel)) rfl (qAq (pv 1)) (fun C s H fp=>⟨qAh (i:=0) (by show(["_law_name","_law_found"]:List Str).Nodup;decide) rfl (Or.inr rfl),qAy,(qAn (show qB7 _ (.builtin "len") (qNx K) from qAo) rfl ml hBf (qAa (qBo (N:=["_law_name","_law_found"]) (sc:=qZe _ (qAd qZc)) (N':=["_law_row_here","_law_name"]) (sub:=[none,some 0]) rfl rfl (CmpOk.of (by decide +kernel)) rfl (show PI _ _ _ (qXp K (qR9 1)) from qAq (pv 1)) (fun C s H fp=>⟨qAh (i:=0) (by show(["_law_row_here","_law_name"]:List Str).Nodup;decide) rfl (Or.inl rfl),(qB1 (qAp (show OpR _ (compareOp .In) (rIn K false) from qJd) (pv 1) (pv 0) (by with_unfolding_all rfl))),(pv 0)⟩)) qAb))⟩)))),?_⟩;try dsimp only[Cx.wish,qCd]
 refine⟨_,rfl,pn,rfl,⟨_,SqL.of hn⟩,?_⟩;refine qAr (xs:=names.map V.str) (fun j ys H2=>Ext H H2/\ys=((names.take j).map (cnF (ps.map Prod.snd))).map iV) ⟨Ext.refl _,rfl⟩ (fun j ys H2 _ h=>SqL.of (h.1 _ _ hn)) ?_ ?_
 ·rintro j v ys H2 hx ⟨e2,rfl⟩;obtain⟨n,rfl,hj⟩:=qDz hx;have jl:=at_lt hj;have hf2:=e2 _ _ hf;refine⟨Sle.set _ (Sle.refl _) (fun u z=>by cases z),iteT (B:=False) ?_⟩;refine⟨_,rfl,pf,rfl,⟨_,SqL.of hf2⟩,?_⟩;refine qAr (xs:=ps.map fun p=>V.ref p.1) (fun i ys H3=>H3=H2/\ys=((ps.take i).filter fun p=>decide (n∈p.2)).map fun p=>V.ref p.1) ⟨rfl,rfl⟩ (fun i ys H3 _ h=>by rw[h.1];exact SqL.of hf2) ?_ ?_
  ·rintro i v ys H3 hx3 ⟨rfl,rfl⟩;rw[hAk]at hx3;cases hp:ps[i]? with
   |none=>rw[hp]at hx3;cases hx3
   |some p =>
    rw[hp]at hx3;have ev:V.ref p.1=v:=hAt hx3;subst ev;have hi:=at_lt hp;have hi':i<(ps.map fun p=>V.ref p.1).length:=by rw[hA1];exact hi
    have hrow:=e2 _ _ (hps p (hAc hp));have st:((ps.take (i+1)).filter fun p=>decide (n∈p.2))=((ps.take i).filter fun p=>decide (n∈p.2))++(if n∈p.2 then [p] else []):=by
     rw[qAm hp,hBm];by_cases c:n∈p.2 <;> simp[c]
    have lf:=hB5 (fun p:Addr×List Str=>decide (n∈p.2)) (ps.take i);rw[hAl]at lf;refine⟨Sle.set _ (Sle.refl _) (fun u z=>by cases z),_,rfl,_,rfl,p.1,_,rfl,.inl (SqL.of hrow),rfl,flat_strs _,_,rfl,?_⟩;rw[if_neg (by decide),qFg];refine qDa (fun c=>?_) (fun c=>?_)
    ·have c':n∈p.2:=of_decide_eq_true c;refine⟨_,rfl,by rw[hA1];exact qBi (by omega),nxt hi' ⟨rfl,?_⟩⟩;rw[st,if_pos c',hA4];rfl
    ·have c':¬n∈p.2:=fun z=>c (decide_eq_true z)
     exact nxt hi' ⟨rfl,by rw[st,if_neg c',hBd]⟩
  ·rintro ys H3 ⟨rfl,rfl⟩ l hl;rw[hA1,hA7 (hA6 _)];refine⟨l,_,rfl,.inl (SqL.of upd_same),?_,nxt (at_lt hx) ⟨e2.trans (Ext.new hl _),?_⟩⟩
   ·rw[hA1,hA1,hAl];exact qAj (by omega)
   ·rw[qAm hj,hA4,hA4,hA1];congr 1;show [V.int _]=[V.int _];unfold cnF;rw[List.filter_map,hA1];rfl
 ·rintro ys H2 ⟨e2,rfl⟩ l hl;rw[hA1,hA7 (hA6 _)];exact q l _ (e2.trans (Ext.new hl _)) (e2.none hl) upd_same
end
theorem qMq{names:List Str}{ms:List Nat}(tok:TabOk names (ms.map (rowL names)))(lt:∀x∈ms,x<2^names.length)(u:Nat):Spn (numL names (ms.map (rowL names))) u↔Spn ms u:=by
 obtain⟨g,e⟩:=tok.num;have e2:(ms.map (rowL names)).map (qAu names)=ms.map (rv names.length):=by
  rw[hAr];exact hBq fun x _=>qDt (qDv tok.rn)
 rw[e2]at e;have key:∀u,u<2^names.length->(Spn (numL names (ms.map (rowL names))) u↔Spn ms u):=fun u ul=>by
  rw[<-qA3 (fun y hy=>(g y hy).1) ul,e,qCj,qA3 lt ul]
 exact⟨fun h=>(key u (Spn.lt (fun y hy=>(g y hy).1) h)).mp h,fun h=>(key u (Spn.lt lt h)).mpr h⟩
theorem WaP.congr{N N':List Nat}(h:∀u,Spn N u↔Spn N' u){m x:Nat}:WaP N m x↔WaP N' m x:=by
 have e:∀o,(o<2^m/\∀s∈N,dot m o s=false)↔(o<2^m/\∀s∈N',dot m o s=false):=fun o=>and_congr_right fun _=>⟨fun z s hs=>qBz z ((h s).mpr (.mem hs)),fun z s hs=>qBz z ((h s).mp (.mem hs))⟩
 unfold WaP;simp only[e]
theorem qPj{names:List Str}(nd:names.Nodup){S N W:List Nat}{F D:List (List Str)}(sp:∀u,Spn N u↔Spn S u)(ndW:W.Nodup)(mW:∀x,x∈W↔WaP S names.length x/\QuP S names.length x)(pD:D.Perm (W.map (rowL names)))(soD:RwO D)
  (soF:RwO F) (ndF:F.Nodup) (mF:∀row,row∈F↔∃x,WaP N names.length x/\QuP N names.length x/\row=rowL names x):F=D:=by
 refine qL9 soF soD ((hCp ndF (pD.nodup_iff.mpr (hAv.mpr (ndW.imp_of_mem fun {a b} ha hb ne e=>ne (qMd nd ((mW a).mp ha).1.1.1 ((mW b).mp hb).1.1.1 e))))).mpr fun row=>?_);rw[mF,pD.mem_iff,hA3];constructor
 ·rintro⟨x,h1,h2,rfl⟩;exact⟨x,(mW x).mpr ⟨(WaP.congr sp).mp h1,(QuP.congr sp).mp h2⟩,rfl⟩
 ·rintro⟨x,hx,rfl⟩;obtain⟨h1,h2⟩:=(mW x).mp hx;exact⟨x,(WaP.congr sp).mpr h1,(QuP.congr sp).mpr h2,rfl⟩
theorem qPr{names:List Str}(rn:qNg names)(x:Nat):qNg (rowL names x):=by
 unfold rowL;refine List.pairwise_filterMap.mpr (hBz (fun {i j} hi hj lt b hb b' hb'=>?_) (List.pairwise_lt_range (n:=names.length)));have hi':=hAf.mp hi;have hj':=hAf.mp hj;have e1:names[i]=b:=by
  split at hb
  ·rw[hA2 hi']at hb;exact hAt hb
  ·cases hb
 have e2:names[j]=b':=by
  split at hb'
  ·rw[hA2 hj']at hb';exact hAt hb'
  ·cases hb'
 rw[<-e1,<-e2];exact hDh.mp rn i j hi' hj' lt
def qSr(K:PySem.W.Frag)(Pt:Addr):Sp:=fun vs H Q _=>∃(a:Addr) (ns:List Int),vs=[.ref a]/\SqL K H a (ns.map V.int)/\ns.length<=63/\H Pt=some (.tbl #[])/\∀H',Q (.bl true) H'
def zBr(P:Program)(w:World)(K:PySem.W.Frag):List V->Hp->VK->Prop:=fun xs H Q=>∃(p:Addr) (ss0:List Str),xs=[.ref p]/\SqL K H p (ss0.map V.str)/\ss0.length<1000/\∀(r:Addr) (ss:List Str),H r=none->ss.Nodup->ss.length<=ss0.length->(∀x,x∈ss↔x∈ss0)->Q (.ref r) (upd H r (SetS P w r ss))
def zBq(P:Program)(w:World):List V->Hp->VK->Prop:=fun xs H Q=>∃(p:Addr) (ss:List Str),xs=[.ref p]/\H p=some (SetS P w p ss)/\ss.length<64/\∀(r:Addr) (ss':List Str),H r=none->ss'.Perm ss->PyProof.Rows.sortedS ss'=true->Q (.ref r) (upd H r (.lst (ss'.map V.str)))
noncomputable def ptD(ts:List (Nat×Nat)):PyData:=.list (ts.map fun t=>.tuple [.int (t.1:Int),.int (t.2:Int)])
theorem qU6:∀ts:List (Nat×Nat),PyData.canLayAll0 (ts.map fun t=>.tuple [.int (t.1:Int),.int (t.2:Int)])=true/\PyData.depthAll (ts.map fun t=>.tuple [.int (t.1:Int),.int (t.2:Int)])<=1
 |[]=>⟨rfl,by decide⟩
 |t :: r=>by
  obtain⟨h3,h4⟩:=qU6 r;refine⟨?_,?_⟩
  ·show(PyData.canLayAll0 [.int (t.1:Int),.int (t.2:Int)] && PyData.canLayAll0 (r.map fun t=>.tuple [.int (t.1:Int),.int (t.2:Int)]))=true;rw[h3];rfl
  ·show max _ (PyData.depthAll (r.map fun t=>.tuple [.int (t.1:Int),.int (t.2:Int)]))<=1;exact Nat.max_le.mpr ⟨by show max 0 (max 0 0)+1<=1;decide,h4⟩
theorem qO8(ts:List (Nat×Nat)):SeqAt.shaped (ptD ts)=true:=by
 obtain⟨h3,h4⟩:=qU6 ts;show(PyData.canLayAll0 (ts.map fun t=>.tuple [.int (t.1:Int),.int (t.2:Int)]) && decide (PyData.depthAll (ts.map fun t=>.tuple [.int (t.1:Int),.int (t.2:Int)])+1<=64))=true;rw[h3,decide_eq_true (by omega)];rfl
theorem qVh{K:PySem.W.Frag}{H:Hp}:∀ {as:List Addr} {ts:List (Nat×Nat)},Paired (PrA H) as ts->DRs K H (as.map V.ref) (ts.map fun t=>.tuple [.int (t.1:Int),.int (t.2:Int)])
 |_,_,.nil=>.nil
 |_,_,.cons h t=>.cons (.tup (SqT.of h) (.cons (.int _) (.cons (.int _) .nil))) (qVh t)
theorem zCg{K:PySem.W.Frag}{H:Hp}{p:Addr}{ts:List (Nat×Nat)}(h:qB6 H p ts):DR K H (.ref p) (ptD ts):=by
 obtain⟨as,h1,h2⟩:=h;exact .lst (SqL.of h1) (qVh h2)
theorem zAi(ts:List (Nat×Nat)):PyData.eqv (ptD ts) (.list [])=decide (ts=[]):=by
 cases ts with
 |nil=>rfl
 |cons t r=>rfl
theorem qKp:SeqAt.shaped (.list [])=true:=by decide +kernel
theorem qXr{K:PySem.W.Frag}{H:Hp}{p:Addr}(h:H p=some (.lst [])):DR K H (.ref p) (.list []):=.lst (SqL.of h) .nil
theorem qP6{α β:Type}{R S:α->β->Prop}:∀ {as:List α} {bs:List β},Paired R as bs->(∀a∈as,∀b,R a b->S a b)->Paired S as bs
 |_,_,.nil,_=>.nil
 |_,_,.cons h p,hs=>.cons (hs _ hA9 _ h) (qP6 p fun a ha=>hs a (hA8 _ ha))
theorem qKy{H:Hp}{as:List Addr}{ts:List (Nat×Nat)}(pr:Paired (PrA H) as ts):∀ {ss:List Nat},(∀i∈ss,i<as.length)->Paired (PrA H) (ss.map fun i=>as.getD i 0) (qD6 ts ss)
 |[],_=>.nil
 |i :: ss,h=>by
  have hi:=h i hA9;obtain⟨t,ht,ha⟩:=qBm pr (hA2 hi);refine .cons ?_ (qKy pr fun j hj=>h j (hA8 _ hj));show PrA H (as.getD i 0) (ts.getD i (0,0));rw[hAe,hAe,hA2 hi,ht];exact ha
theorem TabW.dr{d:Addr}{H H':Hp}{P:Addr}{lpos:Pos}{q:Str}{n:Int}(h:TabW H P lpos q)(hd:H d=some (.lst [.int n]))(e:Dr d H H'):TabW H' P lpos q:=by
 rcases h with h|⟨c,h1,h2⟩
 ·exact .inl (e.2 _ _ (fun z=>by rw[z,hd]at h;cases h) h)
 ·exact .inr ⟨c,e.2 _ _ (fun z=>by rw[z,hd]at h1;cases h1) h1,e.2 _ _ (fun z=>by rw[z,hd]at h2;cases h2) h2⟩
section
variable{P:Program}{w:World}{K:PySem.W.Frag}{mg:Str->Option Value}{base:Heap}{f f1 f2 f3 f4 f5 f6 f7 f8 f9 f10 f11 f12 f13 f14 Pt:Addr}{fd fd1 fd2 fd3 fd4 fd5 fd6 fd7 fd8 fd9 fd10 fd11 fd12 fd13 fd14:FuncData}
noncomputable abbrev zCu:List Str:=["_law_script","_law_draw","_law_ties","_law_many","_law_mixed","_law_still","_law_cuts","_law_table_here","_law_base","_law_found","_law_counts_here"]
theorem qE6:FnScope zCu ["_law_script"] (qAd qPn):=⟨rfl,rfl,rfl,by decide +kernel,rfl,by decide +kernel,by decide +kernel⟩
theorem qZx(F:Fun K "law" "law" qPn f fd)
  (G1:Cl P w K mg base CX0 2 f1 fd1 ["_law_script","_law_at"] (qO0 K) "_law_purse")
  (G2:Cl P w K mg base CX0 1 f2 fd2 ["_law_draw","_law_many"] qGc "_law_take")
  (G3:Cl P w K mg base CX0 2 f3 fd3 ["_law_draw"] qYs "_law_solid")
  (G4:Cl P w K mg base CX0 1 f4 fd4 ["_law_ties"] qV2 "_law_star_masks")
  (G5:Cl P w K mg base CX0 4 f5 fd5 ["_law_masks"] qO3 "_law_steps")
  (G6:Cl P w K mg base CX0 5 f6 fd6 ["_law_base","_law_many"] qV3 "_law_crossed")
  (G7:Cl P w K mg base CX0 3 f7 fd7 ["_law_draw","_law_many","_law_base"] qYr "_law_table")
  (G8:Cl P w K mg base CX0 1 f8 fd8 ["_law_found","_law_due"] qYz "_law_rows_good")
  (G9:Cl P w K mg base CX0 6 f9 fd9 ["table"] (qYu Pt) "quiet_ones")
  (G10:Cl P w K mg base CX0 1 f10 fd10 ["_law_table_here"] qUt "_law_copy")
  (G11:Cl P w K mg base CX0 3 f11 fd11 ["_law_names_here","_law_masks"] qYx "_law_in_order")
  (G12:Cl P w K mg base CX0 6 f12 fd12 ["_law_draw"] qYt "_law_small")
  (G13:Cl P w K mg base CX0 5 f13 fd13 ["_law_draw","_law_many","_law_base"] qYv "_law_mixed_names")
  (G14:Cl P w K mg base CX0 1 f14 fd14 ["_law_found","_law_names_here"] qY1 "_law_counts")
  (mL:mg "list" = none) (ml:mg "len" = none) (mmi:mg "min" = none) (mma:mg "max" = none) (mso:mg "sorted" = none) (mst:mg "set" = none):FnOk P w K mg base CX0 8 f fd ["_law_script"] (qSr K Pt):=by
 refine F.ok qE6 (fun vs H Q E h=>?_) (fun cdv A outer s H vs Q E hr h=>?_)
 ·obtain⟨a,ns,rfl,_⟩:=h;rfl
 obtain⟨a,ns,rfl,ha,_,hP,q⟩:=h;have hr1:=hr.mono (j:=1) (by decide);have hr2:=hr.mono (j:=2) (by decide);have hr3:=hr.mono (j:=3) (by decide);have hr4:=hr.mono (j:=4) (by decide);have hr5:=hr.mono (j:=5) (by decide);have hr6:=hr.mono (j:=6) (by decide);refine⟨_,(qAc (qAl (i:=1) qE6.nd rfl (Or.inl rfl) (qAt G1 hr2 rfl .nil qAs (qAa (pv 0) (qAa qAe qAb)))) (qAc (qAl (i:=2) qE6.nd rfl (Or.inl rfl) (qAt G3 hr2 rfl .nil qAs (qAa (pv 1) qAb))) (qAc (qAl (i:=3) qE6.nd rfl (Or.inl rfl) (qAn qAo rfl ml hBf (qAa (pv 2) qAb))) (qAc (qAl (i:=4) qE6.nd rfl (Or.inl rfl) (qA6 qAb)) (qAc (qAl (i:=5) qE6.nd rfl (Or.inl rfl) (qBp qB4 rfl mL qBt (qAa (pv 2) qAb))) (qAc (qBj (qIa PassesOwn.never (qAp (qFp (qFo hr)) (pv 5) (qA6 qAb) (qAx _)) (qAf (qC3 (qFv hBb hBr hBs qBx (pv 4) (qAa (qFv hBb PySem.F.slot_list_pop PySem.F.type_list_pop qIg (pv 5) (qAa (qAt G2 hr1 rfl .nil qAs (qAa (pv 1) (qAa (qAn qAo rfl ml hBf (qAa (pv 5) qAb)) qAb))) qAb)) qAb)))))) (qAc (qBj (qAl (i:=6) qE6.nd rfl (Or.inl rfl) (qAt G4 hr1 rfl .nil qAs (qAa (pv 4) qAb)))) (qAc (qBj (qAl (i:=7) qE6.nd rfl (Or.inr rfl) (qAt G7 hr3 rfl .nil qAs (qAa (pv 1) (qAa (pv 3) (qAa (qAt G6 hr5 rfl .nil qAs (qAa (qAt G5 hr4 rfl .nil qAs (qAa (pv 6) qAb)) (qAa (pv 3) qAb))) qAb)))))) (qAc (qBj (qB2 (qI7 (qHe (qAt G8 hr1 rfl .nil qAs (qAa (qAt G9 hr6 rfl .nil qAs (qAa (qAt G10 hr1 rfl .nil qAs (qAa (pv 7) qAb)) qAb)) (qAa (qAt G11 hr3 rfl .nil qAs (qAa (qCm qEv (pv 7) qAe (fun _ _=>rfl)) (qAa (pv 6) qAb))) qAb))))) (qAf (qAv qQc)) qA4)) (qAc (qBj (qI8 (qAt G12 hr6 rfl .nil qAs (qAa (pv 1) qAb)) (qGm rfl (qBf (qAh (i:=3) qE6.nd rfl (Or.inl rfl)) (qBf (qAh (i:=8) qE6.nd rfl (Or.inl rfl)) qD3))))) (qAc (qBj (qAl (i:=7) qE6.nd rfl (Or.inr rfl) (qAt G7 hr3 rfl .nil qAs (qAa (pv 1) (qAa (pv 3) (qAa (qAt G13 hr5 rfl .nil qAs (qAa (pv 1) (qAa (pv 3) (qAa (pv 8) qAb)))) qAb)))))) (qAc (qBj (qAl (i:=9) qE6.nd rfl (Or.inl rfl) (qAt G9 hr6 rfl .nil qAs (qAa (qAt G10 hr1 rfl .nil qAs (qAa (pv 7) qAb)) qAb)))) (qAc (qBj (qB2 (qAp (qFp (qFo hr)) (qBo (N:=zCu) (sc:=qAd qPn) (N':=["_law_row_here","_law_table_here"]) (sub:=[none,some 7]) rfl rfl (CmpOk.of (by decide +kernel)) rfl (qAq (pv 9)) (fun C s H fp=>⟨qAh (i:=0) (by show(["_law_row_here","_law_table_here"]:List Str).Nodup;decide) rfl (Or.inl rfl),(qB1 (PW.pt (qWs (qAp (show OpR _ (compareOp .NotEq) (zBv K true) from qFp (qFo hr)) (pv 0) (qAn (show qB7 _ (.builtin "sorted") (zBq P w) from qG9 rfl) rfl mso qB5 (qAa (qBp (show qB7 _ (.type "set") (zBr P w K) from qRv rfl) rfl mst qR0 (qAa (pv 0) qAb)) qAb)) (qAx _)) (qP0 (qAp (show OpR _ (compareOp .NotEq) (zBv K true) from qFp (qFo hr)) (qBo (N:=["_law_row_here","_law_table_here"]) (sc:=qZe _ (qAd qPn)) (N':=["_law_one","_law_table_here"]) (sub:=[none,some 1]) rfl rfl (CmpOk.of (by decide +kernel)) rfl (show PI _ _ _ (qXp K (qR9 0)) from qAq (pv 0)) (fun C s H fp=>⟨qAh (i:=0) (by show(["_law_one","_law_table_here"]:List Str).Nodup;decide) rfl (Or.inl rfl),(qB1 (qAp (show OpR _ (compareOp .NotIn) (rIn K true) from qCo) (pv 0) (qCm (show IxR _ (zBt K) from qEv) (pv 1) qAe (fun _ _=>rfl)) (by with_unfolding_all rfl))),(pv 0)⟩)) (qA6 qAb) (qAx _)))))),(pv 0)⟩)) (qA6 qAb) (qAx _)) (qAf (qAv qQc)) qA4)) (qAc (qAl (i:=10) qE6.nd rfl (Or.inl rfl) (qAt G14 hr1 rfl .nil qAs (qAa (pv 9) (qAa (qCm qEv (pv 7) qAe (fun _ _=>rfl)) qAb)))) (qAf (qAv (qZl (qE9 qTg (qAn (qRw rfl) rfl mmi qEx (qAa (pv 10) qAb)) qAe (qAx _)) (qZj (qE9 qTg (qAn (qRx rfl) rfl mma qR1 (qAa (pv 10) qAb)) qAe (qAx _)))))))))))))))))))),?_⟩;try dsimp only[Cx.wish,qCd]
 refine⟨_,rfl,a,ns,0,rfl,ha,by decide,by decide,fun v d hd0=>?_⟩;have dP:Pt≠d:=qAi hP hd0;refine⟨_,rfl,d,v,rfl,upd_same,fun tp ts0 H1 d1 tp0 kt tsl=>?_⟩;have P1:H1 Pt=some (.tbl #[]):=d1.2 _ _ dP (by rw[qAg dP];exact hP);have tpd:tp≠d:=qDr upd_same tp0;obtain⟨n,TT,BB,S0,so⟩:=qV6 ts0 tsl;have m12:=so.m12;obtain⟨as,htp,pr⟩:=id kt;have las:=pr.length;have asd:∀b∈as,b≠d:=fun b hb e=>by
  obtain⟨t,_,z⟩:=qCk pr b hb;obtain⟨q0,z0⟩:=d1.1;rw[e,z0]at z;cases z
 refine⟨_,rfl,tp,_,rfl,.inl (SqL.of htp),?_⟩;rw[hA1,las];obtain⟨q1,z1⟩:=d1.1;clear d1 hd0 tp0 ha hP;refine⟨hAs _,fun mx hmx=>?_⟩;have X1:=Ext.new hmx (.lst []);refine⟨_,rfl,tp,_,rfl,.inl (SqL.of (X1 _ _ htp)),fun st hst=>?_⟩;have X2:=X1.trans (Ext.new hst (.lst (as.map V.ref)));have mxd:mx≠d:=fun e=>by rw[e,z1]at hmx;cases hmx
 have std:st≠d:=fun e=>by rw[e,X1 _ _ z1]at hst;cases hst
 have ms:mx≠st:=fun e=>by rw[<-e,upd_same]at hst;cases hst
 have st1:H1 st=none:=X1.none hst;have hm2:upd (upd H1 mx (.lst [])) st (.lst (as.map V.ref)) mx=some (.lst []):=by rw[qAg ms];exact upd_same
 have hs2:upd (upd H1 mx (.lst [])) st (.lst (as.map V.ref)) st=some (.lst (as.map V.ref)):=upd_same;have D2:Dr d H1 (upd (upd H1 mx (.lst [])) st (.lst (as.map V.ref))):=(Dr.refl z1).ext X2;revert X2 hm2 hs2 D2;generalize upd (upd H1 mx (.lst [])) st (.lst (as.map V.ref))=H2;intro X2 hm2 hs2 D2;clear hst X1;have asm:∀b∈as,b≠mx/\b≠st:=fun b hb=>by
  obtain⟨t,_,z⟩:=qCk pr b hb;exact⟨(fun e=>by rw[e,hmx]at z;cases z),fun e=>by rw[e,st1]at z;cases z⟩
 have rng0:(List.range as.length).map (fun i=>as.getD i 0)=as:=qGw as;refine⟨fun σ' H'=>∃os:List Nat,σ'=[some (.ref a),some (.ref d),some (.ref tp),some (iV ts0.length),some (.ref mx),some (.ref st),none,none,none,none,none]/\Dr d H1 H'/\Ord2 ts0.length os/\H' mx=some (.lst ((os.map fun i=>as.getD i 0).map V.ref)),?_,?_⟩
 ·refine⟨fun k σ H'=>∃oo ss:List Nat,k=ss.length/\σ=[some (.ref a),some (.ref d),some (.ref tp),some (iV ts0.length),some (.ref mx),some (.ref st),none,none,none,none,none]/\Dr d H1 H'/\H' mx=some (.lst ((oo.map fun i=>as.getD i 0).map V.ref))/\H' st=some (.lst ((ss.map fun i=>as.getD i 0).map V.ref))/\(oo++ss).Perm (List.range as.length),⟨_,[],List.range as.length,rfl,rfl,D2,hm2,by rw[rng0];exact hs2,hCd _⟩,?_⟩;rintro k σ H' ⟨oo,ss,rfl,rfl,dr,hM,hS,pm⟩;have lpm:=pm.length_eq;rw[hAj,hAp]at lpm;have ssl:∀i∈ss,i<as.length:=fun i hi=>hAf.mp (pm.mem_iff.mp (hAa _ hi))
  refine⟨_,rfl,hAs _,fun e0 he0=>?_⟩;have ne:=Ext.new he0 (.lst []);have drE:=dr.ext ne;have hM':=ne _ _ hM;have hS':=ne _ _ hS;have hE':upd H' e0 (.lst []) e0=some (.lst []):=upd_same;revert drE hM' hS' hE';generalize upd H' e0 (.lst [])=H3;intro drE hM' hS' hE';have prE:Paired (PrA H3) as ts0:=qP6 pr fun b hb t z=>drE.2 _ _ (asd b hb) z
  refine⟨ptD (qD6 ts0 ss),.list [],zCg ⟨_,hS',qKy prE ssl⟩,qXr hE',qO8 _,qKp,_,rfl,?_⟩;rw[if_pos rfl,zAi];refine qDa (fun c=>?_) (fun c=>?_)
  ·have s0:0<ss.length:=by
    cases ss with
    |nil=>exact absurd c (by show ¬(!decide (([]:List (Nat×Nat))=[]))=true;decide)
    |cons a r=>exact Nat.succ_pos _
   refine⟨fun σ' H2=>∃k',k'<ss.length/\∃oo ss:List Nat,k'=ss.length/\σ'=[some (.ref a),some (.ref d),some (.ref tp),some (iV ts0.length),some (.ref mx),some (.ref st),none,none,none,none,none]/\Dr d H1 H2/\H2 mx=some (.lst ((oo.map fun i=>as.getD i 0).map V.ref))/\H2 st=some (.lst ((ss.map fun i=>as.getD i 0).map V.ref))/\(oo++ss).Perm (List.range as.length),fun σ' H2 z=>z,?_⟩;obtain⟨q0,z0⟩:=drE.1;have lss:((ss.map fun i=>as.getD i 0).map V.ref).length=ss.length:=by rw[hA1,hA1]
   have loo:((oo.map fun i=>as.getD i 0).map V.ref).length=oo.length:=by rw[hA1,hA1]
   refine⟨_,rfl,.inl ⟨rfl,_,SqL.of hM'⟩,_,rfl,.inl ⟨rfl,_,SqL.of hS'⟩,_,rfl,_,rfl,st,_,rfl,.inl (SqL.of hS'),d,q0,_,rfl,z0,by rw[lss];omega,by rw[lss];omega,fun q2 j ja jb=>?_⟩;rw[lss]at jb;obtain⟨j,rfl⟩:=hCe ja;have jl:j<ss.length:=by omega
   have hx:=hA2 jl;have sq:seqIndex? (j:Int) ((ss.map fun i=>as.getD i 0).map V.ref).length=some j:=by
    have:=PySem.StrLaws.seqIndex_nonneg (i:=(j:Int)) (n:=((ss.map fun i=>as.getD i 0).map V.ref).length) (by omega) (by rw[lss];omega);rw[hB1]at this;exact this
   have drT:=drE.take q2;refine⟨st,_,(j:Int),j,.ref (as.getD ss[j] 0),rfl,rfl,by rw[qAg std];exact hS',by omega,by omega,sq,by rw[hAk,hAk,hx];rfl,?_⟩;refine⟨mx,_,.ref (as.getD ss[j] 0),rfl,rfl,by rw[qAg ms,qAg mxd];exact hM',by rw[loo];exact qAj (by omega),?_⟩;have le:(ss.eraseIdx j).length=ss.length - 1:=List.length_eraseIdx_of_lt jl;refine⟨_,by omega,oo++[ss[j]],ss.eraseIdx j,rfl,rfl,(drT.over st1 std _).over hmx mxd _,?_,?_,?_⟩
   ·rw[upd_same,hA4,hA4];rfl
   ·rw[qAg (Ne.symm ms),upd_same,hC0,hC0,hA4,hA4,hE3,List.map_drop,hE3,List.map_drop]
   ·refine List.Perm.trans ?_ pm;rw[hBj];exact hCw oo (qC5 ss j _ hx)
  ·have sn:ss=[]:=by
    cases ss with
    |nil=>rfl
    |cons a r=>exact absurd rfl c
   subst sn;rw[hBd,las]at pm;exact⟨oo,rfl,drE,⟨by rw[pm.length_eq,hAp],pm.nodup_iff.mpr hC5,fun x hx=>hAf.mp (pm.mem_iff.mp hx)⟩,hM'⟩
 clear hm2 hs2 D2 X2;rintro _ H3 ⟨os,rfl,d3,o,hM⟩;have pr3:Paired (PrA H3) as ts0:=qP6 pr fun b hb t z=>d3.2 _ _ (asd b hb) z
 have osl:∀i∈os,i<as.length:=fun i hi=>by rw[las];exact o.lt i hi
 have lmx:(qD6 ts0 os).length=ts0.length:=by unfold qD6;rw[hA1,o.l]
 have P3:H3 Pt=some (.tbl #[]):=d3.2 _ _ dP P1;refine⟨fun σ' H'=>∃(cs:Addr) (ks:List Key),σ'=[some (.ref a),some (.ref d),some (.ref tp),some (iV ts0.length),some (.ref mx),some (.ref st),some (.ref cs),none,none,none,none]/\Ext H3 H'/\H3 cs=none/\LsN H' cs (ks.map (stK (nK (qD6 ts0 os))))/\ks.length<=2*ts0.length/\ks.Nodup/\(∀k,stK (nK (qD6 ts0 os)) k≠0->k∈ks)/\∀k∈ks,∃t∈nK (qD6 ts0 os),k=t.1\/k=t.2,?_,?_⟩
 ·refine⟨_,rfl,mx,nK (qD6 ts0 os),rfl,qQy ⟨_,hM,qKy pr3 osl⟩,qVc _,by rw[qFq,lmx];exact m12,fun cs ks H4 e4 c0 hks lks ndk ck ek=>?_⟩;rw[qFq,lmx]at lks;exact⟨cs,ks,rfl,e4,c0,hks,lks,ndk,ck,ek⟩
 rintro _ H4 ⟨cs,ks,rfl,e4,c0,hks,lks,ndk,ck,ek⟩;have d4:=d3.ext e4;have csd:cs≠d:=d3.ne c0;obtain⟨q4,z4⟩:=d4.1;have P4:=e4 _ _ P3;have lt:∀x∈ks.map (stK (nK (qD6 ts0 os))),x<2^ts0.length:=fun x hx=>by
  obtain⟨k,_,rfl⟩:=hA3.mp hx;have:=qLv (nK (qD6 ts0 os)) k
  rwa [qFq,lmx]at this
 refine⟨fun σ' H'=>∃(tb:Addr) (names:List Str) (ms:List Nat),σ'=[some (.ref a),some (.ref d),some (.ref tp),some (iV ts0.length),some (.ref mx),some (.ref st),some (.ref cs),some (.ref tb),none,none,none]/\Dr d H4 H'/\qC8 H' tb names (ms.map (rowL names))/\names.length=ts0.length/\qNg names/\SOk names/\ms.length<=16/\(∀x∈ms,x<2^ts0.length)/\∀y,Spn ms y↔y<2^ts0.length/\∀k,dot ts0.length y (stK (nK (qD6 ts0 os)) k)=false,?_,?_⟩
 ·refine⟨_,rfl,_,rfl,_,rfl,cs,_,ts0.length,rfl,hks,by rw[hA1];omega,by omega,lt,fun r2 S H5 e5 _ hS pS oS=>?_⟩;have sS:Stp ts0.length S:=⟨_,lt,pS,oS⟩;have lS:=sS.len;refine⟨_,rfl,r2,S,ts0.length,rfl,hS,by omega,m12,sS.gm,sS.nd,fun bs R H6 e6 b0 hR pR oR=>?_⟩;obtain⟨sR,hsR⟩:=qI0 lt pS oS pR oR;have d6:=(d4.ext e5).ext e6;have bsd:bs≠d:=(d4.ext e5).ne b0;obtain⟨q6,z6⟩:=d6.1;have hsR':∀y,Spn R y↔y<2^ts0.length/\∀k,dot ts0.length y (stK (nK (qD6 ts0 os)) k)=false:=fun y=>(hsR y).trans (and_congr_right fun _=>⟨fun h k=>by
   by_cases c:stK (nK (qD6 ts0 os)) k=0
   ·rw[c];exact qGy _ _
   ·exact h _ (hA3.mpr ⟨k,ck k c,rfl⟩),fun h t ht=>by
   obtain⟨k,_,rfl⟩:=hA3.mp ht;exact h k⟩)
  have l8:=sR.len;refine⟨d,q6,ts0.length,bs,R,rfl,z6,bsd,hR,by omega,m12,sR.lt,fun tb names ms H7 d7 tb0 tI lN rN okN lms ltm spm=>?_⟩;exact⟨tb,names,ms,rfl,(((Dr.refl z4).ext e5).ext e6).trans d7,tI,lN,rN,okN,lms,ltm,fun y=>(spm y).trans (hsR' y)⟩
 rintro _ H5 ⟨tb,names,ms,rfl,d5,tI,lN,rN,okN,lms,ltm,spm⟩;obtain⟨q5,z5⟩:=d5.1;have hks5:LsN H5 cs (ks.map (stK (nK (qD6 ts0 os)))):=d5.2 _ _ csd hks;have P5:H5 Pt=some (.tbl #[]):=d5.2 _ _ dP P4;clear hks P4 P3 P1 hM d4 d3 e4 pr3 d5;have n12:names.length<=12:=by rw[lN];exact m12
 have lrw:(ms.map (rowL names)).length<=24:=by rw[hA1];omega
 have tok:TabOk names (ms.map (rowL names)):=⟨rN,okN,n12,by rw[hA1];exact lms,fun r hr=>by obtain⟨x,_,rfl⟩:=hA3.mp hr;exact⟨x,rfl⟩⟩;have hN:∀y,Spn (numL names (ms.map (rowL names))) y↔y<2^ts0.length/\∀k,dot ts0.length y (stK (nK (qD6 ts0 os)) k)=false:=fun y=>(qMq tok (by rw[lN];exact ltm) y).trans (spm y)
 obtain⟨ndW,mW⟩:=so.quiet o hN ndk ck ek;rw[<-lN]at mW;have okL:∀x,SOk (rowL names x)/\(rowL names x).length<=100:=fun x=>by
  refine⟨fun n hn=>?_,by have:=qH8 names x;omega⟩;obtain⟨i,_,e,_⟩:=qBg.mp hn;exact okN n (hAc e)
 refine⟨fun σ' H'=>σ'=[some (.ref a),some (.ref d),some (.ref tp),some (iV ts0.length),some (.ref mx),some (.ref st),some (.ref cs),some (.ref tb),none,none,none]/\(∃q6,H' d=some (.lst [.int q6]))/\TabW H' Pt lpI qI,?_,?_⟩
 ·refine⟨_,rfl,tb,names,_,rfl,tI,lrw,fun hn H6 e6 hn0 tI6=>?_⟩;have tw6:TabW H6 Pt lpI qI:=.inl (e6 _ _ P5);refine⟨hn,names,_,rfl,tI6,tok,tw6,fun r ps H7 eB r0 hr' hps nd lps soF ndF mF tw7=>?_⟩;obtain⟨t6,hb6⟩:=My.TabW.tb tw6;obtain⟨t7,hb7⟩:=My.TabW.tb tw7;have K7:=e6.kp.trans (zB7 eB hb6 hb7);obtain⟨na,ro,hTb,hNa,hRo⟩:=id (K7.tab tI);refine⟨_,rfl,tb,_,_,_,rfl,rfl,SqT.of hTb,(by exact atI_nat (j:=0) rfl),_,rfl,na,cs,names,_,rfl,hNa,n12,K7.lst hks5,by rw[hA1];omega,fun du D H8 e8 du0 hD pD soD=>?_⟩;have eF:ps.map Prod.snd=D:=qPj (qDv rN) (fun u=>Iff.rfl) ndW mW pD soD soF ndF mF;have rF:qDb H7 r D:=⟨ps.map Prod.fst,by rw[hAr];exact hr',by rw[<-eF];exact qFa fun p hp=>(hps p hp).1⟩;have okD:∀r∈D,SOk r/\r.length<=100:=fun r hr=>by
   obtain⟨z,_,rfl⟩:=hA3.mp (pD.mem_iff.mp hr);exact okL z
  refine⟨r,du,D,D,rfl,rF.ext e8,hD,by rw[<-eF,hA1];exact lps,okD,fun r hr=>(okD r hr).1,rfl,fun Ha ea=>⟨true,rfl,iteF ?_⟩⟩;refine⟨rfl,⟨q5,ea _ _ (e8 _ _ (K7.lst z5))⟩,My.TabW.extE (My.TabW.extE tw7 e8) ea⟩
 clear tI tok hN ndW mW okL hks5 P5 z5 lrw;rintro _ H6 ⟨rfl,⟨q6,z6⟩,tw6⟩;refine⟨fun σ' H'=>∃(m:Nat) (bs:Addr) (R:List Nat),σ'=[some (.ref a),some (.ref d),some (.ref tp),some (iV m),some (.ref mx),some (.ref st),some (.ref cs),some (.ref tb),some (.ref bs),none,none]/\(∃q7,H' d=some (.lst [.int q7]))/\TabW H' Pt lpI qI/\bs≠d/\LsN H' bs R/\Stp m R/\m<=10/\SmR m R,?_,?_⟩
 ·refine⟨_,rfl,d,q6,rfl,z6,fun T1 bs m R H7 d7 T10 hT1 bs0 hR sR _ m10 smr=>?_⟩;refine⟨T1,_,rfl,SqT.of hT1,rfl,_,_,rfl,_,_,rfl,rfl,?_⟩;exact⟨m,bs,R,rfl,d7.1,TabW.dr tw6 z6 d7,qDr z6 bs0,hR,sR,m10,smr⟩
 rintro _ H7 ⟨m,bs,R,rfl,⟨q7,z7⟩,tw7,bsd,hR,sR,m10,smr⟩;obtain⟨T,B,sok,spB⟩:=qV7 smr;refine⟨fun σ' H'=>∃(tb:Addr) (names:List Str) (ms os:List Nat),σ'=[some (.ref a),some (.ref d),some (.ref tp),some (iV m),some (.ref mx),some (.ref st),some (.ref cs),some (.ref tb),some (.ref bs),none,none]/\TabW H' Pt lpI qI/\qC8 H' tb names (ms.map (rowL names))/\names.length=m/\qNg names/\SOk names/\ms.length<=16/\(∀x∈ms,x<2^m)/\Ord2 m os/\∀y,y<2^m->(Spn ms (pbF os m y)↔Spn B y),?_,?_⟩
 ·have lR:=sR.len;refine⟨_,rfl,_,rfl,_,rfl,_,rfl,_,rfl,d,q7,m,bs,R,rfl,z7,bsd,hR,by omega,by omega,fun r2 R2 os2 H8 d8 r20 hR2 sR2 l8 ol ond olt spR=>?_⟩;obtain⟨q8,z8⟩:=d8.1;refine⟨d,q8,m,r2,R2,rfl,z8,qDr z7 r20,hR2,l8,by omega,sR2.lt,fun tb2 names2 ms2 H9 d9 _ tI2 lN2 rN2 okN2 lms2 ltm2 spm2=>?_⟩;have o2:Ord2 m os2:=⟨ol,ond,olt⟩;refine⟨tb2,names2,ms2,os2,rfl,TabW.dr (TabW.dr tw7 z7 d8) z8 d9,tI2,lN2,rN2,okN2,lms2,ltm2,o2,fun y hy=>?_⟩;rw[spm2,<-spR,qYq o2,spB];constructor
  ·rintro⟨x,hx,e⟩;have xl:=Spn.lt sR.lt hx;have:=congrArg (qbF os2 m) e;rw[qGl o2 hy,qGl o2 xl]at this;rw[this];exact hx
  ·exact fun hy=>⟨y,hy,rfl⟩
 clear tw7 z7 hR rN okN lN lms ltm spm n12;rintro _ H8 ⟨tb,names,ms,os,rfl,tw8,tI,lN,rN,okN,lms,ltm,o,hB⟩;have n12:names.length<=12:=by rw[lN];omega
 have lrw:(ms.map (rowL names)).length<=24:=by rw[hA1];omega
 have tok:TabOk names (ms.map (rowL names)):=⟨rN,okN,n12,by rw[hA1];exact lms,fun r hr=>by obtain⟨x,_,rfl⟩:=hA3.mp hr;exact⟨x,rfl⟩⟩;have spN:=qMq tok (by rw[lN];exact ltm);have mv:Mvd m os (numL names (ms.map (rowL names))) B:=⟨o,fun y hy=>Spn.lt ltm ((spN y).mp hy),fun y hy=>Spn.lt (qEm sok.1).lB hy,fun y hy=>(spN _).trans (hB y hy)⟩;refine⟨fun σ' H'=>∃(fo na:Addr) (ps:List (Addr×List Str)),σ'=[some (.ref a),some (.ref d),some (.ref tp),some (iV m),some (.ref mx),some (.ref st),some (.ref cs),some (.ref tb),some (.ref bs),some (.ref fo),none]/\(∃ro,H' tb=some (.tup [.ref na,ro]))/\LsS H' na names/\H' fo=some (.lst (ps.map fun p=>V.ref p.1))/\(∀p∈ps,LsS H' p.1 p.2)/\ps.length<=4096/\∀row,row∈ps.map Prod.snd↔∃x,WaP (numL names (ms.map (rowL names))) m x/\QuP (numL names (ms.map (rowL names))) m x/\row=rowL names x,?_,?_⟩
 ·refine⟨_,rfl,tb,names,_,rfl,tI,lrw,fun hn H9 e9 hn0 tI9=>?_⟩;have tw9:TabW H9 Pt lpI qI:=My.TabW.extE tw8 e9;refine⟨hn,names,_,rfl,tI9,tok,tw9,fun r ps Ha eB r0 hr' hps nd lps soF ndF mF twa=>?_⟩;obtain⟨t6,hb6⟩:=My.TabW.tb tw9;obtain⟨t7,hb7⟩:=My.TabW.tb twa;have K7:=e9.kp.trans (zB7 eB hb6 hb7);obtain⟨na,ro,hTb,hNa,hRo⟩:=id (K7.tab tI);rw[lN]at mF;exact⟨r,na,ps,rfl,⟨_,hTb⟩,hNa,hr',fun p hp=>(hps p hp).1,lps,mF⟩
 clear tI tw8;rintro _ H9 ⟨fo,na,ps,rfl,⟨ro,hTb⟩,hNa,hfo,hps,lps,mF⟩;have rowOf:∀p∈ps,∃x,p.2=rowL names x:=fun p hp=>by
  obtain⟨x,_,_,e⟩:=(mF p.2).mp (hA3.mpr ⟨p,hp,rfl⟩);exact⟨x,e⟩
 have okL:∀x,SOk (rowL names x)/\(rowL names x).length<=12:=fun x=>by
  refine⟨fun n hn=>?_,by have:=qH8 names x;omega⟩;obtain⟨i,_,e,_⟩:=qBg.mp hn;exact okN n (hAc e)
 refine⟨fun σ' H'=>σ'=[some (.ref a),some (.ref d),some (.ref tp),some (iV m),some (.ref mx),some (.ref st),some (.ref cs),some (.ref tb),some (.ref bs),some (.ref fo),none]/\Ext H9 H',?_,?_⟩
 ·refine⟨_,rfl,fo,rfl,⟨_,SqL.of hfo⟩,?_⟩;refine qAr (xs:=ps.map fun p=>V.ref p.1) (fun i ys H'=>Ext H9 H'/\ys=[]) ⟨Ext.refl _,rfl⟩ (fun i ys H' _ h=>SqL.of (h.1 _ _ hfo)) ?_ ?_
  ·rintro i v ys H' hx ⟨e',rfl⟩;obtain⟨p,hp,rfl⟩:∃p∈ps,V.ref p.1=v:=by
    obtain⟨p,hp,e⟩:=hA3.mp (hAc hx);exact⟨p,hp,e⟩
   obtain⟨x,ex⟩:=rowOf p hp;have hrow:=e' _ _ (hps p hp);rw[ex]at hrow;obtain⟨ok1,lr⟩:=okL x;refine⟨Sle.set _ (Sle.refl _) (fun u z=>by cases z),?_⟩;refine⟨_,rfl,_,rfl,p.1,_,rfl,SqL.of hrow,by omega,fun sr ss hsr nds lss mss=>?_⟩;have X1:=Ext.new hsr (SetS P w sr ss);refine⟨sr,ss,rfl,upd_same,by omega,fun r2 ss' hr2 perm srt=>?_⟩;have X2:=X1.trans (Ext.new hr2 (.lst (ss'.map V.str)));have es:ss'=rowL names x:=qMe (qPt srt (perm.nodup_iff.mpr nds)) (qPr rN x) fun y=>by rw[perm.mem_iff,mss]
   have h2':LsS (upd (upd H' sr (SetS P w sr ss)) r2 (.lst (ss'.map V.str))) r2 ss':=upd_same;revert X2 h2';generalize upd (upd H' sr (SetS P w sr ss)) r2 (.lst (ss'.map V.str))=Hb;intro X2 h2';rw[es]at h2';refine⟨qF0 _,qF0 _,qGx (X2 _ _ hrow),qGx h2',shaped_row ok1,shaped_row ok1,_,rfl,?_⟩;rw[if_pos rfl,qIo,decide_eq_true rfl];refine iteF ?_;have hrowb:=X2 _ _ hrow;have eb:=e'.trans X2;refine⟨_,rfl,p.1,rfl,⟨_,SqL.of hrowb⟩,?_⟩;refine qAr (xs:=(rowL names x).map V.str) (fun j ys Hc=>Hc=Hb/\ys=[]) ⟨rfl,rfl⟩ (fun j ys Hc _ h=>by rw[h.1];exact SqL.of hrowb) ?_ ?_
   ·rintro j v ys Hc hxj ⟨rfl,rfl⟩;obtain⟨y,rfl,hy⟩:=qDz hxj;have ym:y∈names:=by
     obtain⟨k,_,e,_⟩:=qBg.mp (hAc hy);exact hAc e
    refine⟨Sle.set _ (Sle.refl _) (fun u z=>by cases z),_,rfl,_,rfl,tb,_,_,_,rfl,rfl,SqT.of (eb _ _ hTb),(by exact atI_nat (j:=0) rfl),na,_,rfl,.inl (SqL.of (eb _ _ hNa)),rfl,flat_strs _,_,rfl,?_⟩;rw[if_pos rfl,qFg,decide_eq_true ym];exact iteF (nxt (at_lt hxj) ⟨rfl,rfl⟩)
   ·rintro ys Hc ⟨rfl,rfl⟩ l hl;refine⟨hAs _,fun e0 he0=>?_⟩;have X3:=(Ext.new hl (.lst [])).trans (Ext.new he0 (.lst []));refine⟨qF0 [],qF0 [],qGx (r:=[]) ((Ext.new he0 _) _ _ upd_same),qGx (r:=[]) upd_same,shaped_row (fun y hy=>by cases hy),shaped_row (fun y hy=>by cases hy),_,rfl,?_⟩;rw[if_pos rfl,qIo,decide_eq_true rfl];exact iteF (nxt (at_lt hx) ⟨eb.trans X3,rfl⟩)
  ·rintro ys H' ⟨e',rfl⟩ l hl;refine⟨hAs _,fun e0 he0=>?_⟩;have X3:=(Ext.new hl (.lst [])).trans (Ext.new he0 (.lst []));refine⟨qF0 [],qF0 [],qGx (r:=[]) ((Ext.new he0 _) _ _ upd_same),qGx (r:=[]) upd_same,shaped_row (fun y hy=>by cases hy),shaped_row (fun y hy=>by cases hy),_,rfl,?_⟩;rw[if_pos rfl,qIo,decide_eq_true rfl];exact iteF ⟨rfl,e'.trans X3⟩
 rintro _ Ha ⟨rfl,ea⟩;refine⟨_,rfl,_,rfl,tb,_,_,_,rfl,rfl,SqT.of (ea _ _ hTb),(by exact atI_nat (j:=0) rfl),fo,na,ps,names,rfl,ea _ _ hfo,fun p hp=>ea _ _ (hps p hp),lps,ea _ _ hNa,n12,fun cr Hb eb cr0 hcr=>?_⟩;have cn:∀k,k<m->∀nm,names[os.getD k 0]?=some nm->((qL m T B).filter fun x=>x.testBit k).length<=cnF (ps.map Prod.snd) nm:=fun k hk nm hnm=>zAo (qDv rN) lN (by omega) sok o mv mF hk hnm
 have nmAt:∀k,k<m->∃nm,names[os.getD k 0]?=some nm:=fun k hk=>⟨_,hA2 (by rw[lN];exact o.at hk)⟩
 obtain⟨k3,hk3,g3⟩:=sok.2.2.1;have hk3':=hAf.mp hk3;obtain⟨nm3,hn3⟩:=nmAt k3 hk3';have ge2:∀nm∈names,2<=cnF (ps.map Prod.snd) nm:=fun nm hnm=>by
  obtain⟨i,hi,e⟩:=hBy hnm;obtain⟨k,hk,ek⟩:=o.onto (show i<m by omega);have h1:=sok.2.1 k (hAf.mpr hk);have h2:=cn k hk nm (by rw[ek,<-e];exact hA2 hi);omega
 have ge3:3<=cnF (ps.map Prod.snd) nm3:=hB2 g3 (cn k3 hk3' nm3 hn3);have m3:=hAc hn3;have hcr':SqL K Hb cr ((((names.map (cnF (ps.map Prod.snd))).map fun n:Nat=>(n:Int)).map V.int)):=by rw[<-qCs];exact SqL.of hcr
 have ne:((names.map (cnF (ps.map Prod.snd))).map fun n:Nat=>(n:Int))≠[]:=List.ne_nil_of_mem (hA3.mpr ⟨_,hA3.mpr ⟨nm3,m3,rfl⟩,rfl⟩);refine⟨_,rfl,cr,_,rfl,hcr',ne,fun M hM hmin=>?_⟩;have M2:(1:Int)<M:=by
  obtain⟨x,hx,rfl⟩:=hA3.mp hM;obtain⟨nm,hnm,rfl⟩:=hA3.mp hx;have:=ge2 nm hnm;omega
 refine⟨_,_,rfl,rfl,_,rfl,?_⟩;rw[decide_eq_true M2];refine iteT (B:=Q (.bl false) Hb) ?_;refine⟨_,rfl,cr,_,rfl,hcr',ne,fun X hX hmax=>?_⟩;have X3:(2:Int)<X:=by
  have:=hmax _ (hA3.mpr ⟨_,hA3.mpr ⟨nm3,m3,rfl⟩,rfl⟩);omega
 refine⟨_,_,rfl,rfl,?_⟩;show Q (.bl (decide ((2:Int)<X))) Hb;rw[decide_eq_true X3];exact q Hb
end
theorem qJk{α:Type}{us:List α}(h:us.length=1):∃a,us=[a]:=List.length_eq_one_iff.mp h
theorem qKb{α:Type}{us:List α}(h:us.length=2):∃a b,us=[a,b]:=by
 match us,h with | [a,b],_=>exact⟨a,b,rfl⟩
theorem zB6{α:Type}{us:List α}(h:us.length=3):∃a b c,us=[a,b,c]:=by
 match us,h with | [a,b,c],_=>exact⟨a,b,c,rfl⟩
def Hs(K:PySem.W.Frag)(x:Str)(st:Stmt)(f:Addr):Prop:=∃(od an:Option Addr) (sl:Array (Option Value)) (oc kV dc pm cd ct:Value),PySem.W.nsIn K mainGlobals x=some (some (.ref f))/\K.lookup f=some ⟨oc,od,.func (PySem.W.fnOf x x (qC6 st) (qBa st) (qAd st) .none kV dc pm an cd ct),sl⟩/\PySem.W.codeIn K cd x=true/\PySem.W.keepIn K (.ref f)=true
theorem hs_mk{K:PySem.W.Frag}{x:Str}{st:Stmt}{f:Addr}{od an:Option Addr}{sl:Array (Option Value)}{oc kV dc pm cd ct:Value}(a:PySem.W.nsIn K mainGlobals x=some (some (.ref f)))(l:K.lookup f=some ⟨oc,od,.func (PySem.W.fnOf x x (qC6 st) (qBa st) (qAd st) .none kV dc pm an cd ct),sl⟩)(c:PySem.W.codeIn K cd x=true)(k:PySem.W.keepIn K (.ref f)=true):Hs K x st f:=⟨_,_,_,_,_,_,_,_,_,a,l,c,k⟩
theorem qA2{K:PySem.W.Frag}{x:Str}{st:Stmt}{f:Addr}{h:Heap}{mg:Str->Option Value}(X:K.In h)(G:h.Ns mainGlobals mg)(H:Hs K x st f):∃fd,Fun K x x st f fd/\PySem.W.keepIn K (.ref f)=true/\mg x=some (.ref f):=by
 obtain⟨_,_,_,_,_,_,_,_,_,a,l,c,k⟩:=H;exact⟨_,qQ7 (st:=st) l c k,k,PySem.W.mg_of X G a⟩
theorem all_mk{l:PySem.W.OpenLaw}{w:World}{K:PySem.W.Frag}{h:Heap}{mg:Str->Option Value}{fa f1 f2 f3 f4 f5 f6 f7 f8 f9 f10 f11 f12 f13 f14 f15 f16 f17 f18 f19 f20 f21 f22 f23 f24 f25 f26 f27 f28 f29 f30 f31 f32 f33 f34 f35 f36 f37:Addr}(X:K.In h)(G:h.Ns mainGlobals mg)(hfa:mg "law" = some (.ref fa)){c T:Addr}(ht:PySem.W.tabIn K "in_order" = some (c,T))
  {odN anN od14 an14:Option Addr} {slN sl14:Array (Option Value)} {ocN kVN dcN pmN cdN ctN oc14 kV14 dc14 pm14 cd14 ct14:Value}
  (h1:Hs K "mask_of" qWf f1) (h2:Hs K "row_of" qL7 f2) (h3:Hs K "lessened" qWg f3) (h4:Hs K "reduced" qSz f4) (h5:Hs K "sums" qSy f5) (h6:Hs K "lead_of" qWh f6) (h7:Hs K "crossed_masks" qZb f7)
  (h8:Hs K "lacking" qNs f8) (h9:Hs K "table_from" qSx f9) (h10:Hs K "step_masks" qL5 f10) (h11:Hs K "crossed" qPo f11) (h12:Hs K "left" qPm f12) (h13:Hs K "blocks" qD1 f13)
  (a14:PySem.W.nsIn K mainGlobals "in_order" = some (some (.ref f14))) (l14:K.lookup f14=some ⟨oc14,od14,.func (PySem.W.fnOf "in_order" "in_order" (qC6 qFn) (qBa qFn) (qAd qFn) .none kV14 dc14 pm14 an14 cd14 ct14),sl14⟩) (c14:PySem.W.codeIn K cd14 "in_order" = true) (k14:PySem.W.keepIn K (.ref f14)=true)
  (h15:Hs K "round_masks" qS0 f15) (h16:Hs K "rounds" qH6 f16) (h17:Hs K "walls" qPk f17) (h18:Hs K "is_quiet" zBm f18) (h19:Hs K "quiet_ones" qL8 f19) (h20:Hs K "_law_cell_at" qWi f20)
  (h21:Hs K "_law_purse" qPl f21) (h22:Hs K "_law_take" qWe f22) (h23:Hs K "_law_names" qHc f23) (h24:Hs K "_law_lead" zBl f24) (h25:Hs K "_law_steps" zAw f25) (h26:Hs K "_law_crossed" zAx f26)
  (h27:Hs K "_law_star_masks" zAv f27) (h28:Hs K "_law_small" qL6 f28) (h29:Hs K "_law_mixed_names" zBk f29) (h30:Hs K "_law_row" qS2 f30) (h31:Hs K "_law_table" zBj f31) (h32:Hs K "_law_copy" qS3 f32)
  (h33:Hs K "_law_rows_good" qS4 f33) (h34:Hs K "_law_in_order" qX4 f34) (h35:Hs K "_law_solid" qSb f35) (h36:Hs K "_law_counts" qZc f36)
  (a37:PySem.W.nsIn K mainGlobals "law" = some (some (.ref f37))) (l37:K.lookup f37=some ⟨ocN,odN,.func (PySem.W.fnOf "law" "law" (qC6 qPn) (qBa qPn) (qAd qPn) .none kVN dcN pmN anN cdN ctN),slN⟩) (c37:PySem.W.codeIn K cdN "law" = true) (k37:PySem.W.keepIn K (.ref f37)=true)
  (z1:PySem.W.nsIn K mainGlobals "any" = some none)
  (z2:PySem.W.nsIn K mainGlobals "enumerate" = some none)
  (z3:PySem.W.nsIn K mainGlobals "int" = some none)
  (z4:PySem.W.nsIn K mainGlobals "isinstance" = some none)
  (z5:PySem.W.nsIn K mainGlobals "len" = some none)
  (z6:PySem.W.nsIn K mainGlobals "list" = some none)
  (z7:PySem.W.nsIn K mainGlobals "max" = some none)
  (z8:PySem.W.nsIn K mainGlobals "min" = some none)
  (z9:PySem.W.nsIn K mainGlobals "range" = some none)
  (z10:PySem.W.nsIn K mainGlobals "set" = some none)
  (z11:PySem.W.nsIn K mainGlobals "sorted" = some none)
  (z12:PySem.W.nsIn K mainGlobals "str" = some none)
  (z13:PySem.W.nsIn K mainGlobals "sum" = some none)
  : ∃fd:FuncData,(∀(s:Shared) (v:Value),BindsTo s fd ⟨[v],[]⟩ [("_law_script",v)])/\∀base:Heap,K.In base->base.Ns mainGlobals mg->PySem.W.CodeHd base c T->base.BuiltinsAt mg T->FnOk l.prog w K mg base CX0 8 fa fd ["_law_script"] (qSr K T):=by
 have e:=hfa.symm.trans (PySem.W.mg_of X G a37);cases e;obtain⟨_,F1,k1,m1⟩:=qA2 X G h1;obtain⟨_,F2,k2,m2⟩:=qA2 X G h2;obtain⟨_,F3,k3,m3⟩:=qA2 X G h3;obtain⟨_,F4,k4,m4⟩:=qA2 X G h4;obtain⟨_,F5,k5,m5⟩:=qA2 X G h5;obtain⟨_,F6,k6,m6⟩:=qA2 X G h6;obtain⟨_,F7,k7,m7⟩:=qA2 X G h7;obtain⟨_,F8,k8,m8⟩:=qA2 X G h8;obtain⟨_,F9,k9,m9⟩:=qA2 X G h9;obtain⟨_,F10,k10,m10⟩:=qA2 X G h10;obtain⟨_,F11,k11,m11⟩:=qA2 X G h11;obtain⟨_,F12,k12,m12⟩:=qA2 X G h12;obtain⟨_,F13,k13,m13⟩:=qA2 X G h13;have F14:=qQ7 (st:=qFn) l14 c14 k14;obtain⟨_,F15,k15,m15⟩:=qA2 X G h15;obtain⟨_,F16,k16,m16⟩:=qA2 X G h16;obtain⟨_,F17,k17,m17⟩:=qA2 X G h17;obtain⟨_,F18,k18,m18⟩:=qA2 X G h18;obtain⟨_,F19,k19,m19⟩:=qA2 X G h19;obtain⟨_,F20,k20,m20⟩:=qA2 X G h20;obtain⟨_,F21,k21,m21⟩:=qA2 X G h21;obtain⟨_,F22,k22,m22⟩:=qA2 X G h22;obtain⟨_,F23,k23,m23⟩:=qA2 X G h23;obtain⟨_,F24,k24,m24⟩:=qA2 X G h24;obtain⟨_,F25,k25,m25⟩:=qA2 X G h25;obtain⟨_,F26,k26,m26⟩:=qA2 X G h26;obtain⟨_,F27,k27,m27⟩:=qA2 X G h27;obtain⟨_,F28,k28,m28⟩:=qA2 X G h28;obtain⟨_,F29,k29,m29⟩:=qA2 X G h29;obtain⟨_,F30,k30,m30⟩:=qA2 X G h30;obtain⟨_,F31,k31,m31⟩:=qA2 X G h31;obtain⟨_,F32,k32,m32⟩:=qA2 X G h32;obtain⟨_,F33,k33,m33⟩:=qA2 X G h33;obtain⟨_,F34,k34,m34⟩:=qA2 X G h34;obtain⟨_,F35,k35,m35⟩:=qA2 X G h35;obtain⟨_,F36,k36,m36⟩:=qA2 X G h36;have F37:=qQ7 (st:=qPn) l37 c37 k37;have b1:=F1.binds (ps:=["names","row"]) fun _ _ _ _ _ _ us hl=>by obtain⟨_,_,rfl⟩:=qKb hl;rfl
 have b2:=F2.binds (ps:=["names","mask"]) fun _ _ _ _ _ _ us hl=>by obtain⟨_,_,rfl⟩:=qKb hl;rfl
 have b3:=F3.binds (ps:=["mask","kept"]) fun _ _ _ _ _ _ us hl=>by obtain⟨_,_,rfl⟩:=qKb hl;rfl
 have b4:=F4.binds (ps:=["masks"]) fun _ _ _ _ _ _ us hl=>by obtain⟨_,rfl⟩:=qJk hl;rfl
 have b5:=F5.binds (ps:=["masks"]) fun _ _ _ _ _ _ us hl=>by obtain⟨_,rfl⟩:=qJk hl;rfl
 have b6:=F6.binds (ps:=["mask"]) fun _ _ _ _ _ _ us hl=>by obtain⟨_,rfl⟩:=qJk hl;rfl
 have b7:=F7.binds (ps:=["steps","width"]) fun _ _ _ _ _ _ us hl=>by obtain⟨_,_,rfl⟩:=qKb hl;rfl
 have b8:=F8.binds (ps:=["masks","bit"]) fun _ _ _ _ _ _ us hl=>by obtain⟨_,_,rfl⟩:=qKb hl;rfl
 have b9:=F9.binds (ps:=["names","masks"]) fun _ _ _ _ _ _ us hl=>by obtain⟨_,_,rfl⟩:=qKb hl;rfl
 have b10:=F10.binds (ps:=["table"]) fun _ _ _ _ _ _ us hl=>by obtain⟨_,rfl⟩:=qJk hl;rfl
 have b11:=F11.binds (ps:=["table"]) fun _ _ _ _ _ _ us hl=>by obtain⟨_,rfl⟩:=qJk hl;rfl
 have b12:=F12.binds (ps:=["table","taken","shrunk_ones"]) fun _ _ _ _ _ _ us hl=>by obtain⟨_,_,_,rfl⟩:=zB6 hl;rfl
 have b13:=F13.binds (ps:=["table"]) fun _ _ _ _ _ _ us hl=>by obtain⟨_,rfl⟩:=qJk hl;rfl
 have b14:=F14.binds (ps:=["rows"]) fun _ _ _ _ _ _ us hl=>by obtain⟨_,rfl⟩:=qJk hl;rfl
 have m14:=PySem.W.mg_of X G a14;have b15:=F15.binds (ps:=["steps"]) fun _ _ _ _ _ _ us hl=>by obtain⟨_,rfl⟩:=qJk hl;rfl
 have b16:=F16.binds (ps:=["table"]) fun _ _ _ _ _ _ us hl=>by obtain⟨_,rfl⟩:=qJk hl;rfl
 have b17:=F17.binds (ps:=["table"]) fun _ _ _ _ _ _ us hl=>by obtain⟨_,rfl⟩:=qJk hl;rfl
 have b18:=F18.binds (ps:=["table","wall"]) fun _ _ _ _ _ _ us hl=>by obtain⟨_,_,rfl⟩:=qKb hl;rfl
 have b19:=F19.binds (ps:=["table"]) fun _ _ _ _ _ _ us hl=>by obtain⟨_,rfl⟩:=qJk hl;rfl
 have b20:=F20.binds (ps:=["_law_script","_law_k"]) fun _ _ _ _ _ _ us hl=>by obtain⟨_,_,rfl⟩:=qKb hl;rfl
 have b21:=F21.binds (ps:=["_law_script","_law_at"]) fun _ _ _ _ _ _ us hl=>by obtain⟨_,_,rfl⟩:=qKb hl;rfl
 have b22:=F22.binds (ps:=["_law_draw","_law_many"]) fun _ _ _ _ _ _ us hl=>by obtain⟨_,_,rfl⟩:=qKb hl;rfl
 have b23:=F23.binds (ps:=["_law_draw","_law_many"]) fun _ _ _ _ _ _ us hl=>by obtain⟨_,_,rfl⟩:=qKb hl;rfl
 have b24:=F24.binds (ps:=["_law_mask"]) fun _ _ _ _ _ _ us hl=>by obtain⟨_,rfl⟩:=qJk hl;rfl
 have b25:=F25.binds (ps:=["_law_masks"]) fun _ _ _ _ _ _ us hl=>by obtain⟨_,rfl⟩:=qJk hl;rfl
 have b26:=F26.binds (ps:=["_law_base","_law_many"]) fun _ _ _ _ _ _ us hl=>by obtain⟨_,_,rfl⟩:=qKb hl;rfl
 have b27:=F27.binds (ps:=["_law_ties"]) fun _ _ _ _ _ _ us hl=>by obtain⟨_,rfl⟩:=qJk hl;rfl
 have b28:=F28.binds (ps:=["_law_draw"]) fun _ _ _ _ _ _ us hl=>by obtain⟨_,rfl⟩:=qJk hl;rfl
 have b29:=F29.binds (ps:=["_law_draw","_law_many","_law_base"]) fun _ _ _ _ _ _ us hl=>by obtain⟨_,_,_,rfl⟩:=zB6 hl;rfl
 have b30:=F30.binds (ps:=["_law_names_here","_law_mask"]) fun _ _ _ _ _ _ us hl=>by obtain⟨_,_,rfl⟩:=qKb hl;rfl
 have b31:=F31.binds (ps:=["_law_draw","_law_many","_law_base"]) fun _ _ _ _ _ _ us hl=>by obtain⟨_,_,_,rfl⟩:=zB6 hl;rfl
 have b32:=F32.binds (ps:=["_law_table_here"]) fun _ _ _ _ _ _ us hl=>by obtain⟨_,rfl⟩:=qJk hl;rfl
 have b33:=F33.binds (ps:=["_law_found","_law_due"]) fun _ _ _ _ _ _ us hl=>by obtain⟨_,_,rfl⟩:=qKb hl;rfl
 have b34:=F34.binds (ps:=["_law_names_here","_law_masks"]) fun _ _ _ _ _ _ us hl=>by obtain⟨_,_,rfl⟩:=qKb hl;rfl
 have b35:=F35.binds (ps:=["_law_draw"]) fun _ _ _ _ _ _ us hl=>by obtain⟨_,rfl⟩:=qJk hl;rfl
 have b36:=F36.binds (ps:=["_law_found","_law_names_here"]) fun _ _ _ _ _ _ us hl=>by obtain⟨_,_,rfl⟩:=qKb hl;rfl
 have n_any:=hBo X G z1;have n_enumerate:=hBo X G z2;have n_int:=hBo X G z3;have n_isinstance:=hBo X G z4;have n_len:=hBo X G z5;have n_list:=hBo X G z6;have n_max:=hBo X G z7;have n_min:=hBo X G z8;have n_range:=hBo X G z9;have n_set:=hBo X G z10;have n_sorted:=hBo X G z11;have n_str:=hBo X G z12;have n_sum:=hBo X G z13;refine⟨PySem.W.fnOf "law" "law" (qC6 qPn) (qBa qPn) (qAd qPn) .none kVN dcN pmN anN cdN ctN,fun s v=>.of_eq rfl,fun base _ _ hC hB=>?_⟩;have g1:=qW3 (P:=l.prog) (w:=w) (mg:=mg) (base:=base) F1;have g2:=qTj (P:=l.prog) (w:=w) (base:=base) F2  n_len n_enumerate;have g3:=qW4 (P:=l.prog) (w:=w) (base:=base) F3  n_min;have g4:=qW2 (P:=l.prog) (w:=w) (base:=base) F4 ⟨g3,b3,k3,m3⟩ n_min n_sorted;have g5:=qW0 (P:=l.prog) (w:=w) (mg:=mg) (base:=base) F5;have g6:=qW6 (P:=l.prog) (w:=w) (mg:=mg) (base:=base) F6;have g7:=qZ0 (P:=l.prog) (w:=w) (base:=base) F7 ⟨g6,b6,k6,m6⟩ n_sum n_range;have g8:=qW8 (P:=l.prog) (w:=w) (mg:=mg) (base:=base) F8;have g9:=qWz (P:=l.prog) (w:=w) (base:=base) F9 ⟨g2,b2,k2,m2⟩ ⟨g4,b4,k4,m4⟩ n_list;have g10:=qTi (P:=l.prog) (w:=w) (base:=base) F10 ⟨g1,b1,k1,m1⟩ ⟨g4,b4,k4,m4⟩;have g11:=qTn (P:=l.prog) (w:=w) (base:=base) F11 ⟨g9,b9,k9,m9⟩ ⟨g7,b7,k7,m7⟩ ⟨g10,b10,k10,m10⟩ n_len;have g12:=qW5 (P:=l.prog) (w:=w) (base:=base) F12 ⟨g10,b10,k10,m10⟩ ⟨g8,b8,k8,m8⟩ ⟨g1,b1,k1,m1⟩ ⟨g2,b2,k2,m2⟩ ⟨g9,b9,k9,m9⟩;have g13:=qZ2 (P:=l.prog) (w:=w) (base:=base) F13 ⟨g10,b10,k10,m10⟩ ⟨g2,b2,k2,m2⟩ n_range n_len n_sum n_sorted;have g14:=qTm (P:=l.prog) (w:=w) (base:=base) F14 (qXw F14 a14 ht) hC hB  n_len n_sorted;have g15:=qW1 (P:=l.prog) (w:=w) (base:=base) F15 ⟨g5,b5,k5,m5⟩ n_sorted n_any;have g16:=qQh (P:=l.prog) (w:=w) (base:=base) F16 ⟨g14,b14,k14,m14⟩ ⟨g15,b15,k15,m15⟩ ⟨g10,b10,k10,m10⟩ ⟨g2,b2,k2,m2⟩;have g17:=qTh (P:=l.prog) (w:=w) (base:=base) F17 ⟨g16,b16,k16,m16⟩ ⟨g11,b11,k11,m11⟩;have g18:=qZy (P:=l.prog) (w:=w) (base:=base) F18 ⟨g12,b12,k12,m12⟩ ⟨g13,b13,k13,m13⟩ n_len;have g19:=qZr (P:=l.prog) (w:=w) (base:=base) F19 ⟨g17,b17,k17,m17⟩ ⟨g18,b18,k18,m18⟩;have g20:=qW9 (P:=l.prog) (w:=w) (base:=base) F20  n_len;have g21:=qTk (P:=l.prog) (w:=w) (base:=base) F21 ⟨g20,b20,k20,m20⟩ n_range;have g22:=qWy (P:=l.prog) (w:=w) (mg:=mg) (base:=base) F22;have g23:=qTl (P:=l.prog) (w:=w) (base:=base) F23 ⟨g22,b22,k22,m22⟩ n_range n_min n_sorted;have g24:=zB2 (P:=l.prog) (w:=w) (mg:=mg) (base:=base) F24;have g25:=qZt (P:=l.prog) (w:=w) (base:=base) F25 ⟨g24,b24,k24,m24⟩ n_int n_sorted;have g26:=qZw (P:=l.prog) (w:=w) (base:=base) F26 ⟨g24,b24,k24,m24⟩ ⟨g25,b25,k25,m25⟩ n_range;have g27:=qZo (P:=l.prog) (w:=w) (base:=base) F27  n_enumerate;have g28:=qZq (P:=l.prog) (w:=w) (base:=base) F28 ⟨g22,b22,k22,m22⟩ ⟨g25,b25,k25,m25⟩ ⟨g26,b26,k26,m26⟩ ⟨g27,b27,k27,m27⟩ n_range n_len;have g29:=qZs (P:=l.prog) (w:=w) (base:=base) F29 ⟨g22,b22,k22,m22⟩ ⟨g25,b25,k25,m25⟩ n_range n_list n_len;have g30:=qZu (P:=l.prog) (w:=w) (base:=base) F30  n_len n_range;have g31:=qZn (P:=l.prog) (w:=w) (base:=base) F31 ⟨g22,b22,k22,m22⟩ ⟨g23,b23,k23,m23⟩ ⟨g30,b30,k30,m30⟩ n_range n_len n_list n_int;have g32:=qW7 (P:=l.prog) (w:=w) (base:=base) F32  n_list;have g33:=qZz (P:=l.prog) (w:=w) (base:=base) F33  n_isinstance n_list n_str;have g34:=qZv (P:=l.prog) (w:=w) (base:=base) F34 ⟨g30,b30,k30,m30⟩ n_len n_sorted;have g35:=qZp (P:=l.prog) (w:=w) (base:=base) F35 ⟨g22,b22,k22,m22⟩ n_range;have g36:=qZ1 (P:=l.prog) (w:=w) (base:=base) F36  n_len;exact qZx F37 ⟨g21,b21,k21,m21⟩ ⟨g22,b22,k22,m22⟩ ⟨g35,b35,k35,m35⟩ ⟨g27,b27,k27,m27⟩ ⟨g25,b25,k25,m25⟩ ⟨g26,b26,k26,m26⟩ ⟨g31,b31,k31,m31⟩ ⟨g33,b33,k33,m33⟩ ⟨g19,b19,k19,m19⟩ ⟨g32,b32,k32,m32⟩ ⟨g34,b34,k34,m34⟩ ⟨g28,b28,k28,m28⟩ ⟨g29,b29,k29,m29⟩ ⟨g36,b36,k36,m36⟩ n_list n_len n_min n_max n_sorted n_set
theorem walk{l:PySem.W.OpenLaw}{q:Program}{loose:List Str}{XP:(Str->Option Value)->Heap->Prop}{YP:World->Heap->Prop}{d dr:DefRec}{K:Params->PySem.W.Frag}(hn:l.most=some 63)(hdf:d.params.defaults=[])
  (hY:∀(w:World) (h:Heap),YP w h->(K w.params).In h) (hrec:(PyProof.Rows.recsOf q).find? (fun e=>e.name == ("in_order" : Str))=some dr)
  (hK:∀w:World,∃c T,PySem.W.tabIn (K w.params) "in_order" = some (c,T)/\PySem.W.noTabs (K w.params)=true)
  (F:∀(w:World) (mg:Str->Option Value) (fa:Addr) (h:Heap) (c T:Addr),(K w.params).In h->h.Ns mainGlobals mg->mg d.name=some (.ref fa)->PySem.W.tabIn (K w.params) "in_order" = some (c,T) ->
   ∃fd:FuncData,(∀(s:Shared) (u:Value),BindsTo s fd ⟨[u],[]⟩ [("_law_script",u)])/\∀base:Heap,(K w.params).In base->base.Ns mainGlobals mg->PySem.W.CodeHd base c T->base.BuiltinsAt mg T->FnOk l.prog w (K w.params) mg base CX0 8 fa fd ["_law_script"] (qSr (K w.params) T)) :
  PySem.W.WalkO q loose XP YP l.row.toRowW d [] (fun f vs=>PySem.call f vs) :=
 L2.walk_ofT (n:=63) (k:=8) (x:="_law_script") (CX:=fun _=>CX0) (sp:=fun w T=>qSr (K w.params) T) hn (by decide) hdf ⟨rfl,by decide,by decide,rfl⟩ hY hrec hK F (fun _ _ _ a ns hl hT hS=>⟨a,ns,rfl,hS,hl,hT,fun _=>rfl⟩) fun _ _ _ _ _ z=>z
theorem tab_mk{K:PySem.W.Frag}{x:Str}{f c T:Addr}{ob ob2:Obj}{fd:FuncData}{vs:Array Value}(a:PySem.W.nsIn K mainGlobals x=some (some (.ref f)))(l:K.lookup f=some ob)(e1:ob.data = .func fd)(e2:fd.code = .ref c)(l2:K.lookup c=some ob2)(e3:ob2.data = .fields vs)(e4:(vs[11]?:Option Value)=some (.ref T)):PySem.W.tabIn K x=some (c,T):=by
 obtain⟨o1,o2,o3,o4⟩:=ob;obtain⟨p1,p2,p3,p4⟩:=ob2;cases e1;cases e3;unfold PySem.W.tabIn;rw[a];dsimp only;rw[l];dsimp only;rw[e2];dsimp only;rw[l2];dsimp only;rw[e4]
end My
namespace PySem.W.Fast
def tw10044081591776747427 := 0
def tw10077244475756460847 := 0
def tw1042205818070946182 := 0
def tw10454377390807840708 := 0
def tw10462184342030711054 := 0
def tw10477982482180860087 := 0
def tw10509082972573169625 := 0
def tw10565787766749689885 := 0
def tw10630472233653410322 := 0
def tw10725934797709409321 := 0
def tw10787236346946114934 := 0
def tw1085458332409183912 := 0
def tw10959972403517316094 := 0
def tw11158852462766404157 := 0
def tw11176939499214623831 := 0
def tw11287253019946666361 := 0
def tw11340722250365058347 := 0
def tw11483086643507646646 := 0
def tw11483362405671338563 := 0
def tw11519789836775154812 := 0
def tw11593630961074363685 := 0
def tw11618758115546206230 := 0
def tw11721890151594484328 := 0
def tw11770654405059216435 := 0
def tw11837005211201404775 := 0
def tw11888663942049612016 := 0
def tw11906563321012149666 := 0
def tw11942402309863066005 := 0
def tw11971241716523229219 := 0
def tw12063562076260908622 := 0
def tw12210454803847632988 := 0
def tw12322672024966860976 := 0
def tw12350807320741516234 := 0
def tw12463441735465947214 := 0
def tw12501407413978504305 := 0
def tw12554899385639830014 := 0
def tw1258972445434342879 := 0
def tw12612853681119567014 := 0
def tw12657053458935853336 := 0
def tw1267344518718399239 := 0
def tw12854681471007507905 := 0
def tw13085041337397015634 := 0
def tw13163739966164856411 := 0
def tw13191144268001207156 := 0
def tw1327168055244742949 := 0
def tw13284900335451091019 := 0
def tw1335130316982760406 := 0
def tw13371120014909748556 := 0
def tw13468176047982272487 := 0
def tw13674280942770306527 := 0
def tw13732688013657049226 := 0
def tw1373910666735555179 := 0
def tw13793815994111018206 := 0
def tw13803975868751445096 := 0
def tw13822543974622945077 := 0
def tw13912724581640519899 := 0
def tw1391325228923525085 := 0
def tw1391985167455004757 := 0
def tw13942608105576295234 := 0
def tw13947851921346749537 := 0
def tw1395174397114695588 := 0
def tw14047199431076524595 := 0
def tw14127746664549832651 := 0
def tw14263710958106945148 := 0
def tw14313936051708203994 := 0
def tw14321984243053484632 := 0
def tw14326828869427203953 := 0
def tw14348104804347571650 := 0
def tw14369642756726875722 := 0
def tw14384787311117507934 := 0
def tw14386930704011828103 := 0
def tw14447493899409074210 := 0
def tw1447672246299228683 := 0
def tw14477788289480186535 := 0
def tw14584037907765904739 := 0
def tw14596937596275903125 := 0
def tw14741356366055360330 := 0
def tw1475800884166119555 := 0
def tw14870126664822408455 := 0
def tw14883499350026262779 := 0
def tw14934818704053292011 := 0
def tw15015038502905554696 := 0
def tw15036085088752376798 := 0
def tw15127081922546238295 := 0
def tw15279128885006454471 := 0
def tw15391712888767845501 := 0
def tw15407807550346413781 := 0
def tw15456753586496123218 := 0
def tw15519552508897568147 := 0
def tw15873743199595305730 := 0
def tw15897186252642579172 := 0
def tw15908335246221569823 := 0
def tw15936105431705222228 := 0
def tw16224674749467732370 := 0
def tw16384095797329320443 := 0
def tw16435206666972143137 := 0
def tw16469818811451701230 := 0
def tw16490510912974699959 := 0
def tw16556627578868623823 := 0
def tw16559412944599641602 := 0
def tw1666666944599694809 := 0
def tw16703903526848396100 := 0
def tw16886797010982813309 := 0
def tw16982703686420962821 := 0
def tw17151503303143450943 := 0
def tw17285038516695132815 := 0
def tw17302831052377972700 := 0
def tw17332660134417688885 := 0
def tw17344799060303806449 := 0
def tw17345741126135992508 := 0
def tw17456669204703988127 := 0
def tw17527335909422747068 := 0
def tw17535040857517780627 := 0
def tw17603590803891450844 := 0
def tw17605106973379651871 := 0
def tw17696789101370044270 := 0
def tw18018744768448903761 := 0
def tw18031887025805080129 := 0
def tw1809538046716692553 := 0
def tw18149857775967207615 := 0
def tw1819882108221531320 := 0
def tw18212799156580058412 := 0
def tw18381176635911864736 := 0
def tw1838374707421385020 := 0
def tw18387269075452231588 := 0
def tw18444268547478149684 := 0
def tw2096541684923985444 := 0
def tw2111777521006642823 := 0
def tw2138323162580830266 := 0
def tw2321946847529726653 := 0
def tw2377624424238774389 := 0
def tw2402064758989202394 := 0
def tw240780548870911303 := 0
def tw248637814354169038 := 0
def tw2499925851412162877 := 0
def tw2544806997447796976 := 0
def tw2552553926101926845 := 0
def tw2608376184872724462 := 0
def tw2706428220860869082 := 0
def tw2787832088263331313 := 0
def tw2793457083113923753 := 0
def tw2815465255127941741 := 0
def tw2850158553910653094 := 0
def tw2971354639852958632 := 0
def tw2993881329886646789 := 0
def tw3103966266330972673 := 0
def tw3120849432925558368 := 0
def tw3188832903021624590 := 0
def tw3396002833723759484 := 0
def tw3449755983990925412 := 0
def tw3626526630878175148 := 0
def tw3688968701006284578 := 0
def tw3690919675040386178 := 0
def tw3725244085686398808 := 0
def tw3797271611521649427 := 0
def tw393497576695439090 := 0
def tw3963146314474582793 := 0
def tw4015345807188484034 := 0
def tw4216601855548759714 := 0
def tw4225281316888827226 := 0
def tw4354338043964206084 := 0
def tw4369698351434419276 := 0
def tw4415251265650232978 := 0
def tw4562731683391918037 := 0
def tw4563829085600638661 := 0
def tw4598325384606513955 := 0
def tw4716612267222811047 := 0
def tw4740697610486606122 := 0
def tw4769355885289976342 := 0
def tw4785043857092308515 := 0
def tw4840497241775793801 := 0
def tw4910134200106927137 := 0
def tw4964507913576568625 := 0
def tw5037685847977381266 := 0
def tw5092827978484831337 := 0
def tw510553450874053364 := 0
def tw5174530809606594949 := 0
def tw5262564511308023541 := 0
def tw5453762396881762626 := 0
def tw5472097933043659017 := 0
def tw5637725718816219758 := 0
def tw586833147747064489 := 0
def tw5880690058210323568 := 0
def tw5912833365750407354 := 0
def tw5938042355295510958 := 0
def tw5943384765000947036 := 0
def tw5957076596399498727 := 0
def tw5958696021901824401 := 0
def tw599646328158502466 := 0
def tw6144500879342779570 := 0
def tw6156067029607973749 := 0
def tw6166202846197472845 := 0
def tw6201803628516338004 := 0
def tw6260487668730200567 := 0
def tw6292003595420295996 := 0
def tw6372036308493255461 := 0
def tw6529413384047396274 := 0
def tw658179557818886177 := 0
def tw6600619599772180897 := 0
def tw660996678039567641 := 0
def tw6815619579058737303 := 0
def tw6890195170388063772 := 0
def tw6937186030515400557 := 0
def tw6992085146954871614 := 0
def tw7006344899506399569 := 0
def tw7060490628940554408 := 0
def tw7133667892645533486 := 0
def tw7136555243449432008 := 0
def tw7148937689989084720 := 0
def tw7163781981321663909 := 0
def tw7240156131572564354 := 0
def tw7249777242594456117 := 0
def tw7270289651038903139 := 0
def tw7568214179600422908 := 0
def tw7618750986339949319 := 0
def tw7638879815915673480 := 0
def tw7872633462097418273 := 0
def tw7894590252085377705 := 0
def tw7930689058435067444 := 0
def tw8088116363230755537 := 0
def tw8098241321520756125 := 0
def tw8179293464648707245 := 0
def tw8230423150487380094 := 0
def tw8294637486762992140 := 0
def tw8301208317271012717 := 0
def tw8450367981844316694 := 0
def tw8465651871678792648 := 0
def tw8567024459614163700 := 0
def tw8573868165435895443 := 0
def tw8590177321619645972 := 0
def tw8592850986898510175 := 0
def tw860055408990829177 := 0
def tw8603132808993584984 := 0
def tw8769069636382315988 := 0
def tw8809786594896927425 := 0
def tw888809888885709128 := 0
def tw8991584971358596444 := 0
def tw8998887328338567535 := 0
def tw8998948969597994909 := 0
def tw9085664008219622624 := 0
def tw9142117655474630725 := 0
def tw9372335104769491335 := 0
def tw9380894006036945014 := 0
def tw9447307121078239915 := 0
def tw9525959402345304411 := 0
def tw969103288910015541 := 0
def tw9870349861859202820 := 0
def tw9927522092972273084 := 0
def tw995248729101669599 := 0
def tw424170287750225420 := 0
end PySem.W.Fast
open PySem PySem.W PyProof.Rows
set_option maxRecDepth 100000 in
set_option maxHeartbeats 0 in
theorem PySem.Challenge.cw_roundsalone_k50_whole_stars_are_quiet_holds : PySem.Challenge.rw_roundsalone_k50_whole_stars_are_quiet.Holds := by
 w_on;o_law;k_head;(case hw=>w_witness2)
 k_fill
 refine' My.walk (l:=PySem.Challenge.rw_roundsalone_k50_whole_stars_are_quiet) rfl rfl (fun w h Y=>PySem.W.km_in_of Y) ?hr ?Kt ?F
 case hr=>rfl
 case Kt =>
  intro w
  refine'⟨_,_,My.tab_mk ?a ?l ?e1 ?e2 ?l2 ?e3 ?e4,?n⟩
  (case a=>k_is)
  (case l=>k_is)
  (case e1=>rfl)
  (case e2=>rfl)
  (case l2=>k_is)
  (case e3=>rfl)
  (case e4=>rfl)
  (case n=>kernel_rfl)
 case F =>
  intro w mg fa h c T KX G hmg ht
  refine' My.all_mk KX G hmg ht ?h1 ?h2 ?h3 ?h4 ?h5 ?h6 ?h7 ?h8 ?h9 ?h10 ?h11 ?h12 ?h13 ?a14 ?l14 ?c14 ?k14 ?h15 ?h16 ?h17 ?h18 ?h19 ?h20 ?h21 ?h22 ?h23 ?h24 ?h25 ?h26 ?h27 ?h28 ?h29 ?h30 ?h31 ?h32 ?h33 ?h34 ?h35 ?h36 ?a37 ?l37 ?c37 ?k37 ?z1 ?z2 ?z3 ?z4 ?z5 ?z6 ?z7 ?z8 ?z9 ?z10 ?z11 ?z12 ?z13
  all_goals (try (refine' My.hs_mk ?a ?l ?c ?k;(case a=>k_is);(case l=>k_is);(case c=>k_is);(case k=>k_is)))
  (case a14=>k_is)
  (case l14=>k_is)
  (case c14=>k_is)
  (case k14=>k_is)
  (case a37=>k_is)
  (case l37=>k_is)
  (case c37=>k_is)
  (case k37=>k_is)
  (case z1=>k_is)
  (case z2=>k_is)
  (case z3=>k_is)
  (case z4=>k_is)
  (case z5=>k_is)
  (case z6=>k_is)
  (case z7=>k_is)
  (case z8=>k_is)
  (case z9=>k_is)
  (case z10=>k_is)
  (case z11=>k_is)
  (case z12=>k_is)
  (case z13=>k_is)
#print axioms PySem.Challenge.cw_roundsalone_k50_whole_stars_are_quiet_holds
