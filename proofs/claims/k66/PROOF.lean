import PyProof.Rows.All
import Wide.All
import OpenK.AllK
import Wide.FinOn
import Lean
import PyProof.EqAt
import PyProof.EqKinds
import PyProof.TupleCall
import KE.KSortKey
import PyProof.ReprBulk
import PyProof.FString5
import KE.KTryMore
import KE.KIsNot
import PyProof.ExcArgsOwn
import PyProof.WalkInts
import PySem.Challenge.RW_roundsalone_k66_papers_of_nets
set_option Elab.async false
set_option linter.all false
set_option maxHeartbeats 16000000
set_option maxRecDepth 100000
abbrev hA1:=@List.length_map
abbrev hA2:=@List.getElem?_eq_getElem
abbrev hA3:=@List.mem_map
abbrev hA4:=@List.map_append
abbrev hA5:=@Nat.le_refl
abbrev hA6:=@List.mem_append_right
abbrev hA7:=@List.mem_cons_of_mem
abbrev hA8:=@List.take_of_length_le
abbrev hA9:=@List.mem_cons_self
abbrev hAa:=@Option.some.inj
abbrev hAb:=@List.getD_eq_getElem?_getD
abbrev hAc:=@List.mem_cons
abbrev hAd:=@List.getElem?_map
abbrev hAe:=@List.size_toArray
abbrev hAf:=@List.length_append
abbrev hAg:=@PySem.W.mg_of
abbrev hAh:=@Nat.lt_of_lt_of_le
abbrev hAi:=@List.length_take
abbrev hAj:=@List.mem_of_getElem?
abbrev hAk:=@List.mem_singleton
abbrev hAl:=@PySem.boot_len
abbrev hAm:=@Bool.false_ne_true
abbrev hAn:=@List.mem_range
abbrev hAo:=@List.getElem?_eq_some_iff
abbrev hAp:=@Nat.ne_of_lt
abbrev hAq:=@List.mem_filter
abbrev hAr:=@List.mem_append
abbrev hAs:=@List.map_map
abbrev hAt:=@Nat.testBit_zero
abbrev hAu:=@List.map_cons
abbrev hAv:=@Nat.lt_succ_self
abbrev hAw:=@Nat.zero_le
abbrev hAx:=@Nat.testBit_xor
abbrev hAy:=@PySem.W.mg_none_of
abbrev hAz:=@List.mem_append_left
abbrev hB0:=@List.filterMap_cons
abbrev hB1:=@PySem.F.plainAttrs_list
abbrev hB2:=@Nat.le_of_lt
abbrev hB3:=@Int.toNat_natCast
abbrev hB4:=@List.length_range
abbrev hB5:=@Nat.le_succ
abbrev hB6:=@List.not_mem_nil
abbrev hB7:=@Nat.le_trans
abbrev hB8:=@Nat.eq_of_testBit_eq
abbrev hB9:=@Int.eq_ofNat_of_zero_le
abbrev hBa:=@PySem.mem_of_lookup
abbrev hBb:=@List.map_congr_left
abbrev hBc:=@Nat.mod_two_eq_zero_or_one
abbrev hBd:=@List.length_cons
abbrev hBe:=@Nat.lt_succ_of_lt
abbrev hBf:=@List.pairwise_map
abbrev hBg:=@List.getElem_mem
abbrev hBh:=@List.nodup_cons
abbrev hBi:=@List.Pairwise.imp_of_mem
abbrev hBj:=@PySem.F.slot_list_append
abbrev hBk:=@PySem.F.type_list_append
abbrev hBl:=@Nat.lt_irrefl
abbrev hBm:=@List.pairwise_cons
abbrev hBn:=@Bool.true_and
abbrev hBo:=@List.filter_append
abbrev hBp:=@Array.length_toList
abbrev hBq:=@List.append_nil
abbrev hBr:=@List.cons_lt_cons_iff
abbrev hBs:=@Nat.testBit_two_pow
abbrev hBt:=@PySem.W.kia_one
abbrev hBu:=@Nat.lt_pow_two_of_testBit
abbrev hBv:=@Bool.and_eq_true
abbrev hBw:=@List.all_eq_true
abbrev hBx:=@Nat.testBit_succ
abbrev hBy:=@List.length_filter_le
abbrev hBz:=@PyProof.Rows.callWith_type1
abbrev hC0:=@Option.map_some
abbrev hC1:=@Nat.pow_le_pow_right
abbrev hC2:=@List.getElem?_append_right
abbrev hC3:=@List.mem_map_of_mem
abbrev hC4:=@List.length_replicate
abbrev hC5:=@List.filterMap_append
abbrev hC6:=@List.range_succ
abbrev hC7:=@Nat.xor_lt_two_pow
abbrev hC8:=@List.lookup_cons
abbrev hC9:=@Nat.lt_log2_self
abbrev hCa:=@List.mem_filterMap
abbrev hCb:=@Array.getElem?_toList
abbrev hCc:=@Nat.shiftRight_eq_div_pow
abbrev hCd:=@Option.isSome_iff_exists
abbrev hCe:=@List.length_filterMap_le
abbrev hCf:=@List.reverse_cons
abbrev hCg:=@Array.toList_append
abbrev hCh:=@List.length_drop
abbrev hCi:=@Nat.le_add_right
abbrev hCj:=@Nat.mod_lt
abbrev hCk:=@PySem.W.cellsFrom_some
abbrev hCl:=@List.map_singleton
abbrev hCm:=@List.length_set
abbrev hCn:=@List.find?_cons
abbrev hCo:=@List.getElem?_eq_none
abbrev hCp:=@Nat.lt_or_ge
abbrev hCq:=@Nat.testBit_and
abbrev hCr:=@List.any_cons
abbrev hCs:=@List.foldl_append
abbrev hCt:=@List.Perm.refl
abbrev hCu:=@Nat.testBit_log2
abbrev hCv:=@Nat.zero_testBit
abbrev hCw:=@List.replicate_succ
abbrev hCx:=@Int.toNat_of_nonneg
abbrev hCy:=@List.filter_sublist
abbrev hCz:=@Nat.ne_of_gt
abbrev hD0:=@List.all_map
abbrev hD1:=@Nat.zero_xor
namespace L2
open PySem PySem.Spec PyProof.Rows
abbrev Key:=Sum Int Str
def keyIs:Key->Value->Bool
 | .inl k,v=>Value.isInt k v
 | .inr x,v=>Value.isStrOf x v
def keyH (w:World):Key->Int
 | .inl k=>hashInt k
 | .inr x=>hashStr w x
theorem keyIs_shape:∀ {k:Key} {v:Value},keyIs k v=true->(∃ i t,k=Sum.inl i/\v=Value.int i t)\/(∃ x t,k=Sum.inr x/\v=Value.str x t)
 | .inl i,v,h=>by
  obtain⟨t,e⟩:=Value.isInt_shape (k:=i) (v:=v) h;exact .inl ⟨i,t,rfl,e⟩
 | .inr x,v,h=>by
  obtain⟨t,e⟩:=Value.isStrOf_shape (x:=x) (v:=v) h;exact .inr ⟨x,t,rfl,e⟩
theorem keyIs_int (i:Int) (t:Tok):keyIs (.inl i) (.int i t)=true:=by simp[keyIs,Value.isInt]
theorem keyIs_str (x:Str) (t:Tok):keyIs (.inr x) (.str x t)=true:=by simp[keyIs,Value.isStrOf]
theorem key_ll (a b:Int):decide ((Sum.inl a:Key)=Sum.inl b)=(a == b):=by
 by_cases e:a=b
 ·subst e;simp
 ·have h:¬(Sum.inl a:Key)=Sum.inl b:=fun q=>e (Sum.inl.inj q)
  rw[decide_eq_false h];exact(beq_eq_false_iff_ne.mpr e).symm
theorem key_rr (a b:Str):decide ((Sum.inr a:Key)=Sum.inr b)=decide (a=b):=by
 by_cases e:a=b
 ·subst e;simp
 ·have h:¬(Sum.inr a:Key)=Sum.inr b:=fun q=>e (Sum.inr.inj q)
  rw[decide_eq_false h,decide_eq_false e]
theorem key_lr (a:Int) (b:Str):decide ((Sum.inl a:Key)=Sum.inr b)=false:=decide_eq_false (fun q=>nomatch q)
theorem key_rl (a:Str) (b:Int):decide ((Sum.inr a:Key)=Sum.inl b)=false:=decide_eq_false (fun q=>nomatch q)
def qBb (prog:Program) (w:World):PySem.KeyKind prog w Key where
 is:=keyIs
 hash:=keyH w
 inj:=fun v a b ha hb=>by
  rcases keyIs_shape ha with ⟨i,t,rfl,rfl⟩ | ⟨x,t,rfl,rfl⟩
  ·rcases keyIs_shape hb with ⟨j,u,rfl,e⟩ | ⟨y,u,rfl,e⟩
   ·injection e with e1 _;rw[e1]
   ·exact nomatch e
  ·rcases keyIs_shape hb with ⟨j,u,rfl,e⟩ | ⟨y,u,rfl,e⟩
   ·exact nomatch e
   ·injection e with e1 _;rw[e1]
 byValue:=fun k v h=>by
  rcases keyIs_shape h with ⟨i,t,rfl,rfl⟩ | ⟨x,t,rfl,rfl⟩ <;> rfl
 pyHash:=fun hv h=>by
  rcases keyIs_shape hv with ⟨i,t,rfl,rfl⟩ | ⟨x,t,rfl,rfl⟩
  ·exact wpAny_pyHash_int h
  ·exact wpAny_pyHash_str h
 eqBool:=fun hu hv h=>by
  rcases keyIs_shape hu with ⟨i,t,rfl,rfl⟩ | ⟨x,t,rfl,rfl⟩
  ·rcases keyIs_shape hv with ⟨j,u,rfl,rfl⟩ | ⟨y,u,rfl,rfl⟩
   ·rw[key_ll]at h;exact wpAny_eqBool_int h
   ·rw[key_lr]at h;exact SeqAt.EqAt.int_str i t y u _ _ _ _ h
  ·rcases keyIs_shape hv with ⟨j,u,rfl,rfl⟩ | ⟨y,u,rfl,rfl⟩
   ·rw[key_rl]at h;exact SeqAt.EqAt.str_int x t j u _ _ _ _ h
   ·rw[key_rr]at h;exact wpAny_eqBool_str h
 «strs»:=fun k x t v h=>by
  rcases keyIs_shape h with ⟨i,u,rfl,e⟩ | ⟨y,u,rfl,e⟩
  ·exact nomatch e
  ·injection e with e1 _
   subst e1;cases v <;> rfl
theorem mixKind_int (prog:Program) (w:World) (i:Int) (t:Tok):(qBb prog w).is (.inl i) (.int i t)=true:=keyIs_int i t
theorem mixKind_str (prog:Program) (w:World) (x:Str) (t:Tok):(qBb prog w).is (.inr x) (.str x t)=true:=keyIs_str x t
end L2
namespace L2
open PySem PySem.Spec PyProof.Rows
inductive V where
 | non | bl (b:Bool) | int (i:Int) | str (x:Str) | byt (b:Array UInt8) | flt (b:UInt64) | ref (a:Addr) | ty (n:String)
 deriving DecidableEq
def qBn:V->Value->Prop
 | .non,u=>u=Value.none
 | .bl b,u=>u=Value.bool b
 | .int i,u=>∃ t,u=Value.int i t
 | .str x,u=>∃ t,u=Value.str x t
 | .byt b,u=>∃ t,u=Value.bytes b t
 | .flt b,u=>∃ t,u=Value.float b t
 | .ref a,u=>u=Value.ref a
 | .ty n,u=>u=Value.type n
abbrev qA5:List V->List Value->Prop:=Paired qBn
theorem qA5.length (r:qA5 xs us):xs.length=us.length:=Paired.length r
theorem qA5.get:∀ {xs:List V} {us:List Value} {i:Nat} {x:V},qA5 xs us->xs[i]?=some x->∃ u,us[i]?=some u/\qBn x u
 | _,_,_,_,.nil,e=>by simp at e
 | _,_,0,_,.cons r _,e=>by simp at e;subst e;exact⟨_,rfl,r⟩
 | _,_,i+1,x,.cons _ t,e=>by
  obtain⟨u,h1,h2⟩:=qA5.get (i:=i) (x:=x) t (by simpa using e);exact⟨u,by simpa using h1,h2⟩
theorem qA5.set (r:qBn x u):∀ {xs:List V} {us:List Value} (i:Nat),qA5 xs us->qA5 (xs.set i x) (us.set i u)
 | _,_,_,.nil=>.nil
 | _,_,0,.cons _ t=>.cons r t
 | _,_,i+1,.cons q t=>.cons q (qA5.set r i t)
theorem qA5.append:∀ {xs ys:List V} {us ws:List Value},qA5 xs us->qA5 ys ws->qA5 (xs++ys) (us++ws)
 | _,_,_,_,.nil,s=>s
 | _,_,_,_,.cons r t,s=>.cons r (qA5.append t s)
theorem qA5.take:∀ {xs:List V} {us:List Value} (n:Nat),qA5 xs us->qA5 (xs.take n) (us.take n)
 | _,_,0,_=>.nil
 | _,_,_+1,.nil=>.nil
 | _,_,n+1,.cons r t=>.cons r (qA5.take n t)
theorem qA5.drop:∀ {xs:List V} {us:List Value} (n:Nat),qA5 xs us->qA5 (xs.drop n) (us.drop n)
 | _,_,0,r=>r
 | _,_,_+1,.nil=>.nil
 | _,_,n+1,.cons _ t=>qA5.drop n t
def RelO:Option V->Option Value->Prop
 | some v,some u=>qBn v u
 | none,none=>True
 | _,_=>False
def KV {κ:Type}:List (κ×V)->List (κ×Value)->Prop:=Paired fun (p:κ×V) (q:κ×Value)=>p.1=q.1/\qBn p.2 q.2
def kV:Key->V
 | .inl i=>.int i
 | .inr x=>.str x
inductive HO where
  | lst (xs:List V)
  | tup (xs:List V)
  | dK (kvs:List (Key×V)) | dT (kvs:List (List Key×V))
  | set (S:Int->Bool) (n:Nat)
  | ins (C dx:Addr) (fs:List (Str×V))
  | own (x:Addr)
  | xd (fs:List (Str×V))
  | met (f x:Addr)
  | rng (lo hi:Int)
  | frz (o:Obj) (u:HO)
  | tbl (ps:Array Value)
  | ext (φ:Heap->Prop)
abbrev Hp:=Addr->Option HO
def upd (H:Hp) (a:Addr) (o:HO):Hp:=fun b=>if b=a then some o else H b
theorem upd_same:upd H a o a=some o:=by unfold upd;rw[if_pos rfl]
theorem qAh (h:b≠a):upd H a o b=H b:=by unfold upd;rw[if_neg h]
theorem qCl:upd (upd H a o) a u=upd H a u:=by
 funext b;unfold upd;split <;> rfl
theorem ne_of {H:Hp} {a b:Addr} {o u:HO} (h:H a=some o) (h':H b=some u) (d:o≠u):a≠b:=by
 intro e;subst e;rw[h]at h';exact d (hAa h')
theorem qAj {H:Hp} {a b:Addr} {o:HO} (h:H a=some o) (h':H b=none):a≠b:=by
 intro e;subst e;rw[h]at h';cases h'
section
variable (P:Program) (w:World)
def qBs (H:Hp) (h:Heap) (a:Addr):HO->Prop
 | .lst xs=>xs.length<=sizeLine/\∃ (its:List Value) (n:Nat),qA5 xs its/\h.get? a=some { cls:=.type "list",data:=.seq its.toArray n }
 | .tup xs=>xs.length<=sizeLine/\∃ its:List Value,qA5 xs its/\IsTup h a its.toArray
 | .dK kvs=>kvs.length<=sizeLine/\(a == sysModules)=false/\∃ vs,KV kvs vs/\h.DictOf (qBb P w) a vs
 | .dT kvs=>kvs.length<=sizeLine/\(a == sysModules)=false/\∃ xs:List (List Key×Addr×Value),
   Paired (fun (p:List Key×V) (q:List Key×Addr×Value)=>p.1=q.1/\H q.2.1=some (.tup (p.1.map kV))/\qBn p.2 q.2.2) kvs xs /\
   ∃ o es ep,h.get? a=some o/\o.ExactDict/\o.data = .dict es ep/\es.toList=xs.map (entryOfKey (tupleKind (qBb P w)))/\(xs.map (·.1)).Nodup
 | .set S n=>h.SetOf (intKind P w) a S n
 | .ins C dx fs=>H dx=some (.own a)/\fs.length<=1000/\dx≠a/\h.get? a=some (PySem.W.instObj C dx) /\
   ∃ mA,h.Ns1 dx mA/\(∀ f,RelO (fs.lookup f) (mA f))/\PySem.Within mA (fs.map (·.1))
 | .own _=>∃ o,h.get? a=some o
 | .xd fs=>∃ mA,h.Ns1 a mA/\∀ f,RelO (fs.lookup f) (mA f)
 | .rng lo hi=>∃ t u v,h.get? a=some { cls:=.type "range",data:=.fields #[.int lo t,.int hi u,.int 1 v] }
 | .frz o u=>h.get? a=some o/\qBs H h a u
 | .tbl ps=>h.get? a=some { cls:=.none,data:=.fields ps }
 | .met f x=>h.get? a=some (PySem.W.methodObj (.ref f) (.ref x))
 | .ext φ=>φ h/\(∃ o,h.get? a=some o)/\∀ h1 h2:Heap,φ h1->(∀ o,h1.get? a=some o->h2.get? a=some o)->φ h2
def HOk (H:Hp) (h:Heap):Prop:=∀ a o,H a=some o->qBs P w H h a o
end
section
variable {P:Program} {w:World} {H H':Hp} {h h':Heap} {a:Addr} {o:HO}
theorem qBs.lt (x:qBs P w H h a o):a<h.objs.size:=by
 cases o with
 | lst xs=>obtain⟨_,_,_,_,e⟩:=x;exact Heap.lt_size e
 | tup xs=>obtain⟨_,_,_,p⟩:=x;exact p.lt
 | dK kvs=>obtain⟨_,_,_,_,o,_,_,e,_⟩:=x;exact Heap.lt_size e
 | dT kvs=>obtain⟨_,_,_,_,o,_,_,e,_⟩:=x;exact Heap.lt_size e
 | set S n=>obtain⟨o,_,_,_,e,_⟩:=x;exact Heap.lt_size e
 | ins C dx fs=>obtain⟨_,_,_,e,_⟩:=x;exact Heap.lt_size e
 | own y=>obtain⟨_,e⟩:=x;exact Heap.lt_size e
 | xd fs=>obtain⟨_,⟨_,_,_,e,_⟩,_⟩:=x;exact Heap.lt_size e
 | rng lo hi=>obtain⟨_,_,_,e⟩:=x;exact Heap.lt_size e
 | frz ob u=>obtain⟨e,_⟩:=x;exact Heap.lt_size e
 | tbl ps=>exact Heap.lt_size (show h.get? a=some _ from x)
 | met f y=>exact Heap.lt_size (show h.get? a=some _ from x)
 | ext φ=>obtain⟨_,⟨_,e⟩,_⟩:=x;exact Heap.lt_size e
theorem Paired.mapP:∀ {l₁:List α} {l₂:List β},Paired F l₁ l₂->(∀ a b,F a b->G a b)->Paired G l₁ l₂
 | _,_,.nil,_=>.nil
 | _,_,.cons r t,f=>.cons (f _ _ r) (Paired.mapP t f)
theorem qBs.stay (x:qBs P w H h a o) (k:∀ b u,(b=a\/H b=some (.own a))->h.get? b=some u->h'.get? b=some u)
  (ho:∀ b,H b=some (.own a)->H' b=some (.own a)) (ht:∀ b xs,H b=some (.tup xs)->H' b=some (.tup xs)):qBs P w H' h' a o:=by
 induction o with
 | lst xs=>obtain⟨z,its,n,r,e⟩:=x;exact⟨z,its,n,r,k _ _ (.inl rfl) e⟩
 | tup xs=>obtain⟨z,its,r,ob,e,c⟩:=x;exact⟨z,its,r,ob,k _ _ (.inl rfl) e,c⟩
 | dK kvs=>obtain⟨z,y,vs,r,ob,es,ep,e,c⟩:=x;exact⟨z,y,vs,r,ob,es,ep,k _ _ (.inl rfl) e,c⟩
 | dT kvs =>
  obtain⟨z,y,xs,r,ob,es,ep,e,c⟩:=x;exact⟨z,y,xs,Paired.mapP r fun p q z=>⟨z.1,ht _ _ z.2.1,z.2.2⟩,ob,es,ep,k _ _ (.inl rfl) e,c⟩
 | set S n=>obtain⟨ob,es,ep,t,e,c⟩:=x;exact⟨ob,es,ep,t,k _ _ (.inl rfl) e,c⟩
 | ins C dx fs =>
  obtain⟨d,z,ne,e,mA,⟨od,es,ep,e2,c⟩,r⟩:=x;exact⟨ho _ d,z,ne,k _ _ (.inl rfl) e,mA,⟨od,es,ep,k _ _ (.inr d) e2,c⟩,r⟩
 | own y=>obtain⟨ob,e⟩:=x;exact⟨ob,k _ _ (.inl rfl) e⟩
 | xd fs=>obtain⟨mA,⟨od,es,ep,e,c⟩,r⟩:=x;exact⟨mA,⟨od,es,ep,k _ _ (.inl rfl) e,c⟩,r⟩
 | rng lo hi=>obtain⟨t,u,v,e⟩:=x;exact⟨t,u,v,k _ _ (.inl rfl) e⟩
 | frz ob u ih=>obtain⟨e,q⟩:=x;exact⟨k _ _ (.inl rfl) e,ih q⟩
 | tbl ps =>
  have e:h.get? a=some { cls:=.none,data:=.fields ps }:=x;show h'.get? a=some { cls:=.none,data:=.fields ps };exact k a _ (.inl rfl) e
 | met f y =>
  have e:h.get? a=some (PySem.W.methodObj (.ref f) (.ref y)):=x;show h'.get? a=some (PySem.W.methodObj (.ref f) (.ref y));exact k a _ (.inl rfl) e
 | ext φ=>obtain⟨p,⟨o,e⟩,st⟩:=x;exact⟨st _ _ p fun o q=>k _ _ (.inl rfl) q,⟨o,k _ _ (.inl rfl) e⟩,st⟩
theorem HOk.lt (x:HOk P w H h) (e:H a=some o):a<h.objs.size:=(x a o e).lt
theorem HOk.fresh (x:HOk P w H h) (e:h.objs.size<=a):H a=none:=by
 cases q:H a with
 | none=>rfl
 | some u=>exact absurd (hAh (x.lt q) e) (hBl _)
theorem HOk.kept (x:HOk P w H h) (k:∀ b u,h.get? b=some u->h'.get? b=some u):HOk P w H h':=fun a o e =>
 (x a o e).stay (fun b u _ q=>k b u q) (fun _ q=>q) fun _ _ q=>q
theorem HOk.laid (x:HOk P w H h) (k:∀ b u,h.get? b=some u->h'.get? b=some u) (hp:h.objs.size<=a) (new:qBs P w (upd H a o) h' a o):HOk P w (upd H a o) h':=fun b u e=>by
 have hn:=x.fresh hp;by_cases hb:b=a
 ·subst hb;rw[upd_same]at e;cases e;exact new
 ·rw[qAh hb]at e;exact(x b u e).stay (fun c v _ q=>k c v q) (fun c q=>by rw[qAh (qAj q hn)];exact q) fun c xs q=>by rw[qAh (qAj q hn)];exact q
end
def Rd (H:Hp) (a:Addr) (u:HO):Prop:=H a=some u\/∃ o,H a=some (.frz o u)
theorem Rd.ok (r:Rd H a u) (x:HOk P w H h):qBs P w H h a u:=by
 rcases r with r | ⟨o,r⟩
 ·exact x a u r
 ·obtain⟨_,q⟩:=x a _ r;exact q
def Mut:Option HO->Prop
 | some (.lst _)=>True
 | some (.dK _)=>True
 | some (.dT _)=>True
 | some (.set _ _)=>True
 | some (.ins _ _ _)=>True
 | some (.ext _)=>True
 | _=>False
section
variable {P:Program} {w:World} {H:Hp} {h h':Heap} {x e:Addr} {o':HO}
theorem HOk.write (ok:HOk P w H h) (mu:Mut (H x)) (he:e=x\/H e=some (.own x)) (k:∀ b u,b≠e->h.get? b=some u->h'.get? b=some u) (heo:∃ u,h'.get? e=some u)
  (new:qBs P w (upd H x o') h' x o'):HOk P w (upd H x o') h':=fun b u q=>by
 have nown:∀ c y,H c=some (.own y)->c≠x:=fun c y r z=>by subst z;rw[r]at mu;exact mu
 have ntup:∀ c xs,H c=some (.tup xs)->c≠x:=fun c xs r z=>by subst z;rw[r]at mu;exact mu
 by_cases hb:b=x
 ·subst hb;rw[upd_same]at q;cases q;exact new
 ·rw[qAh hb]at q;by_cases hbe:b=e
  ·have q':H b=some (.own x):=by
    rcases he with z | z
    ·exact absurd (hbe.trans z) hb
    ·rw[hbe];exact z
   rw[q]at q';cases q';obtain⟨v,hv⟩:=heo;exact⟨v,by rw[hbe];exact hv⟩
  ·refine(ok b u q).stay (fun c v hc r=>k c v ?_ r) (fun c r=>by rw[qAh (nown c b r)];exact r) fun c xs r=>by rw[qAh (ntup c xs r)];exact r
   rcases hc with rfl | hc
   ·exact hbe
   ·rintro rfl;rcases he with z | z
    ·exact nown c b hc z
    ·rw[hc]at z;cases z;exact hb rfl
end
structure Un (fs ex:List Addr) (H H':Hp) (h h':Heap):Prop where
 keep:∀ b o,h.get? b=some o->H b=none->b∉fs->b∉ex->h'.get? b=some o
 slot:∀ b o,h.get? b=some o->H b=none->b∈fs->b∉ex->∃ sl,h'.get? b=some { o with slots:=sl }
 free:∀ b o,h.get? b=some o->H b=none->b∉ex->H' b=none
 there:∀ b o,h.get? b=some o->b∉ex->∃ o',h'.get? b=some o'
 tups:∀ b xs,H b=some (.tup xs)->H' b=some (.tup xs)
 frzs:∀ b o u,H b=some (.frz o u)->H' b=some (.frz o u)
 tbls:∀ b ps,H b=some (.tbl ps)->∃ more,H' b=some (.tbl (ps++more))
section
variable {fs fs' ex ex':List Addr} {H H1 H2:Hp} {h h1 h2 h':Heap} {a x e:Addr} {o:HO}
theorem Un.any (u:Un fs ex H H1 h h1) (q:h.get? b=some ob) (n:H b=none) (hx:b∉ex):∃ sl,h1.get? b=some { ob with slots:=sl }:=by
 by_cases hb:b∈fs
 ·exact u.slot b ob q n hb hx
 ·exact⟨ob.slots,u.keep b ob q n hb hx⟩
theorem Un.kept (k:∀ b u,h.get? b=some u->h'.get? b=some u):Un fs ex H H h h' :=
 ⟨fun b ob q _ _ _=>k b ob q,fun b ob q _ _ _=>⟨ob.slots,k b ob q⟩,fun _ _ _ n _=>n,fun b ob q _=>⟨ob,k b ob q⟩,fun _ _ q=>q,fun _ _ _ q=>q,fun _ ps q=>⟨#[],by rw[q];simp⟩⟩
theorem Un.refl:Un fs ex H H h h:=Un.kept fun _ _ q=>q
theorem Un.laid (k:∀ b u,h.get? b=some u->h'.get? b=some u) (hp:h.objs.size<=a) (hn:H a=none):Un fs ex H (upd H a o) h h' where
 keep:=fun b u q _ _ _=>k b u q
 slot:=fun b u q _ _ _=>⟨u.slots,k b u q⟩
 free:=fun b u q n _=>by rw[qAh (hAp (hAh (Heap.lt_size q) hp))];exact n
 there:=fun b u q _=>⟨u,k b u q⟩
 tups:=fun b xs q=>by rw[qAh (qAj q hn)];exact q
 frzs:=fun b u xs q=>by rw[qAh (qAj q hn)];exact q
 tbls:=fun b ps q=>⟨#[],by rw[qAh (qAj q hn),q];simp⟩
theorem Un.write (mu:Mut (H x)) (he:e=x\/H e=some (.own x)) (k:∀ b u,b≠e->h.get? b=some u->h'.get? b=some u) (heo:∃ u,h'.get? e=some u):Un fs ex H (upd H x o) h h':=by
 have hx:∀ b,H b=none->b≠x:=fun b n z=>by subst z;rw[n]at mu;exact mu
 have hb:∀ b,H b=none->b≠e:=fun b n z=>by
  subst z;rcases he with r | r
  ·exact hx b n r
  ·rw[n]at r;cases r
 have hm:∀ b u,H b=some u->¬Mut (some u)->b≠x:=fun b u q nm z=>by subst z;rw[q]at mu;exact nm mu
 refine⟨fun b u q n _ _=>k b u (hb b n) q,fun b u q n _ _=>⟨u.slots,k b u (hb b n) q⟩,fun b u q n _=>by rw[qAh (hx b n)];exact n,fun b u q _=>?_,
  fun b xs q=>by rw[qAh (hm b _ q fun z=>z)];exact q,fun b u xs q=>by rw[qAh (hm b _ q fun z=>z)];exact q,fun b ps q=>⟨#[],by rw[qAh (hm b _ q fun z=>z),q];simp⟩⟩
 by_cases hbe:b=e
 ·subst hbe;exact heo
 ·exact⟨u,k b u hbe q⟩
end
def trk (h:Heap) (H:Hp):List Addr:=(List.range h.objs.size).filter fun a=>(H a).isSome
def hidT (h:Heap) (H:Hp):Heap:=PySem.W.hideAll h (trk h H)
theorem hidT_size (h:Heap) (H:Hp):(hidT h H).objs.size=h.objs.size:=PySem.W.hideAll_size _ _
theorem hidT_get (e:h.get? b=some o) (n:H b=none):(hidT h H).get? b=some o :=
 PySem.W.hideAll_get _ e fun hm=>by
  have q:(H b).isSome=true:=(hAq.mp hm).2;rw[n]at q;simp at q
theorem of_hidT (e:(hidT h H).get? b=some o):h.get? b=some o/\H b=none:=by
 have e':h.get? b=some o:=PySem.W.of_hideAll (trk h H) e;refine⟨e',?_⟩;cases q:H b with
 | none=>rfl
 | some x =>
  have hm:b∈trk h H:=hAq.mpr ⟨hAn.mpr (Heap.lt_size e'),by simp[q]⟩;have z:(hidT h H).get? b=none:=PySem.W.hideAll_none (trk h H) hm;rw[z]at e;cases e
def allNews (g h:Heap) (L:Addr):List (Addr×Obj):=(List.range h.objs.size).filterMap fun a=>if a=L\/(g.get? a).isSome=true then none else (h.get? a).map fun o=>(a,o)
def rest (g h:Heap) (L d:Addr):List (Addr×Obj):=(allNews g h L).filter fun p=>decide (p.1≠d)
end L2
namespace L2
open PySem PySem.Spec PyProof.Rows
structure Mod (K:PySem.W.Frag) (mg:Str->Option Value) (base:Heap):Prop where
 kin:K.In base
 glob:base.Ns mainGlobals mg
 blt:∃ mb,base.Ns builtinsNs mb/\∀ x:Str,x≠"__name__"->mb x=bootBuiltins x
 nolimit:base.NoLimit
structure Cx where
 prog:Program
 w:World
 K:PySem.W.Frag
 mg:Str->Option Value
 base:Heap
 A:Around
 N:List Str
 s₀:Shared
 H₀:Hp
 env:Env
 outer:List Env
 stack:List Env
 ex:List Addr
 fn:Str->Bool
 calm:Bool
 pn:List (Addr×Obj)
 xe:Value->Shared->Prop
def frs (l:List Env):List Addr:=l.filterMap (·.frame)
abbrev Cx.fs (X:Cx):List Addr:=frs X.outer
def Vis (sc:Scope) (x:Str):Prop:=sc.names.lookup x=some .local\/sc.names.lookup x=some .cell\/sc.names.lookup x=some .free
def Loc (sc:Scope) (x:Str):Prop:=sc.names.lookup x=some .local\/sc.names.lookup x=some .cell
def Look (env:Env) (h:Heap) (m:Str->Option Value) (x:Str) (u:Value):Prop :=
 (env.kindOf x=some .local/\m x=some u)\/((env.kindOf x=some .cell\/env.kindOf x=some .free)/\∃ c,env.cells.lookup x=some c/\h.IsCell c (some u))
structure Cx.Ok (X:Cx):Prop where
 mod:Mod X.K X.mg X.base
 kind:X.env.scope.kind = .function
 glob:X.env.globals=mainGlobals
 blt:X.env.builtins=builtinsNs
 above:X.s₀.heap.objs.size<=X.env.locals
 inj:∀ x y c,X.env.cells.lookup x=some c->X.env.cells.lookup y=some c->x=y
 has:∀ x,(X.env.kindOf x=some .cell\/X.env.kindOf x=some .free)->∃ c,X.env.cells.lookup x=some c
 cab:∀ x c,X.fn x=true->X.env.cells.lookup x=some c->X.s₀.heap.objs.size<=c
 hd:X.calm=true->X.A.handled=none
 frames:X.A.frames=some X.stack
 stk:X.stack=X.outer\/(X.stack=X.env :: X.outer/\X.env.frame=some X.env.locals)
 exf:∀ b∈X.ex,b≠X.env.locals/\∀ x c,X.env.cells.lookup x=some c->c≠b
 bs:∀ b o,X.base.get? b=some o->X.s₀.heap.get? b=some o/\X.H₀ b=none
 bsz:X.base.objs.size<=X.s₀.heap.objs.size
 noex:∀ b o,X.base.get? b=some o->b∉X.ex
 exfs:∀ b∈X.ex,b∉X.fs
 funs:X.s₀.heap.FunFrames X.base X.outer
 frf:∀ b∈X.fs,X.H₀ b=none
structure Inv (X:Cx) (pins:List (Addr×Obj)) (σ:List (Option V)) (H:Hp) (s:Shared):Prop where
 ok:X.Ok
 os:s.os=X.s₀.os
 bare:AllBare s.gens
 base:Un X.fs X.ex X.H₀ H X.s₀.heap s.heap
 loc:∃ m,s.heap.Ns X.env.locals m/\∀ (i:Nat) (x:Str) (v:V),X.N[i]?=some x->σ[i]?=some (some v)->Vis X.env.scope x->∃ u,qBn v u/\Look X.env s.heap m x u
 cell:∀ x c,X.env.cells.lookup x=some c->∃ v,s.heap.IsCell c v
 free:H X.env.locals=none
 freeC:∀ x c,X.env.cells.lookup x=some c->H c=none
 pin:∀ p∈X.pn++pins,s.heap.get? p.1=some p.2/\H p.1=none/\p.1≠X.env.locals/\p.1∉X.fs/\∀ v,p.2.data≠.cell v
 hok:HOk X.prog X.w H s.heap
 len:σ.length=X.N.length
section
variable {X:Cx} {pins:List (Addr×Obj)} {σ:List (Option V)} {H H':Hp} {s:Shared} {h':Heap}
theorem Cx.Ok.nofr (ok:X.Ok) (e:X.base.get? b=some o):b∉X.fs:=fun hb=>by
 have:=(ok.funs.mem hb).1;rw[e]at this;cases this
theorem Inv.bs (I:Inv X pins σ H s):∀ b o,X.base.get? b=some o->s.heap.get? b=some o/\H b=none:=fun b o e =>
 ⟨I.base.keep b o (I.ok.bs b o e).1 (I.ok.bs b o e).2 (I.ok.nofr e) (I.ok.noex b o e),I.base.free b o (I.ok.bs b o e).1 (I.ok.bs b o e).2 (I.ok.noex b o e)⟩
theorem Inv.bk (I:Inv X pins σ H s):∀ b o,X.base.get? b=some o->s.heap.get? b=some o:=fun b o e=>(I.bs b o e).1
theorem Inv.mod (I:Inv X pins σ H s):Mod X.K X.mg X.base:=I.ok.mod
theorem Inv.kIn (I:Inv X pins σ H s):X.K.In s.heap:=I.ok.mod.kin.keeps I.bk
theorem Inv.lt (I:Inv X pins σ H s):X.env.locals<s.heap.objs.size:=let ⟨_,hn,_⟩:=I.loc;hn.lt
theorem Inv.sz (I:Inv X pins σ H s):X.s₀.heap.objs.size<=s.heap.objs.size:=hB7 I.ok.above (hB2 I.lt)
theorem Inv.nofs (I:Inv X pins σ H s) (h:s.heap.objs.size<=a):a∉X.fs:=fun hb=>by
 obtain⟨_,o,ho,_⟩:=I.ok.funs.mem hb;exact absurd (hAh (Heap.lt_size ho) (hB7 I.sz h)) (hBl _)
theorem Inv.cne (I:Inv X pins σ H s):∀ x c,X.env.cells.lookup x=some c->c≠X.env.locals:=fun x c e z=>by
 obtain⟨v,o,ho,hd⟩:=I.cell x c e;obtain⟨m,⟨o',es,ep,ho',hd',_⟩,_⟩:=I.loc;rw[z,ho']at ho;cases ho;rw[hd']at hd;cases hd
theorem Inv.funs (I:Inv X pins σ H s):s.heap.FunFrames X.base X.outer:=by
 have all:∀ (l:List Env),(∀ b∈frs l,b∈X.fs)->X.s₀.heap.FunFrames X.base l->s.heap.FunFrames X.base l:=by
  intro l
  induction l with
  | nil=>intro _ _;trivial
  | cons env r ih =>
   intro hs hl;obtain⟨hk,⟨L,o,hf,hn,ho,hd⟩,hr⟩:=hl;have hL:L∈X.fs:=hs L (by unfold frs;rw[hB0,hf];exact hA9);obtain⟨sl,e⟩:=I.base.slot L o ho (I.ok.frf L hL) hL fun z=>I.ok.exfs L z hL
   exact⟨hk,⟨L,_,hf,hn,e,hd⟩,ih (fun b hb=>hs b (by unfold frs;rw[hB0,hf];exact hA7 _ hb)) hr⟩
 exact all X.outer (fun _ hb=>hb) I.ok.funs
theorem Inv.stack (I:Inv X pins σ H s):s.heap.FunFrames X.base X.stack:=by
 rcases I.ok.stk with e | ⟨e,hf⟩
 ·rw[e];exact I.funs
 ·rw[e];obtain⟨m,hn,_⟩:=I.loc;refine .cons (by rw[I.ok.kind];decide) hf hn ?_ I.funs;exact Heap.get?_none_of_le (hB7 I.ok.bsz I.ok.above)
theorem Inv.stkSub (I:Inv X pins σ H s):∀ b∈frs X.stack,b∈X.env.locals :: X.fs:=fun b hb=>by
 rcases I.ok.stk with e | ⟨e,hf⟩
 ·rw[e]at hb;exact hA7 _ hb
 ·rw[e]at hb;unfold frs at hb;rw[hB0,hf]at hb;exact hb
theorem Inv.stkFree (I:Inv X pins σ H s):∀ b∈frs X.stack,H b=none:=fun b hb=>by
 rcases hAc.mp (I.stkSub b hb) with e | hb
 ·rw[e];exact I.free
 ·obtain⟨_,o,ho,_⟩:=I.ok.funs.mem hb;exact I.base.free b o ho (I.ok.frf b hb) fun z=>I.ok.exfs b z hb
theorem Inv.step {g':Array GenState} {t':Nat} {d':Drawn} {ch:List Addr} (I:Inv X pins σ H s)
  (hch:∀ b∈ch,(b∈X.ex\/X.s₀.heap.objs.size<=b)/\b≠X.env.locals/\(∀ x c,X.env.cells.lookup x=some c->c≠b)/\∀ p∈X.pn++pins,p.1≠b)
  (keep:∀ b o,b≠X.env.locals->b∉X.fs->b∉ch->s.heap.get? b=some o->H b=none->h'.get? b=some o)
  (slot:∀ b o,b≠X.env.locals->b∈X.fs->b∉ch->s.heap.get? b=some o->H b=none->∃ sl,h'.get? b=some { o with slots:=sl }) (free:∀ b o,b∉ch->s.heap.get? b=some o->H b=none->H' b=none)
  (there:∀ b o,b∉ch->s.heap.get? b=some o->∃ o',h'.get? b=some o')
  (tups:∀ b xs,H b=some (.tup xs)->H' b=some (.tup xs)) (frzs:∀ b o u,H b=some (.frz o u)->H' b=some (.frz o u)) (tbls:∀ b ps,H b=some (.tbl ps)->∃ more,H' b=some (.tbl (ps++more)))
  (ns:∀ m,s.heap.Ns X.env.locals m->h'.Ns X.env.locals m) (hok:HOk X.prog X.w H' h') (hg:AllBare g') :
  Inv X pins σ H' { s with heap:=h',gens:=g',drawn:=d',toks:=t' }:=by
 have neL:∀ b o,X.s₀.heap.get? b=some o->b≠X.env.locals:=fun b o e=>hAp (hAh (Heap.lt_size e) I.ok.above)
 have neC:∀ b o,X.s₀.heap.get? b=some o->b∉X.ex->b∉ch:=fun b o e hx hb=>by
  rcases(hch b hb).1 with z | z
  ·exact hx z
  ·exact absurd (hAh (Heap.lt_size e) z) (hBl _)
 have cellK:∀ x c,X.env.cells.lookup x=some c->∀ v,s.heap.IsCell c v->h'.IsCell c v:=fun x c e v ⟨o,ho,hd⟩=>by
  have nch:c∉ch:=fun z=>(hch c z).2.2.1 x c e rfl
  by_cases hc:c∈X.fs
  ·obtain⟨sl,q⟩:=slot c o (I.cne x c e) hc nch ho (I.freeC x c e);exact⟨_,q,hd⟩
  ·exact⟨o,keep c o (I.cne x c e) hc nch ho (I.freeC x c e),hd⟩
 refine⟨I.ok,I.os,hg,⟨fun b o e n hb hx=>?_,fun b o e n hb hx=>?_,fun b o e n hx=>?_,fun b o e hx=>?_,fun b xs e=>tups b xs (I.base.tups b xs e),fun b o xs e=>frzs b o xs (I.base.frzs b o xs e),fun b ps e=>?_⟩,?_,fun x c e=>?_,?_,fun x c e=>?_,fun p hp=>?_,hok,I.len⟩
 ·exact keep b o (neL b o e) hb (neC b o e hx) (I.base.keep b o e n hb hx) (I.base.free b o e n hx)
 ·obtain⟨sl,e1⟩:=I.base.slot b o e n hb hx;obtain⟨sl',e2⟩:=slot b _ (neL b o e) hb (neC b o e hx) e1 (I.base.free b o e n hx);exact⟨sl',e2⟩
 ·obtain⟨o',e1⟩:=I.base.there b o e hx;exact free b o' (neC b o e hx) e1 (I.base.free b o e n hx)
 ·obtain⟨o',e1⟩:=I.base.there b o e hx;exact there b o' (neC b o e hx) e1
 ·obtain⟨m1,e1⟩:=I.base.tbls b ps e;obtain⟨m2,e2⟩:=tbls b _ e1;exact⟨m1++m2,by rw[e2,Array.append_assoc]⟩
 ·obtain⟨m,hn,hl⟩:=I.loc;refine⟨m,ns m hn,fun i x v e1 e2 e3=>?_⟩;obtain⟨u,r,l⟩:=hl i x v e1 e2 e3;refine⟨u,r,?_⟩;rcases l with l | ⟨k,c,e,z⟩
  ·exact .inl l
  ·exact .inr ⟨k,c,e,cellK x c e _ z⟩
 ·obtain⟨v,z⟩:=I.cell x c e;exact⟨v,cellK x c e v z⟩
 ·obtain⟨m,⟨o,_,_,ho,_⟩,_⟩:=I.loc;exact free _ o (fun z=>(hch _ z).2.1 rfl) ho I.free
 ·obtain⟨v,o,ho,hd⟩:=I.cell x c e;exact free c o (fun z=>(hch c z).2.2.1 x c e rfl) ho (I.freeC x c e)
 ·obtain⟨e,n,ne,nf,d⟩:=I.pin p hp;have nch:p.1∉ch:=fun z=>(hch p.1 z).2.2.2 p hp rfl
  exact⟨keep p.1 p.2 ne nf nch e n,free p.1 p.2 nch e n,ne,nf,d⟩
theorem Inv.un {t':Nat} (I:Inv X pins σ H s) (u:Un X.fs [] H H' s.heap h') (hok:HOk X.prog X.w H' h'):Inv X pins σ H' { s with heap:=h',toks:=t' }:=by
 obtain⟨m,⟨o,es,ep,ho,r⟩,_⟩:=id I.loc;obtain⟨sl,hL⟩:=u.any ho I.free (by simp);exact I.step (g':=s.gens) (d':=s.drawn) (ch:=[]) (fun _ z=>nomatch z) (fun b o _ hb _ e n=>u.keep b o e n hb (by simp)) (fun b o _ hb _ e n=>u.slot b o e n hb (by simp)) (fun b o _ e n=>u.free b o e n (by simp)) (fun b o _ e=>u.there b o e (by simp)) u.tups u.frzs u.tbls (fun m' hm=>by
  obtain⟨o',es',ep',ho',r'⟩:=hm;rw[ho]at ho';cases ho';exact⟨_,es',ep',hL,r'⟩) hok I.bare
theorem Inv.call {g':Array GenState} {t':Nat} {d':Drawn} {ch:List Addr} (I:Inv X pins σ H s) (u:Un (frs X.stack) ch H H' s.heap h') (hok:HOk X.prog X.w H' h') (hg:AllBare g')
  (hch:∀ b∈ch,(b∈X.ex\/X.s₀.heap.objs.size<=b)/\b≠X.env.locals/\(∀ x c,X.env.cells.lookup x=some c->c≠b)/\∀ p∈X.pn++pins,p.1≠b) :
  Inv X pins σ H' { s with heap:=h',gens:=g',drawn:=d',toks:=t' }:=by
 obtain⟨m,⟨o,es,ep,ho,r⟩,_⟩:=id I.loc;obtain⟨sl,hL⟩:=u.any ho I.free fun z=>(hch _ z).2.1 rfl
 exact I.step (ch:=ch) hch (fun b o hL hb hc e n=>u.keep b o e n (fun z=>(hAc.mp (I.stkSub b z)).elim hL hb) hc) (fun b o _ _ hc e n=>u.any e n hc) (fun b o hc e n=>u.free b o e n hc) (fun b o hc e=>u.there b o e hc) u.tups u.frzs u.tbls (fun m' hm=>by
  obtain⟨o',es',ep',ho',r'⟩:=hm;rw[ho]at ho';cases ho';exact⟨_,es',ep',hL,r'⟩) hok hg
theorem Inv.turned {t':Nat} {it:Addr} (I:Inv X pins σ H s) (k:∀ b o,b≠it->s.heap.get? b=some o->h'.get? b=some o) (hn:H it=none) (hL:it≠X.env.locals)
  (h1:it∈X.ex\/X.s₀.heap.objs.size<=it) (h2:∀ x c,X.env.cells.lookup x=some c->c≠it) (h3:∀ p∈X.pn++pins,p.1≠it):Inv X pins σ H { s with heap:=h',toks:=t' }:=by
 have nit:∀ b u,H b=some u->b≠it:=fun b u e z=>by rw[z,hn]at e;cases e
 refine I.step (g':=s.gens) (d':=s.drawn) (ch:=[it]) (fun b hb=>?_) (fun b o _ _ hc e _=>k b o (fun z=>hc (by simp[z])) e) (fun b o _ _ hc e _=>⟨o.slots,k b o (fun z=>hc (by simp[z])) e⟩) (fun _ _ _ _ n=>n)
  (fun b o hc e=>⟨o,k b o (fun z=>hc (by simp[z])) e⟩) (fun _ _ e=>e) (fun _ _ _ e=>e) (fun b ps e=>⟨#[],by rw[e];simp⟩) (fun m hm=>?_) (fun b u e=>?_) I.bare
 ·have e:b=it:=by simpa using hb
  subst e;exact⟨h1,hL,h2,h3⟩
 ·obtain⟨o,es,ep,ho,r⟩:=hm;exact⟨o,es,ep,k _ o (Ne.symm hL) ho,r⟩
 ·refine(I.hok b u e).stay (fun c v hc q=>k c v ?_ q) (fun _ q=>q) fun _ _ q=>q
  rcases hc with z | z
  ·rw[z];exact nit b u e
  ·exact nit c _ z
theorem Inv.tok (I:Inv X pins σ H s) (t:Nat):Inv X pins σ H { s with toks:=t }:=I.un (h':=s.heap) (t':=t) Un.refl I.hok
theorem Inv.kept (I:Inv X pins σ H s) (k:∀ b u,s.heap.get? b=some u->h'.get? b=some u):Inv X pins σ H { s with heap:=h',toks:=t' }:=I.un (Un.kept k) (I.hok.kept k)
theorem Inv.laid (I:Inv X pins σ H s) (k:∀ b u,s.heap.get? b=some u->h'.get? b=some u) (hp:s.heap.objs.size<=a) (new:qBs X.prog X.w (upd H a o) h' a o) :
  Inv X pins σ (upd H a o) { s with heap:=h',toks:=t' }:=I.un (Un.laid k hp (I.hok.fresh hp)) (I.hok.laid k hp new)
theorem Inv.write (I:Inv X pins σ H s) (mu:Mut (H x)) (he:e=x\/H e=some (.own x)) (k:∀ b u,b≠e->s.heap.get? b=some u->h'.get? b=some u) (heo:∃ u,h'.get? e=some u)
  (new:qBs X.prog X.w (upd H x o) h' x o):Inv X pins σ (upd H x o) { s with heap:=h',toks:=t' }:=I.un (Un.write mu he k heo) (I.hok.write mu he k heo new)
theorem Inv.weak (I:Inv X pins σ H s) (hl:σ'.length=σ.length) (w:∀ (i:Nat) v,σ'[i]?=some (some v)->σ[i]?=some (some v)):Inv X pins σ' H s :=
 ⟨I.ok,I.os,I.bare,I.base,let ⟨m,hn,hl'⟩:=I.loc;⟨m,hn,fun i x v e1 e2 e3=>hl' i x v e1 (w i v e2) e3⟩,I.cell,I.free,I.freeC,I.pin,I.hok,hl.trans I.len⟩
theorem Inv.pins_of (I:Inv X pins σ H s) (h:∀ p∈pins',s.heap.get? p.1=some p.2/\H p.1=none/\p.1≠X.env.locals/\p.1∉X.fs/\∀ v,p.2.data≠.cell v):Inv X pins' σ H s :=
 ⟨I.ok,I.os,I.bare,I.base,I.loc,I.cell,I.free,I.freeC,fun p hp=>(hAr.mp hp).elim (fun z=>I.pin p (hAz _ z)) (h p),I.hok,I.len⟩
theorem nodup_ix {N:List Str} (hN:N.Nodup) {i j:Nat} {x:Str} (a:N[i]?=some x) (b:N[j]?=some x):i=j:=by
 obtain⟨h1,e1⟩:=hAo.mp a;obtain⟨h2,e2⟩:=hAo.mp b;exact(List.getElem_inj hN).mp (e1.trans e2.symm)
theorem store_ok2 {M:Model} {A:Around} {E:Value->Shared->Prop} {i:Nat} {x:Str} {v:V} {u:Value} {Q:Unit->Shared->Prop} (I:Inv X pins σ H s) (hN:X.N.Nodup) (hi:X.N[i]?=some x) (hx:Loc X.env.scope x) (r:qBn v u)
  (h:∀ s',Inv X pins (σ.set i (some v)) H s'->(∃ a,Heap.SameBut a s.heap s'.heap/\(a=X.env.locals\/X.env.cells.lookup x=some a))->Q () s') (hf:X.fn x=true\/X.env.scope.names.lookup x=some .local:=by first | exact .inl rfl | exact .inr rfl | assumption):wpAny M A (storeName X.env x u) Q E s:=by
 obtain⟨m,hn,hl⟩:=id I.loc;have hcls:(X.env.scope.kind == .class || (X.env.scope.kind == .module && X.env.locals != X.env.globals))=false:=by rw[I.ok.kind];rfl
 have hiσ:i < σ.length:=by rw[I.len];exact(hAo.mp hi).1
 have cne:=I.cne;have tracked:∀ {a:Addr} {h':Heap},(∃ o,s.heap.get? a=some o/\H a=none)->Heap.SameBut a s.heap h'->HOk X.prog X.w H h':=fun {a h'} ha hs b ob e=>by
  obtain⟨_,_,hfree⟩:=ha;refine(I.hok b ob e).stay (fun c w' hc q=>(hs.2 c ?_).trans q) (fun _ q=>q) fun _ _ q=>q
  rintro rfl;rcases hc with rfl | hc
  ·rw[hfree]at e;cases e
  ·rw[hfree]at hc;cases hc
 rcases hx with hk | hk
 ·refine wpAny_storeName_local hk hn (fun h' hn' hs=>?_) hcls;obtain⟨oL,_,_,hoL,_⟩:=id hn;refine h _ ⟨I.ok,I.os,I.bare,⟨fun b o e n hb hx=>?_,fun b o e n hb hx=>?_,I.base.free,fun b o e hx=>?_,I.base.tups,I.base.frzs,I.base.tbls⟩,⟨_,hn',fun j y v' e1 e2 e3=>?_⟩,fun y c e=>?_,I.free,I.freeC,fun p hp=>?_,tracked ⟨oL,hoL,I.free⟩ hs,by simpa using I.len⟩ ⟨_,hs,.inl rfl⟩
  ·exact(hs.2 b (hAp (hAh (Heap.lt_size e) I.ok.above))).trans (I.base.keep b o e n hb hx)
  ·obtain⟨sl,e1⟩:=I.base.slot b o e n hb hx;exact⟨sl,(hs.2 b (hAp (hAh (Heap.lt_size e) I.ok.above))).trans e1⟩
  ·obtain⟨o',e1⟩:=I.base.there b o e hx;exact⟨o',(hs.2 b (hAp (hAh (Heap.lt_size e) I.ok.above))).trans e1⟩
  ·by_cases hj:j=i
   ·subst hj;rw[hi]at e1;cases e1;rw[List.getElem?_set_self hiσ]at e2;cases e2;exact⟨u,r,.inl ⟨hk,by simp⟩⟩
   ·rw[List.getElem?_set_ne (Ne.symm hj)]at e2;obtain⟨u',r',q⟩:=hl j y v' e1 e2 e3;refine⟨u',r',?_⟩;rcases q with ⟨k,e⟩ | ⟨k,c,e,z⟩
    ·refine .inl ⟨k,?_⟩;have:y≠x:=fun e=>hj (nodup_ix hN e1 (e▸hi))
     simp[this,e]
    ·exact .inr ⟨k,c,e,z.sameBut hs (cne y c e)⟩
  ·obtain⟨w',z⟩:=I.cell y c e;exact⟨w',z.sameBut hs (cne y c e)⟩
  ·obtain⟨e,n,ne,nf,d⟩:=I.pin p hp;exact⟨(hs.2 p.1 ne).trans e,n,ne,nf,d⟩
 ·have hfn:X.fn x=true:=by
   rcases hf with z | z
   ·exact z
   ·rw[z]at hk;cases hk
  obtain⟨c,hc⟩:=I.ok.has x (.inl hk);obtain⟨w',z⟩:=I.cell x c hc;refine wpAny_storeName_cell I.ok.kind hk hc z (fun h' hc' hs=>?_);obtain⟨oc,hoc,hocd⟩:=id z;refine h { s with heap:=h' } ⟨I.ok,I.os,I.bare,⟨fun b o e n hb hx=>?_,fun b o e n hb hx=>?_,I.base.free,fun b o e hx=>?_,I.base.tups,I.base.frzs,I.base.tbls⟩,⟨m,hn.sameBut hs (Ne.symm (cne x c hc)),fun j y v' e1 e2 e3=>?_⟩,fun y c' e=>?_,I.free,I.freeC,fun p hp=>?_,tracked ⟨oc,hoc,I.freeC x c hc⟩ hs,by simpa using I.len⟩ ⟨c,hs,.inr hc⟩
  ·exact(hs.2 b (hAp (hAh (Heap.lt_size e) (I.ok.cab x c hfn hc)))).trans (I.base.keep b o e n hb hx)
  ·obtain⟨sl,e1⟩:=I.base.slot b o e n hb hx;exact⟨sl,(hs.2 b (hAp (hAh (Heap.lt_size e) (I.ok.cab x c hfn hc)))).trans e1⟩
  ·obtain⟨o',e1⟩:=I.base.there b o e hx;exact⟨o',(hs.2 b (hAp (hAh (Heap.lt_size e) (I.ok.cab x c hfn hc)))).trans e1⟩
  ·by_cases hj:j=i
   ·subst hj;rw[hi]at e1;cases e1;rw[List.getElem?_set_self hiσ]at e2;cases e2;exact⟨u,r,.inr ⟨.inl hk,c,hc,hc'⟩⟩
   ·rw[List.getElem?_set_ne (Ne.symm hj)]at e2;obtain⟨u',r',q⟩:=hl j y v' e1 e2 e3;refine⟨u',r',?_⟩;rcases q with q | ⟨k,c',e,z'⟩
    ·exact .inl q
    ·refine .inr ⟨k,c',e,z'.sameBut hs ?_⟩;rintro rfl;exact hj (nodup_ix hN e1 (I.ok.inj _ _ _ e hc▸hi))
  ·by_cases hcc:c'=c
   ·subst hcc;exact⟨_,hc'⟩
   ·obtain⟨w2,z2⟩:=I.cell y c' e;exact⟨w2,z2.sameBut hs hcc⟩
  ·obtain⟨e,n,ne,nf,d⟩:=I.pin p hp;refine⟨(hs.2 p.1 ?_).trans e,n,ne,nf,d⟩;intro q;rw[q,hoc]at e;have q':oc=p.2:=hAa e;exact d w' (by rw[<-q'];exact hocd)
theorem store_ok (I:Inv X pins σ H s) (hN:X.N.Nodup) (hi:X.N[i]?=some x) (hx:Loc X.env.scope x) (r:qBn v u)
  (h:∀ s',Inv X pins (σ.set i (some v)) H s'->Q () s') (hf:X.fn x=true\/X.env.scope.names.lookup x=some .local:=by first | exact .inl rfl | exact .inr rfl | assumption):wpAny M A (storeName X.env x u) Q E s :=
 store_ok2 I hN hi hx r (fun s' I' _=>h s' I') hf
theorem Inv.call' (I:Inv X pins σ H s) (ho:s'.os=s.os) (u:Un (frs X.stack) ch H H' s.heap s'.heap) (hok:HOk X.prog X.w H' s'.heap) (hg:AllBare s'.gens)
  (hch:∀ b∈ch,(b∈X.ex\/X.s₀.heap.objs.size<=b)/\b≠X.env.locals/\(∀ x c,X.env.cells.lookup x=some c->c≠b)/\∀ p∈X.pn++pins,p.1≠b):Inv X pins σ H' s':=by
 obtain⟨h',g',d',t',o'⟩:=s';have e:o'=s.os:=ho;subst e;exact I.call (g':=g') (t':=t') (d':=d') u hok hg hch
end
abbrev XK:=Value->Option Addr->Hp->Prop
abbrev St:=List (Option V)
abbrev VK:=V->Hp->Prop
abbrev TE:=St->Hp->VK->Prop
abbrev TT:=St->Hp->(Bool->Hp->Prop)->Prop
abbrev TA:=St->Hp->(List V->Hp->Prop)->Prop
structure Ends where
 nx:St->Hp->Prop
 rt:VK
 bk:St->Hp->Prop:=fun _ _=>False
 ct:St->Hp->Prop:=fun _ _=>False
abbrev TS:=Ends->St->Hp->Prop
def EP (X:Cx) (pins:List (Addr×Obj)) (σ:St) (Q:VK) (u:Value) (s':Shared):Prop:=∃ v H',Inv X pins σ H' s'/\qBn v u/\Q v H'
def TP (X:Cx) (pins:List (Addr×Obj)) (σ:St) (Q:Bool->Hp->Prop) (b:Bool) (s':Shared):Prop:=∃ H',Inv X pins σ H' s'/\Q b H'
def AP (X:Cx) (pins:List (Addr×Obj)) (σ:St) (Q:List V->Hp->Prop) (us:List Value) (s':Shared):Prop:=∃ vs H',Inv X pins σ H' s'/\qA5 vs us/\Q vs H'
def SP (X:Cx) (pins:List (Addr×Obj)) (D:Ends) (f:Flow) (s':Shared):Prop :=
 match f with
 | .next=>∃ σ' H',Inv X pins σ' H' s'/\D.nx σ' H'
 | .brk=>∃ σ' H',Inv X pins σ' H' s'/\D.bk σ' H'
 | .cont=>∃ σ' H',Inv X pins σ' H' s'/\D.ct σ' H'
 | .ret u=>∃ v σ' H',Inv X pins σ' H' s'/\qBn v u/\D.rt v H'
def PE (X:Cx) (e:Expr) (t:TE):Prop :=
 ∀ (pins:List (Addr×Obj)) (s:Shared) (σ:St) (H:Hp) (Q:VK),Inv X pins σ H s->t σ H Q->wpAny (model X.prog X.w) X.A (eval e X.env) (EP X pins σ Q) X.xe s
def PT (X:Cx) (e:Expr) (t:TT):Prop :=
 ∀ (pins:List (Addr×Obj)) (s:Shared) (σ:St) (H:Hp) (Q:Bool->Hp->Prop),Inv X pins σ H s->t σ H Q->wpAny (model X.prog X.w) X.A (isTrue e X.env (eval e X.env)) (TP X pins σ Q) X.xe s
def PW (X:Cx) (e:Expr) (t:TT):Prop :=
 ∀ (whole:Sem Value) (pins:List (Addr×Obj)) (s:Shared) (σ:St) (H:Hp) (Q:Bool->Hp->Prop),Inv X pins σ H s->t σ H Q->wpAny (model X.prog X.w) X.A (isTrue e X.env whole) (TP X pins σ Q) X.xe s
theorem PW.pt (h:PW X e t):PT X e t:=h _
def PA (X:Cx) (es:List Expr) (t:TA):Prop :=
 ∀ (pos:Pos) (pins:List (Addr×Obj)) (s:Shared) (σ:St) (H:Hp) (Q:List V->Hp->Prop),Inv X pins σ H s->t σ H Q->wpAny (model X.prog X.w) X.A (spliced (backTo pos (starEach es X.env))) (AP X pins σ Q) X.xe s
def PS (X:Cx) (st:Stmt) (t:TS):Prop :=
 ∀ (pins:List (Addr×Obj)) (s:Shared) (σ:St) (H:Hp) (D:Ends),Inv X pins σ H s->t D σ H->wpAny (model X.prog X.w) X.A (exec st X.env) (SP X pins D) X.xe s
def PSs (X:Cx) (st:List Stmt) (t:TS):Prop :=
 ∀ (pins:List (Addr×Obj)) (s:Shared) (σ:St) (H:Hp) (D:Ends),Inv X pins σ H s->t D σ H->wpAny (model X.prog X.w) X.A (execs st X.env) (SP X pins D) X.xe s
theorem thn (h:wpAny M A t Q E s) (hQ:∀ a s,Q a s->Q' a s):wpAny M A t Q' E s:=wpAny_mono h hQ fun _ _ x=>x
end L2
namespace L2
open PySem PySem.Spec PyProof.Rows
section
variable {X:Cx}
def tVar (i:Nat):TE:=fun σ H Q=>∃ v,σ[i]?=some (some v)/\Q v H
def tC (v:V):TE:=fun _ H Q=>Q v H
theorem pe_var (hN:X.N[i]?=some x) (hv:Vis X.env.scope x) (hd:(x == ("__debug__" : Str))=false:=by decide) (hcd:(x == ("__classdict__" : Str))=false:=by decide):PE X (.Name x pos) (tVar i):=by
 intro pins s σ H Q I h;obtain⟨v,e,h⟩:=h;obtain⟨m,hn,hl⟩:=I.loc;obtain⟨u,r,l⟩:=hl i x v hN e hv;have fin:EP X pins σ Q u s:=⟨v,H,I,r,h⟩;rcases l with ⟨hk,hm⟩ | ⟨hk,c,hc,hcell⟩
 ·exact wpAny_Name (wpAny_loadName_local I.ok.kind hk hn hm fin) hd
 ·rcases hk with hk | hk
  ·exact wpAny_Name (wpAny_loadName_cell I.ok.kind hk hc hcell fin) hd
  ·exact wpAny_Name (wpAny_loadName_free I.ok.kind hk hc hcell fin hcd) hd
theorem qAe {i j pos}:PE X (.Constant (.int i) j pos) (tC (.int i)):=fun _ _ _ H _ I h=>wpAny_Constant_int ⟨.int i,H,I.tok _,⟨_,rfl⟩,h⟩
theorem qEr {b j pos}:PE X (.Constant (.bool b) j pos) (tC (.bl b)):=fun _ _ _ H _ I h=>Constant_bool ⟨.bl b,H,I,rfl,h⟩
theorem pe_non {j pos}:PE X (.Constant .none j pos) (tC .non):=fun _ _ _ H _ I h=>Constant_none ⟨.non,H,I,rfl,h⟩
theorem qBx {x j pos}:PE X (.Constant (.str x) j pos) (tC (.str x)):=fun _ _ _ H _ I h=>Calls.Constant_str ⟨.str x,H,I.tok _,⟨_,rfl⟩,h⟩
def Gl (X:Cx) (x:Str):Prop:=X.env.kindOf x=some .globalImplicit
theorem ld_glob (I:Inv X pins σ H s) (hg:Gl X x) (hm:X.mg x=some u) (h:Q u s)
  (hd:(x == ("__debug__" : Str))=false:=by decide):wpAny (model X.prog X.w) X.A (eval (.Name x pos) X.env) Q E s :=
 Calls.Name_function_global I.ok.kind hg (Calls.loadGlobal_global (by rw[I.ok.glob];exact I.mod.glob.keeps I.bk) hm h) hd
theorem qD6 (I:Inv X pins σ H s) (hg:Gl X x) (hm:X.mg x=none) (hv:bootBuiltins x=some u) (h:Q u s)
  (hn:x≠"__name__":=by decide) (hd:(x == ("__debug__" : Str))=false:=by decide):wpAny (model X.prog X.w) X.A (eval (.Name x pos) X.env) Q E s:=by
 obtain⟨mb,h1,h2⟩:=I.mod.blt;exact Calls.Name_function_global I.ok.kind hg (Calls.loadGlobal_builtin (by rw[I.ok.glob];exact I.mod.glob.keeps I.bk) hm (by rw[I.ok.blt];exact h1.keeps I.bk) ((h2 x hn).trans hv) h) hd
theorem pe_glob (hg:Gl X x) (hm:X.mg x=some u) (r:qBn v u) (hd:(x == ("__debug__" : Str))=false:=by decide):PE X (.Name x pos) (tC v) :=
 fun _ _ _ H _ I h=>ld_glob I hg hm ⟨v,H,I,r,h⟩ hd
theorem qCq (hg:Gl X x) (hm:X.mg x=none) (hv:bootBuiltins x=some u) (r:qBn v u) (hn:x≠"__name__":=by decide) (hd:(x == ("__debug__" : Str))=false:=by decide):PE X (.Name x pos) (tC v) :=
 fun _ _ _ H _ I h=>qD6 I hg hm hv ⟨v,H,I,r,h⟩ hn hd
variable {a b:Expr} {ta tb:TE} {pos:Pos}
def tB (t:TE):TT:=fun σ H Q=>t σ H fun x H1=>∃ c,x = .bl c/\Q c H1
theorem qBv (h:PE X e t) (he:∀ whole,isTrue e X.env whole=(do let v ← whole;standAt e.pos;holding [v] (truthy v)):=by intro _;rfl):PT X e (tB t):=by
 intro pins s σ H Q I hw;refine isTrue_plain (thn (h pins s σ H _ I hw) fun v s1 ⟨x,H1,I1,r1,q1⟩=>?_) (he _);obtain⟨d,rfl,q⟩:=q1;cases r1;exact wpAny_truthy_bool ⟨H1,I1,q⟩
variable {tA tB':TT} {rest:List Expr}
def tAnd (t u:TT):TT:=fun σ H Q=>t σ H fun c H1=>if c=true then u σ H1 Q else Q false H1
def tOr (t u:TT):TT:=fun σ H Q=>t σ H fun c H1=>if c=true then Q true H1 else u σ H1 Q
def tNot (t:TT):TT:=fun σ H Q=>t σ H fun c H1=>Q (!c) H1
theorem pw_and1 (ha:PT X a tA):PW X (.BoolOp .And [a] pos) tA:=by
 intro wh pins s σ H Q I h;refine isTrue_and (thn (ha pins s σ H Q I h) fun c s1 e=>?_);cases c with
 | true=>exact isTrue_and_nil e
 | false=>exact e
theorem qCh (ha:PT X a tA):PW X (.BoolOp .Or [a] pos) tA:=by
 intro wh pins s σ H Q I h;refine isTrue_or (thn (ha pins s σ H Q I h) fun c s1 e=>?_);cases c with
 | false=>exact isTrue_or_nil e
 | true=>exact e
theorem pw_and (ha:PT X a tA) (hb:PW X (.BoolOp .And (b :: rest) pos) tB'):PW X (.BoolOp .And (a :: b :: rest) pos) (tAnd tA tB'):=by
 intro wh pins s σ H Q I h;refine isTrue_and (thn (ha pins s σ H _ I h) fun c s1 ⟨H1,I1,q1⟩=>?_);cases c with
 | true=>exact hb wh pins s1 σ H1 Q I1 q1
 | false=>exact⟨H1,I1,q1⟩
theorem qCx (ha:PT X a tA) (hb:PW X (.BoolOp .Or (b :: rest) pos) tB'):PW X (.BoolOp .Or (a :: b :: rest) pos) (tOr tA tB'):=by
 intro wh pins s σ H Q I h;refine isTrue_or (thn (ha pins s σ H _ I h) fun c s1 ⟨H1,I1,q1⟩=>?_);cases c with
 | true=>exact⟨H1,I1,q1⟩
 | false=>exact hb wh pins s1 σ H1 Q I1 q1
theorem qB1 (ha:PT X a tA):PT X (.UnaryOp .Not a pos) (tNot tA):=by
 intro pins s σ H Q I h;exact isTrue_not (ha pins s σ H (fun c H1=>Q (!c) H1) I h)
def tAndV (ta tb:TE):TE:=fun σ H Q=>ta σ H fun x H1=>∃ c,x = .bl c/\if c=true then tb σ H1 Q else Q (.bl false) H1
theorem pe_one {op} (h:PE X a t):PE X (.BoolOp op [a] pos) t:=fun pins s σ H Q I hw=>BoolOp_one (h pins s σ H Q I hw)
theorem pe_and (ha:PE X a ta) (hb:PE X (.BoolOp .And (b :: rest) pos) tb):PE X (.BoolOp .And (a :: b :: rest) pos) (tAndV ta tb):=by
 intro pins s σ H Q I h;refine BoolOp_and (thn (ha pins s σ H _ I h) fun v s1 ⟨x,H1,I1,r1,q1⟩=>?_);obtain⟨c,rfl,q1⟩:=q1;cases r1;refine wpAny_truthy_bool ?_;cases c with
 | true=>exact hb pins s1 σ H1 Q I1 q1
 | false=>exact⟨.bl false,H1,I1,rfl,q1⟩
def tIf (t:TT) (ta tb:TE):TE:=fun σ H Q=>t σ H fun c H1=>if c=true then ta σ H1 Q else tb σ H1 Q
theorem pe_ifExp (hc:PT X c tA) (ha:PE X a ta) (hb:PE X b tb):PE X (.IfExp c a b pos) (tIf tA ta tb):=by
 intro pins s σ H Q I h;refine wpAny_IfExp (thn (hc pins s σ H _ I h) fun d s1 ⟨H1,I1,q1⟩=>?_);cases d with
 | true=>exact ha pins s1 σ H1 Q I1 q1
 | false=>exact hb pins s1 σ H1 Q I1 q1
end
end L2
namespace L2
open PySem PySem.Spec PyProof.Rows
def SqL (K:PySem.W.Frag) (H:Hp) (a:Addr) (xs:List V):Prop :=
 Rd H a (.lst xs) \/
  ∃ (o:Obj) (its:Array Value) (n:Nat),K.lookup a=some o/\o.cls = .type "list"/\o.dict=none/\o.data = .seq its n/\its.size<=sizeLine/\qA5 xs its.toList
def SqT (K:PySem.W.Frag) (H:Hp) (a:Addr) (xs:List V):Prop :=
 Rd H a (.tup xs) \/
  ∃ (o:Obj) (its:Array Value) (n:Nat),K.lookup a=some o/\o.cls = .type "tuple"/\o.data = .seq its n/\its.size<=sizeLine/\qA5 xs its.toList
def absV:Value->Option V
 | .none=>some .non
 | .bool b=>some (.bl b)
 | .int i _=>some (.int i)
 | .str x _=>some (.str x)
 | .bytes b _=>some (.byt b)
 | .float b _=>some (.flt b)
 | .ref a=>some (.ref a)
 | .type n=>some (.ty n)
 | _=>none
theorem qBn.abs (r:qBn x u):absV u=some x:=by
 cases x with
 | non=>cases r;rfl
 | bl _=>cases r;rfl
 | int _=>obtain⟨t,rfl⟩:=r;rfl
 | str _=>obtain⟨t,rfl⟩:=r;rfl
 | byt _=>obtain⟨t,rfl⟩:=r;rfl
 | flt _=>obtain⟨t,rfl⟩:=r;rfl
 | ref _=>cases r;rfl
 | ty _=>cases r;rfl
theorem qBn.inj (r:qBn x u) (q:qBn y u):x=y:=hAa (r.abs.symm.trans q.abs)
theorem qA5.inj:∀ {xs ys:List V} {us:List Value},qA5 xs us->qA5 ys us->xs=ys
 | _,_,_,.nil,.nil=>rfl
 | _,_,_,.cons r t,.cons r' t'=>by rw[r.inj r',qA5.inj t t']
section
variable {X:Cx} {pins:List (Addr×Obj)} {σ:St} {H:Hp} {s:Shared} {a:Addr} {xs ys:List V}
theorem SqL.of {K:PySem.W.Frag} (h:H a=some (.lst xs)):SqL K H a xs:=.inl (.inl h)
theorem SqT.of {K:PySem.W.Frag} (h:H a=some (.tup xs)):SqT K H a xs:=.inl (.inl h)
theorem Inv.list (I:Inv X pins σ H s) (h:SqL X.K H a xs):∃ its:List Value,qA5 xs its/\PlainL s.heap a its.toArray/\xs.length<=sizeLine:=by
 rcases h with h | ⟨o,its,n,hk,hc,hd,hs,hz,r⟩
 ·obtain⟨z,its,n,r,e⟩:=h.ok I.hok;exact⟨its,r,⟨_,n,e,rfl,rfl,rfl⟩,z⟩
 ·refine⟨its.toList,r,⟨o,n,I.kIn a o hk,hc,hd,by simpa using hs⟩,?_⟩;have e:=r.length;simp only[hBp]at e;omega
theorem Inv.tuple (I:Inv X pins σ H s) (h:SqT X.K H a xs):∃ its:List Value,qA5 xs its/\IsTup s.heap a its.toArray/\xs.length<=sizeLine:=by
 rcases h with h | ⟨o,its,n,hk,hc,hs,hz,r⟩
 ·obtain⟨z,its,r,p⟩:=h.ok I.hok;exact⟨its,r,p,z⟩
 ·refine⟨its.toList,r,⟨o,I.kIn a o hk,hc,n,by simpa using hs⟩,?_⟩;have e:=r.length;simp only[hBp]at e;omega
theorem Inv.list_inj (I:Inv X pins σ H s) (h:SqL X.K H a xs) (h':SqL X.K H a ys):xs=ys:=by
 obtain⟨its,r,⟨o,n,e,_,_,d⟩,_⟩:=I.list h;obtain⟨its',r',⟨o',n',e',_,_,d'⟩,_⟩:=I.list h';rw[e]at e';cases e';rw[d]at d';injection d' with d1 _
 have:its=its':=by simpa using congrArg Array.toList d1
 subst this;exact r.inj r'
theorem Inv.tuple_inj (I:Inv X pins σ H s) (h:SqT X.K H a xs) (h':SqT X.K H a ys):xs=ys:=by
 obtain⟨its,r,⟨o,e,_,n,d⟩,_⟩:=I.tuple h;obtain⟨its',r',⟨o',e',_,n',d'⟩,_⟩:=I.tuple h';rw[e]at e';cases e';rw[d]at d';injection d' with d1 _
 have:its=its':=by simpa using congrArg Array.toList d1
 subst this;exact r.inj r'
end
abbrev Cx.wish (X:Cx) (E:Value->Shared->Prop):Cx:={ X with xe:=E }
abbrev Cx.nox (X:Cx):Cx:=X.wish fun _ _=>False
theorem Cx.Ok.wish {X:Cx} (ok:X.Ok) (E:Value->Shared->Prop):(X.wish E).Ok :=
 ⟨ok.mod,ok.kind,ok.glob,ok.blt,ok.above,ok.inj,ok.has,ok.cab,ok.hd,ok.frames,ok.stk,ok.exf,ok.bs,ok.bsz,ok.noex,ok.exfs,ok.funs,ok.frf⟩
theorem Cx.Ok.unwish {X:Cx} {E:Value->Shared->Prop} (ok:(X.wish E).Ok):X.Ok :=
 ⟨ok.mod,ok.kind,ok.glob,ok.blt,ok.above,ok.inj,ok.has,ok.cab,ok.hd,ok.frames,ok.stk,ok.exf,ok.bs,ok.bsz,ok.noex,ok.exfs,ok.funs,ok.frf⟩
section
variable {X:Cx} {pins:List (Addr×Obj)} {σ:St} {H:Hp} {s:Shared} {E:Value->Shared->Prop}
theorem Inv.wish (I:Inv X pins σ H s) (E:Value->Shared->Prop):Inv (X.wish E) pins σ H s:=⟨I.ok.wish E,I.os,I.bare,I.base,I.loc,I.cell,I.free,I.freeC,I.pin,I.hok,I.len⟩
theorem Inv.unwish (I:Inv (X.wish E) pins σ H s):Inv X pins σ H s:=⟨I.ok.unwish,I.os,I.bare,I.base,I.loc,I.cell,I.free,I.freeC,I.pin,I.hok,I.len⟩
theorem SP.unwish (h:SP (X.wish E) pins D f s'):SP X pins D f s':=by
 cases f with
 | next=>obtain⟨σ',H',I,q⟩:=h;exact⟨σ',H',I.unwish,q⟩
 | brk=>obtain⟨σ',H',I,q⟩:=h;exact⟨σ',H',I.unwish,q⟩
 | cont=>obtain⟨σ',H',I,q⟩:=h;exact⟨σ',H',I.unwish,q⟩
 | ret u=>obtain⟨v,σ',H',I,r,q⟩:=h;exact⟨v,σ',H',I.unwish,r,q⟩
theorem PSs.nox {st:List Stmt} {t:TS} (h:PSs X.nox st t):PSs X st t:=fun pins s σ H D I hw =>
 wpAny_mono (h pins s σ H D (I.wish _) hw) (fun _ _ q=>q.unwish) fun _ _ z=>False.elim z
end
section
variable {X:Cx} {st:Stmt} {rest:List Stmt} {t u:TS} {e:Expr} {te:TE} {pos:Pos}
def tNext:TS:=fun D σ H=>D.nx σ H
def tSeq (t u:TS):TS:=fun D σ H=>t { D with nx:=u D } σ H
theorem qAx:PSs X [] tNext:=fun _ _ σ H _ I h=>wpAny_execs_nil ⟨σ,H,I,h⟩
theorem qAc (h1:PS X st t) (h2:PSs X rest u):PSs X (st :: rest) (tSeq t u):=by
 intro pins s σ H D I h;refine wpAny_execs_cons (thn (h1 pins s σ H { D with nx:=u D } I h) fun f s1 q=>?_);cases f with
 | next =>
  obtain⟨σ',H',I',q⟩:=q;exact h2 pins s1 σ' H' D I' q
 | ret v=>exact q
 | brk=>exact q
 | cont=>exact q
theorem qAf (h1:PS X st t):PSs X [st] t:=by
 intro pins s σ H D I h;refine wpAny_execs_cons (thn (h1 pins s σ H D I h) fun f s1 q=>?_);cases f with
 | next=>exact wpAny_execs_nil q
 | ret v=>exact q
 | brk=>exact q
 | cont=>exact q
theorem Inv.quiet (I:Inv X pins σ H s):interactive X.env=false:=by simp[interactive,I.ok.kind]
def tDrop (te:TE):TS:=fun D σ H=>te σ H fun _ H1=>D.nx σ H1
theorem qCo (he:PE X e te) (hs:swapsWith e none pos.line X.env=pure false:=by rfl):PS X (.Expr e pos) (tDrop te):=by
 intro pins s σ H D I h;exact wpAny_Expr_any (thn (he pins s σ H _ I h) fun v s1 ⟨x,H1,I1,r1,q1⟩=>⟨σ,H1,I1,q1⟩) I.quiet hs
def tRet (te:TE):TS:=fun D σ H=>te σ H D.rt
theorem qAs (he:PE X e te):PS X (.Return (some e) pos) (tRet te):=by
 intro pins s σ H D I h;exact wpAny_Return_some (thn (he pins s σ H _ I h) fun v s1 ⟨x,H1,I1,r1,q1⟩=>⟨x,σ,H1,I1,r1,q1⟩)
def tIfS (c:TT) (t u:TS):TS:=fun D σ H=>c σ H fun b H1=>if b=true then t D σ H1 else u D σ H1
theorem qBd (hc:PT X c tc) (ha:PSs X a t) (hb:PSs X b u):PS X (.If c a b pos) (tIfS tc t u):=by
 intro pins s σ H D I h;refine wpAny_If (thn (hc pins s σ H _ I h) fun d s1 ⟨H1,I1,q1⟩=>?_);cases d with
 | true=>exact ha pins s1 σ H1 D I1 q1
 | false=>exact hb pins s1 σ H1 D I1 q1
def tNever:TS:=fun _ _ _=>False
theorem pss_never:PSs X sts tNever:=fun _ _ _ _ _ _ h=>h.elim
end
abbrev TG:=V->St->Hp->(St->Hp->Prop)->Prop
abbrev TGs:=List V->St->Hp->(St->Hp->Prop)->Prop
def PG (X:Cx) (target:Expr) (t:TG):Prop :=
 ∀ (pins:List (Addr×Obj)) (s:Shared) (σ:St) (H:Hp) (v:V) (u:Value) (Q:St->Hp->Prop),Inv X pins σ H s->qBn v u->t v σ H Q ->
  wpAny (model X.prog X.w) X.A (assign target X.env u) (fun _ s'=>∃ σ' H',Inv X pins σ' H' s'/\Q σ' H') X.xe s
def PGs (X:Cx) (ts:List Expr) (t:TGs):Prop :=
 ∀ (pins:List (Addr×Obj)) (s:Shared) (σ:St) (H:Hp) (vs:List V) (us:List Value) (Q:St->Hp->Prop),Inv X pins σ H s->qA5 vs us->t vs σ H Q ->
  wpAny (model X.prog X.w) X.A (assignInOrder ((assignEach ts X.env).map (·.2)) us) (fun _ s'=>∃ σ' H',Inv X pins σ' H' s'/\Q σ' H') X.xe s
abbrev TSet:=V->V->V->Hp->(Hp->Prop)->Prop
def PSet (X:Cx) (t:TSet):Prop :=
 ∀ (pins:List (Addr×Obj)) (s:Shared) (σ:St) (H:Hp) (o i v:V) (ov iv u:Value) (Q:Hp->Prop),Inv X pins σ H s->qBn o ov->qBn i iv->qBn v u->t o i v H Q ->
  wpAny (model X.prog X.w) X.A (setItem ov iv u) (fun _ s'=>∃ H',Inv X pins σ H' s'/\Q H') X.xe s
section
variable {X:Cx} {pos:Pos}
def gName (i:Nat):TG:=fun v σ H Q=>Q (σ.set i (some v)) H
theorem qAl (hN:X.N.Nodup) (hi:X.N[i]?=some x) (hx:Loc X.env.scope x) (hf:X.fn x=true\/X.env.scope.names.lookup x=some .local:=by first | exact .inl rfl | exact .inr rfl | assumption):PG X (.Name x pos) (gName i):=by
 intro pins s σ H v u Q I r h;exact wpAny_assign_Name (store_ok I hN hi hx r (fun s' I'=>⟨_,H,I',h⟩) hf)
def gNil:TGs:=fun vs σ H Q=>vs=[]/\Q σ H
def gCons (t:TG) (u:TGs):TGs:=fun vs σ H Q=>∃ v r,vs=v :: r/\t v σ H fun σ' H'=>u r σ' H' Q
theorem qCy:PGs X [] gNil:=by
 intro pins s σ H vs us Q I r h;obtain⟨e,h⟩:=h;subst e;cases r;exact assignInOrder_nil ⟨σ,H,I,h⟩
theorem qA1 (h1:PG X e t) (h2:PGs X es u)
  (hs:(assignEach (e :: es) X.env).map (·.2)=assign e X.env :: (assignEach es X.env).map (·.2):=by rfl):PGs X (e :: es) (gCons t u):=by
 intro pins s σ H vs us Q I r h;obtain⟨v,vr,e1,h⟩:=h;subst e1;cases r with
 | cons r rr =>
  rw[hs];refine assignInOrder_cons (thn (h1 pins s σ H _ _ _ I r h) fun _ s1 ⟨σ1,H1,I1,q1⟩=>?_);exact h2 pins s1 σ1 H1 _ _ Q I1 rr q1
def gTup (K:PySem.W.Frag) (n:Nat) (t:TGs):TG:=fun v σ H Q=>∃ a xs,v = .ref a/\SqT K H a xs/\xs.length=n/\t xs σ H Q
theorem qDz (hc:X.calm=true) (h:PGs X es t)
  (hn:(assignEach es X.env).length=n:=by rfl) (hst:(assignEach es X.env).findIdx? (·.1)=none:=by rfl):PG X (.Tuple es k pos) (gTup X.K n t):=by
 intro pins s σ H v u Q I r hw;obtain⟨a,xs,e1,hq,hl,hw⟩:=hw;subst e1;cases r;obtain⟨its,rv,ht,hz⟩:=I.tuple hq;refine assign_Tuple_tuple (I.ok.hd hc) ht (by simp[hn,<-hl,rv.length]) hst fun h' hx=>?_
 have I1:Inv X pins σ H { s with heap:=h' }:=I.kept (t':=s.toks) fun b o e=>hx b o (hAp (Heap.lt_size e)) e
 exact h pins _ σ H xs _ Q I1 (by simpa using rv) hw
def gSub (to ti:TE) (t:TSet):TG:=fun v σ H Q=>to σ H fun o H1=>ti σ H1 fun i H2=>t o i v H2 fun H3=>Q σ H3
theorem qFi (ho:PE X o to) (hi:PE X i ti) (hs:PSet X t)
  (ha:∀ v,assign (.Subscript o i pos) X.env v=(do
   let ov ← holding [v] (eval o X.env)
   let iv ← holding [v,ov] (eval i X.env)
   standAt pos
   holding [v,ov,iv] (setItem ov iv v)
   release [v,ov,iv] []):=by intro _;rfl):PG X (.Subscript o i pos) (gSub to ti t):=by
 intro pins s σ H v u Q I r h;rw[ha];refine wpAny_bind (wpAny_holding (thn (ho pins s σ H _ I h) fun ov s1 ⟨x,H1,I1,r1,q1⟩=>?_));refine wpAny_bind (wpAny_holding (thn (hi pins s1 σ H1 _ I1 q1) fun iv s2 ⟨y,H2,I2,r2,q2⟩=>?_));refine wpAny_bind (wpAny_standAt (wpAny_bind (wpAny_holding (thn (hs pins s2 σ H2 x y v ov iv u _ I2 r1 r2 r q2) fun _ s3 ⟨H3,I3,q3⟩=>?_))));exact wpAny_release ⟨σ,H3,I3,q3⟩
def tAsg (te:TE) (g:TG):TS:=fun D σ H=>te σ H fun x H1=>g x σ H1 D.nx
theorem qDy (he:PE X e te) (hg:PG X tg g) (hs:swapsWithSole [tg] e pos.line X.env=pure false:=by rfl) (hw:swappedStores [tg] e X.env=pure none:=by rfl)
  (h1:(assignEach [tg] X.env).map (·.2)=[assign tg X.env]:=by rfl):PS X (.Assign [tg] e pos) (tAsg te g):=by
 intro pins s σ H D I h;refine wpAny_Assign_stores (thn (he pins s σ H _ I h) fun v s1 ⟨x,H1,I1,r1,q1⟩=>?_) hs hw;rw[h1];exact thn (hg pins s1 σ H1 x v _ I1 r1 q1) fun _ s2 q=>q
theorem qAm (hN:X.N.Nodup) (hi:X.N[i]?=some x) (hx:Loc X.env.scope x) (he:PE X e te) (hs:swapsWith e (some (.Name x pos')) pos.line X.env=pure false:=by rfl) (hf:X.fn x=true\/X.env.scope.names.lookup x=some .local:=by first | exact .inl rfl | exact .inr rfl | assumption) :
  PS X (.Assign [.Name x pos'] e pos) (tAsg te (gName i)):=by
 intro pins s σ H D I h;refine wpAny_Assign_Name (thn (he pins s σ H _ I h) fun v s1 ⟨y,H1,I1,r1,q1⟩=>?_) hs;exact store_ok I1 hN hi hx r1 (fun s2 I2=>⟨_,H1,I2,q1⟩) hf
end
section
variable {X:Cx} {pos:Pos}
def tWhile (c:TT) (tb:TS):TS:=fun D σ H=>∃ W:Nat->St->Hp->Prop,(∃ m,W m σ H)/\∀ m σ H,W m σ H ->
 c σ H fun b H1=>if b=true then ∃ N:St->Hp->Prop,(∀ σ' H',N σ' H'->∃ m',m'<m/\W m' σ' H')/\tb { D with nx:=N,ct:=N,bk:=D.nx } σ H1 else D.nx σ H1
theorem ps_while (hp:PassesOwn (model X.prog X.w) X.A X.env X.xe) (hc:PT X c tc) (hb:PSs X body tb):PS X (.While c body [] pos) (tWhile tc tb):=by
 intro pins s σ H D I h;obtain⟨W,⟨m0,w0⟩,turn⟩:=h;refine wpAny_While (codeAny_whileLoop (fun n s'=>∃ σ' H',Inv X pins σ' H' s'/\W n σ' H') ?_ m0 ⟨σ,H,I,w0⟩);rintro n s1 ⟨σ1,H1,I1,w1⟩;refine wpAny_passesOwn hp (thn (hc pins s1 σ1 H1 _ I1 (turn n σ1 H1 w1)) fun b s2 ⟨H2,I2,q2⟩=>?_);cases b with
 | true =>
  obtain⟨N,hN,q2⟩:=q2;rw[if_pos rfl];refine wpAny_passesOwn hp (thn (hb pins s2 σ1 H2 _ I2 q2) fun f s3 q3=>?_);cases f with
  | next =>
   obtain⟨σ3,H3,I3,n3⟩:=q3;obtain⟨m',hm,w3⟩:=hN σ3 H3 n3;exact⟨m',hm,σ3,H3,I3,w3⟩
  | cont =>
   obtain⟨σ3,H3,I3,n3⟩:=q3;obtain⟨m',hm,w3⟩:=hN σ3 H3 n3;exact⟨m',hm,σ3,H3,I3,w3⟩
  | brk=>exact q3
  | ret v=>exact q3
 | false =>
  rw[if_neg hAm];exact wpAny_execs_nil ⟨σ1,H2,I2,q2⟩
end
structure It where
 go:Nat->Hp->Prop
 yld:Nat->Hp->V->Hp->Prop
 stop:Nat->Hp->Prop
def FpOk (X:Cx) (pins:List (Addr×Obj)) (H:Hp) (b:Addr):Prop :=
 H b=none/\b≠X.env.locals/\b∉X.fs/\(b∈X.ex\/X.s₀.heap.objs.size<=b)/\(∀ x c,X.env.cells.lookup x=some c->c≠b)/\∀ p∈X.pn++pins,p.1≠b
theorem Inv.fpOk (I:Inv X pins σ H s) (hb:s.heap.objs.size<=b) (hn:H' b=none):FpOk X pins H' b:=by
 refine⟨hn,hCz (hAh I.lt hb),I.nofs hb,.inr (hB7 I.sz hb),fun x c e z=>?_,fun p hp z=>?_⟩
 ·obtain⟨v,q⟩:=I.cell x c e;exact absurd (hAh q.lt (by rw[z];exact hb)) (hBl _)
 ·exact absurd (hAh (Heap.lt_size (I.pin p hp).1) (by rw[z];exact hb)) (hBl _)
structure Turn (P:Program) (w:World) (K:PySem.W.Frag) (tg:Expr) (J:It) (fp:List Addr) (it:Addr) (tn:Nat->Heap->Prop):Prop where
 mem:it∈fp
 obj:∀ i h,tn i h->∀ b∈fp,∃ o,h.get? b=some o/\∀ v,o.data≠.cell v
 keep:∀ i h h',tn i h->(∀ b∈fp,∀ o,h.get? b=some o->h'.get? b=some o)->tn i h'
 item:∀ (X:Cx),X.prog=P->X.w=w->X.K=K->X.calm=true->∀ (i:Nat) (pins:List (Addr×Obj)) (s:Shared) (σ:St) (H:Hp) (E:Value->Shared->Prop),Inv X pins σ H s->(∀ b∈fp,FpOk X pins H b)->tn i s.heap->J.go i H ->
  wpAny (model P w) X.A (pyNext (.ref it)) (fun r s1=>∃ u,r=some u /\
   wpAny (model P w) X.A (letOwnedTupleGo tg (.ref it) u) (fun _ s2=>∃ x H',Inv X pins σ H' s2/\qBn x u/\J.yld i H x H'/\tn (i+1) s2.heap/\∀ b∈fp,H' b=none) E s1) E s
 done:∀ (X:Cx),X.prog=P->X.w=w->X.K=K->X.calm=true->∀ (i:Nat) (pins:List (Addr×Obj)) (s:Shared) (σ:St) (H:Hp) (E:Value->Shared->Prop),Inv X pins σ H s->(∀ b∈fp,FpOk X pins H b)->tn i s.heap->J.stop i H ->
  wpAny (model P w) X.A (pyNext (.ref it)) (fun r s1=>r=none/\Inv X pins σ H s1) E s
 self:∀ (A:Around) (i:Nat) (s:Shared) (Q:Value->Shared->Prop) (E:Value->Shared->Prop),tn i s.heap->Q (.ref it) s->wpAny (model P w) A (pyIter (.ref it)) Q E s
abbrev TI:=St->Hp->(It->Hp->Prop)->Prop
def PIE (X:Cx) (pins:List (Addr×Obj)) (σ:St) (tg:Expr) (R:It->Hp->Prop) (itv:Value) (s2:Shared):Prop :=
 ∃ (it:Addr) (fp:List Addr) (tn:Nat->Heap->Prop) (J:It) (H':Hp),itv = .ref it/\Inv X pins σ H' s2/\Turn X.prog X.w X.K tg J fp it tn/\tn 0 s2.heap/\(∀ b∈fp,FpOk X pins H' b)/\R J H'
def PI (X:Cx) (tg iter:Expr) (wi:TI):Prop :=
 ∀ (pins:List (Addr×Obj)) (s:Shared) (σ:St) (H:Hp) (R:It->Hp->Prop),Inv X pins σ H s->wi σ H R ->
  wpAny (model X.prog X.w) X.A (eval iter X.env) (fun v s1=>wpAny (model X.prog X.w) X.A (pyIter v) (PIE X pins σ tg R) X.xe s1) X.xe s
theorem go_of (ho:s.heap.get? it=some o) (hc:o.cls = .type n) (hd:o.data = .fields vs)
  (hn:["enumerate","zip","dict_itemiterator","dict_reverseitemiterator","odict_iterator","itertools.zip_longest","itertools.pairwise"].contains n=false) (hQ:Q () s):wpAny M A (letOwnedTupleGo tg (.ref it) u) Q E s:=by
 unfold letOwnedTupleGo;cases tg <;> first
  | exact wpAny_pure hQ
  | (cases u <;> first
    | exact wpAny_pure hQ
    | (refine wpAny_bind (wpAny_load ho ?_);rw[hc,hd];show wpAny M A (if (["enumerate","zip","dict_itemiterator","dict_reverseitemiterator","odict_iterator","itertools.zip_longest","itertools.pairwise"].contains n && vs[0]? == some (rawInt _))=true then _ else _) Q E s;rw[if_neg (by intro h;rw[hn,Bool.false_and]at h;cases h)];exact wpAny_pure hQ))
def Itl (K:PySem.W.Frag) (a:Addr):It :=
 ⟨fun i H=>∃ xs x,SqL K H a xs/\xs[i]?=some x,fun i H x H'=>H'=H/\∀ xs,SqL K H a xs->xs[i]?=some x,fun i H=>∃ xs,SqL K H a xs/\xs.length<=i⟩
def Itt (K:PySem.W.Frag) (a:Addr):It :=
 ⟨fun i H=>∃ xs x,SqT K H a xs/\xs[i]?=some x,fun i H x H'=>H'=H/\∀ xs,SqT K H a xs->xs[i]?=some x,fun i H=>∃ xs,SqT K H a xs/\xs.length<=i⟩
def Itr (lo:Int) (n:Nat):It:=⟨fun i _=>i<n,fun i H x H'=>H'=H/\x = .int (lo+i),fun i _=>n<=i⟩
theorem turn_list {P:Program} {w:World} {K:PySem.W.Frag} {tg:Expr} (a it:Addr):Turn P w K tg (Itl K a) [it] it (fun i h=>h.IsListIter it a i) where
 mem:=by simp
 obj:=fun i h st b hb=>by
  have e:b=it:=by simpa using hb
  subst e;obtain⟨o,e,c,d⟩:=st;exact⟨o,e,fun v z=>by rw[d]at z;cases z⟩
 keep:=fun i h h' st k=>st.at fun o e=>k it (by simp) o e
 item:=by
  intro X hP hw hK hc i pins s σ H E I hf st hg;subst hP hw hK;obtain⟨xs,x,hq,hx⟩:=hg;obtain⟨its,rv,p,hz⟩:=I.list hq;obtain⟨u,hu,ru⟩:=rv.get hx;obtain⟨f0,f1,f2,f3,f4,f5⟩:=hf it (by simp);refine wpAny_pyNext_list_item st p.isList (x:=u) (by simpa using hu) fun h' st' sb=>?_
  have I1:Inv X pins σ H { s with heap:=h' }:=I.turned (t':=s.toks) (fun b o hb e=>(sb.2 b hb).trans e) f0 f1 f3 f4 f5;obtain⟨o,e,c,d⟩:=id st';exact⟨u,rfl,go_of (s:={ s with heap:=h' }) e c d (by decide) ⟨x,H,I1,ru,⟨rfl,fun ys hy=>by rw[I.list_inj hy hq];exact hx⟩,st',fun b hb=>(hf b hb).1⟩⟩
 done:=by
  intro X hP hw hK hc i pins s σ H E I hf st hg;subst hP hw hK;obtain⟨xs,hq,hx⟩:=hg;obtain⟨its,rv,p,hz⟩:=I.list hq;obtain⟨f0,f1,f2,f3,f4,f5⟩:=hf it (by simp);have hl:=rv.length;exact wpAny_pyNext_list_end (I.ok.hd hc) st p.isList (by simp;omega) fun h' eb=>⟨rfl,I.turned (t':=s.toks) (fun b o hb e=>eb b o hb e) f0 f1 f3 f4 f5⟩
 self:=fun _ _ _ _ _ st h=>wpAny_pyIter_listiter st h
theorem turn_tuple {P:Program} {w:World} {K:PySem.W.Frag} {tg:Expr} (a it:Addr):Turn P w K tg (Itt K a) [it] it (fun i h=>h.IsTupleIter it a i) where
 mem:=by simp
 obj:=fun i h st b hb=>by
  have e:b=it:=by simpa using hb
  subst e;obtain⟨o,e,c,d⟩:=st;exact⟨o,e,fun v z=>by rw[d]at z;cases z⟩
 keep:=fun i h h' st k=>st.at fun o e=>k it (by simp) o e
 item:=by
  intro X hP hw hK hc i pins s σ H E I hf st hg;subst hP hw hK;obtain⟨xs,x,hq,hx⟩:=hg;obtain⟨its,rv,p,hz⟩:=I.tuple hq;obtain⟨u,hu,ru⟩:=rv.get hx;obtain⟨f0,f1,f2,f3,f4,f5⟩:=hf it (by simp);refine wpAny_pyNext_tuple_item st (show s.heap.IsTuple a its.toArray from p) (x:=u) (by simpa using hu) fun h' st' sb=>?_
  have I1:Inv X pins σ H { s with heap:=h' }:=I.turned (t':=s.toks) (fun b o hb e=>(sb.2 b hb).trans e) f0 f1 f3 f4 f5;obtain⟨o,e,c,d⟩:=id st';exact⟨u,rfl,go_of (s:={ s with heap:=h' }) e c d (by decide) ⟨x,H,I1,ru,⟨rfl,fun ys hy=>by rw[I.tuple_inj hy hq];exact hx⟩,st',fun b hb=>(hf b hb).1⟩⟩
 done:=by
  intro X hP hw hK hc i pins s σ H E I hf st hg;subst hP hw hK;obtain⟨xs,hq,hx⟩:=hg;obtain⟨its,rv,p,hz⟩:=I.tuple hq;obtain⟨f0,f1,f2,f3,f4,f5⟩:=hf it (by simp);have hl:=rv.length;exact wpAny_pyNext_tuple_end (I.ok.hd hc) st (show s.heap.IsTuple a its.toArray from p) (by simp;omega) fun h' eb=>⟨rfl,I.turned (t':=s.toks) (fun b o hb e=>eb b o hb e) f0 f1 f3 f4 f5⟩
 self:=fun _ _ _ _ _ st h=>wpAny_pyIter_tupleiter st h
theorem turn_range {P:Program} {w:World} {K:PySem.W.Frag} {tg:Expr} (it:Addr) (lo:Int) (n:Nat):Turn P w K tg (Itr lo n) [it] it (fun i h=>IsRangeIter h it (lo+(i:Nat)*1) ((n:Int) - (i:Nat)) 1) where
 mem:=by simp
 obj:=fun i h st b hb=>by
  have e:b=it:=by simpa using hb
  subst e;exact⟨_,st,fun v z=>by
   have z':Data.fields _=Data.cell v:=z;cases z'⟩
 keep:=fun i h h' st k=>k it (by simp) _ st
 item:=by
  intro X hP hw hK hc i pins s σ H E I hf st hg;subst hP hw hK;obtain⟨f0,f1,f2,f3,f4,f5⟩:=hf it (by simp);have W:=Walks.range (prog:=X.prog) (w:=X.w) (I.ok.hd hc) it lo 1 n;refine W.item i s _ _ hg st fun v h' tk hv st' kk=>?_
  obtain⟨t,rfl⟩:=hv;have I1:Inv X pins σ H { s with heap:=h',toks:=tk }:=I.turned (fun b o hb e=>kk b o (by simpa using hb) e) f0 f1 f3 f4 f5;refine⟨_,rfl,go_of (s:={ s with heap:=h',toks:=tk }) (n:="range_iterator") st' rfl rfl (by decide) ⟨.int (lo+i),H,I1,⟨t,?_⟩,⟨rfl,rfl⟩,st',fun b hb=>(hf b hb).1⟩⟩;rw[Int.mul_one]
 done:=by
  intro X hP hw hK hc i pins s σ H E I hf st hg;subst hP hw hK;obtain⟨f0,f1,f2,f3,f4,f5⟩:=hf it (by simp);exact wpAny_pyNext_range_end (I.ok.hd hc) st (by have:n<=i:=hg;omega) fun h' eb=>⟨rfl,I.turned (t':=s.toks) (fun b o hb e=>eb b o hb e) f0 f1 f3 f4 f5⟩
 self:=fun _ _ _ _ _ st h=>wpAny_pyIter_rangeiter st h
end L2
namespace L2
open PySem PySem.Spec PyProof.Rows
section
variable {X:Cx} {tg:Expr}
def iList (K:PySem.W.Frag) (tl:TE):TI:=fun σ H R=>tl σ H fun x H1=>∃ a,x = .ref a/\(∃ xs,SqL K H1 a xs)/\R (Itl K a) H1
def iTup (K:PySem.W.Frag) (tl:TE):TI:=fun σ H R=>tl σ H fun x H1=>∃ a,x = .ref a/\(∃ xs,SqT K H1 a xs)/\R (Itt K a) H1
theorem qA4 {l:Expr} {tl:TE} (hl:PE X l tl):PI X tg l (iList X.K tl):=by
 intro pins s σ H R I h;refine thn (hl pins s σ H _ I h) fun v s1 ⟨x,H1,I1,r1,q1⟩=>?_
 obtain⟨a,e,⟨xs,hq⟩,q⟩:=q1;subst e;cases r1;obtain⟨its,rv,p,hz⟩:=I1.list hq;refine wpAny_pyIter_list p.isList ?_;refine⟨s1.heap.objs.size,[s1.heap.objs.size],_,_,H1,rfl,I1.kept (t':=s1.toks) fun b o e=>Heap.get?_push_of_some _ e,turn_list a _,⟨_,Heap.get?_push_size _ rfl,rfl,rfl⟩,fun b hb=>?_,q⟩;have e:b=s1.heap.objs.size:=by simpa using hb
 subst e;exact I1.fpOk (hA5 _) (I1.hok.fresh (hA5 _))
theorem pi_tup {l:Expr} {tl:TE} (hl:PE X l tl):PI X tg l (iTup X.K tl):=by
 intro pins s σ H R I h;refine thn (hl pins s σ H _ I h) fun v s1 ⟨x,H1,I1,r1,q1⟩=>?_
 obtain⟨a,e,⟨xs,hq⟩,q⟩:=q1;subst e;cases r1;obtain⟨its,rv,p,hz⟩:=I1.tuple hq;refine wpAny_pyIter_tuple (show s1.heap.IsTuple a its.toArray from p) ?_;refine⟨s1.heap.objs.size,[s1.heap.objs.size],_,_,H1,rfl,I1.kept (t':=s1.toks) fun b o e=>Heap.get?_push_of_some _ e,turn_tuple a _,⟨_,Heap.get?_push_size _ rfl,rfl,rfl⟩,fun b hb=>?_,q⟩;have e:b=s1.heap.objs.size:=by simpa using hb
 subst e;exact I1.fpOk (hA5 _) (I1.hok.fresh (hA5 _))
theorem range_it {pins:List (Addr×Obj)} {σ:St} {H:Hp} {s:Shared} {R:It->Hp->Prop} {E:Value->Shared->Prop} {lo hi:Int} {t u v:Tok} {tk:Nat} (I:Inv X pins σ H s) (h1:-(2^62)<=lo) (h2:lo<2^62) (h3:-(2^62)<=hi) (h4:hi<2^62)
  (q:R (Itr lo (hi - lo).toNat) H):wpAny (model X.prog X.w) X.A (pyIter (.ref s.heap.objs.size)) (PIE X pins σ tg R) E { s with heap:=s.heap.push { cls:=.type "range",data:=.fields #[.int lo t,.int hi u,.int 1 v] },toks:=tk }:=by
 refine wpAny_pyIter_range (IsRange.new ..) (small_one h1 h2 h3 h4) ?_;have I1:Inv X pins σ H { s with heap:=s.heap.push { cls:=.type "range",data:=.fields #[.int lo t,.int hi u,.int 1 v] },toks:=tk }:=I.kept fun b o e=>Heap.get?_push_of_some _ e
 refine⟨(s.heap.push { cls:=.type "range",data:=.fields #[.int lo t,.int hi u,.int 1 v] }).objs.size,[(s.heap.push { cls:=.type "range",data:=.fields #[.int lo t,.int hi u,.int 1 v] }).objs.size],_,_,H,rfl,
  I1.kept (t':=tk) fun b o e=>Heap.get?_push_of_some _ e,turn_range _ lo (hi - lo).toNat,?_,fun b hb=>?_,q⟩
 ·have e1:lo+((0:Nat):Int)*1=lo:=by simp
  have e2:(((hi - lo).toNat:Nat):Int) - ((0:Nat):Int)=Builtin.Range.rangeSize lo hi 1:=by rw[rangeSize_one];split <;> omega
  show IsRangeIter _ _ (lo+((0:Nat):Int)*1) ((((hi - lo).toNat:Nat):Int) - ((0:Nat):Int)) 1;rw[e1,e2];exact Heap.get?_push_size _ rfl
 ·have e:b=(s.heap.push { cls:=.type "range",data:=.fields #[.int lo t,.int hi u,.int 1 v] }).objs.size:=by simpa using hb
  subst e;exact I1.fpOk (hA5 _) (I1.hok.fresh (hA5 _))
def iRng1 (ta:TA):TI:=fun σ H R=>ta σ H fun vs H1=>∃ j:Int,vs=[.int j]/\-(2^62)<=j/\j<2^62/\R (Itr 0 j.toNat) H1
def iRng2 (ta:TA):TI:=fun σ H R=>ta σ H fun vs H1=>∃ i j:Int,vs=[.int i,.int j]/\(-(2^62)<=i/\i<2^62/\-(2^62)<=j/\j<2^62)/\R (Itr i (j - i).toNat) H1
theorem qBa {a:Expr} {ta:TA} {p pos:Pos} (hg:Gl X "range") (hm:X.mg "range" = none) (ha:PA X [a] ta) (hs:starEach [a] X.env=[(false,eval a X.env)]:=by rfl):PI X tg (.Call (.Name "range" p) [a] [] pos) (iRng1 ta):=by
 intro pins s σ H R I h;refine Call_ (qD6 I hg hm boot_range (hBz (thn (ha pos pins s σ H _ I h) fun us s1 ⟨vs,H1,I1,r1,q1⟩=>?_) hs rfl));obtain⟨j,e,q1,q2,q⟩:=q1;subst e;cases r1 with
 | cons r rr =>
  cases rr;obtain⟨t,rfl⟩:=r;exact call_range_1 (range_it I1 (by omega) (by omega) q1 q2 (by simpa using q))
theorem pi_range2 (hg:Gl X "range") (hm:X.mg "range" = none) (ha:PA X [a,b] ta) (hs:starEach [a,b] X.env=[(false,eval a X.env),(false,eval b X.env)]:=by rfl) (hs2:starEach [b] X.env=[(false,eval b X.env)]:=by rfl) :
  PI X tg (.Call (.Name "range" p) [a,b] [] pos) (iRng2 ta):=by
 intro pins s σ H R I h;refine Call_ (qD6 I hg hm boot_range (hBz (thn (ha pos pins s σ H _ I h) fun us s1 ⟨vs,H1,I1,r1,q1⟩=>?_) (by rw[hs,hs2]) (by rw[hs2];rfl)));obtain⟨i,j,e,⟨q1,q2,q3,q4⟩,q⟩:=q1;subst e;cases r1 with
 | cons r rr =>
  cases rr with
  | cons r' rr =>
   cases rr;obtain⟨t,rfl⟩:=r;obtain⟨t',rfl⟩:=r';exact call_range_2 (range_it I1 q1 q2 q3 q4 q)
def tFor (wi:TI) (g:TG) (tb:TS):TS:=fun D σ H=>wi σ H fun J H1=>∃ W:Nat->Nat->St->Hp->Prop,(∃ m,W 0 m σ H1)/\∀ i m σ H,W i m σ H ->
 (J.stop i H/\D.nx σ H)\/(J.go i H/\∃ N:St->Hp->Prop,(∀ σ' H',N σ' H'->∃ m',m'<m/\W (i+1) m' σ' H')/\∀ x H',J.yld i H x H'->g x σ H' fun σ2 H2=>tb { D with nx:=N,ct:=N,bk:=D.nx } σ2 H2)
def pinsAt (fp:List Addr) (h:Heap):List (Addr×Obj):=fp.filterMap fun b=>(h.get? b).map fun o=>(b,o)
theorem qBq (hb:b∈fp) (e:h.get? b=some o):(b,o)∈pinsAt fp h:=hCa.mpr ⟨b,hb,by rw[e];rfl⟩
theorem of_pinsAt (hp:p∈pinsAt fp h):p.1∈fp/\h.get? p.1=some p.2:=by
 obtain⟨b,hb,e⟩:=hCa.mp hp;cases q:h.get? b with
 | none=>rw[q]at e;cases e
 | some o =>
  rw[q]at e;have e':(b,o)=p:=hAa e;subst e';exact⟨hb,q⟩
theorem Inv.pinned (I:Inv X pins σ H s) (hf:∀ b∈fp,FpOk X pins H b) (ho:∀ b∈fp,∃ o,s.heap.get? b=some o/\∀ v,o.data≠.cell v):Inv X (pins++pinsAt fp s.heap) σ H s :=
 I.pins_of fun p hp=>(hAr.mp hp).elim (fun z=>I.pin p (hA6 _ z)) fun z=>by
  obtain⟨hb,e⟩:=of_pinsAt z;obtain⟨f0,f1,f2,_⟩:=hf p.1 hb;obtain⟨o,e',d⟩:=ho p.1 hb;rw[e]at e';cases e';exact⟨e,f0,f1,f2,d⟩
theorem Inv.unpinned (I:Inv X (pins++pl) σ H s):Inv X pins σ H s:=I.pins_of fun p hp=>I.pin p (hA6 _ (hAz _ hp))
theorem qBw (hp:PassesOwn (model X.prog X.w) X.A X.env X.xe) (hc:X.calm=true) (hi:PI X tg iter wi) (hg:PG X tg g) (hb:PSs X body tb)
  (hs:∀ x,foldedSetIterable iter X.env x=pure x:=by intro _;rfl):PS X (.For tg iter body [] pos) (tFor wi g tb):=by
 intro pins s σ H D I h;refine wpAny_For (thn (hi pins s σ H _ I h) fun v s1 h1=>thn h1 fun itv s2 h2=>?_) hs;obtain⟨it,fp,tn,J,H2,e,I2,T,st2,f2,W,⟨m0,w0⟩,turn⟩:=h2;subst e;have stat:∀ {H':Hp},(∀ b∈fp,H' b=none)->∀ b∈fp,FpOk X pins H' b:=fun hn b hb=>⟨hn b hb,(f2 b hb).2⟩
 refine codeAny_forLoop_any (fun n s'=>∃ i σ' H',Inv X pins σ' H' s'/\tn i s'.heap/\(∀ b∈fp,H' b=none)/\W i n σ' H') ?_ m0 ⟨0,σ,H2,I2,st2,fun b hb=>(f2 b hb).1,w0⟩;rintro n s3 ⟨i,σ3,H3,I3,st3,fr3,w3⟩;rcases turn i n σ3 H3 w3 with ⟨stop,qn⟩ | ⟨go,N,hN,step⟩
 ·refine wpAny_passesOwn hp (thn (T.done X rfl rfl rfl hc i pins s3 σ3 H3 X.xe I3 (stat fr3) st3 stop) fun r s4 ⟨hr,I4⟩=>?_);subst hr;exact wpAny_execs_nil ⟨σ3,H3,I4,qn⟩
 ·refine wpAny_passesOwn hp (thn (T.item X rfl rfl rfl hc i pins s3 σ3 H3 X.xe I3 (stat fr3) st3 go) fun r s4 ⟨u,hr,h4⟩=>?_);subst hr;refine wpAny_passesOwn hp (thn h4 fun _ s5 ⟨x,H5,I5,r5,y5,st5,fr5⟩=>?_);have I5':=I5.pinned (stat fr5) (T.obj _ _ st5);refine wpAny_passesOwn hp (thn (hg _ s5 σ3 H5 x u _ I5' r5 (step x H5 y5)) fun _ s6 ⟨σ6,H6,I6,q6⟩=>?_);refine wpAny_passesOwn hp (thn (hb _ s6 σ6 H6 _ I6 q6) fun f s7 q7=>?_);have again:∀ {σ7:St} {H7:Hp},Inv X (pins++pinsAt fp s5.heap) σ7 H7 s7->N σ7 H7->∃ m,m<n/\∃ i σ' H',Inv X pins σ' H' s7/\tn i s7.heap/\(∀ b∈fp,H' b=none)/\W i m σ' H':=fun {σ7 H7} I7 n7=>by
   obtain⟨m',hm,w7⟩:=hN σ7 H7 n7;refine⟨m',hm,i+1,σ7,H7,I7.unpinned,T.keep _ _ _ st5 fun b hb o e=>(I7.pin (b,o) (hA6 _ (hA6 _ (qBq hb e)))).1,fun b hb=>?_,w7⟩;obtain⟨o,e,d⟩:=T.obj _ _ st5 b hb;exact(I7.pin (b,o) (hA6 _ (hA6 _ (qBq hb e)))).2.1
  cases f with
  | next=>obtain⟨σ7,H7,I7,n7⟩:=q7;exact again I7 n7
  | cont=>obtain⟨σ7,H7,I7,n7⟩:=q7;exact again I7 n7
  | brk=>obtain⟨σ7,H7,I7,q7⟩:=q7;exact⟨σ7,H7,I7.unpinned,q7⟩
  | ret v=>obtain⟨x7,σ7,H7,I7,r7,q7⟩:=q7;exact⟨x7,σ7,H7,I7.unpinned,r7,q7⟩
end
theorem qCz {K:PySem.W.Frag} {a:Addr} {xs:List V} {g:TG} {tb:TS} {D:Ends} {σ:St} {H:Hp} (Pv:Nat->St->Hp->Prop) (h0:Pv 0 σ H) (hl:∀ i σ H,i<=xs.length->Pv i σ H->SqL K H a xs)
  (hs:∀ i x σ H,xs[i]?=some x->Pv i σ H->g x σ H fun σ2 H2=>tb { D with nx:=Pv (i+1),ct:=Pv (i+1),bk:=D.nx } σ2 H2) (hd:∀ σ H,Pv xs.length σ H->D.nx σ H) :
  ∃ W:Nat->Nat->St->Hp->Prop,(∃ m,W 0 m σ H)/\∀ i m σ H,W i m σ H ->
   ((Itl K a).stop i H/\D.nx σ H)\/((Itl K a).go i H/\∃ N:St->Hp->Prop,(∀ σ' H',N σ' H'->∃ m',m'<m/\W (i+1) m' σ' H')/\∀ x H',(Itl K a).yld i H x H'->g x σ H' fun σ2 H2=>tb { D with nx:=N,ct:=N,bk:=D.nx } σ2 H2):=by
 refine⟨fun i m σ H=>m=xs.length - i/\i<=xs.length/\Pv i σ H,⟨xs.length,by simp,hAw _,h0⟩,?_⟩;rintro i m σ H ⟨rfl,hi,p⟩;have q:=hl i σ H hi p;by_cases hlt:i<xs.length
 ·refine .inr ⟨⟨xs,xs[i],q,by simp[hlt]⟩,Pv (i+1),fun σ' H' p'=>⟨xs.length - (i+1),by omega,rfl,hlt,p'⟩,fun x H' y=>?_⟩;obtain⟨e,y⟩:=y;subst e;exact hs i x σ _ (y xs q) p
 ·have e:i=xs.length:=by omega
  subst e;exact .inl ⟨⟨xs,q,hA5 _⟩,hd σ H p⟩
theorem qBh {lo:Int} {n:Nat} {g:TG} {tb:TS} {D:Ends} {σ:St} {H:Hp} (Pv:Nat->St->Hp->Prop) (h0:Pv 0 σ H)
  (hs:∀ i σ H,i<n->Pv i σ H->g (.int (lo+i)) σ H fun σ2 H2=>tb { D with nx:=Pv (i+1),ct:=Pv (i+1),bk:=D.nx } σ2 H2) (hd:∀ σ H,Pv n σ H->D.nx σ H) :
  ∃ W:Nat->Nat->St->Hp->Prop,(∃ m,W 0 m σ H)/\∀ i m σ H,W i m σ H ->
   ((Itr lo n).stop i H/\D.nx σ H)\/((Itr lo n).go i H/\∃ N:St->Hp->Prop,(∀ σ' H',N σ' H'->∃ m',m'<m/\W (i+1) m' σ' H')/\∀ x H',(Itr lo n).yld i H x H'->g x σ H' fun σ2 H2=>tb { D with nx:=N,ct:=N,bk:=D.nx } σ2 H2):=by
 refine⟨fun i m σ H=>m=n - i/\i<=n/\Pv i σ H,⟨n,by simp,hAw _,h0⟩,?_⟩;rintro i m σ H ⟨rfl,hi,p⟩;by_cases hlt:i<n
 ·refine .inr ⟨hlt,Pv (i+1),fun σ' H' p'=>⟨n - (i+1),by omega,rfl,hlt,p'⟩,fun x H' y=>?_⟩;obtain⟨e,y⟩:=y;subst e y;exact hs i σ _ hlt p
 ·have e:i=n:=by omega
  subst e;exact .inl ⟨hA5 _,hd σ H p⟩
end L2
namespace L2
open PySem PySem.Spec PyProof.Rows
abbrev R2:=V->V->Hp->VK->Prop
def OpR (X:Cx) (f:Value->Value->Sem Value) (r:R2):Prop :=
 ∀ (pins:List (Addr×Obj)) (s:Shared) (σ:St) (H:Hp) (x y:V) (v u:Value) (Q:VK),Inv X pins σ H s->qBn x v->qBn y u->r x y H Q ->
  wpAny (model X.prog X.w) X.A (f v u) (EP X pins σ Q) X.xe s
def UnR (X:Cx) (f:Value->Sem Value) (r:V->Hp->VK->Prop):Prop :=
 ∀ (pins:List (Addr×Obj)) (s:Shared) (σ:St) (H:Hp) (x:V) (v:Value) (Q:VK),Inv X pins σ H s->qBn x v->r x H Q ->
  wpAny (model X.prog X.w) X.A (f v) (EP X pins σ Q) X.xe s
def qCr (X:Cx) (f:Value) (r:List V->Hp->VK->Prop):Prop :=
 ∀ (pins:List (Addr×Obj)) (s:Shared) (σ:St) (H:Hp) (xs:List V) (us:List Value) (Q:VK),Inv X pins σ H s->qA5 xs us->r xs H Q ->
  wpAny (model X.prog X.w) X.A (call f us) (EP X pins σ Q) X.xe s
def tOp (r:R2) (ta tb:TE):TE:=fun σ H Q=>ta σ H fun x H1=>tb σ H1 fun y H2=>r x y H2 Q
def tUn (r:V->Hp->VK->Prop) (ta:TE):TE:=fun σ H Q=>ta σ H fun x H1=>r x H1 Q
def rI (C:Int->Int->Prop) (g:Int->Int->V):R2:=fun x y H Q=>∃ i j,x = .int i/\y = .int j/\C i j/\Q (g i j) H
def rI0 (g:Int->Int->V):R2:=fun x y H Q=>∃ i j,x = .int i/\y = .int j/\Q (g i j) H
def rU (g:Int->V):V->Hp->VK->Prop:=fun x H Q=>∃ i,x = .int i/\Q (g i) H
section
variable {X:Cx} {a b c:Expr} {ta tb tc:TE} {pos:Pos}
theorem binT (ha:PE X a ta) (hb:PE X b tb) {pins:List (Addr×Obj)} {s:Shared} {σ:St} {H:Hp} {R:V->V->Hp->Prop} (I:Inv X pins σ H s)
  (h:ta σ H fun x H1=>tb σ H1 fun y H2=>R x y H2) {Q:Value->Shared->Prop} {f:Value->Value->Sem Value}
  (hf:∀ v u s2 x y H2,Inv X pins σ H2 s2->qBn x v->qBn y u->R x y H2->wpAny (model X.prog X.w) X.A (f v u) Q X.xe s2) :
  wpAny (model X.prog X.w) X.A (eval a X.env) (fun v s₁=>wpAny (model X.prog X.w) X.A (eval b X.env) (fun u s₂=>wpAny (model X.prog X.w) X.A (f v u) Q X.xe s₂) X.xe s₁) X.xe s:=by
 refine thn (ha pins s σ H _ I h) fun v s1 ⟨x,H1,I1,r1,q1⟩=>?_
 refine thn (hb pins s1 σ H1 _ I1 q1) fun u s2 ⟨y,H2,I2,r2,q2⟩=>?_
 exact hf v u s2 x y H2 I2 r1 r2 q2
theorem qAt {op:Operator} {r:R2} (ho:OpR X (binaryOp op) r) (ha:PE X a ta) (hb:PE X b tb):PE X (.BinOp a op b pos) (tOp r ta tb):=by
 intro pins s σ H Q I h;exact wpAny_BinOp (binT ha hb I h fun v u s2 x y H2 I2 rx ry q=>ho pins s2 σ H2 x y v u Q I2 rx ry q)
theorem pe_un (ho:UnR X (unaryOp op) r) (ha:PE X a ta):PE X (.UnaryOp op a pos) (tUn r ta):=by
 intro pins s σ H Q I h;exact UnaryOp_ (thn (ha pins s σ H _ I h) fun v s1 ⟨x,H1,I1,r1,q1⟩=>ho pins s1 σ H1 x v Q I1 r1 q1)
theorem opI {f:Value->Value->Sem Value} {C:Int->Int->Prop} {g:Int->Int->Int}
  (rule:∀ (i j:Int) (t u:Tok) (s:Shared) (Q:Value->Shared->Prop) (E:Value->Shared->Prop),C i j->Q (.int (g i j) s.toks) { s with toks:=s.toks+1 }->wpAny (model X.prog X.w) X.A (f (.int i t) (.int j u)) Q E s) :
  OpR X f (rI C fun i j=>.int (g i j)):=by
 intro pins s σ H x y v u Q I rx ry h;obtain⟨i,j,rfl,rfl,hc,q⟩:=h;obtain⟨t,rfl⟩:=rx;obtain⟨t',rfl⟩:=ry;exact rule i j t t' s _ _ hc ⟨.int (g i j),H,I.tok _,⟨_,rfl⟩,q⟩
theorem opI0 {f:Value->Value->Sem Value} {g:Int->Int->Int}
  (rule:∀ (i j:Int) (t u:Tok) (s:Shared) (Q:Value->Shared->Prop) (E:Value->Shared->Prop),Q (.int (g i j) s.toks) { s with toks:=s.toks+1 }->wpAny (model X.prog X.w) X.A (f (.int i t) (.int j u)) Q E s) :
  OpR X f (rI0 fun i j=>.int (g i j)):=by
 intro pins s σ H x y v u Q I rx ry h;obtain⟨i,j,rfl,rfl,q⟩:=h;obtain⟨t,rfl⟩:=rx;obtain⟨t',rfl⟩:=ry;exact rule i j t t' s _ _ ⟨.int (g i j),H,I.tok _,⟨_,rfl⟩,q⟩
theorem opB0 {f:Value->Value->Sem Value} {g:Int->Int->Bool}
  (rule:∀ (i j:Int) (t u:Tok) (s:Shared) (Q:Value->Shared->Prop) (E:Value->Shared->Prop),Q (.bool (g i j)) s->wpAny (model X.prog X.w) X.A (f (.int i t) (.int j u)) Q E s) :
  OpR X f (rI0 fun i j=>.bl (g i j)):=by
 intro pins s σ H x y v u Q I rx ry h;obtain⟨i,j,rfl,rfl,q⟩:=h;obtain⟨t,rfl⟩:=rx;obtain⟨t',rfl⟩:=ry;exact rule i j t t' s _ _ ⟨.bl (g i j),H,I,rfl,q⟩
def CDiv (i j:Int):Prop:=0<j/\j<1073741824
def CPow (i j:Int):Prop:=0<=j/\j<=1000000/\i.natAbs<2^64
def CMul (i j:Int):Prop:=(-(2^64)<i/\i<2^64)\/(-(2^64)<j/\j<2^64)
theorem CMul.ok (h:CMul i j):IntMulOk i j:=by
 rcases h with ⟨h1,h2⟩ | ⟨h1,h2⟩
 ·exact .of_left (intBits_le_64 h1 h2)
 ·exact .of_right (intBits_le_64 h1 h2)
theorem two_pow_nn (k:Nat):(0:Int)<=2^k:=by
 rw[two_pow_cast];exact Int.natCast_nonneg _
theorem qB6:OpR X (binaryOp .Add) (rI0 fun i j=>.int (i+j)):=opI0 fun _ _ _ _ _ _ _ q=>add_int q
theorem qD1:OpR X (binaryOp .Sub) (rI0 fun i j=>.int (i - j)):=opI0 fun _ _ _ _ _ _ _ q=>sub_int q
theorem qC1:OpR X (binaryOp .Mult) (rI CMul fun i j=>.int (i*j)):=opI fun _ _ _ _ _ _ _ hc q=>mul_int q hc.ok
theorem op_fdiv:OpR X (binaryOp .FloorDiv) (rI CDiv fun i j=>.int (i / j)):=opI fun i j _ _ _ _ _ hc q=>by
 have h1:(0:Int)<j:=hc.1;have h2:j<1073741824:=hc.2;exact floordiv_int (by omega) (by rw[Int.fdiv_eq_ediv_of_nonneg i (by omega)];exact q) (.inl (PyProof.noPylong_small (by omega)))
theorem qDg:OpR X (binaryOp .Mod) (rI (fun _ j=>0<j) fun i j=>.int (i % j)):=opI fun i j _ _ _ _ _ hc q=>by
 have h1:(0:Int)<j:=hc;exact mod_int' (by omega) (by rw[Int.fmod_eq_emod_of_nonneg i (by omega)];exact q)
theorem op_pow:OpR X (binaryOp .Pow) (rI CPow fun i j=>.int (i^j.toNat)):=opI fun _ _ _ _ _ _ _ hc q=>pow_int_small hc.1 hc.2.1 hc.2.2 q
theorem qGe:OpR X (binaryOp .LShift) (rI CPow fun i j=>.int (i*2^j.toNat)):=opI fun _ _ _ _ _ _ _ hc q=>lshift_int_small hc.1 hc.2.1 hc.2.2 q
theorem op_shr:OpR X (binaryOp .RShift) (rI (fun _ j=>0<=j) fun i j=>.int (i / 2^j.toNat)):=opI fun i j _ _ _ _ _ hc q =>
 rshift_int hc (by rw[Int.fdiv_eq_ediv_of_nonneg i (two_pow_nn _)];exact q)
theorem qEo:OpR X (binaryOp .BitAnd) (rI0 fun i j=>.int (Builtin.bitAnd i j)):=opI0 fun _ _ _ _ _ _ _ q=>and_int q
theorem qEn:OpR X (binaryOp .BitXor) (rI0 fun i j=>.int (Builtin.bitXor i j)):=opI0 fun _ _ _ _ _ _ _ q=>xor_int q
theorem unI {f:Value->Sem Value} {g:Int->Int}
  (rule:∀ (i:Int) (t:Tok) (s:Shared) (Q:Value->Shared->Prop) (E:Value->Shared->Prop),Q (.int (g i) s.toks) { s with toks:=s.toks+1 }->wpAny (model X.prog X.w) X.A (f (.int i t)) Q E s) :
  UnR X f (rU fun i=>.int (g i)):=by
 intro pins s σ H x v Q I rx h;obtain⟨i,rfl,q⟩:=h;obtain⟨t,rfl⟩:=rx;exact rule i t s _ _ ⟨.int (g i),H,I.tok _,⟨_,rfl⟩,q⟩
theorem un_neg:UnR X (unaryOp .USub) (rU fun i=>.int (-i)):=unI fun _ _ _ _ _ q=>neg_int q
end
def scal:V->V->Bool
 | .non,.non=>true | .non,.int _=>true | .int _,.non=>true | .non,.bl _=>true | .bl _,.non=>true | .non,.str _=>true | .str _,.non=>true
 | .int _,.int _=>true | .bl _,.bl _=>true | .str _,.str _=>true | .byt _,.byt _=>true
 | .int _,.str _=>true | .str _,.int _=>true | .bl _,.str _=>true | .str _,.bl _=>true
 | _,_=>false
def rEq:R2:=fun x y H Q=>scal x y=true/\Q (.bl (decide (x=y))) H
def rNe:R2:=fun x y H Q=>scal x y=true/\Q (.bl (!decide (x=y))) H
theorem dec_int:decide (V.int i=V.int j)=(i == j):=by
 rw[Bool.eq_iff_iff];simp
theorem dec_bl:decide (V.bl i=V.bl j)=(i == j):=by
 rw[Bool.eq_iff_iff];simp
theorem dec_str:decide (V.str i=V.str j)=(i == j):=by
 rw[Bool.eq_iff_iff];simp
theorem dec_byt:decide (V.byt i=V.byt j)=(i.toList == j.toList):=by
 rw[Bool.eq_iff_iff];cases i;cases j;simp
section
variable {X:Cx} {a b c:Expr} {ta tb tc:TE} {pos:Pos}
theorem fin_bl (I:Inv X pins σ H s) (q:Q (.bl k) H) (e:k=k'):EP X pins σ Q (.bool k') s:=by
 subst e;exact⟨.bl k,H,I,rfl,q⟩
theorem qCa:OpR X (compareOp .Eq) rEq:=by
 intro pins s σ H x y v u Q I rx ry h;obtain⟨hs,q⟩:=h;cases x with
 | non =>
  cases rx;cases y with
  | non=>cases ry;exact PySem.EqNone.eq_none_none (fin_bl I q (by simp))
  | bl j=>cases ry;exact PySem.EqNone.eq_none_bool (fin_bl I q (by simp))
  | int j=>obtain⟨t',rfl⟩:=ry;exact PySem.EqNone.eq_none_int (fin_bl I q (by simp))
  | str j=>obtain⟨t',rfl⟩:=ry;exact PySem.EqNone.eq_none_str (fin_bl I q (by simp))
  | _=>exact absurd (show false=true from hs) hAm
 | bl i =>
  cases rx;cases y with
  | non=>cases ry;exact PySem.EqNone.eq_bool_none (fin_bl I q (by simp))
  | bl j=>cases ry;exact eq_bool (fin_bl I q dec_bl)
  | str j=>obtain⟨t',rfl⟩:=ry;exact PySem.EqMixed.eq_bool_str (fin_bl I q (by simp))
  | _=>exact absurd (show false=true from hs) hAm
 | int i =>
  obtain⟨t,rfl⟩:=rx;cases y with
  | non=>cases ry;exact PySem.EqNone.eq_int_none (fin_bl I q (by simp))
  | int j=>obtain⟨t',rfl⟩:=ry;exact eq_int (fin_bl I q dec_int)
  | str j=>obtain⟨t',rfl⟩:=ry;exact PySem.EqMixed.eq_int_str (fin_bl I q (by simp))
  | _=>exact absurd (show false=true from hs) hAm
 | str i =>
  obtain⟨t,rfl⟩:=rx;cases y with
  | non=>cases ry;exact PySem.EqNone.eq_str_none (fin_bl I q (by simp))
  | bl j=>cases ry;exact PySem.EqMixed.eq_str_bool (fin_bl I q (by simp))
  | int j=>obtain⟨t',rfl⟩:=ry;exact PySem.EqMixed.eq_str_int (fin_bl I q (by simp))
  | str j=>obtain⟨t',rfl⟩:=ry;exact eq_str (fin_bl I q dec_str)
  | _=>exact absurd (show false=true from hs) hAm
 | byt i =>
  obtain⟨t,rfl⟩:=rx;cases y with
  | byt j=>obtain⟨t',rfl⟩:=ry;exact PySem.W.eq_bytes (fin_bl I q dec_byt)
  | _=>exact absurd (show false=true from hs) hAm
 | _=>cases y <;> exact absurd (show false=true from hs) hAm
theorem qD2:OpR X (compareOp .NotEq) rNe:=by
 intro pins s σ H x y v u Q I rx ry h;obtain⟨hs,q⟩:=h;cases x with
 | non =>
  cases rx;cases y with
  | non=>cases ry;exact PySem.EqNone.ne_none_none (fin_bl I q (by simp))
  | bl j=>cases ry;exact PySem.EqNone.ne_none_bool (fin_bl I q (by simp))
  | int j=>obtain⟨t',rfl⟩:=ry;exact PySem.EqNone.ne_none_int (fin_bl I q (by simp))
  | str j=>obtain⟨t',rfl⟩:=ry;exact PySem.EqNone.ne_none_str (fin_bl I q (by simp))
  | _=>exact absurd (show false=true from hs) hAm
 | bl i =>
  cases rx;cases y with
  | non=>cases ry;exact PySem.EqNone.ne_bool_none (fin_bl I q (by simp))
  | bl j=>cases ry;exact ne_bool (fin_bl I q (congrArg not dec_bl))
  | str j=>obtain⟨t',rfl⟩:=ry;exact PySem.EqMixed.ne_bool_str (fin_bl I q (by simp))
  | _=>exact absurd (show false=true from hs) hAm
 | int i =>
  obtain⟨t,rfl⟩:=rx;cases y with
  | non=>cases ry;exact PySem.EqNone.ne_int_none (fin_bl I q (by simp))
  | int j=>obtain⟨t',rfl⟩:=ry;exact ne_int (fin_bl I q (congrArg not dec_int))
  | str j=>obtain⟨t',rfl⟩:=ry;exact PySem.EqMixed.ne_int_str (fin_bl I q (by simp))
  | _=>exact absurd (show false=true from hs) hAm
 | str i =>
  obtain⟨t,rfl⟩:=rx;cases y with
  | non=>cases ry;exact PySem.EqNone.ne_str_none (fin_bl I q (by simp))
  | bl j=>cases ry;exact PySem.EqMixed.ne_str_bool (fin_bl I q (by simp))
  | int j=>obtain⟨t',rfl⟩:=ry;exact PySem.EqMixed.ne_str_int (fin_bl I q (by simp))
  | str j=>obtain⟨t',rfl⟩:=ry;exact ne_str (fin_bl I q (congrArg not dec_str))
  | _=>exact absurd (show false=true from hs) hAm
 | byt i =>
  obtain⟨t,rfl⟩:=rx;cases y with
  | byt j=>obtain⟨t',rfl⟩:=ry;exact PySem.W.ne_bytes (fin_bl I q (congrArg not dec_byt))
  | _=>exact absurd (show false=true from hs) hAm
 | _=>cases y <;> exact absurd (show false=true from hs) hAm
theorem op_lt:OpR X (compareOp .Lt) (rI0 fun i j=>.bl (decide (i<j))):=opB0 fun _ _ _ _ _ _ _ q=>lt_int q
theorem op_le:OpR X (compareOp .LtE) (rI0 fun i j=>.bl (decide (i<=j))):=opB0 fun _ _ _ _ _ _ _ q=>le_int q
theorem op_gt:OpR X (compareOp .Gt) (rI0 fun i j=>.bl (decide (j<i))):=opB0 fun _ _ _ _ _ _ _ q=>gt_int q
theorem op_ge:OpR X (compareOp .GtE) (rI0 fun i j=>.bl (decide (j<=i))):=opB0 fun _ _ _ _ _ _ _ q=>ge_int q
theorem op_lt_str:OpR X (compareOp .Lt) (fun x y H Q=>∃ i j,x = .str i/\y = .str j/\Q (.bl (decide (i.cps.toList<j.cps.toList))) H):=by
 intro pins s σ H x y v u Q I rx ry h;obtain⟨i,j,rfl,rfl,q⟩:=h;obtain⟨t,rfl⟩:=rx;obtain⟨t',rfl⟩:=ry;exact lt_str (fin_bl I q rfl)
theorem op_in_str:OpR X (compareOp .In) (fun x y H Q=>∃ i j,x = .str i/\y = .str j/\Q (.bl (!(Builtin.Str.occurrences j i 0 j.length 1).isEmpty)) H):=by
 intro pins s σ H x y v u Q I rx ry h;obtain⟨i,j,rfl,rfl,q⟩:=h;obtain⟨t,rfl⟩:=rx;obtain⟨t',rfl⟩:=ry;exact in_str (fin_bl I q rfl)
theorem op_isN:OpR X (compareOp .Is) (fun x y H Q=>y = .non/\Q (.bl (decide (x = .non))) H):=by
 intro pins s σ H x y v u Q I rx ry h;obtain⟨rfl,q⟩:=h;cases ry;refine is_none_gen (fin_bl I q ?_);cases x <;> first
  | (cases rx;rfl)
  | (obtain⟨t,rfl⟩:=rx;rfl)
theorem op_notin_str:OpR X (compareOp .NotIn) (fun x y H Q=>∃ i j,x = .str i/\y = .str j/\Q (.bl (!(!(Builtin.Str.occurrences j i 0 j.length 1).isEmpty))) H):=by
 intro pins s σ H x y v u Q I rx ry h;obtain⟨i,j,rfl,rfl,q⟩:=h;obtain⟨t,rfl⟩:=rx;obtain⟨t',rfl⟩:=ry;exact notIn_str (fin_bl I q rfl)
theorem qAu (b:Expr) (h:op≠.In:=by decide) (h2:op≠.NotIn:=by decide):behindInMarks op b=false:=by
 have e1:(op == CmpOp.In)=false:=by cases op <;> first | rfl | exact absurd rfl h
 have e2:(op == CmpOp.NotIn)=false:=by cases op <;> first | rfl | exact absurd rfl h2
 cases b <;> simp[behindInMarks,e1,e2]
theorem qBm {op:CmpOp} {r:R2} (ho:OpR X (compareOp op) r) (ha:PE X a ta) (hb:PE X b tb) (hm:behindInMarks op b=false):PE X (.Compare a [op] [b] pos) (tOp r ta tb):=by
 intro pins s σ H Q I h;exact wpAny_Compare1 (binT ha hb I h fun v u s2 x y H2 I2 rx ry q=>ho pins s2 σ H2 x y v u Q I2 rx ry q) hm
def tTest (t:TE):TT:=fun σ H Q=>t σ H fun x H'=>∃ k,x = .bl k/\Q k H'
theorem qAp (ho:OpR X (compareOp op) r) (ha:PE X a ta) (hb:PE X b tb) (hm:behindInMarks op b=false):PT X (.Compare a [op] [b] pos) (tTest (tOp r ta tb)):=by
 intro pins s σ H Q I h;refine wpAny_isTrue_Compare1 (thn (ha pins s σ H _ I h) fun v s1 ⟨x,H1,I1,r1,q1⟩=>thn (hb pins s1 σ H1 _ I1 q1) fun u s2 ⟨y,H2,I2,r2,q2⟩ =>
  thn (ho pins s2 σ H2 x y v u _ I2 r1 r2 q2) fun c s3 ⟨z,H3,I3,r3,k,e,q3⟩=>?_) hm
 subst e;cases r3;exact wpAny_truthy_bool ⟨H3,I3,q3⟩
def tChain (r r':R2) (ta tb tc:TE):TE:=fun σ H Q=>ta σ H fun x H1=>tb σ H1 fun y H2=>r x y H2 fun z H3=>∃ k,z = .bl k /\
 (if k=true then tc σ H3 fun w' H4=>r' y w' H4 Q else Q (.bl false) H3)
theorem pt_chain (ho:OpR X (compareOp op) r) (ho':OpR X (compareOp op') r') (ha:PE X a ta) (hb:PE X b tb) (hc:PE X c tc)
  (hm:lastMarks [op,op'] [b,c]=false:=by with_unfolding_all rfl):PT X (.Compare a [op,op'] [b,c] pos) (tTest (tChain r r' ta tb tc)):=by
 intro pins s σ H Q I h;refine isTrue_chain (thn (ha pins s σ H _ I h) fun v s1 ⟨x,H1,I1,r1,q1⟩=>test_link (thn (hb pins s1 σ H1 _ I1 q1) fun u s2 ⟨y,H2,I2,r2,q2⟩ =>
  thn (ho pins s2 σ H2 x y v u _ I2 r1 r2 q2) fun d s3 ⟨z,H3,I3,r3,k,e,q3⟩=>?_)) hm
 subst e;cases r3;refine wpAny_truthy_bool ?_;cases k with
 | false =>
  obtain⟨k',e',q'⟩:=q3;cases e';exact ite_ff ⟨H3,I3,q'⟩
 | true =>
  refine ite_tt (test_last (thn (hc pins s3 σ H3 _ I3 q3) fun w' s4 ⟨z',H4,I4,r4,q4⟩=>thn (ho' pins s4 σ H4 y z' u w' _ I4 r2 r4 q4) fun d' s5 ⟨z2,H5,I5,r5,k2,e2,q5⟩=>?_));subst e2;cases r5;exact wpAny_truthy_bool ⟨H5,I5,q5⟩
theorem qGj:(sizeLine:Nat)<2^63:=by rw[sizeLine_eq];decide
theorem qB4:OpR X (binaryOp .Add) (fun x y H Q=>∃ i j,x = .str i/\y = .str j/\i.length+j.length<=sizeLine/\Q (.str (i++j)) H):=by
 intro pins s σ H x y v u Q I rx ry h;obtain⟨i,j,rfl,rfl,hz,q⟩:=h;obtain⟨t,rfl⟩:=rx;obtain⟨t',rfl⟩:=ry;exact add_str (fun t' tk=>⟨.str (i++j),H,I.tok _,⟨_,rfl⟩,q⟩) hz
theorem qC3 (r:qA5 [x] us):∃ u,us=[u]/\qBn x u:=by
 cases r with
 | cons r1 r2=>cases r2;exact⟨_,rfl,r1⟩
theorem vals2 (r:qA5 [x,y] us):∃ u w',us=[u,w']/\qBn x u/\qBn y w':=by
 cases r with
 | cons r1 r2 =>
  cases r2 with
  | cons r3 r4=>cases r4;exact⟨_,_,rfl,r1,r3⟩
theorem qFr (hc:X.calm=true):qCr X (.builtin "max") (fun xs H Q=>∃ i j,xs=[.int i,.int j]/\Q (.int (if j > i then j else i)) H):=by
 intro pins s σ H xs us Q I r h;obtain⟨i,j,rfl,q⟩:=h;obtain⟨u,w',rfl,⟨t,rfl⟩,⟨t',rfl⟩⟩:=vals2 r;refine max_two_ints (I.ok.hd hc) fun h' tk k=>⟨_,H,I.kept k,?_,q⟩
 by_cases hj:j > i
 ·rw[if_pos hj,if_pos hj];exact⟨_,rfl⟩
 ·rw[if_neg hj,if_neg hj];exact⟨_,rfl⟩
theorem qCt (hc:X.calm=true):qCr X (.builtin "min") (fun xs H Q=>∃ i j,xs=[.int i,.int j]/\Q (.int (if j<i then j else i)) H):=by
 intro pins s σ H xs us Q I r h;obtain⟨i,j,rfl,q⟩:=h;obtain⟨u,w',rfl,⟨t,rfl⟩,⟨t',rfl⟩⟩:=vals2 r;refine min_two_ints (I.ok.hd hc) fun h' tk k=>⟨_,H,I.kept k,?_,q⟩
 by_cases hj:j<i
 ·rw[if_pos hj,if_pos hj];exact⟨_,rfl⟩
 ·rw[if_neg hj,if_neg hj];exact⟨_,rfl⟩
theorem qFs:qCr X (.type "int") (fun xs H Q=>(∃ i,xs=[.int i]/\Q (.int i) H)\/∃ k,xs=[.bl k]/\Q (.int (if k then 1 else 0)) H):=by
 intro pins s σ H xs us Q I r h;rcases h with ⟨i,rfl,q⟩ | ⟨k,rfl,q⟩
 ·obtain⟨u,rfl,t,rfl⟩:=qC3 r;exact call_int_int ⟨.int i,H,I,⟨_,rfl⟩,q⟩
 ·obtain⟨u,rfl,r1⟩:=qC3 r;cases r1;exact call_int_bool ⟨.int (if k then 1 else 0),H,I.tok _,⟨_,rfl⟩,q⟩
end
end L2
namespace L2
open PySem PySem.Spec PyProof.Rows
structure ObjM (h:Heap) (x dx C:Addr) (mA:Str->Option Value):Prop where
 obj:h.get? x=some (PySem.W.instObj C dx)
 ns:h.Ns1 dx mA
 ne:dx≠x
theorem lookIn_ns {h:Heap} {dx:Addr} {mA:Str->Option Value} (n:h.Ns1 dx mA):∃ od,h.get? dx=some od/\∀ name,PySem.W.lookIn name od=some (mA name):=by
 obtain⟨o,es,ep,ho,hd,hk,_,hm⟩:=n;refine⟨o,ho,fun name=>?_⟩;have e:=hm name;unfold nsFind findBy at e;rw[<-Array.find?_toList]at e;unfold PySem.W.lookIn;rw[hd];dsimp only;split
 ·rename_i y q;rw[q]at e;exact congrArg some e
 ·rename_i q;rw[q]at e;have a:es.toList.any (·.refKey)=false:=by
   rw[List.any_eq_false];intro y hy;obtain⟨z,t,hkey⟩:=hk y (Array.mem_toList_iff.mp hy);simp[DictEntry.refKey,hkey]
  have a':¬es.toList.any (·.refKey)=true:=by rw[a];exact hAm
  rw[if_neg a'];exact congrArg some e
theorem ObjM.look (I:ObjM h x dx C mA):∃ od,PySem.W.InstAt h x (PySem.W.instObj C dx) C (some od)/\∀ name,PySem.W.lookIn name od=some (mA name) :=
 let ⟨od,ho,hl⟩:=lookIn_ns I.ns
 ⟨od,⟨I.obj,rfl,rfl,ho⟩,hl⟩
theorem RelO.some_of (r:RelO (some v) o):∃ u,o=some u/\qBn v u:=by
 cases o with
 | none=>exact(show False from r).elim
 | some u=>exact⟨u,rfl,r⟩
section
variable {P:Program} {w:World} {H H':Hp} {h h':Heap} {a C dx:Addr} {fs fs':List (Str×V)}
theorem ins_get (hok:HOk P w H h) (e:H a=some (.ins C dx fs)):∃ mA,ObjM h a dx C mA/\(∀ f,RelO (fs.lookup f) (mA f))/\PySem.Within mA (fs.map (·.1))/\fs.length<=1000/\H dx=some (.own a):=by
 obtain⟨d,z,ne,ob,mA,n,r,q⟩:=(show qBs P w H h a (.ins C dx fs) from hok a _ e);exact⟨mA,⟨ob,n,ne⟩,r,q,z,d⟩
end
structure Cls (K:PySem.W.Frag) (C:Addr):Prop where
 pg:PySem.W.plainGet K C Str.empty=true
 hd:PySem.W.hasDictIn K C=true
 po:PySem.W.plainOver K C=true
 sa:PySem.W.findIn K (.ref C) "__setattr__" = some (some (.builtin "object.__setattr__"))
theorem Cls.get {K:PySem.W.Frag} {C:Addr} (c:Cls K C) (f:Str):PySem.W.plainGet K C f=true:=c.pg
structure Con (K:PySem.W.Frag) (C:Addr) (f:Str) (v:V) (u:Value):Prop where
 at_:PySem.W.findIn K (.ref C) f=some (some u)
 rel:qBn v u
 get:PySem.W.specialIn K u "__get__" = some none
 cp:PySem.W.copiedNames.contains f=false
structure Meth (K:PySem.W.Frag) (C:Addr) (m:Str) (f:Addr):Prop where
 at_:PySem.W.findIn K (.ref C) m=some (some (.ref f))
 fn:PySem.W.isFn K (.ref f)=true
 kp:PySem.W.keepIn K (.ref f)=true
section
variable {X:Cx} {pins:List (Addr×Obj)} {σ:St} {H:Hp} {s:Shared} {A:Around} {E:Value->Shared->Prop} {Q:Value->Shared->Prop} {c:Value} {b:Bool}
inductive TyOf (K:PySem.W.Frag) (H:Hp):V->Value->Prop where
 | non:TyOf K H .non (.type "NoneType")
 | bl (x:Bool):TyOf K H (.bl x) (.type "bool")
 | int (i:Int):TyOf K H (.int i) (.type "int")
 | str (x:Str):TyOf K H (.str x) (.type "str")
 | flt (x:UInt64):TyOf K H (.flt x) (.type "float")
 | lst {a:Addr} {xs:List V} (e:H a=some (.lst xs)):TyOf K H (.ref a) (.type "list")
 | frz {a:Addr} {o:Obj} {xs:List V} (e:H a=some (.frz o (.lst xs))):TyOf K H (.ref a) (.type "list")
 | tup {a:Addr} {xs:List V} (e:H a=some (.tup xs)):TyOf K H (.ref a) (.type "tuple")
 | dK {a:Addr} {kvs:List (Key×V)} (e:H a=some (.dK kvs)):TyOf K H (.ref a) (.type "dict")
 | dT {a:Addr} {kvs:List (List Key×V)} (e:H a=some (.dT kvs)):TyOf K H (.ref a) (.type "dict")
 | ins {a C dx:Addr} {fs:List (Str×V)} (e:H a=some (.ins C dx fs)) (cl:Cls K C) (ha:PySem.W.findIn K (.ref C) "__class__" = some (some (.builtin "object.__class__")))
   (hn:PySem.W.specialIn K (.builtin "object.__class__") "__get__" = some (some (.builtin "getset_descriptor.__get__"))) (htk:PySem.W.takesIn K (.builtin "object.__class__")=some true)
   (hm:PySem.W.mroIn K C (.type "object")=some true):TyOf K H (.ref a) (.ref C)
theorem isinst_ok (I:Inv X pins σ H s) (rx:qBn x u) (ty:TyOf X.K H x t) (e:PySem.W.kitOne X.K t c=some b) (h:∀ tk,Q (.bool b) { s with toks:=tk }) :
  wpAny (model X.prog X.w) A (call (.builtin "isinstance") [u,c]) Q E s:=by
 cases ty with
 | non=>cases(show u=Value.none from rx);exact hBt PySem.W.kitx_none I.kIn True.intro e (fun z=>nomatch z) h
 | bl y=>cases(show u=Value.bool y from rx);exact hBt PySem.W.kitx_bool I.kIn True.intro e (fun z=>nomatch z) h
 | int i=>obtain⟨t,q⟩:=(show ∃ t,u=Value.int i t from rx);cases q;exact hBt PySem.W.kitx_int I.kIn True.intro e (fun z=>nomatch z) h
 | str y=>obtain⟨t,q⟩:=(show ∃ t,u=Value.str y t from rx);cases q;exact hBt PySem.W.kitx_str I.kIn True.intro e (fun z=>nomatch z) h
 | flt y=>obtain⟨t,q⟩:=(show ∃ t,u=Value.float y t from rx);cases q;exact hBt PySem.W.kitx_float I.kIn True.intro e (fun z=>nomatch z) h
 | @lst a xs ea =>
  cases(show u=Value.ref a from rx);obtain⟨_,_,n,_,h1⟩:=(show qBs X.prog X.w H s.heap a (.lst xs) from I.hok a _ ea);exact hBt PySem.W.kitx_list I.kIn ⟨_,h1,rfl⟩ e (fun z=>nomatch z) h
 | @frz a ob xs ea =>
  cases(show u=Value.ref a from rx);obtain⟨_,_,_,n,_,h1⟩:=(show qBs X.prog X.w H s.heap a (.frz ob (.lst xs)) from I.hok a _ ea);exact hBt PySem.W.kitx_list I.kIn ⟨_,h1,rfl⟩ e (fun z=>nomatch z) h
 | @tup a xs ea =>
  cases(show u=Value.ref a from rx);obtain⟨_,_,_,p⟩:=(show qBs X.prog X.w H s.heap a (.tup xs) from I.hok a _ ea);obtain⟨o,h1,h2,_⟩:=p;exact hBt PySem.W.kitx_tuple I.kIn ⟨o,h1,h2⟩ e (fun z=>nomatch z) h
 | @dK a kvs ea =>
  cases(show u=Value.ref a from rx);obtain⟨_,_,vs,_,p⟩:=(show qBs X.prog X.w H s.heap a (.dK kvs) from I.hok a _ ea);obtain⟨o,es,ep,h1,h2,_⟩:=p;exact hBt PySem.W.kitx_dict I.kIn ⟨o,h1,h2.1⟩ e (fun z=>nomatch z) h
 | @dT a kvs ea =>
  cases(show u=Value.ref a from rx);obtain⟨_,_,xs,_,o,es,ep,h1,h2,_⟩:=(show qBs X.prog X.w H s.heap a (.dT kvs) from I.hok a _ ea);exact hBt PySem.W.kitx_dict I.kIn ⟨o,h1,h2.1⟩ e (fun z=>nomatch z) h
 | @ins a C dx fs ea cl ha hn htk hm =>
  cases(show u=Value.ref a from rx);obtain⟨mA,O,_⟩:=ins_get I.hok ea;obtain⟨od,J,_⟩:=O.look;exact hBt (PySem.W.kitx_own (cl.get _) cl.hd ha hn htk hm) I.kIn J e (fun z=>nomatch z) h
end
end L2
namespace L2
open PySem PySem.Spec PyProof.Rows
structure Room (k:Nat) (A:Around):Prop where
 hd:A.handled=none
 dp:A.depth+3*k+5<recursionLimit
 un:A.units+16*k+200<cLine
 gd:A.guards=some []
theorem Room.mono (r:Room k A) (h:j<=k):Room j A:=⟨r.hd,by have:=r.dp;omega,by have:=r.un;omega,r.gd⟩
theorem Room.deeper (r:Room (k+1) A) (env:Env):Room k (A.deeper env) :=
 ⟨r.hd,by have:=r.dp;show A.depth+1+3*k+5<_;omega,by have:=r.un;show A.units+3+16*k+200<_;omega,r.gd⟩
theorem Room.in1 (r:Room (k+1) A):Room k A.in1 :=
 ⟨r.hd,by have:=r.dp;show A.depth+3*k+5<_;omega,by have:=r.un;show A.units+1+16*k+200<_;omega,r.gd⟩
theorem Room.depth (r:Room k A):A.depth<recursionLimit:=by have:=r.dp;omega
theorem Room.units (r:Room k A):A.units+64<cLine:=by have:=r.un;omega
def tNil:TA:=fun _ H Q=>Q [] H
def tCons (ta:TE) (tr:TA):TA:=fun σ H Q=>ta σ H fun x H1=>tr σ H1 fun xs H2=>Q (x :: xs) H2
section
variable {X:Cx} {e:Expr} {es:List Expr} {te:TE} {t:TA} {pos:Pos}
theorem qAb:PA X [] tNil:=fun _ _ _ _ H Q I h=>Calls.spliced_nil ⟨[],H,I,.nil,h⟩
theorem qAa (ha:PE X e te) (hr:PA X es t) (hs:starEach (e :: es) X.env=(false,eval e X.env) :: starEach es X.env:=by rfl):PA X (e :: es) (tCons te t):=by
 intro pos pins s σ H Q I h;rw[hs];show wpAny _ _ (spliced ((false,eval e X.env) :: backTo pos (starEach es X.env))) _ _ s;refine Calls.spliced_cons (thn (ha pins s σ H _ I h) fun u s1 ⟨x,H1,I1,r1,q1⟩=>?_);exact thn (hr pos pins s1 σ H1 _ I1 q1) fun us s2 ⟨xs,H2,I2,r2,q2⟩=>⟨x :: xs,H2,I2,.cons r1 r2,q2⟩
def tTup (t:TA):TE:=fun σ H Q=>t σ H fun xs H1=>xs.length<=sizeLine/\∀ p,H1 p=none->Q (.ref p) (upd H1 p (.tup xs))
def tLst (t:TA):TE:=fun σ H Q=>t σ H fun xs H1=>xs.length<=sizeLine/\∀ p,H1 p=none->Q (.ref p) (upd H1 p (.lst xs))
theorem qBk {x1} (h:PA X es t):PE X (.Tuple es x1 pos) (tTup t):=by
 intro pins s σ H Q I hq;refine wpAny_Tuple_spliced (thn (h pos pins s σ H _ I hq) fun us s1 ⟨xs,H1,I1,r,z,q⟩=>⟨by rw[<-r.length];exact z,?_⟩);have hf:H1 s1.heap.objs.size=none:=I1.hok.fresh (hA5 _);refine⟨.ref s1.heap.objs.size,upd H1 s1.heap.objs.size (.tup xs),I1.laid (t':=s1.toks) (fun b u e=>Heap.get?_push_of_some _ e) (hA5 _) ?_,rfl,q _ hf⟩;exact⟨z,us,r,⟨_,Heap.get?_push_size _ rfl,rfl,_,rfl⟩⟩
theorem qBl (h:PA X es t):PE X (.List es pos) (tLst t):=by
 intro pins s σ H Q I hq;refine wpAny_List_spliced (thn (h pos pins s σ H _ I hq) fun us s1 ⟨xs,H1,I1,r,z,q⟩=>⟨by rw[<-r.length];exact z,?_⟩);have hf:H1 s1.heap.objs.size=none:=I1.hok.fresh (hA5 _);refine⟨.ref s1.heap.objs.size,upd H1 s1.heap.objs.size (.lst xs),I1.laid (t':=s1.toks) (fun b u e=>Heap.get?_push_of_some _ e) (hA5 _) ?_,rfl,q _ hf⟩;exact⟨z,us,0,r,Heap.get?_push_size _ rfl⟩
end
abbrev Sp:=List V->Hp->VK->XK->Prop
abbrev CXT:=List Env->Hp->Shared->XK->Value->Shared->Prop
structure Env0 (P:Program) (w:World) (K:PySem.W.Frag) (mg:Str->Option Value) (base:Heap) (A:Around) (outer:List Env) (s:Shared) (H:Hp):Prop where
 frames:A.frames=some outer
 mod:Mod K mg base
 bs:∀ b o,base.get? b=some o->s.heap.get? b=some o/\H b=none
 bsz:base.objs.size<=s.heap.objs.size
 funs:s.heap.FunFrames base outer
 frf:∀ b∈frs outer,H b=none
 hok:HOk P w H s.heap
 bare:AllBare s.gens
def CE (outer:List Env) (P:Program) (w:World) (H:Hp) (s:Shared) (Q:VK) (u:Value) (s':Shared):Prop :=
 ∃ v H',s'.os=s.os/\AllBare s'.gens/\Un (frs outer) [] H H' s.heap s'.heap/\HOk P w H' s'.heap/\qBn v u/\Q v H'
def CR (CX:CXT) (outer:List Env) (P:Program) (w:World) (H:Hp) (s:Shared) (Q:VK) (E:XK) (r:Result) (s':Shared):Prop :=
 match r with
 | .ok (.ret u)=>CE outer P w H s Q u s'
 | .ok _=>False
 | .error e=>CX outer H s E e s'
structure FnOk (P:Program) (w:World) (K:PySem.W.Frag) (mg:Str->Option Value) (base:Heap) (CX:CXT) (k:Nat) (f:Addr) (fd:FuncData) (ps:List Str) (sp:Sp):Prop where
 len:∀ vs H Q E,sp vs H Q E->vs.length=ps.length
 run:∀ (A:Around) (outer:List Env) (s:Shared) (H:Hp) (args:Args) (us:List Value) (vs:List V) (Q:VK) (E:XK),Room k A->Env0 P w K mg base A outer s H->BindsTo s fd args (ps.zip us)->qA5 vs us->sp vs H Q E ->
  codeAny (model P w) A (.call (.ref f) args) (CR CX outer P w H s Q E) s
theorem Env0.in1 {P:Program} {w:World} {K:PySem.W.Frag} {mg:Str->Option Value} {base:Heap} {A:Around} {outer:List Env} {s:Shared} {H:Hp} (e:Env0 P w K mg base A outer s H) :
  Env0 P w K mg base A.in1 outer s H:=⟨e.frames,e.mod,e.bs,e.bsz,e.funs,e.frf,e.hok,e.bare⟩
section
variable {X:Cx} {pins:List (Addr×Obj)} {σ:St} {H:Hp} {s s':Shared}
theorem Inv.env0 (I:Inv X pins σ H s):Env0 X.prog X.w X.K X.mg X.base X.A X.stack s H :=
 ⟨I.ok.frames,I.ok.mod,I.bs,hB7 I.ok.bsz I.sz,I.stack,I.stkFree,I.hok,I.bare⟩
theorem Inv.after (I:Inv X pins σ H s) (h:CE X.stack X.prog X.w H s Q u s'):EP X pins σ Q u s':=by
 obtain⟨v,H',os,bare,un,hok,r,q⟩:=h;obtain⟨hh,g,d,t,os'⟩:=s';obtain rfl:os'=s.os:=os;exact⟨v,H',I.call (h':=hh) (g':=g) (d':=d) (t':=t) (ch:=[]) un hok bare (fun b z=>absurd z (by simp)),r,q⟩
end
def tCall (sp:Sp) (dvs:List V) (E:XK) (t:TA):TE:=fun σ H Q=>t σ H fun vs H1=>sp (vs++dvs) H1 Q E
def Binds (K:PySem.W.Frag) (fd:FuncData) (ps:List Str) (ds:List Value):Prop :=
 ∀ (s:Shared) (us:List Value),K.In s.heap->(us++ds).length=ps.length->BindsTo s fd ⟨us,[]⟩ (ps.zip (us++ds))
theorem Binds.all {K:PySem.W.Frag} {fd:FuncData} {ps:List Str} (h:∀ us:List Value,us.length=ps.length->bindArgs fd ⟨us,[]⟩=pure (ps.zip us)):Binds K fd ps []:=fun s us _ hl=>by
 rw[hBq]at hl ⊢;exact .of_eq (h us hl)
def Passes (CX:CXT) (X:Cx) (E:XK):Prop:=∀ (pins:List (Addr×Obj)) (σ:St) (H:Hp) (s:Shared) (e:Value) (s':Shared),Inv X pins σ H s->CX X.stack H s E e s'->X.xe e s'
section
variable {X:Cx} {CX:CXT} {k:Nat} {f C:Addr} {fd:FuncData} {ps:List Str} {sp:Sp} {dvs:List V} {ds:List Value} {E:XK} {x m:Str} {p pos apos:Pos} {e o:Expr} {es:List Expr} {ta:TE} {t:TA}
theorem run_fn (F:FnOk X.prog X.w X.K X.mg X.base CX k f fd ps sp) (hr:Room k X.A) (hb:Binds X.K fd ps ds) (hd:qA5 dvs ds) (hx:Passes CX X E)
  (I:Inv X pins σ H s) (r:qA5 vs us) (h:sp (vs++dvs) H Q E):wpAny (model X.prog X.w) X.A (call (.ref f) us) (EP X pins σ Q) X.xe s:=by
 have r2:qA5 (vs++dvs) (us++ds):=r.append hd;have hl:(us++ds).length=ps.length:=by rw[<-r2.length];exact F.len _ _ _ _ h
 refine wpAny_call (codeAny_mono (F.run X.A X.stack s H ⟨us,[]⟩ (us++ds) (vs++dvs) Q E hr I.env0 (hb s us I.kIn hl) r2 h) fun r s' hq=>?_);cases r with
 | error e=>exact hx pins σ H s e s' I hq
 | ok fl =>
  cases fl with
  | ret u=>exact I.after hq
  | next=>exact False.elim hq
  | brk=>exact False.elim hq
  | cont=>exact False.elim hq
theorem pe_call (F:FnOk X.prog X.w X.K X.mg X.base CX k f fd ps sp) (hr:Room k X.A) (hg:Gl X x) (hm:X.mg x=some (.ref f)) (hk:PySem.W.keepIn X.K (.ref f)=true) (hb:Binds X.K fd ps ds) (hd:qA5 dvs ds) (hx:Passes CX X E)
  (ha:PA X (e :: es) t) (hdb:(x == ("__debug__" : Str))=false:=by decide) (he:starEach (e :: es) X.env=(false,eval e X.env) :: starEach es X.env:=by rfl) (hpl:(backTo pos (starEach es X.env)).any (·.1)=false:=by rfl) :
  PE X (.Call (.Name x p) (e :: es) [] pos) (tCall sp dvs E t):=by
 intro pins s σ H Q I h;refine wpAny_Call_Name_kw (ld_glob I hg hm ?_ hdb);refine PySem.W.callWith_K (h₀:=X.base) I.ok.mod.kin hk (thn (ha pos pins s σ H _ I h) fun us s1 ⟨vs,H1,I1,r,q⟩=>⟨I1.kIn,?_⟩) he hpl;exact run_fn F hr hb hd hx I1 r q
structure Mk (K:PySem.W.Frag) (C f:Addr):Prop where
 makes:PySem.W.makesIn K C=true
 init:PySem.W.findIn K (.ref C) "__init__" = some (some (.ref f))
 fn:PySem.W.isFn K (.ref f)=true
 kp:PySem.W.keepIn K (.ref C)=true
end
section
variable {X:Cx} {CX:CXT} {k:Nat} {f C:Addr} {fd:FuncData} {ps ks:List Str} {sp:Sp} {E:XK} {x m:Str} {p pos apos kpos:Pos} {e o:Expr} {es:List Expr} {kws:List Keyword} {te ta:TE} {t tk:TA} {nm:Option Str}
structure KBinds (K:PySem.W.Frag) (fd:FuncData) (ps ks:List Str) (g:List Value->List Value->List Value) (gV:List V->List V->List V):Prop where
 to:∀ (s:Shared) (us ws:List Value),K.In s.heap->(g us ws).length=ps.length->BindsTo s fd ⟨us,ks.zip ws⟩ (ps.zip (g us ws))
 rel:∀ {vs:List V} {us:List Value} {zs:List V} {ws:List Value},qA5 vs us->qA5 zs ws->qA5 (gV vs zs) (g us ws)
variable {g:List Value->List Value->List Value} {gV:List V->List V->List V}
end
structure FnScope (N P:List Str) (sc:Scope):Prop where
 kind:sc.kind = .function
 co:sc.isCoroutine=false
 gen:sc.isGenerator=false
 nd:N.Nodup
 pre:N.take P.length=P
 par:∀ x∈P,sc.names.lookup x=some .local\/sc.names.lookup x=some .cell
 nofree:∀ y∈sc.names,y.2≠.free
theorem bindL_out {kindOf:Str->Option NameKind} {x:Str}:∀ {binds:List (Str×Value)} {m:Str->Option Value},(∀ v,(x,v)∉binds)->bindL kindOf binds m x=m x
 | [],_,_=>rfl
 | (n,v) :: r,m,h=>by
  unfold bindL;rw[bindL_out fun w hw=>h w (hA7 _ hw)];split
  ·have:x≠n:=by rintro rfl;exact h v hA9
   simp[this]
  ·rfl
theorem bindC_out {kindOf:Str->Option NameKind} {x:Str}:∀ {binds:List (Str×Value)} {m:Str->Option Value},(∀ v,(x,v)∉binds)->bindC kindOf binds m x=m x
 | [],_,_=>rfl
 | (n,v) :: r,m,h=>by
  unfold bindC;rw[bindC_out fun w hw=>h w (hA7 _ hw)];split
  ·rfl
  ·have:x≠n:=by rintro rfl;exact h v hA9
   simp[this]
theorem bindL_get {kindOf:Str->Option NameKind} {x:Str} {v:Value}:∀ {P:List Str} {vs:List Value} {i:Nat} {m:Str->Option Value},P.Nodup->P[i]?=some x->vs[i]?=some v->kindOf x=some .local ->
  bindL kindOf (P.zip vs) m x=some v
 | [],_,_,_,_,h,_,_=>by simp at h
 | _ :: _,[],_,_,_,_,h,_=>by simp at h
 | p :: P,w :: vs,0,m,nd,h1,h2,hk=>by
  simp at h1 h2;subst h1;subst h2;show bindL kindOf ((p,w) :: P.zip vs) m p=_;unfold bindL;rw[bindL_out fun v hv=>(hBh.mp nd).1 (List.of_mem_zip hv).1,if_pos hk];simp
 | p :: P,w :: vs,i+1,m,nd,h1,h2,hk=>by
  show bindL kindOf ((p,w) :: P.zip vs) m x=_;unfold bindL;exact bindL_get (i:=i) (hBh.mp nd).2 (by simpa using h1) (by simpa using h2) hk
theorem bindC_get {kindOf:Str->Option NameKind} {x:Str} {v:Value}:∀ {P:List Str} {vs:List Value} {i:Nat} {m:Str->Option Value},P.Nodup->P[i]?=some x->vs[i]?=some v->kindOf x≠some .local ->
  bindC kindOf (P.zip vs) m x=some v
 | [],_,_,_,_,h,_,_=>by simp at h
 | _ :: _,[],_,_,_,_,h,_=>by simp at h
 | p :: P,w :: vs,0,m,nd,h1,h2,hk=>by
  simp at h1 h2;subst h1;subst h2;show bindC kindOf ((p,w) :: P.zip vs) m p=_;unfold bindC;rw[bindC_out fun v hv=>(hBh.mp nd).1 (List.of_mem_zip hv).1,if_neg hk];simp
 | p :: P,w :: vs,i+1,m,nd,h1,h2,hk=>by
  show bindC kindOf ((p,w) :: P.zip vs) m x=_;unfold bindC;exact bindC_get (i:=i) (hBh.mp nd).2 (by simpa using h1) (by simpa using h2) hk
def start (N:List Str) (vs:List V):St:=vs.map some++List.replicate (N.length - vs.length) none
def cxOf (CX:CXT) (P:Program) (w:World) (K:PySem.W.Frag) (mg:Str->Option Value) (base:Heap) (N:List Str) (qual:Str) (scope:Scope) (f:Addr) (cd:Value) (A:Around) (outer:List Env) (s:Shared) (H:Hp) (E:XK):Cx where
 prog:=P
 w:=w
 K:=K
 mg:=mg
 base:=base
 A:=A.deeper (envOfC qual scope s.heap.objs.size f cd)
 N:=N
 s₀:=s
 H₀:=H
 env:=envOfC qual scope s.heap.objs.size f cd
 outer:=outer
 stack:=envOfC qual scope s.heap.objs.size f cd :: outer
 ex:=[]
 calm:=true
 fn:=fun _=>true
 pn:=[]
 xe:=fun e s'=>wpAny (model P w) (A.deeper (envOfC qual scope s.heap.objs.size f cd)) (leaving (envOfC qual scope s.heap.objs.size f cd) e) (fun _ s''=>CX outer H s E e s'') (fun e' s''=>CX outer H s E e' s'') s'
theorem cell_has {sc:Scope} {n:Nat} {x:Str} (h:sc.names.lookup x=some .cell):∃ c,(cellsFrom n sc.names []).lookup x=some c:=by
 have q:=hCk sc.names n [] (.inl h);exact hCd.mp q
theorem inv_start {CX:CXT} {P:Program} {w:World} {K:PySem.W.Frag} {mg:Str->Option Value} {base:Heap} {N ps:List Str} {qual:Str} {scope:Scope} {f:Addr} {cd:Value} {A:Around} {outer:List Env} {s s1:Shared} {H:Hp} {E:XK} {us:List Value} {vs:List V}
  (S:FnScope N ps scope) (hd:A.handled=none) (e0:Env0 P w K mg base A outer s H) (hl:vs.length=ps.length) (r:qA5 vs us)
  (x:InCallC s s.heap.objs.size (bindL (envOfC qual scope s.heap.objs.size f cd).kindOf (ps.zip us) fun _=>none) (cellsFrom (s.heap.objs.size+1) scope.names []) (bindC (envOfC qual scope s.heap.objs.size f cd).kindOf (ps.zip us) fun _=>none) s1) :
  Inv (cxOf CX P w K mg base N qual scope f cd A outer s H E) [] (start N vs) H s1:=by
 have hpl:ps.length<=N.length:=by have:=congrArg List.length S.pre;rw[hAi]at this;omega
 obtain⟨h1,tk,rfl,hk⟩:=x.done;have noA:∀ b:Addr,b∉(cxOf CX P w K mg base N qual scope f cd A outer s H E).ex:=fun b z=>absurd (show b∈([]:List Addr) from z) (by simp)
 refine⟨⟨e0.mod,S.kind,rfl,rfl,hA5 _,fun y z c h1 h2=>?_,fun y hy=>?_,fun y c _ h=>?_,fun _=>hd,Around.frames_deeper e0.frames,.inr ⟨rfl,rfl⟩,fun b z=>absurd z (noA b),e0.bs,e0.bsz,fun b _ _=>noA b,fun b z=>absurd z (noA b),e0.funs,e0.frf⟩,
  rfl,e0.bare,Un.kept hk,⟨_,x.toInCall.ns,fun i y v h1 h2 h3=>?_⟩,fun y c h=>⟨_,x.cell y c h⟩,e0.hok.fresh (hA5 _),fun y c h=>?_,fun p hp=>absurd (show p∈([]:List (Addr×Obj)) from hp) (by simp),e0.hok.kept hk,?_⟩
 ·exact name_of_addr x.apart (hBa h1) (hBa h2)
 ·have hy:scope.names.lookup y=some .cell\/scope.names.lookup y=some .free:=hy;rcases hy with hy | hy
  ·exact cell_has hy
  ·exact absurd rfl (S.nofree _ (hBa hy))
 ·exact hB2 (x.above y c (hBa h))
 ·have hi:i<vs.length:=by
   unfold start at h2;by_cases hi:i<vs.length
   ·exact hi
   ·rw[hC2 (by simpa using hi)]at h2;rw[List.getElem?_replicate]at h2;split at h2 <;> cases h2
  have ha:vs[i]?=some v:=by
   unfold start at h2;rw[List.getElem?_append_left (by simpa using hi),hAd]at h2;cases e:vs[i]? with
   | none=>rw[e]at h2;cases h2
   | some a=>rw[e]at h2;cases h2;rfl
  obtain⟨u,hu,rv⟩:=r.get ha;have hp:ps[i]?=some y:=by
   rw[<-S.pre,List.getElem?_take_of_lt (by omega)];exact h1
  have ndP:ps.Nodup:=by rw[<-S.pre];exact S.nd.sublist (List.take_sublist _ _)
  refine⟨u,rv,?_⟩;rcases S.par y (hAj hp) with k | k
  ·exact .inl ⟨k,bindL_get ndP hp hu k⟩
  ·obtain⟨c,e⟩:=cell_has (n:=s.heap.objs.size+1) k;refine .inr ⟨.inl k,c,e,?_⟩;have q:=x.cell y c e;rw[bindC_get ndP hp hu (by show scope.names.lookup y≠_;rw[k];decide)]at q;exact q
 ·exact e0.hok.fresh (hB2 (x.above y c (hBa h)))
 ·unfold start;show _=N.length;rw[hAf,hA1,hC4];omega
theorem fn_of {CX:CXT} {P:Program} {w:World} {K:PySem.W.Frag} {mg:Str->Option Value} {base:Heap} {k:Nat} {f:Addr} {name qual:Str} {params:Arguments} {body:List Stmt} {scope:Scope} {dV kV doc pm cdv ct oc:Value} {an od:Option Addr}
  {osl:Array (Option Value)} {N ps:List Str} {sp:Sp} (lk:K.lookup f=some ⟨oc,od,.func (PySem.W.fnOf name qual params body scope dV kV doc pm an cdv ct),osl⟩) (hcd:PySem.W.codeIn K cdv qual=true) (S:FnScope N ps scope)
  (len:∀ vs H Q E,sp vs H Q E->vs.length=ps.length)
  (hbody:∀ (A:Around) (outer:List Env) (s:Shared) (H:Hp) (vs:List V) (Q:VK) (E:XK),Room k (A.deeper (envOfC qual scope s.heap.objs.size f cdv))->sp vs H Q E ->
   ∃ t,PSs (cxOf CX P w K mg base N qual scope f cdv A outer s H E) body t/\t { nx:=fun _ H'=>Q .non H',rt:=Q } (start N vs) H) :
  FnOk P w K mg base CX (k+1) f (PySem.W.fnOf name qual params body scope dV kV doc pm an cdv ct) ps sp:=by
 refine⟨len,fun A outer s H args us vs Q E hr e0 hb r hsp=>?_⟩;have hl:=len _ _ _ _ hsp;have KX:K.In s.heap:=e0.mod.kin.keeps fun b o e=>(e0.bs b o e).1
 have lim:s.heap.NoLimit:=e0.mod.nolimit.keeps fun b o e=>(e0.bs b o e).1
 have hkind:∀ y∈ps.zip us,scope.names.lookup y.1=some .local\/(scope.names.lookup y.1=some .cell/\((cellsFrom (s.heap.objs.size+1) scope.names []).lookup y.1).isSome=true):=fun ⟨n,v⟩ hy=>by
  rcases S.par n (List.of_mem_zip hy).1 with q | q
  ·exact .inl q
  ·exact .inr ⟨q,hCk _ _ _ (.inl q)⟩
 refine codeAny_call_function hr.depth (KX _ _ lk) rfl S.co S.gen rfl (PySem.W.codeRec_of KX hcd) (hb _ _ _ _ ?_);refine wpAny_newFunctionEnv_cells S.kind hkind fun env he s1 x=>?_
 subst he;refine⟨lim.keeps x.toInCall.keep,codeAny_func ?_⟩;obtain⟨t,ht,hq⟩:=hbody A outer s H vs Q E (hr.deeper _) hsp;have I:Inv (cxOf CX P w K mg base N qual scope f cdv A outer s H E) [] (start N vs) H s1:=inv_start S hr.hd e0 hl r x;refine wpAny_mono (ht [] s1 (start N vs) H _ I hq) (fun fl s' hs=>?_) fun e s' hs=>hs
 have fin:∀ {σ':St} {H':Hp} {v:V} {u:Value},Inv (cxOf CX P w K mg base N qual scope f cdv A outer s H E) [] σ' H' s'->qBn v u->Q v H'->CE outer P w H s Q u s' :=
  fun {σ' H' v u} J rv q=>⟨v,H',J.os,J.bare,J.base,J.hok,rv,q⟩
 cases fl with
 | ret u =>
  obtain⟨v,σ',H',J,rv,q⟩:=hs;exact fin J rv q
 | next =>
  obtain⟨σ',H',J,q⟩:=hs;exact fin (v:=V.non) (u:=Value.none) J rfl q
 | brk =>
  obtain⟨_,_,_,q⟩:=hs;exact False.elim q
 | cont =>
  obtain⟨_,_,_,q⟩:=hs;exact False.elim q
end L2
namespace L2
open PySem PySem.Spec PyProof.Rows
section
variable {X:Cx} {x:Str} {p pos:Pos} {e:Expr} {es:List Expr} {t:TA} {id T:String} {r:List V->Hp->VK->Prop}
def tCB (r:List V->Hp->VK->Prop) (t:TA):TE:=fun σ H Q=>t σ H fun vs H1=>r vs H1 Q
theorem qAg (hc:qCr X (.builtin id) r) (hg:Gl X x) (hm:X.mg x=none) (hv:bootBuiltins x=some (.builtin id)) (ha:PA X (e :: es) t) (hn:x≠"__name__":=by decide) (hdb:(x == ("__debug__" : Str))=false:=by decide)
  (he:starEach (e :: es) X.env=(false,eval e X.env) :: starEach es X.env:=by rfl) (hpl:(backTo pos (starEach es X.env)).any (·.1)=false:=by rfl):PE X (.Call (.Name x p) (e :: es) [] pos) (tCB r t):=by
 intro pins s σ H Q I h;refine wpAny_Call_Name_kw (qD6 I hg hm hv ?_ hn hdb);exact PyProof.Rows.callWith_builtin1 (thn (ha pos pins s σ H _ I h) fun us s1 ⟨vs,H1,I1,r1,q1⟩=>hc pins s1 σ H1 vs us Q I1 r1 q1) he hpl
theorem qBf (hc:qCr X (.type T) r) (hg:Gl X x) (hm:X.mg x=none) (hv:bootBuiltins x=some (.type T)) (ha:PA X (e :: es) t) (hn:x≠"__name__":=by decide) (hdb:(x == ("__debug__" : Str))=false:=by decide)
  (he:starEach (e :: es) X.env=(false,eval e X.env) :: starEach es X.env:=by rfl) (hpl:(backTo pos (starEach es X.env)).any (·.1)=false:=by rfl):PE X (.Call (.Name x p) (e :: es) [] pos) (tCB r t):=by
 intro pins s σ H Q I h;refine wpAny_Call_Name_kw (qD6 I hg hm hv ?_ hn hdb);exact hBz (thn (ha pos pins s σ H _ I h) fun us s1 ⟨vs,H1,I1,r1,q1⟩=>hc pins s1 σ H1 vs us Q I1 r1 q1) he hpl
end
end L2
namespace HT
open PySem PyProof.Rows
section
variable {prog:Program} {w:World} {A:Around} {E:Value->Shared->Prop} {s:Shared}
def sIx (n d:Nat):Option Int->Nat
 | none=>d
 | some v=>if v<0 then (v+(n:Int)).toNat else min v.toNat n
theorem sIx_none (n d:Nat):sIx n d none=d:=rfl
theorem sIx_nat (n d k:Nat):sIx n d (some (k:Int))=min k n:=by
 show(if (k:Int)<0 then ((k:Int)+(n:Int)).toNat else min (k:Int).toNat n)=min k n;rw[if_neg (by omega),hB3]
end
end HT
namespace L2
open PySem PySem.Spec PyProof.Rows
abbrev TO:=St->Hp->(Option Int->Hp->Prop)->Prop
def PO (X:Cx) (e:Option Expr) (t:TO):Prop :=
 ∀ (pins:List (Addr×Obj)) (s:Shared) (σ:St) (H:Hp) (Q:Option Int->Hp->Prop),Inv X pins σ H s->t σ H Q ->
  wpAny (model X.prog X.w) X.A (evalPart e X.env) (fun u s'=>∃ o H',Inv X pins σ H' s'/\IsPart u o/\Q o H') X.xe s
def tNoPart:TO:=fun _ H Q=>Q none H
def tPart (t:TE):TO:=fun σ H Q=>t σ H fun x H1=>∃ i,x = .int i/\Q (some i) H1
section
variable {X:Cx} {e:Expr} {te:TE} {lo hi:Option Expr} {tl th:TO} {pos p2:Pos}
theorem po_none:PO X none tNoPart:=by
 intro pins s σ H Q I h;rw[evalPart_none];exact wpAny_pure ⟨none,H,I,.none,h⟩
theorem po_some (h:PE X e te):PO X (some e) (tPart te):=by
 intro pins s σ H Q I hw;rw[evalPart_some];refine thn (h pins s σ H _ I hw) fun u s1 ⟨x,H1,I1,r1,q1⟩=>?_
 obtain⟨i,rfl,q⟩:=q1;obtain⟨t,rfl⟩:=r1;exact⟨some i,H1,I1,.int i t,q⟩
def SlR (X:Cx) (r:V->Option Int->Option Int->Hp->VK->Prop):Prop :=
 ∀ (pins:List (Addr×Obj)) (s:Shared) (σ:St) (H:Hp) (x:V) (v vl vu:Value) (lo hi:Option Int) (sl:Addr) (Q:VK),Inv X pins σ H s->qBn x v->s.heap.IsSliceOf sl vl vu .none->IsPart vl lo->IsPart vu hi->r x lo hi H Q ->
  ∃ T id,typeLookup (.type T) "__getitem__" = pure (some (.builtin id))/\s.TypeIs v T/\wpAny (model X.prog X.w) X.A (getItem v (.ref sl)) (EP X pins σ Q) X.xe s
def tSl (r:V->Option Int->Option Int->Hp->VK->Prop) (te:TE) (tl th:TO):TE:=fun σ H Q=>te σ H fun x H1=>tl σ H1 fun l H2=>th σ H2 fun u H3=>r x l u H3 Q
theorem qEw (hr:SlR X r) (he:PE X e te) (hl:PO X lo tl) (hu:PO X hi th):PE X (.Subscript e (.Slice lo hi none p2) pos) (tSl r te tl th):=by
 intro pins s σ H Q I h;refine Subscript_ (thn (he pins s σ H _ I h) fun v s1 ⟨x,H1,I1,r1,q1⟩=>?_);refine wpAny_Slice (thn (hl pins s1 σ H1 _ I1 q1) fun vl s2 ⟨l,H2,I2,pl,q2⟩=>thn (hu pins s2 σ H2 _ I2 q2) fun vu s3 ⟨u,H3,I3,pu,q3⟩=>?_);rw[evalPart_none];refine wpAny_pure ?_;have I4:Inv X pins σ H3 { s3 with heap:=s3.heap.push { cls:=.type "slice",data:=.fields #[vl,vu,.none] } }:=I3.kept (t':=s3.toks) fun b ob q=>Heap.get?_push_of_some _ q
 obtain⟨T,id,hT,ht,hg⟩:=hr pins { s3 with heap:=s3.heap.push { cls:=.type "slice",data:=.fields #[vl,vu,.none] } } σ H3 x v vl vu l u s3.heap.objs.size Q I4 r1 (Heap.IsSliceOf.new ..) pl pu q3;show wpAny (model X.prog X.w) X.A (subscriptTail e (.Slice lo hi none p2) v (.ref s3.heap.objs.size)) (EP X pins σ Q) X.xe { s3 with heap:=s3.heap.push { cls:=.type "slice",data:=.fields #[vl,vu,.none] } };exact tail_any (ops:=[.ref s3.heap.objs.size,v]) ht hT hg (by with_unfolding_all rfl)
def cutV (xs:List V) (lo hi:Option Int):List V:=(xs.drop (HT.sIx xs.length 0 lo)).take (HT.sIx xs.length xs.length hi - HT.sIx xs.length 0 lo)
theorem cutV_length (xs:List V) (lo hi:Option Int):(cutV xs lo hi).length<=xs.length:=by
 unfold cutV;rw[hAi,hCh];omega
end
end L2
namespace L2
open PySem PySem.Spec PyProof.Rows
def ixN (n:Nat) (i:Int):Option Nat:=if 0<=i then (if i<n then some i.toNat else none) else if -(n:Int)<=i then some (i+n).toNat else none
def atI {α:Type} (xs:List α) (i:Int):Option α:=(ixN xs.length i).bind fun j=>xs[j]?
theorem ixN_seq (h:ixN n i=some j):seqIndex? i n=some j/\j<n/\-(n:Int)<=i/\i<n:=by
 unfold ixN at h;by_cases h0:0<=i
 ·rw[if_pos h0]at h;by_cases h1:i<n
  ·rw[if_pos h1]at h;have e:i.toNat=j:=hAa h;exact⟨by rw[seqIndex_of h0 h1,e],by omega,by omega,h1⟩
  ·rw[if_neg h1]at h;cases h
 ·rw[if_neg h0]at h;by_cases h1:-(n:Int)<=i
  ·rw[if_pos h1]at h;have e:(i+n).toNat=j:=hAa h;exact⟨by rw[seqIndex_neg (by omega) h1,e],by omega,h1,by omega⟩
  ·rw[if_neg h1]at h;cases h
theorem atI_get (h:atI xs i=some v):∃ j,seqIndex? i xs.length=some j/\xs[j]?=some v/\j<xs.length/\-(xs.length:Int)<=i/\i<xs.length:=by
 unfold atI at h;cases e:ixN xs.length i with
 | none=>rw[e]at h;cases h
 | some j =>
  rw[e]at h;obtain⟨h1,h2,h3,h4⟩:=ixN_seq e;exact⟨j,h1,h,h2,h3,h4⟩
theorem qAr {α:Type} {xs:List α} {j:Nat} {v:α} (h:xs[j]?=some v):atI xs (j:Int)=some v:=by
 have hj:j<xs.length:=(hAo.mp h).1;have e:ixN xs.length (j:Int)=some j:=by
  unfold ixN;rw[if_pos (by omega),if_pos (by omega)];simp
 unfold atI;rw[e];exact h
def PlainIx (b:Expr):Prop:=∀ o i,subscripted b false o i=operate [o,i] (getItem o i)
def IxR (X:Cx) (r:R2):Prop :=
 ∀ (value slice:Expr) (pins:List (Addr×Obj)) (s:Shared) (σ:St) (H:Hp) (x y:V) (v u:Value) (Q:VK),Inv X pins σ H s->qBn x v->qBn y u->r x y H Q ->
  subscripted slice false v u=operate [v,u] (getItem v u)->wpAny (model X.prog X.w) X.A (subscriptTail value slice v u) (EP X pins σ Q) X.xe s
def MtR (X:Cx) (id:String) (r:V->List V->Hp->VK->Prop):Prop :=
 ∀ (pins:List (Addr×Obj)) (s:Shared) (σ:St) (H:Hp) (x:V) (xs:List V) (v:Value) (us:List Value) (Q:VK),Inv X pins σ H s->qBn x v->qA5 xs us->r x xs H Q ->
  wpAny (model X.prog X.w) X.A (call (.builtin id) (v :: us)) (EP X pins σ Q) X.xe s
section
variable {X:Cx} {a b:Expr} {ta tb:TE} {pos:Pos}
theorem qA0 (hr:IxR X r) (ha:PE X a ta) (hb:PE X b tb) (hs:PlainIx b):PE X (.Subscript a b pos) (tOp r ta tb):=by
 intro pins s σ H Q I h;exact Subscript_ (binT ha hb I h fun v u s2 x y H2 I2 rx ry q=>hr a b pins s2 σ H2 x y v u Q I2 rx ry q (hs _ _))
def rIxL (K:PySem.W.Frag):R2:=fun x y H Q=>∃ p xs i v,x = .ref p/\y = .int i/\SqL K H p xs/\atI xs i=some v/\Q v H
def rIxT (K:PySem.W.Frag):R2:=fun x y H Q=>∃ p xs i v,x = .ref p/\y = .int i/\SqT K H p xs/\atI xs i=some v/\Q v H
def rIxS:R2:=fun x y H Q=>∃ z i c,x = .str z/\y = .int i/\z.length<=sizeLine/\atI z.cps.toList i=some c/\Q (.str ⟨#[c]⟩) H
theorem qAz:IxR X (rIxL X.K):=by
 intro value slice pins s σ H x y v u Q I rx ry h hs;obtain⟨p,xs,i,z,rfl,rfl,hq,he,q⟩:=h;cases rx;obtain⟨t,rfl⟩:=ry;obtain⟨its,r,pl,hz⟩:=I.list hq;obtain⟨j,h1,h2,h3,h4,h5⟩:=atI_get he;obtain⟨w,ew,rw'⟩:=r.get h2;have hl:=r.length;have hn:=qGj;have fin:EP X pins σ Q w s:=⟨z,H,I,rw',q⟩;by_cases h0:0<=i
 ·have hj:i.toNat=j:=by
   rw[seqIndex_of h0 h5]at h1;exact hAa h1
  exact item_listR pl.isList h0 (by omega) (by rw[hj];simpa using ew) fin hs
 ·have hj:(i+(its.toArray.size:Int)).toNat=j:=by
   rw[seqIndex_neg (by omega) h4]at h1;rw[hAe,<-hl];exact hAa h1
  exact subscriptTail_builtinR (x:=w) pl.isList.typeIs slot_list_getitem.lookup
   (wpAny_getItem_list_neg (Q:=fun r s'=>r=w/\EP X pins σ Q r s') pl.isList (by omega) (by rw[hAe] <;> omega) (by omega) (by rw[hj];simpa using ew) ⟨rfl,fin⟩) hs
theorem qBg:IxR X (rIxT X.K):=by
 intro value slice pins s σ H x y v u Q I rx ry h hs;obtain⟨p,xs,i,z,rfl,rfl,hq,he,q⟩:=h;cases rx;obtain⟨t,rfl⟩:=ry;obtain⟨its,r,pl,hz⟩:=I.tuple hq;obtain⟨j,h1,h2,h3,h4,h5⟩:=atI_get he;obtain⟨w,ew,rw'⟩:=r.get h2;have hl:=r.length;have hn:=qGj;have fin:EP X pins σ Q w s:=⟨z,H,I,rw',q⟩;exact subscriptTail_builtinR (x:=w) pl.typeIs slot_tuple_getitem.lookup
  (getItem_tuple (j:=j) (Q:=fun r s'=>r=w/\EP X pins σ Q r s') pl (by omega) (by omega) (by rw[hAe,<-hl];exact h1) (by simpa using ew) ⟨rfl,fin⟩) hs
theorem qGl:IxR X rIxS:=by
 intro value slice pins s σ H x y v u Q I rx ry h hs;obtain⟨z,i,c,rfl,rfl,hz,he,q⟩:=h;obtain⟨t,rfl⟩:=rx;obtain⟨t',rfl⟩:=ry;obtain⟨j,h1,h2,h3,h4,h5⟩:=atI_get he;have hl:z.cps.toList.length=z.length:=by simp[Str.length]
 rw[hl]at h1 h4 h5;have hn:=qGj;exact tail_any (typeIs_str s z t) slot_str_getitem.lookup (getItem_str (c:=c) (by
  have e1:decide (i < -(2^63:Int))=false:=decide_eq_false (by omega);have e2:decide (i >= 2^63)=false:=decide_eq_false (by omega);rw[e1,e2,Bool.or_false]) (by rw[h1];simpa using h2) ⟨.str ⟨#[c]⟩,H,I.tok _,⟨_,rfl⟩,q⟩) hs
theorem mapSeq_set (its:List Value) (n j:Nat) (u:Value):Obj.mapSeq (·.setIfInBounds j u) { cls:=.type "list",data:=.seq its.toArray n }={ cls:=.type "list",data:=.seq (its.set j u).toArray n }:=by
 simp[Obj.mapSeq]
theorem Inv.lst {pins:List (Addr×Obj)} {σ:St} {H:Hp} {s:Shared} {p:Addr} {xs:List V} (I:Inv X pins σ H s) (h:H p=some (.lst xs)) :
  ∃ (its:List Value) (n:Nat),qA5 xs its/\s.heap.get? p=some { cls:=.type "list",data:=.seq its.toArray n }/\xs.length<=sizeLine:=by
 obtain⟨z,its,n,r,e⟩:=I.hok p _ h;exact⟨its,n,r,e,z⟩
theorem Inv.lstUpd {pins:List (Addr×Obj)} {σ:St} {H:Hp} {s:Shared} {p:Addr} {xs ys:List V} {its its':List Value} {n n':Nat} {f:Obj->Obj} (I:Inv X pins σ H s) (h:H p=some (.lst xs))
  (ho:s.heap.get? p=some { cls:=.type "list",data:=.seq its.toArray n }) (hf:f { cls:=.type "list",data:=.seq its.toArray n }={ cls:=.type "list",data:=.seq its'.toArray n' }) (r:qA5 ys its') (hz:ys.length<=sizeLine) (t:Nat) :
  Inv X pins σ (upd H p (.lst ys)) { s with heap:=s.heap.update p f,toks:=t }:=by
 have e:(s.heap.update p f).get? p=some { cls:=.type "list",data:=.seq its'.toArray n' }:=by
  rw[Heap.get?_update_self f ho (by rw[hf] <;> rfl),hf]
 refine I.write (x:=p) (e:=p) (by rw[h];trivial) (.inl rfl) (fun b u hb q=>(Heap.get?_update_other _ _ (Ne.symm hb)).trans q) ⟨_,e⟩ ?_;exact⟨hz,its',n',r,e⟩
def rSetL:V->V->V->Hp->(Hp->Prop)->Prop:=fun o i v H Q=>∃ p xs k j,o = .ref p/\i = .int k/\H p=some (.lst xs)/\ixN xs.length k=some j/\Q (upd H p (.lst (xs.set j v)))
theorem qCv:PSet X rSetL:=by
 intro pins s σ H o i v ov iv u Q I ro ri rv h;obtain⟨p,xs,k,j,rfl,rfl,hp,hj,q⟩:=h;cases ro;obtain⟨t,rfl⟩:=ri;obtain⟨its,n,r,ho,hz⟩:=I.lst hp;obtain⟨h1,h2,h3,h4⟩:=ixN_seq hj;have hl:=r.length;have hn:=qGj;have I':Inv X pins σ (upd H p (.lst (xs.set j v))) { s with heap:=s.heap.update p (Obj.mapSeq (·.setIfInBounds j u)) } :=
  I.lstUpd hp ho (mapSeq_set its n j u) (r.set rv j) (by rw[hCm];exact hz) s.toks
 by_cases h0:0<=k
 ·have hk:k.toNat=j:=by
   rw[seqIndex_of h0 h4]at h1;exact hAa h1
  exact PySem.W.ki_setAt ho h0 (by omega) (by rw[hAe,<-hl];exact h4) (by rw[hk];exact⟨_,I',q⟩)
 ·have hk:(k+(its.toArray.size:Int)).toNat=j:=by
   rw[seqIndex_neg (by omega) h3]at h1;rw[hAe,<-hl];exact hAa h1
  exact PySem.W.ki_setBack ho (by omega) (by rw[hAe,<-hl];exact h3) (by omega) (by rw[hk];exact⟨_,I',q⟩)
theorem slice_bounds (lo hi:Option Int) (n:Nat):(sliceBounds lo hi none n).1=((HT.sIx n 0 lo:Nat):Int)/\(sliceBounds lo hi none n).2.1=((HT.sIx n n hi:Nat):Int)/\(sliceBounds lo hi none n).2.2=1:=by
 refine⟨?_,?_,rfl⟩
 ·cases lo with
  | none=>simp[sliceBounds,HT.sIx]
  | some i =>
   simp only[sliceBounds,HT.sIx,Option.getD_none,show(1:Int) > 0 by decide,if_true];by_cases h:i<0
   ·simp only[h,if_true] <;> omega
   ·simp only[h,if_false] <;> omega
 ·cases hi with
  | none=>simp[sliceBounds,HT.sIx]
  | some i =>
   simp only[sliceBounds,HT.sIx,Option.getD_none,show(1:Int) > 0 by decide,if_true];by_cases h:i<0
   ·simp only[h,if_true] <;> omega
   ·simp only[h,if_false] <;> omega
theorem slicePick_cut (its:List Value) (lo hi:Option Int):slicePick its.toArray lo hi none=((its.drop (HT.sIx its.length 0 lo)).take (HT.sIx its.length its.length hi - HT.sIx its.length 0 lo)).toArray:=by
 obtain⟨h1,h2,h3⟩:=slice_bounds lo hi its.toArray.size;unfold slicePick;rw[h1,h2,h3];simp only[sliceRange_one,pick_run,hAe] <;> rfl
def rSlL (K:PySem.W.Frag):V->Option Int->Option Int->Hp->VK->Prop:=fun x lo hi H Q=>∃ a xs,x = .ref a/\SqL K H a xs/\∀ p,H p=none->Q (.ref p) (upd H p (.lst (cutV xs lo hi)))
theorem sl_list:SlR X (rSlL X.K):=by
 intro pins s σ H x v vl vu lo hi sl Q I rx hs pl pu h;obtain⟨a,xs,rfl,hx,q⟩:=h;cases rx;obtain⟨its,r,ht,hz⟩:=I.list hx;have hlen:=r.length;refine⟨"list",_,slot_list_getitem.lookup,ht.isList.typeIs,?_⟩;refine wpAny_getItem_list_slice ht.isList hs pl pu .none (by simp) ?_ (by rw[hAe] <;> omega);rw[slicePick_cut,<-hlen];refine⟨.ref s.heap.objs.size,_,I.laid (t':=s.toks) (o:=.lst (cutV xs lo hi)) (fun b ob q=>Heap.get?_push_of_some _ q) (hA5 _) ?_,rfl,q _ (I.hok.fresh (hA5 _))⟩;exact⟨hB7 (cutV_length xs lo hi) hz,_,0,(r.drop (HT.sIx xs.length 0 lo)).take (HT.sIx xs.length xs.length hi - HT.sIx xs.length 0 lo),Heap.get?_push_size _ rfl⟩
def qF0:V->Bool
 | .non=>true
 | .bl _=>true
 | .int _=>true
 | .str _=>true
 | _=>false
def eqV:V->V->Bool
 | .non,.non=>true
 | .bl a,.bl b=>a == b
 | .bl a,.int b=>(if a then 1 else 0) == b
 | .int a,.bl b=>a == (if b then 1 else 0)
 | .int a,.int b=>a == b
 | .str a,.str b=>a == b
 | _,_=>false
theorem eqAt_V (ry:qBn y u) (rx:qBn x v) (fy:qF0 y=true) (fx:qF0 x=true):SeqAt.EqAt A s u v (eqV y x):=by
 cases y with
 | non =>
  cases ry;cases x with
  | non=>cases rx;exact SeqAt.EqAt.same _
  | bl b=>cases rx;exact SeqAt.EqAt.none_bool b
  | int b=>obtain⟨t,rfl⟩:=rx;exact SeqAt.EqAt.none_int b t
  | str b=>obtain⟨t,rfl⟩:=rx;exact SeqAt.EqAt.none_str b t
  | _=>exact absurd (show false=true from fx) hAm
 | bl a =>
  cases ry;cases x with
  | non=>cases rx;exact SeqAt.EqAt.bool_none a
  | bl b=>cases rx;exact SeqAt.EqAt.bool_bool a b
  | int b=>obtain⟨t,rfl⟩:=rx;exact SeqAt.EqAt.bool_int a b t
  | str b=>obtain⟨t,rfl⟩:=rx;exact SeqAt.EqAt.bool_str a b t
  | _=>exact absurd (show false=true from fx) hAm
 | int a =>
  obtain⟨t',rfl⟩:=ry;cases x with
  | non=>cases rx;exact SeqAt.EqAt.int_none a t'
  | bl b=>cases rx;exact SeqAt.EqAt.int_bool a t' b
  | int b=>obtain⟨t,rfl⟩:=rx;exact SeqAt.EqAt.int_int a t' b t
  | str b=>obtain⟨t,rfl⟩:=rx;exact SeqAt.EqAt.int_str a t' b t
  | _=>exact absurd (show false=true from fx) hAm
 | str a =>
  obtain⟨t',rfl⟩:=ry;cases x with
  | non=>cases rx;exact SeqAt.EqAt.str_none a t'
  | bl b=>cases rx;exact SeqAt.EqAt.str_bool a t' b
  | int b=>obtain⟨t,rfl⟩:=rx;exact SeqAt.EqAt.str_int a t' b t
  | str b=>obtain⟨t,rfl⟩:=rx;exact SeqAt.EqAt.str_str a t' b t
  | _=>exact absurd (show false=true from fx) hAm
 | _=>exact absurd (show false=true from fy) hAm
def eqU (x:V) (u:Value):Bool:=match u with
 | .none=>eqV .non x
 | .bool b=>eqV (.bl b) x
 | .int i _=>eqV (.int i) x
 | .str z _=>eqV (.str z) x
 | _=>false
theorem eqU_of (r:qBn y u) (f:qF0 y=true):eqU x u=eqV y x:=by
 cases y with
 | non=>cases r;rfl
 | bl b=>cases r;rfl
 | int i=>obtain⟨t,rfl⟩:=r;rfl
 | str z=>obtain⟨t,rfl⟩:=r;rfl
 | _=>exact absurd (show false=true from f) hAm
theorem qFu:∀ {xs:List V} {us:List Value},qA5 xs us->xs.all qF0=true->us.any (eqU x)=xs.any fun y=>eqV y x
 | _,_,.nil,_=>rfl
 | y :: xs,u :: us,.cons r t,f=>by
  rw[List.all_cons,hBv]at f;rw[hCr,hCr,eqU_of r f.1,qFu t f.2]
theorem qD4 (rx:qBn x v) (fx:qF0 x=true):∀ {xs:List V} {us:List Value},qA5 xs us->xs.all qF0=true->∀ u∈us,SeqAt.EqAt A s u v (eqU x u)
 | _,_,.nil,_=>fun u hu=>by cases hu
 | y :: xs,u :: us,.cons r t,f=>fun u' hu=>by
  rw[List.all_cons,hBv]at f;rcases hAc.mp hu with rfl | hu
  ·rw[eqU_of r f.1];exact eqAt_V r rx f.1 fx
  ·exact qD4 rx fx t f.2 u' hu
def inV (x:V) (xs:List V):Bool:=xs.any fun y=>eqV y x
def rIn (K:PySem.W.Frag) (neg:Bool):R2:=fun x y H Q=>∃ p xs,y = .ref p/\(SqL K H p xs\/SqT K H p xs)/\qF0 x=true/\xs.all qF0=true/\Q (.bl (if neg then !inV x xs else inV x xs)) H
theorem op_in_seq:OpR X (compareOp .In) (rIn X.K false):=by
 intro pins s σ H x y v u Q I rx ry h;obtain⟨p,xs,rfl,hq,fx,fs,q⟩:=h;cases ry;rcases hq with hq | hq
 ·obtain⟨its,r,pl,hz⟩:=I.list hq;refine SeqAt.in_listAt (eqU x) pl.isList (fun w hw=>qD4 rx fx r fs w (by simpa using hw)) ⟨.bl _,H,I,rfl,?_⟩;rw[show its.toArray.any (eqU x)=its.any (eqU x) by simp,qFu r fs];exact q
 ·obtain⟨its,r,pl,hz⟩:=I.tuple hq;refine SeqAt.in_tupleAt (eqU x) pl (fun w hw=>qD4 rx fx r fs w (by simpa using hw)) ⟨.bl _,H,I,rfl,?_⟩;rw[show its.toArray.any (eqU x)=its.any (eqU x) by simp,qFu r fs];exact q
theorem op_notIn_seq:OpR X (compareOp .NotIn) (rIn X.K true):=by
 intro pins s σ H x y v u Q I rx ry h;obtain⟨p,xs,rfl,hq,fx,fs,q⟩:=h;cases ry;rcases hq with hq | hq
 ·obtain⟨its,r,pl,hz⟩:=I.list hq;refine SeqAt.notIn_listAt (eqU x) pl.isList (fun w hw=>qD4 rx fx r fs w (by simpa using hw)) ⟨.bl _,H,I,rfl,?_⟩;rw[show its.toArray.any (eqU x)=its.any (eqU x) by simp,qFu r fs];exact q
 ·obtain⟨its,r,pl,hz⟩:=I.tuple hq;refine SeqAt.notIn_tupleAt (eqU x) pl (fun w hw=>qD4 rx fx r fs w (by simpa using hw)) ⟨.bl _,H,I,rfl,?_⟩;rw[show its.toArray.any (eqU x)=its.any (eqU x) by simp,qFu r fs];exact q
theorem qAk:qCr X (.builtin "len") (fun xs H Q=>∃ p ys,xs=[.ref p]/\(SqL X.K H p ys\/SqT X.K H p ys)/\Q (.int ys.length) H):=by
 intro pins s σ H xs us Q I r h;obtain⟨p,ys,rfl,hq,q⟩:=h;obtain⟨u,rfl,rx⟩:=qC3 r;cases rx;have hn:=qGj;rcases hq with hq | hq
 ·obtain⟨its,r',pl,hz⟩:=I.list hq;have hlen:=r'.length;exact Calls.call_len_list pl.isList (by simp only[hAe] <;> omega) ⟨.int ys.length,H,I.tok _,⟨s.toks+1,by rw[hAe,hlen]⟩,q⟩
 ·obtain⟨its,r',pl,hz⟩:=I.tuple hq;have hlen:=r'.length;exact len_tuple pl (by simp only[hAe] <;> omega) ⟨.int ys.length,H,I.tok _,⟨s.toks+1,by rw[hAe,hlen]⟩,q⟩
theorem qC7:qCr X (.builtin "len") (fun xs H Q=>∃ z,xs=[.str z]/\z.length<=sizeLine/\Q (.int z.length) H):=by
 intro pins s σ H xs us Q I r h;obtain⟨z,rfl,hz,q⟩:=h;obtain⟨u,rfl,t,rfl⟩:=qC3 r;have hn:=qGj;exact len_str (by omega) ⟨.int z.length,H,I.tok _,⟨_,rfl⟩,q⟩
theorem qBr:qCr X (.type "list") (fun xs H Q=>∃ p ys,xs=[.ref p]/\(SqL X.K H p ys\/SqT X.K H p ys)/\∀ l,H l=none->Q (.ref l) (upd H l (.lst ys))):=by
 intro pins s σ H xs us Q I r h;obtain⟨p,ys,rfl,hq,q⟩:=h;obtain⟨u,rfl,rx⟩:=qC3 r;cases rx;have fin:∀ (its:List Value),qA5 ys its->ys.length<=sizeLine->∀ (h':Heap) (c':Nat),(∀ b o',s.heap.get? b=some o'->h'.get? b=some o') ->
   h'.get? s.heap.objs.size=some { cls:=.type "list",dict:=none,data:=.seq its.toArray c',slots:=#[] }->EP X pins σ Q (.ref s.heap.objs.size) { s with heap:=h' }:=fun its r' hz h' c' kp e =>
  ⟨.ref s.heap.objs.size,_,I.laid (t':=s.toks) kp (hA5 _) (show qBs X.prog X.w _ h' _ (.lst ys) from ⟨hz,its,c',r',e⟩),rfl,q _ (I.hok.fresh (hA5 _))⟩
 rcases hq with hq | hq
 ·obtain⟨its,r',pl,hz⟩:=I.list hq;have hlen:=r'.length;obtain⟨o,ho,hc,n,hd⟩:=pl.isList;exact call_list_seq p (.inl rfl) ho hc hd (fun h' c' kp e=>fin its r' hz h' c' kp e) (by simp only[hAe] <;> omega)
 ·obtain⟨its,r',pl,hz⟩:=I.tuple hq;have hlen:=r'.length;obtain⟨o,ho,hc,n,hd⟩:=pl;exact call_list_seq p (.inr rfl) ho hc hd (fun h' c' kp e=>fin its r' hz h' c' kp e) (by simp only[hAe] <;> omega)
theorem call_tuple_of:qCr X (.type "tuple") (fun xs H Q=>∃ p ys,xs=[.ref p]/\((SqL X.K H p ys/\∀ l,H l=none->Q (.ref l) (upd H l (.tup ys)))\/(SqT X.K H p ys/\Q (.ref p) H))):=by
 intro pins s σ H xs us Q I r h;obtain⟨p,ys,rfl,h⟩:=h;obtain⟨u,rfl,rx⟩:=qC3 r;cases rx;rcases h with ⟨hq,q⟩ | ⟨hq,q⟩
 ·obtain⟨its,r',pl,hz⟩:=I.list hq;have hlen:=r'.length;refine call_tuple_list pl.isList (fun h' kp=>?_) (by simp only[hAe] <;> omega);have I1:Inv X pins σ H { s with heap:=h' }:=I.kept (t':=s.toks) kp;have I2:Inv X pins σ (upd H h'.objs.size (.tup ys)) { s with heap:=h'.push { cls:=.type "tuple",data:=.seq its.toArray } } :=
   I1.laid (t':=s.toks) (fun b o e=>Heap.get?_push_of_some _ e) (hA5 _) (show qBs X.prog X.w _ _ _ (.tup ys) from ⟨hz,its,r',IsTup.new _ _⟩)
  exact⟨.ref h'.objs.size,_,I2,rfl,q _ (I1.hok.fresh (hA5 _))⟩
 ·obtain⟨its,r',pl,hz⟩:=I.tuple hq;exact call_tuple_same pl ⟨.ref p,H,I,rfl,q⟩
def tyV (K:PySem.W.Frag) (T:String) (x:V) (H:Hp):Prop:=match x with
 | .str _=>T = "str"
 | .int _=>T = "int"
 | .ref p=>(T = "list"/\∃ xs,SqL K H p xs)\/(T = "tuple"/\∃ o,K.lookup p=some o/\o.cls = .type "tuple"/\o.dict=none) \/
   (T = "dict"/\((∃ kvs,H p=some (.dK kvs))\/∃ kvs,H p=some (.dT kvs)))\/(T = "set"/\∃ S n,H p=some (.set S n))
 | _=>False
theorem tyV_is (I:Inv X pins σ H s) (r:qBn x v) (ty:tyV X.K T x H) :
  s.TypeIs v T/\∀ a,v = .ref a->∃ ob,s.heap.get? a=some ob/\ob.dict=none:=by
 cases x with
 | str z =>
  obtain⟨t,rfl⟩:=r;cases(show T = "str" from ty);exact⟨typeIs_str s z t,fun _ e=>nomatch e⟩
 | int i =>
  obtain⟨t,rfl⟩:=r;cases(show T = "int" from ty);exact⟨typeIs_int s i t,fun _ e=>nomatch e⟩
 | ref p =>
  cases r;rcases ty with ⟨rfl,xs,hq⟩ | ⟨rfl,o,hk,hc,hd⟩ | ⟨rfl,hk⟩ | ⟨rfl,S,n,hk⟩
  ·obtain⟨its,_,pl,_⟩:=I.list hq;refine⟨pl.isList.typeIs,fun a e=>?_⟩;cases e;obtain⟨o,n,e,c,hd,_⟩:=pl;exact⟨o,e,hd⟩
  ·refine⟨⟨o,I.kIn p o hk,hc⟩,fun a e=>?_⟩;cases e;exact⟨o,I.kIn _ o hk,hd⟩
  ·have z:∃ o,s.heap.get? p=some o/\o.ExactDict:=by
    rcases hk with ⟨kvs,hk⟩ | ⟨kvs,hk⟩
    ·obtain⟨_,_,_,_,o,_,_,e,ex,_⟩:=I.hok p _ hk;exact⟨o,e,ex⟩
    ·obtain⟨_,_,_,_,o,_,_,e,ex,_⟩:=I.hok p _ hk;exact⟨o,e,ex⟩
   obtain⟨o,e,ex⟩:=z;refine⟨⟨o,e,ex.1⟩,fun a e2=>?_⟩;cases e2;exact⟨o,e,ex.2.1⟩
  ·obtain⟨o,_,_,_,e,ex,_⟩:=I.hok p _ hk;refine⟨⟨o,e,ex.1⟩,fun a e2=>?_⟩;cases e2;exact⟨o,e,ex.2.1⟩
 | _=>exact False.elim ty
def tBM0 (K:PySem.W.Frag) (T:String) (r:V->List V->Hp->VK->Prop) (to:TE):TE:=fun σ H Q=>to σ H fun x H1=>tyV K T x H1/\r x [] H1 Q
def tBM (K:PySem.W.Frag) (T:String) (r:V->List V->Hp->VK->Prop) (to:TE) (t:TA):TE:=fun σ H Q=>to σ H fun x H1=>tyV K T x H1/\t σ H1 fun xs H2=>r x xs H2 Q
variable {o e:Expr} {es:List Expr} {to:TE} {t:TA} {name:Str} {apos cpos:Pos} {T id:String} {r:V->List V->Hp->VK->Prop}
theorem pe_bm0 (pa:PlainAttrs T) (slot:Slot T name id) (hty:typeOf (.builtin id)=pure (.type "method_descriptor")) (hm:MtR X id r) (ho:PE X o to)
  (hbase:attributeBase o name X.env (eval o X.env)=eval o X.env:=by rfl) (hline:(apos.endLine == cpos.line)=true:=by rfl):PE X (.Call (.Attribute o name apos) [] [] cpos) (tBM0 X.K T r to):=by
 intro pins s σ H Q I h;refine wpAny_Call_method0_late hbase hline (thn (ho pins s σ H _ I h) fun v s1 ⟨x,H1,I1,r1,ty,q1⟩=>?_);obtain⟨h1,h2⟩:=tyV_is I1 r1 ty;exact⟨T,id,pa,slot,hty,h1,h2,Calls.callWith_builtin rfl (PySem.evalArgs_none (hm pins s1 σ H1 x [] v [] Q I1 r1 .nil q1))⟩
theorem qFj (pa:PlainAttrs T) (slot:Slot T name id) (hty:typeOf (.builtin id)=pure (.type "method_descriptor")) (hm:MtR X id r) (ho:PE X o to) (ha:PA X (e :: es) t)
  (hbase:attributeBase o name X.env (eval o X.env)=eval o X.env:=by rfl)
  (hfew:((backTo cpos (starEach (e :: es) X.env)).all (fun x=>!x.1) && (backToKw cpos (keywordEach [] X.env)).all (fun x=>x.1.isSome)
   && decide ((e :: es).length+([]:List Keyword).length+(if ([]:List Keyword).isEmpty then 0 else 1)<30))=true:=by rfl)
  (hline:(apos.endLine == cpos.line)=true:=by rfl) (hs:starEach (e :: es) X.env=(false,eval e X.env) :: starEach es X.env:=by rfl) (hplain:(backTo cpos (starEach es X.env)).any (·.1)=false:=by rfl) :
  PE X (.Call (.Attribute o name apos) (e :: es) [] cpos) (tBM X.K T r to t):=by
 intro pins s σ H Q I h;refine wpAny_Call_method_late hbase hfew hline rfl (thn (ho pins s σ H _ I h) fun v s1 ⟨x,H1,I1,r1,ty,q1⟩=>?_);obtain⟨h1,h2⟩:=tyV_is I1 r1 ty;refine⟨T,id,pa,slot,hty,h1,h2,?_⟩;have hA:=ha cpos pins s1 σ H1 _ I1 q1;rw[hs]at hA ⊢;refine Calls.callWith_builtin (by show(false || (backTo cpos (starEach es X.env)).any (·.1))=false;rw[hplain] <;> rfl) (Calls.evalArgs_plain ?_);exact thn hA fun us s2 ⟨vs,H2,I2,r2,q2⟩=>hm pins s2 σ H2 x vs v us Q I2 r1 r2 q2
end
end L2
namespace L2
open PySem PySem.Spec PyProof.Rows
def MtM (X:Cx) (id:String) (r:V->List V->Hp->VK->Prop):Prop :=
 ∀ (pins:List (Addr×Obj)) (s:Shared) (σ:St) (H:Hp) (x:V) (xs:List V) (v:Value) (us:List Value) (Q:VK),Inv X pins σ H s->qBn x v->qA5 xs us->r x xs H Q ->
  wpAny (model X.prog X.w) X.A (call (.builtin id) (v :: us)) (EP X pins σ Q) X.xe s
theorem qA5.one:∀ {x:V} {us:List Value},qA5 [x] us->∃ u,us=[u]/\qBn x u
 | _,_,.cons r .nil=>⟨_,rfl,r⟩
theorem qA5.zero:∀ {us:List Value},qA5 [] us->us=[]
 | _,.nil=>rfl
theorem qA5.eraseIdx:∀ {xs:List V} {us:List Value} (i:Nat),qA5 xs us->qA5 (xs.eraseIdx i) (us.eraseIdx i)
 | _,_,_,.nil=>.nil
 | _,_,0,.cons _ t=>t
 | _,_,i+1,.cons r t=>.cons r (qA5.eraseIdx i t)
theorem len_erase:∀ (l:List α) (i:Nat),(l.eraseIdx i).length<=l.length
 | [],_=>hA5 _
 | _ :: _,0=>hB5 _
 | _ :: r,i+1=>Nat.succ_le_succ (len_erase r i)
theorem foldl_rep (its:List Value):∀ (k:Nat) (acc:List Value),
  List.foldl (fun x1 x2=>x1++x2) acc.toArray (List.replicate k its.toArray)=(acc++(List.replicate k its).flatten).toArray
 | 0,acc=>by simp
 | k+1,acc=>by
  have e:acc.toArray++its.toArray=(acc++its).toArray:=by simp
  have e2:(acc++its)++(List.replicate k its).flatten=acc++(List.replicate (k+1) its).flatten:=by
   rw[hCw,List.flatten_cons,List.append_assoc]
  rw[<-e2,<-foldl_rep its k (acc++its),<-e,hCw,List.foldl_cons]
section
variable {X:Cx} {pins:List (Addr×Obj)} {σ:St} {H:Hp} {s:Shared} {l b:Addr} {xs ys zs:List V}
theorem Inv.lset {its its':List Value} {n:Nat} {f:Array Value->Array Value} {t':Nat} (I:Inv X pins σ H s) (hH:H l=some (.lst xs))
  (e:s.heap.get? l=some { cls:=.type "list",data:=.seq its.toArray n }) (hf:f its.toArray=its'.toArray) (hv:qA5 ys its') (hz:ys.length<=sizeLine) :
  Inv X pins σ (upd H l (.lst ys)) { s with heap:=s.heap.update l (Obj.mapSeq f),toks:=t' }:=by
 have q:=PySem.IsL.update e f;rw[hf]at q;refine I.write (x:=l) (e:=l) (by rw[hH];exact trivial) (.inl rfl) (fun b' u hb hu=>(Heap.get?_update_other s.heap (Obj.mapSeq f) (Ne.symm hb)).trans hu) ⟨_,q⟩ ?_;exact⟨hz,its',_,hv,q⟩
theorem Inv.lnew (I:Inv X pins σ H s) (hv:qA5 ys its) (hz:ys.length<=sizeLine) :
  Inv X pins σ (upd H s.heap.objs.size (.lst ys)) { s with heap:=s.heap.push { cls:=.type "list",data:=.seq its.toArray },toks:=t' } :=
 I.laid (fun _ _ q=>Heap.get?_push_of_some _ q) (hA5 _) ⟨hz,its,0,hv,Heap.get?_push_size _ rfl⟩
theorem Inv.fresh (I:Inv X pins σ H s):H s.heap.objs.size=none:=I.hok.fresh (hA5 _)
theorem Inv.lstM (I:Inv X pins σ H s) (hH:H l=some (.lst xs)):xs.length<=sizeLine/\∃ (its:List Value) (n:Nat),qA5 xs its/\xs.length=its.length/\s.heap.get? l=some { cls:=.type "list",data:=.seq its.toArray n }:=by
 obtain⟨z,its,n,r,e⟩:=I.hok l _ hH;exact⟨z,its,n,r,r.length,e⟩
end
section
variable {X:Cx}
def rAppend:V->List V->Hp->VK->Prop:=fun x vs H Q=>∃ l xs y,x = .ref l/\vs=[y]/\H l=some (.lst xs)/\xs.length<sizeLine/\Q .non (upd H l (.lst (xs++[y])))
theorem qB7:MtM X "list.append" rAppend:=by
 intro pins s σ H x vs v us Q I rx rv h;obtain⟨l,xs,y,rfl,rfl,hH,hz,q⟩:=h;cases rx;obtain⟨u,rfl,ru⟩:=rv.one;obtain⟨z,its,n,r,hl,e⟩:=I.lstM hH;refine call_meets F.slot_list_append ⟨_,e,rfl⟩ F.entry_list_append (F.args_list_append_2 _ _) (PySem.list_append l its.toArray n u (by rw[hAe];omega)) ⟨e,?_⟩;refine⟨.non,_,I.lset (its':=its++[u]) hH e (by simp) (r.append (.cons ru .nil)) ?_,rfl,q⟩;rw[hAf,List.length_singleton];omega
def rPopAt:V->List V->Hp->VK->Prop:=fun x vs H Q=>∃ l xs i k y,x = .ref l/\vs=[.int i]/\H l=some (.lst xs)/\-(2^63)<=i/\i<2^63/\seqIndex? i xs.length=some k/\xs[k]?=some y/\Q y (upd H l (.lst (xs.eraseIdx k)))
theorem mt_popAt:MtM X "list.pop" rPopAt:=by
 intro pins s σ H x vs v us Q I rx rv h;obtain⟨l,xs,i,k,y,rfl,rfl,hH,h1,h2,hk,hy,q⟩:=h;cases rx;obtain⟨u,rfl,ru⟩:=rv.one;obtain⟨t,rfl⟩:=ru;obtain⟨z,its,n,r,hl,e⟩:=I.lstM hH;obtain⟨w,hw,rw'⟩:=r.get hy;refine call_meets F.slot_list_pop ⟨_,e,rfl⟩ F.entry_list_pop (F.args_list_pop_2 _ _)
  (MeetsSeq.list_pop_at l its.toArray n i t k w (fitsIndex_both h1 h2) (by rw[hAe,<-hl];exact hk) (by rw[<-hCb];exact hw) (by rw[hAe];omega)) ⟨e,?_⟩
 refine⟨y,_,I.lset (its':=its.eraseIdx k) hH e ?_ (r.eraseIdx k) ?_,rw',q⟩
 ·show its.toArray.eraseIdxIfInBounds k=(its.eraseIdx k).toArray;rw[List.eraseIdxIfInBounds_toArray]
 ·have:=len_erase xs k;omega
def rCat:R2:=fun x y H Q=>∃ l b xs zs,x = .ref l/\y = .ref b/\H l=some (.lst xs)/\H b=some (.lst zs)/\xs.length+zs.length<=sizeLine/\∀ p,H p=none->Q (.ref p) (upd H p (.lst (xs++zs)))
theorem op_cat:OpR X (binaryOp .Add) rCat:=by
 intro pins s σ H x y v u Q I rx ry h;obtain⟨l,b,xs,zs,rfl,rfl,hH,hB,hz,q⟩:=h;cases rx;cases ry;obtain⟨z,its,n,r,hl,e⟩:=I.lstM hH;obtain⟨z2,its2,n2,r2,hl2,e2⟩:=I.lstM hB;refine PySem.P.add_list e e2 ?_ (by rw[hAe,hAe];omega);have ea:its.toArray++its2.toArray=(its++its2).toArray:=by simp
 rw[ea];exact⟨.ref _,_,I.lnew (t':=s.toks) (r.append r2) (by rw[hAf];omega),rfl,q _ I.fresh⟩
end
end L2
namespace Att
open PySem PySem.W PySem.Calls PyProof.Rows
theorem qFn:∀ (ns:List Int) (vs:List Value),WellAll P h vs (ns.map WData.int)->IntsAre vs ns:=by
 intro ns
 induction ns with
 | nil =>
  intro vs w;rw[List.map_nil]at w;cases w;exact .nil
 | cons n ns ih =>
  intro vs w;rw[hAu]at w;cases w with
  | cons a b =>
   cases a;exact .cons _ _ (ih _ b)
theorem script_of {l:OpenLaw} {n:Nat} (hn:l.most=some n) {P:Params} {h:Heap} {args:List WData} {vals:List Value}
  (hpre:l.row.toRowW.claim.pre args=true) (hwl:WellAll P h vals args) :
  ∃ a vs ns,vals=[Value.ref a]/\args=[WData.list (ns.map WData.int)]/\h.get? a=some { cls:=.type "list",data:=.seq vs.toArray }/\IntsAre vs ns/\ns.length<=n:=by
 have hsh:WShape.hasAll [] args [.list .int]=true:=(pre_splitW hpre).1;have hc:l.pre.holds [] { args:=args }=true:=(pre_splitW hpre).2;obtain⟨d,r,rfl,h1,h2⟩:=hasAllW_cons hsh;obtain rfl:=hasAllW_nil h2;obtain⟨xs,rfl,h3⟩:=hasW_list h1;obtain⟨ns,rfl⟩:=items_int h3;have hlen:ns.length<=n:=by
  unfold OpenLaw.pre at hc;have h4:(WTm.not (.lt (.lit (.int (n:Int))) (.len (.arg 0)))).holds [] { args:=[.list (ns.map .int)] }=true:=by
   have h4:=(holds_andW hc).1;rw[hn]at h4;exact h4
  have h5:=condW_of h4 (w_not (w_lt w_lit (w_len_list (w_arg rfl))));rw[hA1]at h5;refine Nat.le_of_not_lt fun q=>?_
  have q':(n:Int)<((ns.length:Nat):Int):=by omega
  first
   | (rw[decide_eq_true q']at h5;exact absurd h5 (by decide))
   | (simp at h5;omega)
 cases hwl with
 | cons w1 w2 =>
  cases w2;cases w1 with
  | list ho hall=>exact⟨_,_,ns,rfl,rfl,ho,qFn ns _ hall,hlen⟩
theorem post_true (l:OpenLaw) (args:List WData):l.row.toRowW.claim.post args (.bool true) args=true :=
 postW_of (r:=l.row.toRowW) (X:=(true == true))
  (show WShape.has [] (.bool true) .bool=true by first | rfl | decide | simp[WShape.has,WShape.arms,WShape.armsAll])
  (show(WTm.eq .res (.lit (.bool true))).value [] { args:=args,res:=some (.bool true),after:=args }=some (.bool (true == true)) from w_eq_bool (w_res rfl) w_lit) rfl
theorem attach_call {l:OpenLaw} {n:Nat} {q:Program} {loose:List Str} {XP:(Str->Option Value)->Heap->Prop} {YP:World->Heap->Prop} {d:DefRec}
  (hn:l.most=some n) (hdf:d.params.defaults=[])
  (call:∀ (w:World) (s₀ s₁:Shared) (mg mb:Str->Option Value) (fa:Addr) (o:Obj) (pm cd doc:Value) (a:Addr) (vs:List Value) (ns:List Int),
   Ground q loose [] XP w s₀ mg mb s₁.heap->YP w s₁.heap ->
   s₁.heap.get? fa=some o->o.data = .func (docDef d.name d.params d.body d.scope pm cd doc)->s₁.heap.CodeRec cd d.name->mg d.name=some (.ref fa) ->
   s₁.heap.get? a=some { cls:=.type "list",data:=.seq vs.toArray }->IntsAre vs ns->ns.length<=n->s₁.gens=#[] ->
   codeAny (model l.prog w) callerA (.call (.ref fa) ⟨[.ref a],[]⟩) (fun r s'=>r = .ok (.ret (.bool true))/\OldK s₁.heap s'.heap/\s'.os=s₁.os/\AllBare s'.gens) s₁) :
  WalkO q loose XP YP l.row.toRowW d [] (fun f vs=>PySem.call f vs):=by
 intro w s₀ s₁ mg mb G Y fa o pm cd doc dV kV ho hd hcd hD hmg hg args vals as hpre hlay hrd hwl hlo;obtain rfl:dV = .none:=Dflts.none hD hdf;obtain rfl:kV = .none:=Dflts.noKw hD;obtain⟨a,vs,ns,rfl,rfl,hobj,hints,hlen⟩:=script_of hn hpre hwl;refine enter_call (codeAny_mono (call w s₀ s₁ mg mb fa o pm cd doc a vs ns G Y ho (fd_plain hd) hcd hmg hobj hints hlen hg) fun r s' hq=>?_);obtain⟨rfl,h2,h3,h4⟩:=hq;exact⟨.inl ⟨.bool true,.bool true,[],rfl,fun _=>rfl,.bool true,post_true l _,fun _=>⟨List.Pairwise.nil,fun _ hm=>(nomatch hm)⟩⟩,h2,h3,h4⟩
section
variable {prog:Program} {w:World} {A:Around} {E:Value->Shared->Prop} {s:Shared} {K:Frag}
def ledger (h:Heap) (L d:Addr):List (Addr×Obj):=(List.range h.objs.size).filterMap fun a=>if a=L\/a=d then none else (h.get? a).map fun o=>(a,o)
end
end Att
namespace L2
open PySem PySem.Spec PyProof.Rows
theorem vals_ints:∀ {vs:List Value} {ns:List Int},IntsAre vs ns->qA5 (ns.map V.int) vs
 | _,_,.nil=>.nil
 | _,_,.cons n t h=>.cons ⟨t,rfl⟩ (vals_ints h)
def Only (H:Hp):Prop:=∀ b,H b=none\/∃ o xs,H b=some (.frz o (.lst xs))
theorem law_call {P:Program} {w:World} {K:PySem.W.Frag} {mg mb:Str->Option Value} {CX:CXT} {k:Nat} {fa a:Addr} {fd:FuncData} {x:Str} {sp:Sp} {s₁:Shared} {vs:List Value} {ns:List Int}
  (KX:K.In s₁.heap) (hns:s₁.heap.Ns mainGlobals mg) (hb:s₁.heap.Ns builtinsNs mb) (hbb:∀ x:Str,x≠"__name__"->mb x=bootBuiltins x) (hlim:s₁.heap.NoLimit) (hg:s₁.gens=#[])
  (ha:s₁.heap.get? a=some { cls:=.type "list",data:=.seq vs.toArray }) (hi:IntsAre vs ns) (hl:ns.length<=sizeLine) (hr:Room k callerA)
  (F:∀ base:Heap,K.In base->base.Ns mainGlobals mg->FnOk P w K mg base CX k fa fd [x] sp) (hbind:∀ (s:Shared) (u:Value),BindsTo s fd ⟨[u],[]⟩ [(x,u)])
  (hsp:∀ H:Hp,Only H->SqL K H a (ns.map V.int)->sp [.ref a] H (fun v _=>v = .bl true) fun _ _ _=>False)
  (hCX:∀ H e s',CX [] H s₁ (fun _ _ _=>False) e s'->False) :
  codeAny (model P w) callerA (.call (.ref fa) ⟨[.ref a],[]⟩) (fun r s'=>r = .ok (.ret (.bool true))/\OldK s₁.heap s'.heap/\s'.os=s₁.os/\AllBare s'.gens) s₁:=by
 have rv:=vals_ints hi;have lenV:=hi.length;have core:∀ H:Hp,Only H->SqL K H a (ns.map V.int)->HOk P w H s₁.heap->(∀ b,H b≠none->b=a)->(H a≠none->K.lookup a=none) ->
   codeAny (model P w) callerA (.call (.ref fa) ⟨[.ref a],[]⟩) (fun r s'=>r = .ok (.ret (.bool true))/\OldK s₁.heap s'.heap/\s'.os=s₁.os/\AllBare s'.gens) s₁:=by
  intro H hO hS hok hA hK;have base_of:∀ {b:Addr} {o:Obj},s₁.heap.get? b=some o->H b=none->(hidT s₁.heap H).get? b=some o:=fun e n=>hidT_get e n
  have noA:∀ {b:Addr} {o:Obj} {es:Array DictEntry} {ep:Nat},s₁.heap.get? b=some o->o.data = .dict es ep->H b=none:=fun {b o es ep} e d=>by
   cases q:H b with
   | none=>rfl
   | some u =>
    have e':b=a:=hA b (by rw[q];simp);subst e';rw[ha]at e;cases e;have d':Data.seq vs.toArray _=Data.dict es ep:=d;cases d'
  have nsK:∀ {b:Addr} {m:Str->Option Value},s₁.heap.Ns b m->(hidT s₁.heap H).Ns b m:=fun {b m} ⟨o,es,ep,e,d,r⟩=>⟨o,es,ep,base_of e (noA e d),d,r⟩
  have hKb:K.In (hidT s₁.heap H):=fun b o e=>base_of (KX b o e) (by
   cases q:H b with
   | none=>rfl
   | some u =>
    have e':b=a:=hA b (by rw[q];simp);subst e';rw[hK (by rw[q];simp)]at e;cases e)
  have hM:Mod K mg (hidT s₁.heap H):=⟨hKb,nsK hns,⟨mb,nsK hb,hbb⟩,let ⟨mc,h1,h2⟩:=hlim;⟨mc,nsK h1,h2⟩⟩;have e0:Env0 P w K mg (hidT s₁.heap H) callerA [] s₁ H:=⟨rfl,hM,fun b o e=>of_hidT e,Nat.le_of_eq (hidT_size _ _),trivial,fun b hb=>absurd (show b∈([]:List Addr) from hb) (by simp),hok,.of_eq hg⟩;refine codeAny_mono ((F _ hKb (nsK hns)).run callerA [] s₁ H ⟨[.ref a],[]⟩ [.ref a] [.ref a] _ _ hr e0 (hbind s₁ (.ref a)) (.cons rfl .nil) (hsp H hO hS)) fun r s' h=>?_
  cases r with
  | error e=>exact(hCX H e s' h).elim
  | ok fl =>
   cases fl with
   | next=>exact False.elim h
   | brk=>exact False.elim h
   | cont=>exact False.elim h
   | ret u =>
    obtain⟨v,H',os,bare,un,hok',r',q⟩:=h;have q':v = .bl true:=q;subst q';obtain rfl:u=Value.bool true:=r';refine⟨rfl,OldK.of_keep fun b o e=>?_,os,bare⟩;cases q:H b with
    | none=>exact un.keep b o e q (by intro z;exact absurd (show b∈([]:List Addr) from z) (by simp)) (by simp)
    | some u =>
     rcases hO b with z | ⟨ob,xs,z⟩
     ·rw[q]at z;cases z
     ·have z2:=un.frzs b ob _ z;obtain⟨e1,_⟩:=hok b _ z;obtain⟨e2,_⟩:=hok' b _ z2;rw[e]at e1;cases e1;exact e2
 cases hk:K.lookup a with
 | some o =>
  have e:=KX a o hk;rw[ha]at e;cases e;refine core (fun _=>none) (fun _=>.inl rfl) (.inr ⟨_,vs.toArray,_,hk,rfl,rfl,rfl,by rw[hAe,lenV];exact hl,by simpa using rv⟩) (fun b u z=>by have z':(none:Option HO)=some u:=z;cases z') (fun b z=>absurd rfl z) fun z=>absurd rfl z
 | none =>
  refine core (fun b=>if b=a then some (.frz { cls:=.type "list",data:=.seq vs.toArray } (.lst (ns.map V.int))) else none) (fun b=>?_) (.inl (.inr ⟨{ cls:=.type "list",data:=.seq vs.toArray },if_pos rfl⟩)) (fun b u z=>?_) (fun b z=>?_) fun _=>hk
  ·by_cases hb:b=a
   ·exact .inr ⟨_,_,if_pos hb⟩
   ·exact .inl (if_neg hb)
  ·by_cases hb:b=a
   ·have z':=(if_pos hb).symm.trans z;cases z';subst hb;exact⟨ha,by rw[hA1];exact hl,vs,_,rv,ha⟩
   ·have z':=(if_neg hb).symm.trans z;cases z'
  ·by_cases hb:b=a
   ·exact hb
   ·exact absurd (if_neg hb) z
end L2
namespace L2
open PySem PySem.Spec PyProof.Rows
theorem walk_of {l:PySem.W.OpenLaw} {n k:Nat} {q:Program} {loose:List Str} {XP:(Str->Option Value)->Heap->Prop} {YP:World->Heap->Prop} {d:DefRec} {K:Params->PySem.W.Frag} {CX:World->CXT} {sp:World->Sp} {x:Str}
  (hn:l.most=some n) (hn2:n<=sizeLine) (hdf:d.params.defaults=[]) (hr:Room k callerA)
  (hY:∀ (w:World) (h:Heap),YP w h->(K w.params).In h)
  (F:∀ (w:World) (mg:Str->Option Value) (fa:Addr) (h:Heap),(K w.params).In h->h.Ns mainGlobals mg->mg d.name=some (.ref fa) ->
   ∃ fd:FuncData,(∀ (s:Shared) (u:Value),BindsTo s fd ⟨[u],[]⟩ [(x,u)]) /\
    ∀ base:Heap,(K w.params).In base->base.Ns mainGlobals mg->FnOk l.prog w (K w.params) mg base (CX w) k fa fd [x] (sp w))
  (hsp:∀ (w:World) (H:Hp) (a:Addr) (ns:List Int),ns.length<=n->Only H->SqL (K w.params) H a (ns.map V.int)->sp w [.ref a] H (fun v _=>v = .bl true) fun _ _ _=>False)
  (hCX:∀ (w:World) (H:Hp) (s:Shared) (e:Value) (s':Shared),CX w [] H s (fun _ _ _=>False) e s'->False) :
  PySem.W.WalkO q loose XP YP l.row.toRowW d [] (fun f vs=>PySem.call f vs):=by
 refine Att.attach_call hn hdf fun w s₀ s₁ mg mb fa o pm cd doc a vs ns G Y ho hd hcd hmg hobj hints hlen hg=>?_
 have KX:=hY w _ Y;obtain⟨fd,hb,hF⟩:=F w mg fa _ KX G.T.g hmg;exact law_call KX G.T.g G.T.b G.T.builtins G.T.nolimit hg hobj hints (hB7 hlen hn2) hr hF hb (fun H hO hS=>hsp w H a ns hlen hO hS) fun H e s'=>hCX w H s₁ e s'
end L2
namespace L2
open PySem PySem.Spec PyProof.Rows
def qAo (s:Stmt):Arguments:=match s with
 | .FunctionDef _ a _ _ _ _ _ _ _ _=>a
 | _=>{ posonlyargs:=[],args:=[],vararg:=none,kwonlyargs:=[],kw_defaults:=[],kwarg:=none,defaults:=[] }
def qAn (s:Stmt):List Stmt:=match s with
 | .FunctionDef _ _ b _ _ _ _ _ _ _=>b
 | _=>[]
def qAd (s:Stmt):Scope:=match s with
 | .FunctionDef _ _ _ _ _ _ sc _ _ _=>sc
 | _=>{ kind:=.function,names:=[],isGenerator:=false,isCoroutine:=false }
abbrev CX0:CXT:=fun _ _ _ _ _ _=>False
abbrev E0:XK:=fun _ _ _=>False
theorem qAw:Passes CX0 X E0:=fun _ _ _ _ _ _ _ h=>h.elim
structure Fun (K:PySem.W.Frag) (x qual:Str) (st:Stmt) (f:Addr) (fd:FuncData):Prop where
 ex:∃ (oc:Value) (od:Option Addr) (kV doc pm:Value) (an:Option Addr) (cdv ct:Value) (osl:Array (Option Value)),
  fd=PySem.W.fnOf x qual (qAo st) (qAn st) (qAd st) .none kV doc pm an cdv ct/\K.lookup f=some ⟨oc,od,.func fd,osl⟩/\PySem.W.codeIn K cdv qual=true
 kp:PySem.W.keepIn K (.ref f)=true
section
variable {P:Program} {w:World} {K:PySem.W.Frag} {mg:Str->Option Value} {base:Heap}
theorem Fun.ok {x qual:Str} {st:Stmt} {f:Addr} {fd:FuncData} {N ps:List Str} {k:Nat} {sp:Sp} (F:Fun K x qual st f fd) (S:FnScope N ps (qAd st)) (len:∀ vs H Q E,sp vs H Q E->vs.length=ps.length)
  (hbody:∀ (cdv:Value) (A:Around) (outer:List Env) (s:Shared) (H:Hp) (vs:List V) (Q:VK) (E:XK),Room k (A.deeper (envOfC qual (qAd st) s.heap.objs.size f cdv))->sp vs H Q E ->
   ∃ t,PSs (cxOf CX0 P w K mg base N qual (qAd st) f cdv A outer s H E).nox (qAn st) t/\t { nx:=fun _ H'=>Q .non H',rt:=Q } (start N vs) H):FnOk P w K mg base CX0 (k+1) f fd ps sp:=by
 obtain⟨oc,od,kV,doc,pm,an,cdv,ct,osl,rfl,lk,hcd⟩:=F.ex;refine fn_of lk hcd S len fun A outer s H vs Q E hr hsp=>?_
 obtain⟨t,h,q⟩:=hbody cdv A outer s H vs Q E hr hsp;exact⟨t,h.nox,q⟩
theorem Fun.binds {x qual:Str} {st:Stmt} {f:Addr} {fd:FuncData} {ps:List Str} (F:Fun K x qual st f fd)
  (h:∀ (kV doc pm:Value) (an:Option Addr) (cdv ct:Value) (us:List Value),us.length=ps.length->bindArgs (PySem.W.fnOf x qual (qAo st) (qAn st) (qAd st) .none kV doc pm an cdv ct) ⟨us,[]⟩=pure (ps.zip us)):Binds K fd ps []:=by
 obtain⟨oc,od,kV,doc,pm,an,cdv,ct,osl,rfl,lk,hcd⟩:=F.ex;exact .all (h kV doc pm an cdv ct)
theorem qAy {x qual:Str} {st:Stmt} {f:Addr} {oc:Value} {od an:Option Addr} {osl:Array (Option Value)} {kV doc pm cdv ct:Value} (l:K.lookup f=some ⟨oc,od,.func (PySem.W.fnOf x qual (qAo st) (qAn st) (qAd st) .none kV doc pm an cdv ct),osl⟩)
  (c:PySem.W.codeIn K cdv qual=true) (k:PySem.W.keepIn K (.ref f)=true):Fun K x qual st f (PySem.W.fnOf x qual (qAo st) (qAn st) (qAd st) .none kV doc pm an cdv ct):=⟨⟨oc,od,kV,doc,pm,an,cdv,ct,osl,rfl,l,c⟩,k⟩
end
theorem hu_of (hr:Room k A):A.units+1<cLine:=Nat.lt_of_le_of_lt (Nat.add_le_add_left (by decide:1<=64) _) hr.units
theorem qAi (h:n<=1000):n<sizeLine:=Nat.lt_of_le_of_lt h (by decide)
section
variable {X:Cx}
theorem pv (i:Nat) (hN:X.N[i]?=some x:=by rfl) (hv:Vis X.env.scope x:=by first | exact Or.inl rfl | exact Or.inr (Or.inl rfl) | exact Or.inr (Or.inr rfl)) (hd:(x == ("__debug__" : Str))=false:=by decide)
  (hcd:(x == ("__classdict__" : Str))=false:=by decide):PE X (.Name x pos) (tVar i):=pe_var hN hv hd hcd
end
theorem qEp {A B:Prop} (h:B):if false=true then A else B:=by
 rw[if_neg hAm];exact h
theorem iteT {A B:Prop} (h:A):if true=true then A else B:=by
 rw[if_pos rfl];exact h
theorem qCb {c A B:Prop} [Decidable c] (h1:c->A) (h2:¬c->B):if c then A else B:=by
 by_cases h:c
 ·rw[if_pos h];exact h1 h
 ·rw[if_neg h];exact h2 h
end L2
set_option linter.all false
namespace L2
open PySem PySem.Spec PyProof.Rows
section
variable {κ:Type} [DecidableEq κ]
def valV (kvs:List (κ×V)) (k:κ):Option V:=(kvs.find? fun kv=>decide (kv.1=k)).map (·.2)
def putK (kvs:List (κ×V)) (k:κ) (v:V):List (κ×V) :=
 if (kvs.any fun kv=>decide (kv.1=k))=true then kvs.map (fun kv=>if kv.1=k then (kv.1,v) else kv) else kvs++[(k,v)]
theorem qBt {p:κ×V} {r:List (κ×V)} {k:κ} (e:p.1=k):valV (p :: r) k=some p.2:=by simp[valV,hCn,e]
theorem qBu {p:κ×V} {r:List (κ×V)} {k:κ} (e:¬p.1=k):valV (p :: r) k=valV r k:=by simp[valV,hCn,e]
theorem qDc (k:κ):∀ kvs:List (κ×V),(kvs.any fun kv=>decide (kv.1=k))=(valV kvs k).isSome
 | []=>rfl
 | p :: r=>by
  rw[hCr];by_cases e:p.1=k
  ·simp only[qBt e,decide_eq_true e,Bool.true_or,Option.isSome_some]
  ·rw[qBu e,decide_eq_false e,Bool.false_or];exact qDc k r
theorem valV_map (k j:κ) (y:V):∀ kvs:List (κ×V),valV (kvs.map fun kv=>if kv.1=k then (kv.1,y) else kv) j=(valV kvs j).map fun x=>if j=k then y else x
 | []=>rfl
 | p :: r=>by
  have ih:=valV_map k j y r;rw[hAu];by_cases h:p.1=k
  ·rw[if_pos h];by_cases e:p.1=j
   ·rw[qBt (p:=(p.1,y)) e,qBt e,hC0,if_pos (e.symm.trans h)]
   ·rw[qBu (p:=(p.1,y)) e,qBu e,ih]
  ·rw[if_neg h];by_cases e:p.1=j
   ·rw[qBt (p:=p) e,qBt e,hC0,if_neg (fun z=>h (e.trans z))]
   ·rw[qBu (p:=p) e,qBu e,ih]
theorem valV_snoc (k j:κ) (y:V):∀ kvs:List (κ×V),valV kvs k=none->valV (kvs++[(k,y)]) j=if j=k then some y else valV kvs j
 | [],_=>by
  by_cases e:k=j
  ·rw[if_pos e.symm];exact qBt (p:=(k,y)) e
  ·rw[if_neg (fun z=>e z.symm)];exact qBu (p:=(k,y)) e
 | p :: r,hn=>by
  rw[List.cons_append];have hk:¬p.1=k:=fun z=>by rw[qBt z]at hn;cases hn
  rw[qBu hk]at hn;have ih:=valV_snoc k j y r hn;by_cases e:p.1=j
  ·rw[qBt e,qBt e,if_neg (fun z=>hk (e.trans z))]
  ·rw[qBu e,qBu e,ih]
theorem valV_put (kvs:List (κ×V)) (k j:κ) (y:V):valV (putK kvs k y) j=if j=k then some y else valV kvs j:=by
 unfold putK;by_cases a:(kvs.any fun kv=>decide (kv.1=k))=true
 ·rw[if_pos a,valV_map];rw[qDc]at a;by_cases e:j=k
  ·obtain⟨x,hx⟩:=hCd.mp a;rw[if_pos e,e,hx,hC0,if_pos rfl]
  ·rw[if_neg e];cases valV kvs j with
   | none=>rfl
   | some x=>rw[hC0,if_neg e]
 ·rw[if_neg a];refine valV_snoc k j y kvs ?_;rw[qDc]at a;cases q:valV kvs k with
  | none=>rfl
  | some x=>rw[q]at a;exact(a rfl).elim
theorem qFm (kvs:List (κ×V)) (k:κ) (v:V):(putK kvs k v).length<=kvs.length+1:=by
 unfold putK;split
 ·rw[hA1];omega
 ·rw[hAf,hBd,List.length_nil];omega
theorem RelO.isSome_eq (r:RelO o u):o.isSome=u.isSome:=by
 cases o with
 | none=>cases u with
  | none=>rfl
  | some _=>exact(show False from r).elim
 | some _=>cases u with
  | none=>exact(show False from r).elim
  | some _=>rfl
theorem RelO.getD (r:RelO o u) (rd:qBn d d'):qBn (o.getD d) (u.getD d'):=by
 cases o with
 | none=>cases u with
  | none=>exact rd
  | some _=>exact(show False from r).elim
 | some _=>cases u with
  | none=>exact(show False from r).elim
  | some _=>exact r
theorem KV.val {kvs:List (κ×V)} {vs:List (κ×Value)} (r:KV kvs vs) (k:κ):RelO (valV kvs k) (valueAt vs k):=by
 unfold KV at r
 induction r with
 | nil=>exact True.intro
 | @cons p q ps qs h t ih =>
  obtain⟨h1,h2⟩:=h;by_cases e:p.1=k
  ·have e':q.1=k:=h1.symm.trans e;have b:valueAt (q :: qs) k=some q.2:=by simp[valueAt,hCn,e']
   rw[qBt e,b];exact h2
  ·have e':¬q.1=k:=fun z=>e (h1.trans z)
   have b:valueAt (q :: qs) k=valueAt qs k:=by simp[valueAt,hCn,e']
   rw[qBu e,b];exact ih
theorem KV.any (r:KV kvs vs) (k:κ):(kvs.any fun kv=>decide (kv.1=k))=vs.any fun kv=>decide (kv.1=k):=by
 unfold KV at r
 induction r with
 | nil=>rfl
 | cons h t ih=>rw[hCr,hCr,ih,h.1]
theorem KV.repl (r:KV kvs vs) (k:κ) (ry:qBn y u) :
  KV (kvs.map fun kv=>if kv.1=k then (kv.1,y) else kv) (vs.map fun kv=>if kv.1=k then (kv.1,u) else kv):=by
 unfold KV at r ⊢
 induction r with
 | nil=>exact .nil
 | @cons p q ps qs h t ih =>
  rw[hAu,hAu];refine .cons ?_ ih;obtain⟨h1,h2⟩:=h;by_cases e:p.1=k
  ·rw[if_pos e,if_pos (h1.symm.trans e)];exact⟨h1,ry⟩
  ·rw[if_neg e,if_neg (fun z=>e (h1.trans z))];exact⟨h1,h2⟩
theorem KV.put (r:KV kvs vs) (k:κ) (ry:qBn y u):KV (putK kvs k y) (stored vs k u):=by
 unfold putK stored;rw[r.any k];by_cases e:(vs.any fun kv=>decide (kv.1=k))=true
 ·rw[if_pos e,if_pos e];exact r.repl k ry
 ·rw[if_neg e,if_neg e];exact Paired.snoc r ⟨rfl,ry⟩
theorem KV.keys {kvs:List (κ×V)} {vs:List (κ×Value)} (r:KV kvs vs):kvs.map (·.1)=vs.map (·.1):=by
 unfold KV at r
 induction r with
 | nil=>rfl
 | cons h t ih=>rw[hAu,hAu,ih,h.1]
theorem KV.length (r:KV kvs vs):kvs.length=vs.length:=Paired.length r
end
theorem kV_is (r:qBn (kV k) u):(qBb P w).is k u=true:=by
 cases k with
 | inl i=>obtain⟨t,e⟩:=(show ∃ t,u=Value.int i t from r);subst e;exact mixKind_int P w i t
 | inr x=>obtain⟨t,e⟩:=(show ∃ t,u=Value.str x t from r);subst e;exact mixKind_str P w x t
theorem items_are:∀ {ks:List Key} {us:List Value},qA5 (ks.map kV) us->ItemsAre (qBb P w) ks us
 | [],_,r=>by rw[List.map_nil]at r;cases r;exact .nil
 | k :: ks,_,r=>by
  rw[hAu]at r;cases r with
  | cons h t=>exact .cons (kV_is h) (items_are t)
abbrev KT (H:Hp):List (List Key×V)->List (List Key×Addr×Value)->Prop:=Paired fun p q=>p.1=q.1/\H q.2.1=some (.tup (p.1.map kV))/\qBn p.2 q.2.2
theorem KT.val {H:Hp} {kvs:List (List Key×V)} {xs:List (List Key×Addr×Value)} (r:KT H kvs xs) (k:List Key):RelO (valV kvs k) ((atKey xs k).map (·.2)):=by
 induction r with
 | nil=>exact True.intro
 | @cons p q ps qs h t ih =>
  obtain⟨h1,_,h2⟩:=h;by_cases e:p.1=k
  ·have e':q.1=k:=h1.symm.trans e;have b:atKey (q :: qs) k=some q.2:=by simp[atKey,hCn,e']
   rw[qBt e,b];exact h2
  ·have e':¬q.1=k:=fun z=>e (h1.trans z)
   have b:atKey (q :: qs) k=atKey qs k:=by simp[atKey,hCn,e']
   rw[qBu e,b];exact ih
theorem KT.repl (r:KT H kvs xs) (k:List Key) (ry:qBn y u) :
  KT H (kvs.map fun kv=>if kv.1=k then (kv.1,y) else kv) (xs.map (putAt k u)):=by
 induction r with
 | nil=>exact .nil
 | @cons p q ps qs h t ih =>
  rw[hAu,hAu];refine .cons ?_ ih;obtain⟨h1,h2,h3⟩:=h;unfold putAt;by_cases e:p.1=k
  ·rw[if_pos e,if_pos (h1.symm.trans e)];exact⟨h1,h2,ry⟩
  ·rw[if_neg e,if_neg (fun z=>e (h1.trans z))];exact⟨h1,h2,h3⟩
theorem KT.put (r:KT H kvs xs) (k:List Key) (hb:H b=some (.tup (k.map kV))) (ry:qBn y u) :
  KT H (putK kvs k y) (storedH xs k b u):=by
 have e:(kvs.any fun kv=>decide (kv.1=k))=(atKey xs k).isSome:=by
  rw[qDc,(r.val k).isSome_eq,Option.isSome_map]
 unfold putK storedH;rw[e];by_cases q:(atKey xs k).isSome=true
 ·rw[if_pos q,if_pos q];exact r.repl k ry
 ·rw[if_neg q,if_neg q];exact Paired.snoc r ⟨rfl,hb,ry⟩
theorem KT.keeps (r:KT H kvs xs) (ht:∀ b ys,H b=some (.tup ys)->H' b=some (.tup ys)):KT H' kvs xs :=
 Paired.mapP r fun _ _ z=>⟨z.1,ht _ _ z.2.1,z.2.2⟩
section
variable {P:Program} {w:World} {H:Hp} {h:Heap} {a:Addr}
theorem rd_of (ok:HOk P w H h) (e:Rd H a u):qBs P w H h a u:=e.ok ok
theorem dk_rd (ok:HOk P w H h) (e:Rd H a (.dK kvs)):kvs.length<=sizeLine/\(a == sysModules)=false/\∃ vs,KV kvs vs/\h.DictOf (qBb P w) a vs :=
 show qBs P w H h a (.dK kvs) from rd_of ok e
theorem dk_of (ok:HOk P w H h) (e:H a=some (.dK kvs)):kvs.length<=sizeLine/\(a == sysModules)=false/\∃ vs,KV kvs vs/\h.DictOf (qBb P w) a vs:=dk_rd ok (.inl e)
theorem key_of (ok:HOk P w H h) (e:H a=some (.tup (ks.map kV))):(tupleKind (qBb P w)).is h ks a:=by
 obtain⟨_,its,r,o,h1,h2,n,h3⟩:=(show qBs P w H h a (.tup (ks.map kV)) from ok a _ e);exact⟨o,its.toArray,n,h1,h2,h3,by simpa using items_are r⟩
theorem dt_rd (ok:HOk P w H h) (e:Rd H a (.dT kvs)):kvs.length<=sizeLine/\(a == sysModules)=false /\
  ∃ xs,KT H kvs xs/\h.DictOfH (tupleKind (qBb P w)) a xs:=by
 obtain⟨z,y,xs,r,o,es,ep,h1,h2,h3,h4,h5⟩:=(show qBs P w H h a (.dT kvs) from rd_of ok e);refine⟨z,y,xs,r,o,es,ep,h1,h2,h3,h4,fun x hx=>?_,h5⟩;have all:∀ {l:List (List Key×V)} {m:List (List Key×Addr×Value)},KT H l m->∀ x∈m,(tupleKind (qBb P w)).is h x.1 x.2.1:=by
  intro l m q
  induction q with
  | nil=>intro x hx;exact nomatch hx
  | @cons p q ps qs hq t ih =>
   intro x hx;rcases hAc.mp hx with e | hx
   ·subst e;exact key_of ok (by rw[<-hq.1];exact hq.2.1)
   ·exact ih x hx
 exact all r x hx
theorem dt_of (ok:HOk P w H h) (e:H a=some (.dT kvs)):kvs.length<=sizeLine/\(a == sysModules)=false /\
  ∃ xs,KT H kvs xs/\h.DictOfH (tupleKind (qBb P w)) a xs:=dt_rd ok (.inl e)
end
def DGet (H:Hp) (a:Addr) (y:V) (r:Option V):Prop :=
 (∃ kvs k,Rd H a (.dK kvs)/\y=kV k/\r=valV kvs k)\/∃ kvs k b,Rd H a (.dT kvs)/\y = .ref b/\H b=some (.tup (k.map kV))/\r=valV kvs k
def DPut (H:Hp) (a:Addr) (y v:V) (H':Hp):Prop :=
 (∃ kvs k,H a=some (.dK kvs)/\y=kV k/\kvs.length<sizeLine/\H'=upd H a (.dK (putK kvs k v))) \/
 ∃ kvs k b,H a=some (.dT kvs)/\y = .ref b/\H b=some (.tup (k.map kV))/\kvs.length<sizeLine/\H'=upd H a (.dT (putK kvs k v))
theorem DGet.k {H:Hp} {a:Addr} {kvs:List (Key×V)} {k:Key} (e:H a=some (.dK kvs)):DGet H a (kV k) (valV kvs k):=.inl ⟨kvs,k,.inl e,rfl,rfl⟩
theorem DPut.k {H:Hp} {a:Addr} {kvs:List (Key×V)} {k:Key} {v:V} (e:H a=some (.dK kvs)) (hl:kvs.length<sizeLine):DPut H a (kV k) v (upd H a (.dK (putK kvs k v))):=.inl ⟨kvs,k,e,rfl,hl,rfl⟩
section
variable {X:Cx} {pins:List (Addr×Obj)} {σ:St} {H:Hp} {s:Shared} {a:Addr} {y v:V} {u r:Value} {o:Option V} {A:Around} {E:Value->Shared->Prop}
theorem Inv.big (I:Inv X pins σ H s):sysModules<s.heap.objs.size:=by
 have h:mainGlobals<s.heap.objs.size:=(I.mod.glob.keeps I.bk).lt;exact Nat.lt_trans (by decide) h
theorem d_getItem (hu:A.units+1<cLine) (I:Inv X pins σ H s) (g:DGet H a y (some v)) (ry:qBn y u) (h:∀ w' s',Inv X pins σ H s'->qBn v w'->Q w' s') :
  wpAny (model X.prog X.w) A (getItem (.ref a) u) Q E s:=by
 rcases g with ⟨kvs,k,e,ey,l⟩ | ⟨kvs,k,b,e,ey,eb,l⟩
 ·subst ey;obtain⟨z,hd,vs,rel,dd⟩:=dk_rd I.hok e;obtain⟨w',hw,rw'⟩:=RelO.some_of (v:=v) (o:=valueAt vs k) (by rw[l];exact rel.val k);exact wpAny_getItem_of (kV_is ry) dd.mapOf hw (h w' _ (I.tok _) rw')
 ·subst ey;cases(show u=Value.ref b from ry);obtain⟨z,hd,xs,rel,dd⟩:=dt_rd I.hok e;obtain⟨w',hw,rw'⟩:=RelO.some_of (v:=v) (o:=(atKey xs k).map (·.2)) (by rw[l];exact rel.val k);obtain⟨p,hp,hp2⟩:=Option.map_eq_some_iff.mp hw;refine wpAny_getItem_heap (tupleKind_room_in1 hu) (key_of I.hok eb) dd hp ?_;rw[hp2];exact h w' _ (I.tok _) rw'
theorem d_write (I:Inv X pins σ H s) (mu:Mut (H a)) (hs:Heap.SameBut a s.heap h') (he:∃ q,h'.get? a=some q) (new:qBs X.prog X.w (upd H a ob) h' a ob) :
  Inv X pins σ (upd H a ob) { s with heap:=h',toks:=t' } :=
 I.write (x:=a) (e:=a) mu (.inl rfl) (fun b q hb z=>(hs.2 b hb).trans z) he new
theorem dk_new (z:kvs.length<=sizeLine) (hd:(a == sysModules)=false) (rel:KV kvs vs) (dd:h'.DictOf (qBb P w) a vs) :
  qBs P w H' h' a (.dK kvs):=⟨z,hd,vs,rel,dd⟩
theorem d_setItem (hu:A.units+1<cLine) (I:Inv X pins σ H s) (g:DPut H a y v H') (ry:qBn y u) (rv:qBn v r) (h:∀ s',Inv X pins σ H' s'->Q () s') :
  wpAny (model X.prog X.w) A (setItem (.ref a) u r) Q E s:=by
 rcases g with ⟨kvs,k,e,ey,l,eH⟩ | ⟨kvs,k,b,e,ey,eb,l,eH⟩
 ·subst ey eH;obtain⟨z,hd,vs,rel,dd⟩:=dk_of I.hok e;have hz:vs.length<=sizeLine:=by rw[<-rel.length];exact z
  have hl:(putK kvs k v).length<=sizeLine:=by have:=qFm kvs k v;omega
  refine wpAny_setItem_pairs (hsz:=hz) (kV_is ry) dd fun h' dd' hs=>h _ ?_
  have he:∃ q,h'.get? a=some q:=let ⟨q,_,_,hq,_⟩:=dd';⟨q,hq⟩;exact d_write I (by rw[e];exact True.intro) hs he (dk_new hl hd (rel.put k rv) dd')
 ·subst ey eH;cases(show u=Value.ref b from ry);obtain⟨z,hd,xs,rel,dd⟩:=dt_of I.hok e;have hz:xs.length<=sizeLine:=by rw[<-Paired.length rel];exact z
  have hl:(putK kvs k v).length<=sizeLine:=by have:=qFm kvs k v;omega
  refine wpAny_setItem_heap (hsz:=hz) (tupleKind_room_in1 hu) (key_of I.hok eb) dd fun h' dd' hs=>h _ ?_
  obtain⟨q,es,ep,hq,h2,h3,h4,_,h5⟩:=dd';refine d_write I (by rw[e];exact True.intro) hs ⟨q,hq⟩ ⟨hl,hd,_,(rel.put k eb rv).keeps fun c ys ec=>?_,q,es,ep,hq,h2,h3,h4,h5⟩;rw[qAh (ne_of ec e (fun z=>nomatch z))];exact ec
end
def NoSl (i:Expr):Prop:=∀ ov iv,subscripted i false ov iv=operate [ov,iv] (getItem ov iv)
theorem subD_of {prog:Program} {w:World} {A:Around} {E:Value->Shared->Prop} {s:Shared} {env:Env} {value slice:Expr} {pos:Pos} {T id:String} {Q:Value->Shared->Prop}
  (hl:typeLookup (.type T) "__getitem__" = pure (some (.builtin id))) (hs:NoSl slice)
  (h:wpAny (model prog w) A (eval value env) (fun o s₁=>wpAny (model prog w) A (eval slice env) (fun i s₂=>s₂.TypeIs o T/\wpAny (model prog w) A (getItem o i) Q E s₂) E s₁) E s) :
  wpAny (model prog w) A (eval (.Subscript value slice pos) env) Q E s:=by
 refine Subscript_ (wpAny_mono h (fun o s₁ h₁=>wpAny_mono h₁ (fun i s₂ h₂=>?_) fun _ _ x=>x) fun _ _ x=>x);obtain⟨hT,h₂⟩:=h₂;unfold subscriptTail;refine wpAny_bind ?_;rw[getitemInPython_of_ne hT.not_modules];refine wpAny_bind (wpAny_specialOf hT hl ?_);have fin:wpAny (model prog w) A (subscripted slice false o i) (fun r s₃=>wpAny (model prog w) A (letTemporaryGo value o r >>= fun _=>pure r) Q E s₃) E s₂:=by
  rw[hs o i];exact wpAny_operating (wpAny_mono h₂ (fun r s₃ h₃=>wpAny_bind (wpAny_letTemporaryGo (wpAny_pure h₃))) fun _ _ x=>x)
 first
  | exact wpAny_pure (wpAny_bind fin)
  | exact wpAny_bind (wpAny_pure (wpAny_bind fin))
  | exact wpAny_bind fin
theorem dict_typeIs (I:Inv X pins σ H s) (g:DGet H a y o):s.TypeIs (.ref a) "dict":=by
 rcases g with ⟨kvs,k,e,_,_⟩ | ⟨kvs,k,b,e,_,_,_⟩
 ·obtain⟨_,_,vs,_,dd⟩:=dk_rd I.hok e;exact dd.typeIs
 ·obtain⟨_,_,xs,_,dd⟩:=dt_rd I.hok e;exact dd.typeIs
def tDGet (td ty:TE):TE:=fun σ H Q=>td σ H fun x H1=>ty σ H1 fun y H2=>∃ a v,x = .ref a/\DGet H2 a y (some v)/\Q v H2
def sDPut (td ty tv:TE):TS:=fun D σ H=>tv σ H fun v H1=>td σ H1 fun x H2=>ty σ H2 fun y H3=>∃ a H4,x = .ref a/\DPut H3 a y v H4/\D.nx σ H4
section
variable {X:Cx} {o i e value:Expr} {pos pos' tpos:Pos} {td ty tv:TE}
theorem pe_dget (hu:X.A.units+1<cLine) (ho:PE X o td) (hi:PE X i ty) (hs:NoSl i):PE X (.Subscript o i pos) (tDGet td ty):=by
 intro pins s σ H Q I h;refine subD_of PySem.F.slot_dict_getitem.lookup hs (thn (ho pins s σ H _ I h) fun u s1 ⟨x,H1,I1,rx,q1⟩=>thn (hi pins s1 σ H1 _ I1 q1) fun iv s2 ⟨y,H2,I2,ry,a,v,ex,g,q2⟩=>?_);subst ex;obtain rfl:u=Value.ref a:=rx;exact⟨dict_typeIs I2 g,d_getItem hu I2 g ry fun w' s3 I3 rw'=>⟨v,H2,I3,rw',q2⟩⟩
theorem ps_dput (hu:X.A.units+1<cLine) (ho:PE X o td) (hi:PE X i ty) (hv:PE X value tv) (hs:swapsWith value (some (.Subscript o i pos')) pos.line X.env=pure false) :
  PS X (.Assign [.Subscript o i pos'] value pos) (sDPut td ty tv):=by
 intro pins s σ H D I h;refine wpAny_Assign_Subscript (thn (hv pins s σ H _ I h) fun r s1 ⟨v,H1,I1,rv,q1⟩=>thn (ho pins s1 σ H1 _ I1 q1) fun u s2 ⟨x,H2,I2,rx,q2⟩=>thn (hi pins s2 σ H2 _ I2 q2) fun iv s3 ⟨y,H3,I3,ry,a,H4,ex,g,q3⟩=>?_) hs;subst ex;obtain rfl:u=Value.ref a:=rx;exact d_setItem hu I3 g ry rv fun s4 I4=>⟨σ,H4,I4,q3⟩
end
theorem dk_empty (h:Heap) (hb:sysModules<h.objs.size):qBs P w H (h.push { cls:=.type "dict",data:=.dict #[] }) h.objs.size (.dK []) :=
 ⟨hAw _,beq_eq_false_iff_ne.mpr (Ne.symm (hAp hb)),[],.nil,Heap.DictOf.new h⟩
def tDNewK:TE:=fun _ H Q=>∀ p,H p=none->Q (.ref p) (upd H p (.dK []))
section
variable {X:Cx} {pos:Pos}
theorem pe_dnewK:PE X (.Dict [] [] pos) tDNewK:=fun pins s σ H Q I h =>
 wpAny_Dict_empty ⟨.ref s.heap.objs.size,_,I.laid (a:=s.heap.objs.size) (o:=.dK []) (t':=s.toks) (fun _ _ q=>Heap.get?_push_of_some _ q) (hA5 _) (dk_empty s.heap I.big),rfl,h _ (I.hok.fresh (hA5 _))⟩
end
structure M1 (X:Cx) (o:Expr) (m:Str) (apos:Pos) (e:Expr) (cpos:Pos):Prop where
 base:attributeBase o m X.env (eval o X.env)=eval o X.env
 few:((backTo cpos (starEach [e] X.env)).all (fun x=>!x.1) && (backToKw cpos (keywordEach [] X.env)).all (fun x=>x.1.isSome)
  && decide (([e]:List Expr).length+([]:List Keyword).length+(if ([]:List Keyword).isEmpty then 0 else 1)<30))=true
 line:(apos.endLine == cpos.line)=true
 trees:backTo cpos (starEach [e] X.env)=[(false,eval e X.env)]
structure M2 (X:Cx) (o:Expr) (m:Str) (apos:Pos) (e f:Expr) (cpos:Pos):Prop where
 base:attributeBase o m X.env (eval o X.env)=eval o X.env
 few:((backTo cpos (starEach [e,f] X.env)).all (fun x=>!x.1) && (backToKw cpos (keywordEach [] X.env)).all (fun x=>x.1.isSome)
  && decide (([e,f]:List Expr).length+([]:List Keyword).length+(if ([]:List Keyword).isEmpty then 0 else 1)<30))=true
 line:(apos.endLine == cpos.line)=true
 trees:backTo cpos (starEach [e,f] X.env)=[(false,eval e X.env),(false,eval f X.env)]
def IsD (H:Hp) (a:Addr):Prop:=(∃ kvs,Rd H a (.dK kvs))\/∃ kvs,Rd H a (.dT kvs)
theorem isD_at (I:Inv X pins σ H s) (d:IsD H a) :
  s.TypeIs (.ref a) "dict"/\(∀ b,Value.ref a = .ref b->∃ ob,s.heap.get? b=some ob/\ob.dict=none)/\(a == sysModules)=false:=by
 rcases d with ⟨kvs,e⟩ | ⟨kvs,e⟩
 ·obtain⟨_,hd,vs,_,dd⟩:=dk_rd I.hok e;refine⟨dd.typeIs,fun b q=>?_,hd⟩;cases q;obtain⟨ob,_,_,h1,h2,_⟩:=dd;exact⟨ob,h1,h2.2.1⟩
 ·obtain⟨_,hd,xs,_,dd⟩:=dt_rd I.hok e;refine⟨dd.typeIs,fun b q=>?_,hd⟩;cases q;obtain⟨ob,_,_,h1,h2,_⟩:=dd;exact⟨ob,h1,h2.2.1⟩
section
variable {X:Cx} {pins:List (Addr×Obj)} {σ:St} {H:Hp} {s:Shared} {a:Addr} {y d:V} {u r:Value} {o:Option V} {A:Around} {E:Value->Shared->Prop}
theorem d_get2 (hu:A.units+1<cLine) (I:Inv X pins σ H s) (g:DGet H a y o) (ry:qBn y u) (rd:qBn d r) (h:∀ w' s',Inv X pins σ H s'->qBn (o.getD d) w'->Q w' s') :
  wpAny (model X.prog X.w) A (call (.builtin "dict.get") [.ref a,u,r]) Q E s:=by
 rcases g with ⟨kvs,k,e,ey,l⟩ | ⟨kvs,k,b,e,ey,eb,l⟩
 ·subst ey;obtain⟨z,hd,vs,rel,dd⟩:=dk_rd I.hok e;refine call_meetsIn PySem.F.slot_dict_get dd.typeIs PySem.F.entry_dict_get (PySem.F.args_dict_get_3 _ _ _) (meets_dict_get_default (qBb X.prog X.w) a (kV_is ry) hd r) ⟨_,dd.mapOf,h _ _ (I.tok _) ?_⟩;rw[l];exact(rel.val k).getD rd
 ·subst ey;cases(show u=Value.ref b from ry);obtain⟨z,hd,xs,rel,dd⟩:=dt_rd I.hok e;refine call_meetsIn PySem.F.slot_dict_get dd.typeIs PySem.F.entry_dict_get (PySem.F.args_dict_get_3 _ _ _) (meetsH_dict_get_default (tupleKind (qBb X.prog X.w)) a b hd r) ⟨tupleKind_room_in1 hu,k,xs,key_of I.hok eb,dd,h _ _ (I.tok _) ?_⟩;rw[l];exact(rel.val k).getD rd
end
def tDGet2 (td ty tx:TE):TE:=fun σ H Q=>td σ H fun x H1=>∃ a,x = .ref a/\IsD H1 a/\ty σ H1 fun y H2=>tx σ H2 fun z H3=>∃ o,DGet H3 a y o/\Q (o.getD z) H3
section
variable {X:Cx} {o e f:Expr} {apos cpos:Pos} {td ty tx:TE}
theorem pe_dget2 (hu:X.A.units+1<cLine) (ho:PE X o td) (he:PE X e ty) (hf:PE X f tx) (m:M2 X o "get" apos e f cpos):PE X (.Call (.Attribute o "get" apos) [e,f] [] cpos) (tDGet2 td ty tx):=by
 intro pins s σ H Q I h;refine wpAny_Call_method m.base m.few m.line PySem.F.plainAttrs_dict PySem.F.slot_dict_get PySem.F.type_dict_get (thn (ho pins s σ H _ I h) fun u s1 ⟨x,H1,I1,rx,a,ex,d,q1⟩=>?_);subst ex;obtain rfl:u=Value.ref a:=rx;obtain⟨t1,t2,_⟩:=isD_at I1 d;refine⟨t1,t2,?_⟩;rw[m.trees];refine Calls.callWith_builtin rfl (Calls.evalArgs_plain (Calls.spliced_cons (thn (he pins s1 σ H1 _ I1 q1) fun iv s2 ⟨y,H2,I2,ry,q2⟩ =>
  Calls.spliced_cons (thn (hf pins s2 σ H2 _ I2 q2) fun fv s3 ⟨z,H3,I3,rz,ov,g,q3⟩=>Calls.spliced_nil ?_))))
 exact d_get2 hu I3 g ry rz fun w' s4 I4 rw'=>⟨_,H3,I4,rw',q3⟩
end
end L2
namespace L2
open PySem PySem.Spec PyProof.Rows
section
variable {κ:Type} [DecidableEq κ]
theorem valV_not {kvs:List (κ×V)} {k:κ} (h:valV kvs k=none):¬k∈kvs.map (·.1):=by
 intro m;obtain⟨p,hp,e⟩:=hA3.mp m;have q:(kvs.any fun kv=>decide (kv.1=k))=true:=List.any_eq_true.mpr ⟨p,hp,decide_eq_true e⟩;rw[qDc,h]at q;exact absurd q (by simp)
theorem valV_in {kvs:List (κ×V)} {k:κ} {v:V} (h:valV kvs k=some v):k∈kvs.map (·.1):=by
 have q:(kvs.any fun kv=>decide (kv.1=k))=true:=by
  rw[qDc,h]
  all_goals rfl
 obtain⟨p,hp,e⟩:=List.any_eq_true.mp q;exact hA3.mpr ⟨p,hp,of_decide_eq_true e⟩
end
end L2
namespace L2
open PySem PySem.Spec PyProof.Rows
def qCc (cells:List (Str×Addr)):List (Str×NameKind)->List (Str×Addr)->List (Str×Addr)
 | [],acc=>acc
 | (n,k) :: r,acc=>if k == .free then qCc cells r ((n,(cells.lookup n).getD 0) :: acc) else qCc cells r acc
theorem qGp (env:Env) (f:Str×NameKind->List (Str×Addr)->Sem (ForInStep (List (Str×Addr))))
  (hf:∀ n k cs,f (n,k) cs=if k == .free then (do let a ← cellOf env n;pure (.yield ((n,a) :: cs))) else pure (.yield cs)) :
  ∀ (names:List (Str×NameKind)) (acc:List (Str×Addr)),(∀ x∈names,x.2 = .free->∃ c,env.cells.lookup x.1=some c)->forIn names acc f=pure (qCc env.cells names acc)
 | [],acc,_=>by rw[List.forIn_nil];rfl
 | (n,k) :: r,acc,h=>by
  have ih:=qGp env f hf r;rw[List.forIn_cons,hf];unfold qCc;by_cases hk:(k == NameKind.free)=true
  ·rw[if_pos hk,if_pos hk];obtain⟨c,hc⟩:=h (n,k) hA9 (by simpa using hk);have e:cellOf env n=pure c:=by unfold cellOf;rw[hc]
   rw[e,hc];exact ih _ fun x hx=>h x (hA7 _ hx)
  ·rw[if_neg hk,if_neg hk];exact ih _ fun x hx=>h x (hA7 _ hx)
theorem closureFor_eq (h:∀ x∈scope.names,x.2 = .free->∃ c,env.cells.lookup x.1=some c):closureFor scope env=pure (qCc env.cells scope.names []):=by
 simp only[closureFor];rw[qGp env _ (fun n k cs=>by cases hk:k == NameKind.free <;> simp[hk]) scope.names [] h];rfl
theorem closL_mem:∀ {names:List (Str×NameKind)} {acc:List (Str×Addr)} {x:Str} {c:Addr},(x,c)∈qCc cells names acc->(x,c)∈acc\/((x,NameKind.free)∈names/\c=(cells.lookup x).getD 0)
 | [],acc,x,c,h=>.inl h
 | (n,k) :: r,acc,x,c,h=>by
  unfold qCc at h;by_cases hk:(k == NameKind.free)=true
  ·rw[if_pos hk]at h;rcases closL_mem h with q | ⟨q,e⟩
   ·rcases hAc.mp q with z | z
    ·cases z;exact .inr ⟨by rw[show NameKind.free=k from (by simpa using hk:k=NameKind.free).symm];exact hA9,rfl⟩
    ·exact .inl z
   ·exact .inr ⟨hA7 _ q,e⟩
  ·rw[if_neg hk]at h;rcases closL_mem h with q | ⟨q,e⟩
   ·exact .inl q
   ·exact .inr ⟨hA7 _ q,e⟩
theorem qEs {α:Type} {x n:Str} {c:α} {l:List (Str×α)} (h:(l.lookup x).isSome=true):(((n,c) :: l).lookup x).isSome=true:=by
 rw[hC8];cases x == n <;> simp[h]
theorem qDe {cells:List (Str×Addr)} {x:Str}:∀ {names:List (Str×NameKind)} {acc:List (Str×Addr)},((x,NameKind.free)∈names\/(acc.lookup x).isSome=true)->((qCc cells names acc).lookup x).isSome=true
 | [],acc,h=>by
  rcases h with h | h
  ·cases h
  ·exact h
 | (n,k) :: r,acc,h=>by
  unfold qCc;by_cases hk:(k == NameKind.free)=true
  ·rw[if_pos hk];refine qDe ?_;rcases h with h | h
   ·rcases hAc.mp h with z | z
    ·cases z;exact .inr (by rw[hC8];simp)
    ·exact .inl z
   ·exact .inr (qEs h)
  ·rw[if_neg hk];refine qDe ?_;rcases h with h | h
   ·rcases hAc.mp h with z | z
    ·cases z;exact absurd rfl hk
    ·exact .inl z
   ·exact .inr h
theorem cellsFrom_mem:∀ {names:List (Str×NameKind)} {n:Nat} {acc:List (Str×Addr)} {x:Str} {c:Addr},(x,c)∈cellsFrom n names acc->(x,c)∈acc\/(x,NameKind.cell)∈names
 | [],_,_,_,_,h=>.inl h
 | (y,k) :: r,n,acc,x,c,h=>by
  unfold cellsFrom at h;by_cases hk:(k == NameKind.cell)=true
  ·rw[if_pos hk]at h;rcases cellsFrom_mem h with q | q
   ·rcases hAc.mp q with z | z
    ·cases z;exact .inr (by rw[show NameKind.cell=k from (by simpa using hk:k=NameKind.cell).symm];exact hA9)
    ·exact .inl z
   ·exact .inr (hA7 _ q)
  ·rw[if_neg hk]at h;rcases cellsFrom_mem h with q | q
   ·exact .inl q
   ·exact .inr (hA7 _ q)
structure CellsTwo (h:Heap) (lo:Nat) (acc cs:List (Str×Addr)):Prop where
 part:∀ x c,(x,c)∈cs->(x,c)∈acc\/(h.IsCell c none/\lo<=c)
 inj:∀ x y c,lo<=c->(x,c)∈cs->(y,c)∈cs->x=y
theorem qC0:∀ (names:List (Str×NameKind)) (h:Heap) (lo:Nat) (acc:List (Str×Addr)),CellsTwo h lo acc0 acc->(∀ x c,(x,c)∈acc->c<h.objs.size)->lo<=h.objs.size ->
  CellsTwo (pushCells h names) lo acc0 (cellsFrom h.objs.size names acc)
 | [],_,_,_,x,_,_=>x
 | (name,kind) :: r,h,lo,acc,x,hl,hlo=>by
  unfold pushCells cellsFrom;split
  ·have:=qC0 (acc0:=acc0) r (h.push { cls:=.type "cell",data:=.cell none }) lo ((name,h.objs.size) :: acc)
    ⟨fun n c hm=>by
      rcases hAc.mp hm with e | hm
      ·cases e;exact .inr ⟨⟨_,Heap.get?_push_size _ rfl,rfl⟩,hlo⟩
      ·rcases x.part n c hm with q | q
       ·exact .inl q
       ·exact .inr ⟨q.1.keeps fun b o e=>Heap.get?_push_of_some _ e,q.2⟩,
     fun a b c hc h1 h2=>by
      rcases hAc.mp h1 with e1 | h1 <;> rcases hAc.mp h2 with e2 | h2
      ·cases e1;cases e2;rfl
      ·cases e1;exact absurd (hl _ _ h2) (hBl _)
      ·cases e2;exact absurd (hl _ _ h1) (hBl _)
      ·exact x.inj a b c hc h1 h2⟩
    (fun n c hm=>by
     rw[Heap.size_push];rcases hAc.mp hm with e | hm
     ·cases e;exact hAv _
     ·exact hBe (hl n c hm)) (by rw[Heap.size_push];omega)
   rwa [Heap.size_push]at this
  ·exact qC0 r h lo acc x hl hlo
def qBy (env:Env) (scope:Scope) (C:Addr):Env :=
 { scope:=relabel scope env,locals:=C,globals:=env.globals,cells:=cellsFrom (C+1) scope.names (qCc env.cells scope.names []),qual:=env.qual,func:=none,code:=env.code,frame:=env.frame,builtins:=env.builtins }
theorem qDr
  (hQ:Q { scope:=scope,locals:=s.heap.objs.size,globals:=env.globals,cells:=cellsFrom (s.heap.objs.size+1) scope.names cl,qual:=env.qual,func:=none,code:=env.code,frame:=env.frame,builtins:=env.builtins }
   { s with heap:=pushCells (s.heap.push { cls:=.type "dict",data:=.dict #[] }) scope.names }) :
  wpAny M A (newFunctionEnv scope env.globals cl [] env.qual none .none (some env)) Q E s:=by
 simp only[newFunctionEnv,Option.isSome_some,if_true];refine wpAny_bind (wpAny_alloc ?_);refine wpAny_bind (wpAny_layCells _ (fun name kind cells=>by cases hkc:kind == NameKind.cell <;> simp[hkc]) _ _ _ _ ?_);rw[show({ s with heap:=s.heap.push { cls:=.type "dict",data:=.dict #[] } }:Shared).heap.objs.size=s.heap.objs.size+1 from Heap.size_push ..];rw[List.forIn_nil];exact wpAny_bind (wpAny_pure (wpAny_pure hQ))
theorem compLoop_any (I:Nat->Shared->Prop)
  (turn:∀ n s,I n s->wpAny (model prog w) A (pyNext it) (fun r s₁=>match r with
   | none=>R (.ok .next) s₁
   | some v=>wpAny (model prog w) A (letOwnedTupleGo target it v) (fun _ s₁'=>wpAny (model prog w) A (assign target env v) (fun _ s₂ =>
     wpAny (model prog w) A (forIn ifs true fun c r=>if r=true then do let ok ← isTrue c env (eval c env);pure (ForInStep.yield ok) else pure (ForInStep.yield r)) (fun ok s₃ =>
      if ok=true then wpAny (model prog w) A (eval elt env) (fun x s₄ =>
       wpAny (model prog w) A (call (.builtin "list.append") [acc,x]) (fun _ s₅=>∃ m,m<n/\I m s₅) (fun _ _=>False) s₄) (fun _ _=>False) s₃
      else ∃ m,m<n/\I m s₃) (fun _ _=>False) s₂) (fun _ _=>False) s₁') (fun _ _=>False) s₁) (fun _ _=>False) s)
  (n:Nat) (h:I n s) :
  codeAny (model prog w) A (.compLoop (.ListComp elt [⟨target,iter,ifs,0⟩] scope pos) 0 it acc env) R s:=by
 refine codeAny_loop rfl I (fun n s hI=>?_) n h;show wpAny _ A ((compTurn (.ListComp elt [⟨target,iter,ifs,0⟩] scope pos) 0 it acc env).onRaise (fun x=>do noteFrame x env;theTreesLotGoes x)) _ _ s;refine wpAny_noted ?_;rw[compTurn_list];refine wpAny_bind (wpAny_standAt (wpAny_bind (wpAny_mono (turn n s hI) (fun r s₁ h₁=>?_) fun _ _ h'=>h'.elim)));cases r with
 | none=>exact wpAny_pure h₁
 | some v =>
  refine wpAny_bind (wpAny_mono h₁ (fun _ s₁' h₁=>?_) fun _ _ h'=>h'.elim);refine wpAny_bind (wpAny_mono h₁ (fun _ s₂ h₂=>wpAny_bind (wpAny_mono h₂ (fun ok s₃ h₃=>?_) fun _ _ h'=>h'.elim)) fun _ _ h'=>h'.elim);cases ok with
  | false=>exact wpAny_pure ⟨rfl,h₃⟩
  | true =>
   exact wpAny_bind (wpAny_bind (wpAny_mono h₃ (fun x s₄ h₄=>wpAny_bind (wpAny_mono h₄ (fun _ s₅ h₅=>wpAny_pure (wpAny_pure ⟨rfl,h₅⟩)) fun _ _ h'=>h'.elim)) fun _ _ h'=>h'.elim))
end L2
namespace L2
open PySem PySem.Spec PyProof.Rows
def qB5 (X:Cx) (scope:Scope) (N':List Str) (C:Addr) (s:Shared) (H:Hp) (fp:List Addr):Cx :=
 { X with N:=N',s₀:=s,H₀:=H,env:=qBy X.env scope C,outer:=X.stack,stack:=X.stack,ex:=fp,fn:=fun x=>!(scope.names.lookup x == some .free),pn:=[],xe:=fun _ _=>False }
def subσ (sub:List (Option Nat)) (σ:St):St:=sub.map fun o=>o.bind fun i=>(σ[i]?).join
def cmpOkB (N:List Str) (sc:Scope) (N':List Str) (scope:Scope) (sub:List (Option Nat)):Bool :=
 scope.kind == .function && decide ((scope.names.map (·.1)).Nodup) && decide N'.Nodup && sub.length == N'.length &&
 (scope.names.all fun x=>!(x.2 == .free) || sc.names.lookup x.1 == some .cell || sc.names.lookup x.1 == some .free) &&
 ((sub.zip N').all fun p=>match p.1 with
  | none=>true
  | some i=>N[i]? == some p.2 && scope.names.lookup p.2 == some .free)
structure CmpOk (N:List Str) (sc:Scope) (N':List Str) (scope:Scope) (sub:List (Option Nat)):Prop where
 kind:scope.kind = .function
 nd:(scope.names.map (·.1)).Nodup
 nd':N'.Nodup
 len:sub.length=N'.length
 free:∀ x∈scope.names,x.2 = .free->sc.names.lookup x.1=some .cell\/sc.names.lookup x.1=some .free
 sub:∀ (j i:Nat) (x:Str),sub[j]?=some (some i)->N'[j]?=some x->N[i]?=some x/\scope.names.lookup x=some .free
theorem CmpOk.of {N:List Str} {sc:Scope} {N':List Str} {scope:Scope} {sub:List (Option Nat)} (h:cmpOkB N sc N' scope sub=true):CmpOk N sc N' scope sub:=by
 unfold cmpOkB at h;simp only[hBv]at h;obtain⟨⟨⟨⟨⟨h1,h2⟩,h3⟩,h4⟩,h5⟩,h6⟩:=h;refine⟨by simpa using h1,of_decide_eq_true h2,of_decide_eq_true h3,by simpa using h4,fun x hx hf=>?_,fun j i x hj hx=>?_⟩
 ·have q:=hBw.mp h5 x hx;rw[hf]at q;simp only[beq_self_eq_true,Bool.not_true,Bool.false_or,Bool.or_eq_true]at q;rcases q with q | q
  ·exact .inl (by simpa using q)
  ·exact .inr (by simpa using q)
 ·have q:=hBw.mp h6 (some i,x) (by
   refine hAj (i:=j) ?_;rw[List.getElem?_zip_eq_some];exact⟨hj,hx⟩)
  simp only[hBv]at q;exact⟨by simpa using q.1,by simpa using q.2⟩
theorem qBi:∀ {l:List (Str×α)} {x:Str} {c:α},(l.map (·.1)).Nodup->(x,c)∈l->l.lookup x=some c
 | (y,d) :: r,x,c,nd,h=>by
  rw[hC8];rcases hAc.mp h with e | h
  ·cases e;simp
  ·have ne:x≠y:=fun e=>by
    rw[hAu]at nd;exact(hBh.mp nd).1 (by rw[<-e];exact hA3.mpr ⟨(x,c),h,rfl⟩)
   rw[show(x == y)=false from by simpa using ne];exact qBi (hBh.mp nd).2 h
theorem qC6 {sc:Scope}:∀ {names:List (Str×NameKind)} {x:Str},
  ((names.map fun (n,k)=>if (k == NameKind.free && sc.kind == .function && sc.names.lookup n == some .cell) then (n,NameKind.cell) else (n,k)).lookup x) =
   (names.lookup x).map fun k=>if (k == NameKind.free && sc.kind == .function && sc.names.lookup x == some .cell) then NameKind.cell else k
 | [],x=>rfl
 | (n,k) :: r,x=>by
  have ih:=@qC6 sc r x;rw[hAu];show List.lookup x ((if (k == NameKind.free && sc.kind == .function && sc.names.lookup n == some .cell)=true then (n,NameKind.cell) else (n,k)) :: _)=_;by_cases hc:(k == NameKind.free && sc.kind == .function && sc.names.lookup n == some .cell)=true
  ·rw[if_pos hc,hC8,hC8];by_cases hx:x=n
   ·subst hx;rw[show(x == x)=true from beq_self_eq_true x];show some NameKind.cell=Option.map _ (some k);rw[hC0,if_pos hc]
   ·rw[show(x == n)=false by simpa using hx];exact ih
  ·rw[if_neg hc,hC8,hC8];by_cases hx:x=n
   ·subst hx;rw[show(x == x)=true from beq_self_eq_true x];show some k=Option.map _ (some k);rw[hC0,if_neg hc]
   ·rw[show(x == n)=false by simpa using hx];exact ih
section
variable {X:Cx} {pins:List (Addr×Obj)} {σ:St} {H H':Hp} {s:Shared}
theorem qGn (I:Inv X pins σ H s) (hb:b∈frs X.stack) (n1:b≠X.env.locals):b∈X.fs:=(hAc.mp (I.stkSub b hb)).elim (fun e=>absurd e n1) id
theorem qFq {N':List Str} {scope:Scope} {sub:List (Option Nat)} {h3:Heap} (I:Inv X pins σ H s) (O:CmpOk X.N X.env.scope N' scope sub)
  (hk:∀ b o,s.heap.get? b=some o->h3.get? b=some o) :
  (∀ x c,(cellsFrom (h3.objs.size+1) scope.names (qCc X.env.cells scope.names [])).lookup x=some c ->
   (((pushCells (h3.push { cls:=.type "dict",data:=.dict #[] }) scope.names).IsCell c none/\h3.objs.size+1<=c/\(x,NameKind.cell)∈scope.names)\/((x,NameKind.free)∈scope.names/\X.env.cells.lookup x=some c))) /\
  (∀ x y c,(cellsFrom (h3.objs.size+1) scope.names (qCc X.env.cells scope.names [])).lookup x=some c->(cellsFrom (h3.objs.size+1) scope.names (qCc X.env.cells scope.names [])).lookup y=some c->x=y):=by
 have hin:∀ x c,(x,c)∈qCc X.env.cells scope.names []->(x,NameKind.free)∈scope.names/\X.env.cells.lookup x=some c:=fun x c h=>by
  rcases closL_mem h with q | ⟨q,e⟩
  ·cases q
  ·have hx:∃ c,X.env.cells.lookup x=some c:=by
    refine I.ok.has x ?_;rcases O.free _ q rfl with z | z
    ·exact .inl z
    ·exact .inr z
   obtain⟨c',hc'⟩:=hx;rw[hc']at e;exact⟨q,by rw[hc',e];rfl⟩
 have hlt:∀ x c,(x,c)∈qCc X.env.cells scope.names []->c<h3.objs.size:=fun x c h=>by
  obtain⟨v,o,ho,_⟩:=I.cell x c (hin x c h).2;exact Heap.lt_size (hk _ _ ho)
 have two:=qC0 (acc0:=qCc X.env.cells scope.names []) scope.names (h3.push { cls:=.type "dict",data:=.dict #[] }) (h3.objs.size+1) (qCc X.env.cells scope.names [])
  ⟨fun x c h=>.inl h,fun x y c hc h1 _=>absurd (hlt x c h1) (Nat.not_lt.mpr (Nat.le_of_succ_le hc))⟩ (fun x c h=>by rw[Heap.size_push];exact hBe (hlt x c h)) (by rw[Heap.size_push];exact hA5 _)
 rw[Heap.size_push]at two;refine⟨fun x c h=>?_,fun x y c h1 h2=>?_⟩
 ·have m:=hBa h;rcases two.part x c m with q | q
  ·exact .inr (hin x c q)
  ·refine .inl ⟨q.1,q.2,?_⟩;rcases cellsFrom_mem m with z | z
   ·exact absurd (hlt x c z) (Nat.not_lt.mpr (Nat.le_of_succ_le q.2))
   ·exact z
 ·have m1:=hBa h1;have m2:=hBa h2;by_cases hc:h3.objs.size+1<=c
  ·exact two.inj x y c hc m1 m2
  ·rcases two.part x c m1 with q1 | q1
   ·rcases two.part y c m2 with q2 | q2
    ·exact I.ok.inj x y c (hin x c q1).2 (hin y c q2).2
    ·exact absurd q2.2 hc
   ·exact absurd q1.2 hc
theorem inv_comp {N':List Str} {scope:Scope} {sub:List (Option Nat)} {fp:List Addr} (I:Inv X pins σ H s) (O:CmpOk X.N X.env.scope N' scope sub) (hf:∀ b∈fp,FpOk X pins H b)
  (hfl:∀ b∈fp,b<s.heap.objs.size) :
  Inv (qB5 X scope N' (s.heap.objs.size+1) s H fp) [(s.heap.objs.size,{ cls:=.type "list",data:=.seq #[] })] (subσ sub σ) H
   { s with heap:=pushCells ((s.heap.push { cls:=.type "list",data:=.seq #[] }).push { cls:=.type "dict",data:=.dict #[] }) scope.names }:=by
 have hk3:∀ b o,s.heap.get? b=some o->(s.heap.push { cls:=.type "list",data:=.seq #[] }).get? b=some o:=fun b o e=>Heap.get?_push_of_some _ e
 have sz3:(s.heap.push { cls:=.type "list",data:=.seq #[] }).objs.size=s.heap.objs.size+1:=Heap.size_push ..;have hk:∀ b o,s.heap.get? b=some o->(pushCells ((s.heap.push { cls:=.type "list",data:=.seq #[] }).push { cls:=.type "dict",data:=.dict #[] }) scope.names).get? b=some o :=
  fun b o e=>pushCells_keeps _ _ b o (Heap.get?_push_of_some _ (hk3 b o e))
 have cf:=qFq (h3:=s.heap.push { cls:=.type "list",data:=.seq #[] }) I O hk3;rw[sz3]at cf;have hC:H (s.heap.objs.size+1)=none:=I.hok.fresh (hB5 _);have nsC:(pushCells ((s.heap.push { cls:=.type "list",data:=.seq #[] }).push { cls:=.type "dict",data:=.dict #[] }) scope.names).Ns (s.heap.objs.size+1) (fun _=>none):=by
  rw[<-sz3];exact(Heap.Ns.new _ _).keeps (pushCells_keeps _ _)
 have has:∀ x,(scope.names.lookup x=some .cell\/scope.names.lookup x=some .free)->∃ c,(cellsFrom (s.heap.objs.size+1+1) scope.names (qCc X.env.cells scope.names [])).lookup x=some c:=fun x hx=>by
  refine hCd.mp (hCk _ _ _ ?_);rcases hx with z | z
  ·exact .inl z
  ·exact .inr (qDe (.inl (hBa z)))
 have kindB:∀ x,(qBy X.env scope (s.heap.objs.size+1)).kindOf x=(scope.names.lookup x).map fun k=>if (k == NameKind.free && X.env.scope.kind == .function && X.env.scope.names.lookup x == some .cell) then NameKind.cell else k:=fun x=>qC6
 have cellOk:∀ x c,(qBy X.env scope (s.heap.objs.size+1)).cells.lookup x=some c->∃ v,(pushCells ((s.heap.push { cls:=.type "list",data:=.seq #[] }).push { cls:=.type "dict",data:=.dict #[] }) scope.names).IsCell c v:=fun x c h=>by
  rcases cf.1 x c h with q | q
  ·exact⟨_,q.1⟩
  ·obtain⟨v,z⟩:=I.cell x c q.2;exact⟨v,z.keeps hk⟩
 refine⟨⟨I.ok.mod,O.kind,I.ok.glob,I.ok.blt,hB5 _,fun x y c h1 h2=>cf.2 x y c h1 h2,fun x hx=>?_,fun x c hx h=>?_,I.ok.hd,I.ok.frames,.inl rfl,fun b hb=>?_,fun b o e=>I.bs b o e,hB7 I.ok.bsz I.sz,fun b o e hb=>?_,fun b hb=>?_,I.stack,I.stkFree⟩,
  rfl,I.bare,Un.kept hk,⟨fun _=>none,nsC,fun i x v h1 h2 h3=>?_⟩,cellOk,hC,fun x c h=>?_,fun p hp=>?_,I.hok.kept hk,?_⟩
 ·-- has
  refine has x ?_;have hx:(qBy X.env scope (s.heap.objs.size+1)).kindOf x=some .cell\/(qBy X.env scope (s.heap.objs.size+1)).kindOf x=some .free:=hx;rw[kindB]at hx;cases e:scope.names.lookup x with
  | none=>rw[e]at hx;rcases hx with z | z <;> cases z
  | some k =>
   rw[e]at hx;cases k with
   | cell=>exact .inl rfl
   | free=>exact .inr rfl
   | _=>exfalso;rcases hx with z | z <;> simp at z
 ·-- cab
  rcases cf.1 x c h with q | q
  ·have:=q.2.1;show s.heap.objs.size<=c;omega
  ·exfalso;have e:=qBi O.nd q.1;have hx':(!(scope.names.lookup x == some NameKind.free))=true:=hx;rw[e]at hx';exact absurd hx' (by decide)
 ·-- exf
  obtain⟨f0,f1,f2,f3,f4,f5⟩:=hf b hb;have lt:=hfl b hb;refine⟨fun e=>?_,fun x c h e=>?_⟩
  ·have e':b=s.heap.objs.size+1:=e;rw[e']at lt;exact absurd lt (Nat.not_lt.mpr (hB5 _))
  ·rcases cf.1 x c h with q | q
   ·have z:=q.2.1;rw[e]at z;exact absurd lt (Nat.not_lt.mpr (hB7 (hB7 (hB5 _) (hB5 _)) z))
   ·exact f4 x c q.2 e
 ·-- noex
  obtain⟨f0,f1,f2,f3,f4,f5⟩:=hf b hb;rcases f3 with z | z
  ·exact I.ok.noex b o e z
  ·exact absurd (hAh (Heap.lt_size (I.ok.bs b o e).1) z) (hBl _)
 ·-- exfs
  obtain⟨f0,f1,f2,f3,f4,f5⟩:=hf b hb;exact fun z=>f2 (qGn I z f1)
 ·-- loc
  have h1':N'[i]?=some x:=h1;have hsub:∃ k,sub[i]?=some (some k)/\(σ[k]?).join=some v:=by
   unfold subσ at h2;rw[hAd]at h2;cases e:sub[i]? with
   | none=>rw[e]at h2;cases h2
   | some o =>
    rw[e]at h2;cases o with
    | none=>cases h2
    | some k=>exact⟨k,rfl,by simpa using h2⟩
  obtain⟨k,hk1,hk2⟩:=hsub;obtain⟨nk,fx⟩:=O.sub i k x hk1 h1';have sk:σ[k]?=some (some v):=by
   cases e:σ[k]? with
   | none=>rw[e]at hk2;cases hk2
   | some o=>rw[e]at hk2;cases o with
    | none=>cases hk2
    | some y=>cases hk2;rfl
  have cx:=O.free _ (hBa fx) rfl;obtain⟨m,hn,hl⟩:=I.loc;obtain⟨u,ru,lk⟩:=hl k x v nk sk (by
   rcases cx with z | z
   ·exact .inr (.inl z)
   ·exact .inr (.inr z))
  refine⟨u,ru,.inr ⟨?_,?_⟩⟩
  ·show(qBy X.env scope (s.heap.objs.size+1)).kindOf x=some .cell\/(qBy X.env scope (s.heap.objs.size+1)).kindOf x=some .free;rw[kindB,fx];by_cases hc:(NameKind.free == NameKind.free && X.env.scope.kind == .function && X.env.scope.names.lookup x == some .cell)=true
   ·exact .inl (by rw[hC0,if_pos hc])
   ·exact .inr (by rw[hC0,if_neg hc])
  ·rcases lk with ⟨kl,_⟩ | ⟨_,c,hc,hcell⟩
   ·exfalso;have kl':X.env.scope.names.lookup x=some .local:=kl;rcases cx with z | z <;> rw[kl']at z <;> cases z
   ·obtain⟨c',hc'⟩:=has x (.inr fx);refine⟨c',hc',?_⟩;rcases cf.1 x c' hc' with q | q
    ·exfalso;have e:=qBi O.nd q.2.2;rw[fx]at e;cases e
    ·rw[hc]at q;have e:c=c':=hAa q.2;subst e;exact hcell.keeps hk
 ·-- freeC
  rcases cf.1 x c h with q | q
  ·exact I.hok.fresh (by have:=q.2.1;omega)
  ·exact I.freeC x c q.2
 ·-- pin
  have hp':p=(s.heap.objs.size,({ cls:=.type "list",data:=.seq #[] }:Obj)):=by
   have:p∈([]++[(s.heap.objs.size,({ cls:=.type "list",data:=.seq #[] }:Obj))]:List (Addr×Obj)):=hp
   simpa using this
  subst hp';refine⟨pushCells_keeps _ _ _ _ (Heap.get?_push_of_some _ (Heap.get?_push_size _ rfl)),I.hok.fresh (hA5 _),hAp (hAv _),fun z=>?_,fun v z=>?_⟩
  ·rcases hAc.mp (I.stkSub _ z) with e | e
   ·exact absurd I.lt (by rw[<-e];exact hBl _)
   ·exact I.nofs (hA5 _) e
  ·cases z
 ·-- len
  show(subσ sub σ).length=N'.length;unfold subσ;rw[hA1,O.len]
end
end L2
namespace L2
open PySem PySem.Spec PyProof.Rows
def Sle (σ σ2:St):Prop:=σ2.length=σ.length/\∀ (i:Nat) (v:V),σ[i]?=some (some v)->σ2[i]?=some (some v)
theorem Sle.refl (σ:St):Sle σ σ:=⟨rfl,fun _ _ h=>h⟩
theorem Sle.set (v:V) (h:Sle σ σ2) (hi:∀ u,σ[i]?≠some (some u)):Sle σ (σ2.set i (some v)):=by
 refine⟨by rw[hCm];exact h.1,fun j u hj=>?_⟩;have ne:i≠j:=fun e=>hi u (by rw[e];exact hj)
 rw[List.getElem?_set_ne ne];exact h.2 j u hj
def PTs (X:Cx) (ifs:List Expr) (t:TT):Prop :=
 ∀ (pins:List (Addr×Obj)) (s:Shared) (σ:St) (H:Hp) (Q:Bool->Hp->Prop),Inv X pins σ H s->t σ H Q ->
  wpAny (model X.prog X.w) X.A (forIn ifs true fun c r=>if r=true then do let ok ← isTrue c X.env (eval c X.env);pure (ForInStep.yield ok) else pure (ForInStep.yield r)) (TP X pins σ Q) X.xe s
def tNoTest:TT:=fun _ H Q=>Q true H
theorem qA3:PTs X [] tNoTest:=fun pins s σ H Q I h=>wpAny_tests_nil ⟨H,I,h⟩
theorem qFg (h:PT X c t):PTs X [c] t:=fun pins s σ H Q I hw=>wpAny_tests_one (h pins s σ H Q I hw)
def qCu (J:It) (σ0:St) (g:TG) (tt:TT) (te:TE) (Q:List V->Hp->Prop) (H1:Hp):Prop :=
 ∃ W:Nat->Nat->List V->Hp->Prop,(∃ m,W 0 m [] H1)/\∀ i m ys H,W i m ys H ->
  (J.stop i H/\Q ys H) \/
  (J.go i H/\∀ x H',J.yld i H x H'->g x σ0 H' fun σ2 H2=>Sle σ0 σ2/\tt σ2 H2 fun b H3 =>
   if b=true then te σ2 H3 (fun v H4=>ys.length<sizeLine/\∃ m',m'<m/\W (i+1) m' (ys++[v]) H4) else ∃ m',m'<m/\W (i+1) m' ys H3)
section
variable {X:Cx} {pins:List (Addr×Obj)} {σ:St} {H:Hp} {s:Shared}
theorem comp_core {target iter elt:Expr} {ifs:List Expr} {scope:Scope} {pos:Pos} {N':List Str} {sub:List (Option Nat)} {J:It} {fp:List Addr} {it:Addr} {tn:Nat->Heap->Prop} {g:TG} {tt:TT} {te:TE}
  {Qe:List V->Hp->Prop} {E:Value->Shared->Prop} {RR:Value->Addr->Result->Shared->Prop}
  (hc:X.calm=true) (I:Inv X pins σ H s) (O:CmpOk X.N X.env.scope N' scope sub) (T:Turn X.prog X.w X.K target J fp it tn) (st:tn 0 s.heap) (hf:∀ b∈fp,FpOk X pins H b)
  (B:∀ C s H fp,PG (qB5 X scope N' C s H fp) target g/\PTs (qB5 X scope N' C s H fp) ifs tt/\PE (qB5 X scope N' C s H fp) elt te)
  (rd:qCu J (subσ sub σ) g tt te Qe H)
  (hRR:∀ (acc C:Addr) (ys:List V) (H':Hp) (s':Shared),Inv X pins σ (upd H' acc (.lst ys)) s'->FpOk X pins (upd H' acc (.lst ys)) C->(∃ m,s'.heap.Ns C m)->H' acc=none->Qe ys H'->RR (.ref acc) C (.ok .next) s') :
  wpAny (model X.prog X.w) X.A (newList []) (fun acc s₃=>wpAny (model X.prog X.w) X.A (newFunctionEnv scope X.env.globals (qCc X.env.cells scope.names []) [] X.env.qual none .none (some X.env)) (fun cenv s₄ =>
   codeAny (model X.prog X.w) X.A (.compStart (.ListComp elt [⟨target,iter,ifs,0⟩] scope pos) 0 (.ref it) acc { cenv with scope:=relabel scope X.env }) (RR acc cenv.locals) s₄) E s₃) E s:=by
 refine wpAny_newObj_type (qDr ?_);have hfl:∀ b∈fp,b<s.heap.objs.size:=fun b hb=>by
  obtain⟨o,e,_⟩:=T.obj _ _ st b hb;exact Heap.lt_size e
 have I0:=inv_comp (sub:=sub) I O hf hfl;have sz3:(s.heap.push { cls:=.type "list",data:=.seq #[] }).objs.size=s.heap.objs.size+1:=Heap.size_push ..;dsimp only;show codeAny _ _ (.compStart _ 0 (.ref it) (.ref s.heap.objs.size) { scope:=relabel scope X.env,locals:=(s.heap.push { cls:=.type "list",data:=.seq #[] }).objs.size,globals:=X.env.globals,cells:=cellsFrom ((s.heap.push { cls:=.type "list",data:=.seq #[] }).objs.size+1) scope.names (qCc X.env.cells scope.names []),qual:=X.env.qual,func:=none,code:=X.env.code,frame:=X.env.frame,builtins:=X.env.builtins })
  (RR (.ref s.heap.objs.size) (s.heap.push { cls:=.type "list",data:=.seq #[] }).objs.size) { s with heap:=pushCells ((s.heap.push { cls:=.type "list",data:=.seq #[] }).push { cls:=.type "dict",data:=.dict #[] }) scope.names }
 rw[sz3];show codeAny _ _ (.compStart _ 0 (.ref it) (.ref s.heap.objs.size) (qBy X.env scope (s.heap.objs.size+1))) (RR (.ref s.heap.objs.size) (s.heap.objs.size+1)) _;generalize hs0:({ s with heap:=pushCells ((s.heap.push { cls:=.type "list",data:=.seq #[] }).push { cls:=.type "dict",data:=.dict #[] }) scope.names }:Shared)=s0 at I0 ⊢;have hk0:∀ b o,s.heap.get? b=some o->s0.heap.get? b=some o:=fun b o e=>by
  rw[<-hs0];exact pushCells_keeps _ _ b o (Heap.get?_push_of_some _ (Heap.get?_push_of_some _ e))
 have st0:tn 0 s0.heap:=T.keep _ _ _ st fun b hb o e=>hk0 b o e
 clear hs0 sz3;generalize hX:qB5 X scope N' (s.heap.objs.size+1) s H fp=X' at I0;have xp:X'.prog=X.prog:=by rw[<-hX];rfl
 have xw:X'.w=X.w:=by rw[<-hX];rfl
 have xK:X'.K=X.K:=by rw[<-hX];rfl
 have xA:X'.A=X.A:=by rw[<-hX];rfl
 have xc:X'.calm=true:=by rw[<-hX];exact hc
 have xe:X'.env=qBy X.env scope (s.heap.objs.size+1):=by rw[<-hX];rfl
 have xx:X'.ex=fp:=by rw[<-hX];rfl
 have xo:X'.outer=X.stack:=by rw[<-hX];rfl
 have xf:X'.fs=frs X.stack:=by rw[<-hX];rfl
 have xpn:X'.pn=[]:=by rw[<-hX];rfl
 have x0:X'.s₀=s:=by rw[<-hX];rfl
 have xh:X'.H₀=H:=by rw[<-hX];rfl
 have xxe:X'.xe=fun _ _=>False:=by rw[<-hX];rfl
 obtain⟨hg,ht,he⟩:=B (s.heap.objs.size+1) s H fp;rw[hX]at hg ht he;clear hX;have stat:∀ {pl:List (Addr×Obj)} {H':Hp},(∀ p∈pl,p.1=s.heap.objs.size)->(∀ b∈fp,H' b=none)->∀ b∈fp,FpOk X' pl H' b:=fun {pl H'} hp hn b hb=>by
  obtain⟨f0,f1,f2,f3,f4,f5⟩:=hf b hb;refine⟨hn b hb,(I0.ok.exf b (by rw[xx];exact hb)).1,I0.ok.exfs b (by rw[xx];exact hb),.inl (by rw[xx];exact hb),(I0.ok.exf b (by rw[xx];exact hb)).2,fun p hp'=>?_⟩;rw[xpn,List.nil_append]at hp';rw[hp p hp'];exact hCz (hfl b hb)
 obtain⟨W,⟨m0,w0⟩,turn⟩:=rd;have loop:∀ s3:Shared,s3=s0->codeAny (model X.prog X.w) X.A (.compLoop (.ListComp elt [⟨target,iter,ifs,0⟩] scope pos) 0 (.ref it) (.ref s.heap.objs.size) (qBy X.env scope (s.heap.objs.size+1))) (RR (.ref s.heap.objs.size) (s.heap.objs.size+1)) s3:=by
  intro s3 e3;refine compLoop_any (fun n s'=>∃ (i:Nat) (ys:List V) (H':Hp) (its:List Value) (k:Nat),Inv X' [(s.heap.objs.size,{ cls:=.type "list",data:=.seq its.toArray k })] (subσ sub σ) H' s'/\qA5 ys its/\ys.length<=sizeLine/\tn i s'.heap/\(∀ b∈fp,H' b=none)/\W i n ys H') ?_ m0
   ⟨0,[],H,[],0,by rw[e3];exact I0,.nil,hAw _,by rw[e3];exact st0,fun b hb=>(hf b hb).1,w0⟩
  rintro n s4 ⟨i,ys,H4,its,k,I4,rv,hz,st4,fr4,w4⟩;have pe:∀ p∈([(s.heap.objs.size,({ cls:=.type "list",data:=.seq its.toArray k }:Obj))]:List (Addr×Obj)),p.1=s.heap.objs.size:=fun p hp=>by
   rw[hAk]at hp;rw[hp]
  rcases turn i n ys H4 w4 with ⟨stop,q⟩ | ⟨go,step⟩
  ·-- the end
   have td:=T.done X' xp xw xK xc i _ s4 (subσ sub σ) H4 (fun _ _=>False) I4 (stat pe fr4) st4 stop;rw[xA]at td;refine thn td fun r s5 ⟨hr,I5⟩=>?_
   subst hr;have pa:=I5.pin (s.heap.objs.size,{ cls:=.type "list",data:=.seq its.toArray k }) (by rw[xpn];simp);have nacc:H4 s.heap.objs.size=none:=pa.2.1;have nC:H4 (s.heap.objs.size+1)=none:=by have z:=I5.free;rw[xe]at z;exact z
   have un:Un (frs X.stack) fp H H4 s.heap s5.heap:=by have z:=I5.base;rw[xf,xx,xh,x0]at z;exact z
   have un2:Un (frs X.stack) fp H (upd H4 s.heap.objs.size (.lst ys)) s.heap s5.heap:=by
    refine⟨un.keep,un.slot,fun b o e n hx=>?_,un.there,fun b xs e=>?_,fun b o u e=>?_,fun b ps e=>?_⟩
    ·rw[qAh (hAp (Heap.lt_size e))];exact un.free b o e n hx
    ·have z:=un.tups b xs e;rw[qAh (qAj z nacc)];exact z
    ·have z:=un.frzs b o u e;rw[qAh (qAj z nacc)];exact z
    ·obtain⟨more,z⟩:=un.tbls b ps e;exact⟨more,by rw[qAh (qAj z nacc)];exact z⟩
   have hok5:HOk X.prog X.w H4 s5.heap:=by have z:=I5.hok;rw[xp,xw]at z;exact z
   have hok2:HOk X.prog X.w (upd H4 s.heap.objs.size (.lst ys)) s5.heap:=fun b u e=>by
    by_cases hb:b=s.heap.objs.size
    ·subst hb;rw[upd_same]at e;cases e;exact⟨hz,its,k,rv,pa.1⟩
    ·rw[qAh hb]at e;exact(hok5 b u e).stay (fun _ _ _ q=>q) (fun c q=>by rw[qAh (qAj q nacc)];exact q) fun c xs q=>by rw[qAh (qAj q nacc)];exact q
   have os5:s5.os=s.os:=by have z:=I5.os;rw[x0]at z;exact z
   have J5:Inv X pins σ (upd H4 s.heap.objs.size (.lst ys)) s5:=I.call' os5 un2 hok2 I5.bare fun b hb=>by
    obtain⟨f0,f1,f2,f3,f4,f5⟩:=hf b hb;exact⟨f3,f1,f4,f5⟩
   refine hRR _ _ ys H4 s5 J5 (I.fpOk (hB5 _) ?_) ?_ nacc q
   ·rw[qAh (Nat.succ_ne_self _)];exact nC
   ·obtain⟨m,hn,_⟩:=I5.loc;rw[xe]at hn;exact⟨m,hn⟩
  ·-- one turn
   have ti:=T.item X' xp xw xK xc i _ s4 (subσ sub σ) H4 (fun _ _=>False) I4 (stat pe fr4) st4 go;rw[xA]at ti;refine thn ti fun r s5 ⟨u,hr,h5⟩=>?_
   subst hr;refine thn h5 fun _ s6 ⟨x,H6,I6,r6,y6,st6,fr6⟩=>?_
   have I6':=I6.pinned (stat pe fr6) (T.obj _ _ st6);have tg:=hg _ s6 (subσ sub σ) H6 x u _ I6' r6 (step x H6 y6);rw[xp,xw,xA,xe,xxe]at tg;refine thn tg fun _ s7 ⟨σ7,H7,I7,le7,q7⟩=>?_
   have tts:=ht _ s7 σ7 H7 _ I7 q7;rw[xp,xw,xA,xe,xxe]at tts;refine thn tts fun b s8 ⟨H8,I8,q8⟩=>?_
   cases b with
   | false =>
    rw[if_neg hAm]at q8 ⊢;obtain⟨m',hm',w8⟩:=q8;have I9:Inv X' ([(s.heap.objs.size,{ cls:=.type "list",data:=.seq its.toArray k })]++pinsAt fp s6.heap) (subσ sub σ) H8 s8:=I8.weak le7.1.symm le7.2;refine⟨m',hm',i+1,ys,H8,its,k,I9.unpinned,rv,hz,T.keep _ _ _ st6 fun b hb o e=>(I9.pin (b,o) (hA6 _ (hA6 _ (qBq hb e)))).1,fun b hb=>?_,w8⟩;obtain⟨o,e,d⟩:=T.obj _ _ st6 b hb;exact(I9.pin (b,o) (hA6 _ (hA6 _ (qBq hb e)))).2.1
   | true =>
    rw[if_pos rfl]at q8 ⊢;have tee:=he _ s8 σ7 H8 _ I8 q8;rw[xp,xw,xA,xe,xxe]at tee;refine thn tee fun vv s9 ⟨v,H9,I9,r9,lz,m',hm',w9⟩=>?_
    have I10:Inv X' ([(s.heap.objs.size,{ cls:=.type "list",data:=.seq its.toArray k })]++pinsAt fp s6.heap) (subσ sub σ) H9 s9:=I9.weak le7.1.symm le7.2;have pa:=I10.pin (s.heap.objs.size,{ cls:=.type "list",data:=.seq its.toArray k }) (by rw[xpn];simp);have hlen:=rv.length;refine wpAny_list_append_plain (items:=its.toArray) ⟨k,pa.1⟩ (fun h' pl sb=>?_) (by rw[hAe];omega);obtain⟨k',pl⟩:=pl;have keepIt:∀ b∈fp,∀ o,s6.heap.get? b=some o->h'.get? b=some o:=fun b hb o e=>by
     have nb:b≠s.heap.objs.size:=hAp (hfl b hb);exact(sb.2 b nb).trans (I10.pin (b,o) (hA6 _ (hA6 _ (qBq hb e)))).1
    have I11:Inv X' [] (subσ sub σ) H9 s9:=I10.pins_of fun p hp=>absurd hp (by simp)
    have sacc:s.heap.objs.size≠X'.env.locals:=pa.2.2.1;have I12:Inv X' [] (subσ sub σ) H9 { s9 with heap:=h' }:=I11.turned (t':=s9.toks) (it:=s.heap.objs.size) (fun b o hb e=>(sb.2 b hb).trans e) pa.2.1 sacc (.inr (by rw[x0];exact hA5 _))
     (fun y c hy z=>by
      obtain⟨w',o',ho',hd'⟩:=I10.cell y c hy;rw[z,pa.1]at ho';have z2:=hAa ho';rw[<-z2]at hd';cases hd') (fun p hp=>absurd hp (by rw[xpn];simp))
    refine⟨m',hm',i+1,ys++[v],H9,its++[vv],k',I12.pins_of (fun p hp=>?_),rv.append (.cons r9 .nil),by rw[hAf,List.length_singleton];omega,T.keep _ _ _ st6 keepIt,fun b hb=>?_,w9⟩
    ·rw[hAk]at hp;subst hp;refine⟨?_,pa.2.1,sacc,pa.2.2.2.1,fun v z=>by cases z⟩;show h'.get? s.heap.objs.size=_;rw[pl];simp
    ·obtain⟨o,e,d⟩:=T.obj _ _ st6 b hb;exact(I10.pin (b,o) (hA6 _ (hA6 _ (qBq hb e)))).2.1
 exact codeAny_compStart_list (loop _ rfl) (T.self _ 0 _ _ _ st0 (loop _ rfl))
end
end L2
namespace L2
open PySem PySem.Spec PyProof.Rows
def tComp (sub:List (Option Nat)) (wi:TI) (g:TG) (tt:TT) (te:TE):TE:=fun σ H Q=>wi σ H fun J H1 =>
 qCu J (subσ sub σ) g tt te (fun ys H'=>∀ r,H' r=none->Q (.ref r) (upd H' r (.lst ys))) H1
section
variable {X:Cx} {target iter elt:Expr} {ifs:List Expr} {scope:Scope} {pos:Pos} {N':List Str} {sub:List (Option Nat)} {wi:TI} {g:TG} {tt:TT} {te:TE}
theorem clos_of (I:Inv X pins σ H s) (O:CmpOk X.N X.env.scope N' scope sub):closureFor scope X.env=pure (qCc X.env.cells scope.names []) :=
 closureFor_eq fun x hx hf=>I.ok.has x.1 (by rcases O.free x hx hf with z | z;exact .inl z;exact .inr z)
theorem names_of (O:CmpOk X.N X.env.scope N' scope sub):∀ y∈scope.names,y.2 = .local->scope.names.lookup y.1=some .local:=fun y hy e=>by
 obtain⟨n,k⟩:=y;cases e;exact qBi O.nd hy
theorem pe_comp (hc:X.calm=true) (O:CmpOk X.N X.env.scope N' scope sub) (hi:PI X target iter wi)
  (B:∀ C s H fp,PG (qB5 X scope N' C s H fp) target g/\PTs (qB5 X scope N' C s H fp) ifs tt/\PE (qB5 X scope N' C s H fp) elt te)
  (hs:∀ x,foldedSetIterable iter X.env x=pure x:=by intro _;rfl):PE X (.ListComp elt [⟨target,iter,ifs,0⟩] scope pos) (tComp sub wi g tt te):=by
 intro pins s σ H Q I h;rw[eval_ListComp];refine wpAny_comprehension_free (use:=none) rfl hs (clos_of I O) O.kind (names_of O) (thn (hi pins s σ H _ I h) fun v s1 h1=>thn h1 fun itv s2 h2=>?_);obtain⟨it,fp,tn,J,H2,e,I2,T,st2,f2,rd⟩:=h2;subst e;refine comp_core (RR:=fun acc C=>compPost (model X.prog X.w) X.A X.xe none (EP X pins σ Q) acc C) hc I2 O T st2 f2 B rd fun acc C ys H' s' I' fC hn na q=>?_
 obtain⟨m,hn⟩:=hn;obtain⟨f0,f1,f3,f4,f5,f6⟩:=fC;refine⟨m,hn,fun h' sb=>?_⟩;exact⟨.ref acc,upd H' acc (.lst ys),I'.turned (t':=s'.toks) (it:=C) (fun b o hb e=>(sb.2 b hb).trans e) f0 f1 f4 f5 f6,rfl,q acc na⟩
theorem ps_comp (hc:X.calm=true) (O:CmpOk X.N X.env.scope N' scope sub) (hi:PI X target iter wi)
  (B:∀ C s H fp,PG (qB5 X scope N' C s H fp) target g/\PTs (qB5 X scope N' C s H fp) ifs tt/\PE (qB5 X scope N' C s H fp) elt te)
  (hN:X.N.Nodup) (hy:X.N[i]?=some y) (hx:Loc X.env.scope y)
  (hsw:swapsWith (.ListComp elt [⟨target,iter,ifs,0⟩] scope pos) (some (.Name y py)) spos.line X.env=pure true)
  (hs:∀ x,foldedSetIterable iter X.env x=pure x:=by intro _;rfl) (hf:X.fn y=true\/X.env.scope.names.lookup y=some .local:=by first | exact .inl rfl | exact .inr rfl | assumption) :
  PS X (.Assign [.Name y py] (.ListComp elt [⟨target,iter,ifs,0⟩] scope pos) spos) (tAsg (tComp sub wi g tt te) (gName i)):=by
 intro pins s σ H D I h;rw[exec_Assign_Name_used _ _ _ _ hsw];refine wpAny_bind (wpAny_standAt (wpAny_bind ?_));show wpAny _ _ (do let _ ← comprehension (.ListComp elt [⟨target,iter,ifs,0⟩] scope pos) scope X.env _ (newList []) false (eval iter X.env) (some (assign (.Name y py) X.env))) _ _ s;refine wpAny_bind (wpAny_mono (wpAny_comprehension_free (use:=some (assign (.Name y py) X.env)) (Q:=fun _ s'=>SP X pins D .next s') rfl hs (clos_of I O) O.kind (names_of O)
  (thn (hi pins s σ H _ I h) fun v s1 h1=>thn h1 fun itv s2 h2=>?_)) (fun _ s' hq=>wpAny_pure (wpAny_pure hq)) fun _ _ e=>e)
 obtain⟨it,fp,tn,J,H2,e,I2,T,st2,f2,rd⟩:=h2;subst e;refine comp_core (RR:=fun acc C=>compPost (model X.prog X.w) X.A X.xe (some (assign (.Name y py) X.env)) (fun _ s'=>SP X pins D .next s') acc C) hc I2 O T st2 f2 B rd fun acc C ys H' s' I' fC hn na q=>?_
 obtain⟨m,hn⟩:=hn;obtain⟨f0,f1,f3,f4,f5,f6⟩:=fC;show wpAny _ _ (assign (.Name y py) X.env (.ref acc)) _ _ s';refine wpAny_assign_Name (store_ok2 (v:=.ref acc) I' hN hy hx rfl (fun s'' I'' ⟨a,sb,ha⟩=>?_) hf);have nCa:C≠a:=by
  rcases ha with z | z
  ·rw[z];exact f1
  ·exact fun e=>f5 _ _ z e.symm
 refine⟨m,hn.sameBut sb nCa,fun h' sb'=>?_⟩;exact⟨_,upd H' acc (.lst ys),I''.turned (t':=s''.toks) (it:=C) (fun b o hb e=>(sb'.2 b hb).trans e) f0 f1 f4 f5 f6,q acc na⟩
end
section
variable {σ0:St} {g:TG} {tt:TT} {te:TE} {Q:List V->Hp->Prop} {H1:Hp}
def Nxt (n i:Nat) (Pv:Nat->List V->Hp->Prop) (ys:List V) (H:Hp):Prop:=∃ m',m'<n - i/\m'=n - (i+1)/\i+1<=n/\Pv (i+1) ys H
theorem nxt (hi:i<n) (h:Pv (i+1) ys H):Nxt n i Pv ys H:=⟨_,by omega,rfl,hi,h⟩
theorem qA2 {K:PySem.W.Frag} {a:Addr} {xs:List V} (Pv:Nat->List V->Hp->Prop) (h0:Pv 0 [] H1) (hl:∀ i ys H,i<=xs.length->Pv i ys H->SqL K H a xs)
  (hs:∀ i x ys H,xs[i]?=some x->Pv i ys H->g x σ0 H fun σ2 H2=>Sle σ0 σ2/\tt σ2 H2 fun b H3=>if b=true then te σ2 H3 (fun v H4=>ys.length<sizeLine/\Nxt xs.length i Pv (ys++[v]) H4) else Nxt xs.length i Pv ys H3)
  (hd:∀ ys H,Pv xs.length ys H->Q ys H):qCu (Itl K a) σ0 g tt te Q H1:=by
 refine⟨fun i m ys H=>m=xs.length - i/\i<=xs.length/\Pv i ys H,⟨xs.length,by simp,hAw _,h0⟩,?_⟩;rintro i m ys H ⟨rfl,hi,p⟩;have q:=hl i ys H hi p;by_cases hlt:i<xs.length
 ·refine .inr ⟨⟨xs,xs[i],q,by simp[hlt]⟩,fun x H' y=>?_⟩;obtain⟨e,y⟩:=y;subst e;exact hs i x ys _ (y xs q) p
 ·have e:i=xs.length:=by omega
  subst e;exact .inl ⟨⟨xs,q,hA5 _⟩,hd ys H p⟩
theorem qE3 {lo:Int} {n:Nat} (Pv:Nat->List V->Hp->Prop) (h0:Pv 0 [] H1)
  (hs:∀ i ys H,i<n->Pv i ys H->g (.int (lo+i)) σ0 H fun σ2 H2=>Sle σ0 σ2/\tt σ2 H2 fun b H3=>if b=true then te σ2 H3 (fun v H4=>ys.length<sizeLine/\Nxt n i Pv (ys++[v]) H4) else Nxt n i Pv ys H3)
  (hd:∀ ys H,Pv n ys H->Q ys H):qCu (Itr lo n) σ0 g tt te Q H1:=by
 refine⟨fun i m ys H=>m=n - i/\i<=n/\Pv i ys H,⟨n,by simp,hAw _,h0⟩,?_⟩;rintro i m ys H ⟨rfl,hi,p⟩;by_cases hlt:i<n
 ·refine .inr ⟨hlt,fun x H' y=>?_⟩;obtain⟨e,y⟩:=y;subst e y;exact hs i ys _ hlt p
 ·have e:i=n:=by omega
  subst e;exact .inl ⟨hA5 _,hd ys H p⟩
end
end L2
namespace L2
open PySem PySem.Spec PyProof.Rows PySem.SeqAt
mutual
inductive DR (K:PySem.W.Frag) (H:Hp):V->PyData->Prop
 | non:DR K H .non .none
 | bl (b:Bool):DR K H (.bl b) (.bool b)
 | int (i:Int):DR K H (.int i) (.int i)
 | str (x:Str):DR K H (.str x) (.str x)
 | lst {a:Addr} {xs:List V} {ds:List PyData}:SqL K H a xs->DRs K H xs ds->DR K H (.ref a) (.list ds)
 | tup {a:Addr} {xs:List V} {ds:List PyData}:SqT K H a xs->DRs K H xs ds->DR K H (.ref a) (.tuple ds)
inductive DRs (K:PySem.W.Frag) (H:Hp):List V->List PyData->Prop
 | nil:DRs K H [] []
 | cons {v:V} {d:PyData} {vs:List V} {ds:List PyData}:DR K H v d->DRs K H vs ds->DRs K H (v :: vs) (d :: ds)
end
section
variable {X:Cx} {pins:List (Addr×Obj)} {σ:St} {H:Hp} {s:Shared}
mutual
theorem DR.reads (I:Inv X pins σ H s):∀ {v:V} {d:PyData} {u:Value},DR X.K H v d->qBn v u->∃ as,Reads s.heap u d as
 | _,_,_,.non,r=>by cases r;exact⟨_,.none⟩
 | _,_,_,.bl b,r=>by cases r;exact⟨_,.bool b⟩
 | _,_,_,.int i,r=>by obtain⟨t,rfl⟩:=r;exact⟨_,.int i t⟩
 | _,_,_,.str x,r=>by obtain⟨t,rfl⟩:=r;exact⟨_,.str x t⟩
 | _,_,_,.lst hq hd,r=>by
  cases r;obtain⟨its,rv,⟨o,n,e,c,_,dt⟩,_⟩:=I.list hq;obtain⟨as,ra⟩:=DRs.reads I hd rv;exact⟨_,.list e c dt ra⟩
 | _,_,_,.tup hq hd,r=>by
  cases r;obtain⟨its,rv,⟨o,e,c,n,dt⟩,_⟩:=I.tuple hq;obtain⟨as,ra⟩:=DRs.reads I hd rv;exact⟨_,.tuple e c dt ra⟩
theorem DRs.reads (I:Inv X pins σ H s):∀ {vs:List V} {ds:List PyData} {us:List Value},DRs X.K H vs ds->qA5 vs us->∃ as,ReadsAll s.heap us ds as
 | _,_,_,.nil,r=>by cases r;exact⟨_,.nil⟩
 | _,_,_,.cons h t,r=>by
  cases r with
  | cons r rr =>
   obtain⟨a1,q1⟩:=DR.reads I h r;obtain⟨a2,q2⟩:=DRs.reads I t rr;exact⟨_,.cons q1 q2⟩
end
end
def rEqD (K:PySem.W.Frag) (neg:Bool):R2:=fun x y H Q=>∃ dx dy,DR K H x dx/\DR K H y dy/\shaped dx=true/\shaped dy=true/\Q (.bl (if neg then !PyData.eqv dx dy else PyData.eqv dx dy)) H
section
variable {X:Cx}
theorem op_eqD (hu:X.A.units+64<cLine):OpR X (compareOp .Eq) (rEqD X.K false):=by
 intro pins s σ H x y v u Q I rx ry h;obtain⟨dx,dy,hx,hy,sx,sy,q⟩:=h;obtain⟨a1,r1⟩:=DR.reads I hx rx;obtain⟨a2,r2⟩:=DR.reads I hy ry;exact eq_dataH r1 r2 sx sy hu ⟨.bl (PyData.eqv dx dy),H,I,rfl,q⟩
theorem op_neD (hu:X.A.units+64<cLine):OpR X (compareOp .NotEq) (rEqD X.K true):=by
 intro pins s σ H x y v u Q I rx ry h;obtain⟨dx,dy,hx,hy,sx,sy,q⟩:=h;obtain⟨a1,r1⟩:=DR.reads I hx rx;obtain⟨a2,r2⟩:=DR.reads I hy ry;exact ne_dataH r1 r2 sx sy hu ⟨.bl (!PyData.eqv dx dy),H,I,rfl,q⟩
theorem strsAre_of:∀ {us:List Value},qA5 (ss.map V.str) us->StrsAre us ss:=by
 induction ss with
 | nil=>intro us r;cases r;exact .nil
 | cons a l ih =>
  intro us r;cases r with
  | cons r rr =>
   obtain⟨t,rfl⟩:=r;exact .cons a t (ih rr)
theorem qGg:∀ {us:List Value},StrsAre us ss->qA5 (ss.map V.str) us:=by
 induction ss with
 | nil=>intro us r;cases r;exact .nil
 | cons a l ih =>
  intro us r;cases r with
  | cons _ _ r=>exact .cons ⟨_,rfl⟩ (ih r)
theorem call_sortedS:qCr X (.builtin "sorted") (fun xs H Q=>∃ p ss,xs=[.ref p]/\SqL X.K H p (ss.map V.str)/\ss.length<64/\∀ r ss',H r=none->ss'.Perm ss->sortedS ss'=true->Q (.ref r) (upd H r (.lst (ss'.map V.str)))):=by
 intro pins s σ H xs us Q I r h;obtain⟨p,ss,rfl,hq,h64,q⟩:=h;obtain⟨u,rfl,rx⟩:=qC3 r;cases rx;obtain⟨its,rv,pl,hz⟩:=I.list hq;have hl:=rv.length;rw[hA1]at hl;refine sorted_strs pl.isList (strsAre_of rv) (by omega) fun out ss' h1 h2 h3=>?_
 obtain⟨e,he⟩:=sortedAll_at s.heap its out;have nz:H (s.heap.objs.size+1)=none:=I.hok.fresh (hB5 _);refine⟨.ref (s.heap.objs.size+1),_,I.laid (t':=s.toks) (a:=s.heap.objs.size+1) (o:=.lst (ss'.map V.str)) (fun b o eb=>sortedAll_old eb) (hB5 _) ?_,rfl,q _ ss' nz h2 h3⟩;refine⟨?_,out.toList,e,qGg h1,by simpa using he⟩;rw[hA1,h2.length_eq];exact hB2 (qAi (by omega))
end
end L2
namespace L2
open PySem PySem.Spec PyProof.Rows
section
variable {X:Cx}
theorem sl_str:SlR X (fun x lo hi H Q=>∃ z:Str,x = .str z/\z.length<=sizeLine/\Q (.str (Txt.slice z lo hi)) H):=by
 intro pins s σ H x v vl vu lo hi sl Q I rx hs pl pu h;obtain⟨z,rfl,hz,q⟩:=h;obtain⟨t,rfl⟩:=rx;refine⟨"str",_,F.slot_str_getitem.lookup,typeIs_str _ _ _,?_⟩;obtain⟨o,ho,hc,hd⟩:=hs;have fin:∀ t' k,EP X pins σ Q (.str (Txt.slice z lo hi) t') { s with toks:=k }:=fun t' k=>⟨.str (Txt.slice z lo hi),H,I.tok k,⟨t',rfl⟩,q⟩
 cases pl with
 | none =>
  cases pu with
  | none=>exact wpAny_getItem_str_slice (l:=none) (u:=none) (st:=none) ⟨o,ho,hc,hd⟩ rfl (post_val_or_str ⟨hB7 (Txt.slice_le z _ _) hz,fin⟩)
  | int j uj=>exact wpAny_getItem_str_slice (l:=none) (u:=some (j,uj)) (st:=none) ⟨o,ho,hc,hd⟩ rfl (post_val_or_str ⟨hB7 (Txt.slice_le z _ _) hz,fin⟩)
 | int i ui =>
  cases pu with
  | none=>exact wpAny_getItem_str_slice (l:=some (i,ui)) (u:=none) (st:=none) ⟨o,ho,hc,hd⟩ rfl (post_val_or_str ⟨hB7 (Txt.slice_le z _ _) hz,fin⟩)
  | int j uj=>exact wpAny_getItem_str_slice (l:=some (i,ui)) (u:=some (j,uj)) (st:=none) ⟨o,ho,hc,hd⟩ rfl (post_val_or_str ⟨hB7 (Txt.slice_le z _ _) hz,fin⟩)
theorem mulOk_small (h1:x.length<=100) (h2:0<=n) (h3:n<=100):PySem.MulOk x n:=by
 refine⟨?_,fun h _=>?_,fun h _=>?_⟩
 ·rw[Bool.or_eq_false_iff];exact⟨decide_eq_false (by omega),decide_eq_false (by omega)⟩
 ·have e:((2^63 - 1:Int) / n) >= 100:=by
   apply Int.le_ediv_of_mul_le (by omega);omega
  omega
 ·unfold Builtin.Str.tooLong;have:x.length*n.toNat<=100*100:=Nat.mul_le_mul h1 (by omega);exact decide_eq_false (by have:sizeLine > 10000:=(by decide);omega)
theorem qGf:OpR X (binaryOp .Mult) (fun x y H Q=>∃ (z:Str) (n:Int),x = .str z/\y = .int n/\z.length<=100/\0<=n/\n<=100/\Q (.str (Txt.mul z n)) H):=by
 intro pins s σ H x y v u Q I rx ry h;obtain⟨z,n,rfl,rfl,h1,h2,h3,q⟩:=h;obtain⟨t,rfl⟩:=rx;obtain⟨t',rfl⟩:=ry;exact SB.mul (mulOk_small h1 h2 h3) fun t' k=>⟨.str (Txt.mul z n),H,I.tok k,⟨t',rfl⟩,q⟩
theorem qA8:qCr X (.builtin "isinstance") (fun xs H Q=>∃ x t c b,xs=[x,.ty c]/\TyOf X.K H x t/\PySem.W.kitOne X.K t (.type c)=some b/\Q (.bl b) H):=by
 intro pins s σ H xs us Q I r h;obtain⟨x,t,c,b,rfl,ty,e,q⟩:=h;obtain⟨u,w',rfl,rx,rc⟩:=vals2 r;cases(show w'=Value.type c from rc);exact isinst_ok I rx ty e fun tk=>⟨.bl b,H,I.tok tk,rfl,q⟩
def Itk (kvs:List (Key×V)) (d:Addr) (o:Obj):It :=
 ⟨fun i H=>i<kvs.length/\H d=some (.frz o (.dK kvs)),fun i H x H'=>H'=H/\∃ p,kvs[i]?=some p/\x=kV p.1,fun i H=>kvs.length<=i/\H d=some (.frz o (.dK kvs))⟩
theorem turn_dkeys {P:Program} {w:World} {K:PySem.W.Frag} {tg:Expr} (it d:Addr) (o:Obj) (kvs:List (Key×V)) (vs:List (Key×Value)) (es:Array DictEntry) (ep:Nat)
  (hne:d≠it) (kv:KV kvs vs) (hx:o.ExactDict) (hd:o.data = .dict es ep) (hk:KeysOf (qBb P w) es) (hp:Pairs (qBb P w) es.toList vs) (nd:(vs.map (·.1)).Nodup) :
  Turn P w K tg (Itk kvs d o) [it] it (fun i h=>h.IsKeyIter it d i vs.length ep) where
 mem:=by simp
 obj:=fun i h st b hb=>by
  have e:b=it:=by simpa using hb
  subst e;obtain⟨o,e,c,d⟩:=st;exact⟨o,e,fun v z=>by rw[d]at z;cases z⟩
 keep:=fun i h h' st k=>st.at fun o e=>k it (by simp) o e
 item:=by
  intro X hP hw hK hc i pins s σ H E I hf st hg;subst hP hw hK;obtain⟨hi,hH⟩:=hg;have ho:s.heap.get? d=some o:=(I.hok d _ hH).1;have da:s.heap.DictAt (qBb X.prog X.w) d vs ep:=⟨o,es,ho,hx,hd,hk,hp,nd⟩;obtain⟨⟨k,xv⟩,hkx⟩:∃ p,kvs[i]?=some p:=⟨kvs[i],by simp[hi]⟩;have hvl:i<vs.length:=by have:=kv.length;omega
  obtain⟨⟨k',uv⟩,hkv⟩:∃ p,vs[i]?=some p:=⟨vs[i],by simp[hvl]⟩;have ek:k=k':=by
   have e:=congrArg (fun l=>l[i]?) kv.keys;simp only[hAd,hkx,hkv]at e;exact hAa e
  subst ek;obtain⟨f0,f1,f2,f3,f4,f5⟩:=hf it (by simp);refine wpAny_pyNext_dict_item st da hkv fun key h' hkey hit' hs'=>?_
  have I1:Inv X pins σ H { s with heap:=h' }:=I.turned (t':=s.toks) (fun b o hb e=>(hs'.2 b hb).trans e) f0 f1 f3 f4 f5;obtain⟨oo,e,c,dd⟩:=id hit';refine⟨key,rfl,go_of (s:={ s with heap:=h' }) e c dd (by decide) ⟨kV k,H,I1,?_,⟨rfl,(k,xv),hkx,rfl⟩,hit',fun b hb=>(hf b hb).1⟩⟩;rcases keyIs_shape (show keyIs k key=true from hkey) with ⟨j,t,rfl,rfl⟩ | ⟨x,t,rfl,rfl⟩
  ·exact⟨t,rfl⟩
  ·exact⟨t,rfl⟩
 done:=by
  intro X hP hw hK hc i pins s σ H E I hf st hg;subst hP hw hK;obtain⟨hi,hH⟩:=hg;have ho:s.heap.get? d=some o:=(I.hok d _ hH).1;have da:s.heap.DictAt (qBb X.prog X.w) d vs ep:=⟨o,es,ho,hx,hd,hk,hp,nd⟩;obtain⟨f0,f1,f2,f3,f4,f5⟩:=hf it (by simp);have hl:=kv.length;exact wpAny_pyNext_dict_end (I.ok.hd hc) st da (by simp;omega) fun h' eb=>⟨rfl,I.turned (t':=s.toks) (fun b o hb e=>eb b o hb e) f0 f1 f3 f4 f5⟩
 self:=fun _ _ _ _ _ st h=>wpAny_pyIter_keyiter st h
def iKeys (td:TE):TI:=fun σ H R=>td σ H fun x H1=>∃ d kvs,x = .ref d/\H1 d=some (.dK kvs)/\∀ o,R (Itk kvs d o) (upd H1 d (.frz o (.dK kvs)))
theorem pi_keys {e tg:Expr} {td:TE} (he:PE X e td):PI X tg e (iKeys td):=by
 intro pins s σ H R I h;refine thn (he pins s σ H _ I h) fun v s1 ⟨x,H1,I1,r1,q1⟩=>?_
 obtain⟨d,kvs,e,hH,q⟩:=q1;subst e;cases r1;obtain⟨hz,hsm,vs,kv,o,es,ep,ho,hx,hd,hk,hp,nd⟩:=dk_of I1.hok hH;have I2:Inv X pins σ (upd H1 d (.frz o (.dK kvs))) s1:=by
  refine I1.write (t':=s1.toks) (h':=s1.heap) (x:=d) (e:=d) (by rw[hH];trivial) (.inl rfl) (fun _ _ _ q=>q) ⟨o,ho⟩ ⟨ho,?_⟩;exact⟨hz,hsm,vs,kv,o,es,ep,ho,hx,hd,hk,hp,nd⟩
 have da:s1.heap.DictAt (qBb X.prog X.w) d vs ep:=⟨o,es,ho,hx,hd,hk,hp,nd⟩;refine wpAny_pyIter_dict hsm da ?_;have hne:d≠s1.heap.objs.size:=hAp (Heap.lt_size ho);refine⟨s1.heap.objs.size,[s1.heap.objs.size],_,_,_,rfl,I2.kept (t':=s1.toks) fun b o e=>Heap.get?_push_of_some _ e,turn_dkeys s1.heap.objs.size d o kvs vs es ep hne kv hx hd hk hp nd,⟨_,Heap.get?_push_size _ rfl,rfl,rfl⟩,fun b hb=>?_,q o⟩;have e:b=s1.heap.objs.size:=by simpa using hb
 subst e;exact I2.fpOk (hA5 _) (by rw[qAh (Ne.symm hne)];exact I1.hok.fresh (hA5 _))
theorem turns_keys (Pv:Nat->List V->Hp->Prop) (h0:Pv 0 [] H1)
  (hl:∀ i ys H,i<=kvs.length->Pv i ys H->H d=some (.frz o (.dK kvs)))
  (hs:∀ i p ys H,kvs[i]?=some p->Pv i ys H->g (kV p.1) σ0 H fun σ2 H2=>Sle σ0 σ2/\tt σ2 H2 fun b H3=>if b=true then te σ2 H3 (fun v H4=>ys.length<sizeLine/\Nxt kvs.length i Pv (ys++[v]) H4) else Nxt kvs.length i Pv ys H3)
  (hd:∀ ys H,Pv kvs.length ys H->Q ys H):qCu (Itk kvs d o) σ0 g tt te Q H1:=by
 refine⟨fun i m ys H=>m=kvs.length - i/\i<=kvs.length/\Pv i ys H,⟨kvs.length,by simp,hAw _,h0⟩,?_⟩;rintro i m ys H ⟨rfl,hi,p⟩;have q:=hl i ys H hi p;by_cases hlt:i<kvs.length
 ·refine .inr ⟨⟨hlt,q⟩,fun x H' y=>?_⟩;obtain⟨e,pr,hpr,rfl⟩:=y;subst e;exact hs i pr ys _ hpr p
 ·have e:i=kvs.length:=by omega
  subst e;exact .inl ⟨⟨hA5 _,q⟩,hd ys H p⟩
end
end L2
namespace L2
open PySem PySem.Spec PyProof.Rows
section
variable {X:Cx}
theorem getD_all (bs:List Bool) (d:Bool):(List.range bs.length).all (fun i=>bs.getD i d)=bs.all id:=by
 induction bs with
 | nil=>rfl
 | cons b r ih =>
  rw[hBd,List.range_succ_eq_map,List.all_cons,hD0,List.all_cons];have e:((fun i=>(b :: r).getD i d)∘Nat.succ)=fun i=>r.getD i d:=by
   funext i;simp
  rw[e,ih];simp
theorem truths {P:Program} {w:World} {A:Around} {bs:List Bool} {its:List Value} (rv:qA5 (bs.map V.bl) its) (d:Bool):TruthOf P w A (fun i v=>its.toArray[i]?=some v) (fun i=>bs.getD i d):=by
 intro i v s Q E hv hQ;have hv':its[i]?=some v:=by simpa using hv
 have hi:i<its.length:=(hAo.mp hv').1;have hl:=rv.length;rw[hA1]at hl;have hb:(bs.map V.bl)[i]?=some (V.bl bs[i]):=by rw[hAd,hA2 (by omega)];rfl
 obtain⟨u,hu,ru⟩:=rv.get hb;rw[hv']at hu;have e:v=Value.bool bs[i]:=(hAa hu).trans ru;rw[e];have e2:bs.getD i d=bs[i]:=by rw[hAb,hA2 (by omega)];rfl
 have hQ:Q (bs.getD i d) s:=hQ;rw[e2]at hQ;exact wpAny_truthy_bool hQ
theorem qC8 (hc:X.calm=true):qCr X (.builtin "all") (fun xs H Q=>∃ (p:Addr) (bs:List Bool),xs=[.ref p]/\SqL X.K H p (bs.map V.bl)/\Q (.bl (bs.all id)) H):=by
 intro pins s σ H xs us Q I r h;obtain⟨p,bs,rfl,hq,q⟩:=h;obtain⟨u,rfl,rx⟩:=qC3 r;cases rx;obtain⟨its,rv,pl,hz⟩:=I.list hq;have hl:=rv.length;rw[hA1]at hl;have hne:p≠s.heap.objs.size:=by
  obtain⟨o,n,e,_⟩:=pl;exact hAp (Heap.lt_size e)
 have hh:=I.ok.hd hc;refine call_all_walk (wpAny_pyIter_list pl.isList ?_);refine⟨s.heap.objs.size,_,_,_,_,_,fun i=>bs.getD i true,rfl,Walks.list (by exact hh) _ p hne its.toArray,⟨⟨_,Heap.get?_push_size _ rfl,rfl,rfl⟩,pl.isList.at fun o e=>Heap.get?_push_of_some _ e⟩,truths rv true,fun h' tk hk=>?_⟩;refine⟨.bl (bs.all id),H,I.kept (t':=tk) fun b o e=>hk b o ?_ (Heap.get?_push_of_some _ e),?_,q⟩
 ·intro z;rw[hAk]at z;exact absurd (Heap.lt_size e) (by rw[z];exact hBl _)
 ·show Value.bool _=Value.bool _;rw[hAe,<-hl,getD_all]
def Itv (n:Nat) (xv:Nat->V):It:=⟨fun i _=>i<n,fun i H x H'=>H'=H/\x=xv i,fun i _=>n=i⟩
theorem turn_walk {P:Program} {w:World} {K:PySem.W.Frag} {tg:Expr} (it:Addr) (n:Nat) (xv:Nat->V) (Pv:Nat->Value->Prop) (St:Nat->Heap->Prop) (ty:String)
  (W:∀ A:Around,A.handled=none->Walks P w A it [it] [it] n Pv St) (hv:∀ i v,Pv i v->qBn (xv i) v)
  (ho:∀ i h,St i h->∃ o vs,h.get? it=some o/\o.cls = .type ty/\o.data = .fields vs)
  (hn:["enumerate","zip","dict_itemiterator","dict_reverseitemiterator","odict_iterator","itertools.zip_longest","itertools.pairwise"].contains ty=false)
  (hself:∀ (A:Around) (i:Nat) (s:Shared) (Q:Value->Shared->Prop) (E:Value->Shared->Prop),St i s.heap->Q (.ref it) s->wpAny (model P w) A (pyIter (.ref it)) Q E s):Turn P w K tg (Itv n xv) [it] it St where
 mem:=by simp
 obj:=fun i h st b hb=>by
  have e:b=it:=by simpa using hb
  subst e;obtain⟨o,vs,e,c,d⟩:=ho i h st;exact⟨o,e,fun v z=>by rw[d]at z;cases z⟩
 keep:=fun i h h' st k=>(W { handled:=none } rfl).frame i h h' st k
 item:=by
  intro X hP hw hK hc i pins s σ H E I hf st hg;subst hP hw hK;obtain⟨f0,f1,f2,f3,f4,f5⟩:=hf it (by simp);refine(W X.A (I.ok.hd hc)).item i s _ _ hg st fun v h' tk pv st' kk=>?_
  have I1:Inv X pins σ H { s with heap:=h',toks:=tk }:=I.turned (fun b o hb e=>kk b o (by simpa using hb) e) f0 f1 f3 f4 f5;obtain⟨o,vs,e,c,d⟩:=ho (i+1) h' st';exact⟨v,rfl,go_of (s:={ s with heap:=h',toks:=tk }) e c d hn ⟨xv i,H,I1,hv i v pv,⟨rfl,rfl⟩,st',fun b hb=>(hf b hb).1⟩⟩
 done:=by
  intro X hP hw hK hc i pins s σ H E I hf st hg;subst hP hw hK;obtain⟨f0,f1,f2,f3,f4,f5⟩:=hf it (by simp);have hg':n=i:=hg;subst hg';refine(W X.A (I.ok.hd hc)).done s _ _ st fun h' tk kk=>⟨rfl,?_⟩
  exact I.turned (fun b o hb e=>kk b o (by simpa using hb) e) f0 f1 f3 f4 f5
 self:=hself
def sgnV (x:Str) (i:Nat):V:=.str ⟨#[x.cps.toList.getD i 0]⟩
def iStr (t:TE):TI:=fun σ H R=>t σ H fun v H1=>∃ x:Str,v = .str x/\R (Itv x.cps.size (sgnV x)) H1
theorem sgn_rel (h:SignAt x i v):qBn (sgnV x i) v:=by
 obtain⟨c,u,hc,rfl⟩:=h;refine⟨u,?_⟩;have:x.cps.toList.getD i 0=c:=by
  rw[hAb,hCb,hc];rfl
 rw[this]
theorem pi_str {e tg:Expr} {t:TE} (he:PE X e t):PI X tg e (iStr t):=by
 intro pins s σ H R I h;refine thn (he pins s σ H _ I h) fun v s1 ⟨y,H1,I1,r1,q1⟩=>?_
 obtain⟨x,rfl,q⟩:=q1;obtain⟨tk,rfl⟩:=r1;have fin:∀ (o:Obj) (ty:String),o={ cls:=.type ty,data:=.fields #[.str x tk,.int 0 0] }->(["enumerate","zip","dict_itemiterator","dict_reverseitemiterator","odict_iterator","itertools.zip_longest","itertools.pairwise"].contains ty=false) ->
   (∀ A:Around,A.handled=none->Walks X.prog X.w A s1.heap.objs.size [s1.heap.objs.size] [s1.heap.objs.size] x.cps.size (SignAt x) (fun i h=>h.IsStrIter s1.heap.objs.size ty x tk i)) ->
   (∀ (A:Around) (i:Nat) (s:Shared) (Q:Value->Shared->Prop) (E:Value->Shared->Prop),s.heap.IsStrIter s1.heap.objs.size ty x tk i->Q (.ref s1.heap.objs.size) s->wpAny (model X.prog X.w) A (pyIter (.ref s1.heap.objs.size)) Q E s) ->
   PIE X pins σ tg R (.ref s1.heap.objs.size) { s1 with heap:=s1.heap.push o }:=by
  intro o ty eo hn W self;subst eo;refine⟨s1.heap.objs.size,[s1.heap.objs.size],_,_,H1,rfl,I1.kept (t':=s1.toks) fun b o e=>Heap.get?_push_of_some _ e,turn_walk s1.heap.objs.size x.cps.size (sgnV x) _ _ ty W (fun i v=>sgn_rel) (fun i h st=>?_) hn self,⟨_,Heap.get?_push_size _ rfl,rfl,rfl⟩,fun b hb=>?_,q⟩
  ·obtain⟨o,h1,h2,h3⟩:=st;exact⟨o,_,h1,h2,h3⟩
  ·have e:b=s1.heap.objs.size:=by simpa using hb
   subst e;exact I1.fpOk (hA5 _) (I1.hok.fresh (hA5 _))
 cases ha:x.cps.all (· < 128)
 ·exact wpAny_pyIter_wide ha (fin _ "str_iterator" rfl (by decide) (fun A hA=>Walks.strWide hA _ x tk) (fun A i s Q E st hQ=>wpAny_pyIter_striter_wide st hQ))
 ·exact wpAny_pyIter_ascii ha (fin _ "str_ascii_iterator" rfl (by decide) (fun A hA=>Walks.strAscii hA _ x tk) (fun A i s Q E st hQ=>wpAny_pyIter_striter_ascii st hQ))
theorem turns_val (Pv:Nat->List V->Hp->Prop) (h0:Pv 0 [] H1)
  (hs:∀ i ys H,i<n->Pv i ys H->g (xv i) σ0 H fun σ2 H2=>Sle σ0 σ2/\tt σ2 H2 fun b H3=>if b=true then te σ2 H3 (fun v H4=>ys.length<sizeLine/\Nxt n i Pv (ys++[v]) H4) else Nxt n i Pv ys H3)
  (hd:∀ ys H,Pv n ys H->Q ys H):qCu (Itv n xv) σ0 g tt te Q H1:=by
 refine⟨fun i m ys H=>m=n - i/\i<=n/\Pv i ys H,⟨n,by simp,hAw _,h0⟩,?_⟩;rintro i m ys H ⟨rfl,hi,p⟩;by_cases hlt:i<n
 ·refine .inr ⟨hlt,fun x H' y=>?_⟩;obtain⟨e,y⟩:=y;subst e y;exact hs i ys _ hlt p
 ·have e:i=n:=by omega
  subst e;exact .inl ⟨rfl,hd ys H p⟩
end
end L2
namespace L2
open PySem PySem.Spec PyProof.Rows
theorem orstand_led (t:SetTable) (n:Nat):(t.orStandIn n).led=t.led:=by
 unfold SetTable.orStandIn;split <;> rfl
theorem laynew_led (t:SetTable) (es:Array (Int×Value)) (h:Int) (x:Value):(layNew t es h x).2.1.led=t.led:=by
 unfold layNew;split
 ·exact orstand_led _ _
 ·rfl
theorem relay_led (t:SetTable) (es:Array (Int×Value)) (k:Nat):(relayAll t es k).2.1.led=t.led:=by
 unfold relayAll;split
 ·rename_i u order e;have eu:u.led=t.led:=by
   unfold SetTable.relaid SetTable.laid at e;cases hc:SetTable.layClean (SetTable.sizeAbove k - 1) (es.map (·.1)) with
   | none=>rw[hc]at e;cases e
   | some o =>
    rw[hc]at e;injection e with e
    injection e with e1 e2
    rw[<-e1]
  dsimp only;split
  ·exact eu
  ·rfl
 ·rfl
theorem relay_plain (t:SetTable) (es:Array (Int×Value)) (k:Nat) (hp:t.plain=false):(relayAll t es k).2.1.plain=false:=by
 unfold relayAll;split
 ·rename_i u order e;have eu:u.plain=t.plain:=by
   unfold SetTable.relaid SetTable.laid at e;cases hc:SetTable.layClean (SetTable.sizeAbove k - 1) (es.map (·.1)) with
   | none=>rw[hc]at e;cases e
   | some o =>
    rw[hc]at e;injection e with e
    injection e with e1 e2
    rw[<-e1]
  dsimp only;split
  ·exact eu.trans hp
  ·rfl
 ·rfl
def qBz (P:Program) (w:World) (h:Heap) (a:Addr) (ss:List Str):Prop :=
 ∃ (es:Array (Int×Value)) (ep:Nat) (t:SetTable),h.get? a=some { cls:=.type "set",dict:=none,data:=.set es ep t,slots:=#[] }/\ElemsOf (PySem.strKind P w) es.toList /\
  StrsAre (es.toList.map (·.2)) ss/\es.size<scanBound/\t.fits es.size=true/\t.led=!w.params.followText "set-order"/\(es.size≠0->t.plain=false)
theorem strs_mem:∀ {vs:List Value} {ss:List Str},StrsAre vs ss->((∃ v∈vs,Value.isStrOf x v=true)↔x∈ss)
 | _,_,.nil=>by simp
 | _,_,.cons y t r=>by
  have ih:=strs_mem (x:=x) r;have hy:Value.isStrOf x (.str y t)=true↔x=y:=by
   constructor
   ·intro h;obtain⟨u,e⟩:=Value.isStrOf_shape h;cases e;rfl
   ·rintro rfl;simp[Value.isStrOf]
  constructor
  ·rintro⟨v,hv,hp⟩;rcases hAc.mp hv with rfl | hv
   ·rw[hy.mp hp];exact hA9
   ·exact hA7 _ (ih.mp ⟨v,hv,hp⟩)
  ·intro h;rcases hAc.mp h with h | h
   ·exact⟨_,hA9,hy.mpr h⟩
   ·obtain⟨v,hv,hp⟩:=ih.mpr h;exact⟨v,hA7 _ hv,hp⟩
theorem strs_perm {es es1:List (Int×Value)} {ss:List Str} {k:Int} {x:Str} {t:Tok} (hS:StrsAre (es.map (·.2)) ss) (p:es1.Perm (es++[(k,.str x t)])):∃ ss1,StrsAre (es1.map (·.2)) ss1/\ss1.Perm (ss++[x]):=by
 have hall:∀ v,v∈es1.map (·.2)->∃ y u,v = .str y u:=by
  intro v hv;obtain⟨e,he,rfl⟩:=hA3.mp hv;rcases hAr.mp (p.mem_iff.mp he) with z | z
  ·exact hS.all _ (hC3 z)
  ·rw[hAk]at z;subst z;exact⟨x,t,rfl⟩
 refine⟨_,strsAre_map _ hall,?_⟩;have q:=(p.map (·.2)).map strOf;rw[hA4,hA4,hS.strs]at q;exact q
theorem qEa {es es1:List (Int×Value)} {ss:List Str} (hS:StrsAre (es.map (·.2)) ss) (p:es1.Perm es):∃ ss1,StrsAre (es1.map (·.2)) ss1/\ss1.Perm ss:=by
 have hall:∀ v,v∈es1.map (·.2)->∃ y u,v = .str y u:=by
  intro v hv;obtain⟨e,he,rfl⟩:=hA3.mp hv;exact hS.all _ (hC3 (p.mem_iff.mp he))
 refine⟨_,strsAre_map _ hall,?_⟩;have q:=(p.map (·.2)).map strOf;rw[hS.strs]at q;exact q
section
variable {P:Program} {w:World} {A:Around} {E:Value->Shared->Prop} {s:Shared} {a:Addr} {ss:List Str}
theorem qF5 (ho:s.heap.get? a=some { cls:=.type "set",dict:=none,data:=.set es ep t,slots:=#[] }) :
  (s.heap.update a (Obj.putSet es' t')).get? a=some { cls:=.type "set",dict:=none,data:=.set es' (ep+1) t',slots:=#[] }:=by
 have q:=Heap.get?_update_self (Obj.putSet es' t') ho (by rw[putSet_of es' t' rfl];rfl);rw[putSet_of es' t' rfl]at q;exact q
theorem tset_tail {g:Bool->Sem Unit} (hg:∀ (b:Bool) (s1:Shared) (Q':Unit->Shared->Prop),Q' () s1->wpAny (model P w) A (g b) Q' E s1) {es es1:Array (Int×Value)} {ep:Nat} {t t2:SetTable} {ss1:List Str}
  (ho:s.heap.get? a=some { cls:=.type "set",dict:=none,data:=.set es ep t,slots:=#[] }) (e1:ElemsOf (PySem.strKind P w) es1.toList) (e2:StrsAre (es1.toList.map (·.2)) ss1) (e3:es1.size<scanBound) (e4:t2.fits es1.size=true)
  (e5:t2.led=!w.params.followText "set-order") (e6:t2.plain=false) {wasD:Bool} {R:Option Bool->Shared->Prop} (h:∀ h' ss',Heap.SameBut a s.heap h'->qBz P w h' a ss'->ss'.Perm ss1->R (some true) { s with heap:=h' }) :
  wpAny (model P w) A (do
    storeSet a es1 t2
    if (!wasD && t2.tooFull)=true then do
      g (relayAll t2 es1 (SetTable.grown es1.size)).2.2
      storeSet a (relayAll t2 es1 (SetTable.grown es1.size)).1 (relayAll t2 es1 (SetTable.grown es1.size)).2.1
      pure (some true)
     else pure (some true)) R E s:=by
 refine wpAny_bind (wpAny_storeSet_of ho rfl ?_ (fits_of_scanBound e3));have o1:(s.heap.update a (Obj.putSet es1 t2)).get? a=_:=qF5 (s:=s) ho;have b1:=Heap.SameBut.update s.heap a (Obj.putSet es1 t2);split
 ·have p:=relayAll_perm t2 es1 (SetTable.grown es1.size);have f:=relayAll_fits t2 es1 (SetTable.grown es1.size);have l:=relay_led t2 es1 (SetTable.grown es1.size);have pl:=relay_plain t2 es1 (SetTable.grown es1.size) e6;generalize relayAll t2 es1 (SetTable.grown es1.size)=Rl at p f l pl ⊢;obtain⟨es2,t3,gv⟩:=Rl;dsimp only at p f l pl ⊢;have z2:es2.size=es1.size:=by rw[<-hBp,p.length_eq,hBp]
  obtain⟨ss2,q1,q2⟩:=qEa e2 p;refine wpAny_bind (hg _ _ _ (wpAny_bind (wpAny_storeSet_of o1 rfl ?_ (fits_of_scanBound (by rw[z2];exact e3)))));have o2:((s.heap.update a (Obj.putSet es1 t2)).update a (Obj.putSet es2 t3)).get? a=_:=qF5 (s:={ s with heap:=s.heap.update a (Obj.putSet es1 t2) }) o1;exact wpAny_pure (h _ ss2 (b1.trans (Heap.SameBut.update _ a _)) ⟨es2,_,t3,o2,e1.perm p,q1,by rw[z2];exact e3,f,l.trans e5,fun _=>pl⟩ q2)
 ·exact wpAny_pure (h _ ss1 b1 ⟨es1,_,t2,o1,e1,e2,e3,e4,e5,fun _=>e6⟩ (hCt _))
theorem tset_add (hS:qBz P w s.heap a ss) (room:ss.length+1<scanBound)
  (h:∀ h' ss',Heap.SameBut a s.heap h'->qBz P w h' a ss'->(if x∈ss then ss'=ss else ss'.Perm (ss++[x]))->Q (!decide (x∈ss)) { s with heap:=h' }) :
  wpAny (model P w) A (setAddHashed a (.str x tk) ((PySem.strKind P w).hash x)) Q E s:=by
 obtain⟨es,ep,t,ho,e1,e2,e3,e4,e5,e6⟩:=hS;have hk:(PySem.strKind P w).is x (.str x tk)=true:=strKind_is P w x tk;have hsc:Value.scannable (.str x tk)=true:=rfl;have hz:ss.length=es.size:=by rw[<-e2.strs,hA1,hA1,hBp]
 unfold setAddHashed setAddHashedIn;refine wpAny_holding (wpAny_bind (wpAny_setState_of ho rfl e4 ?_));dsimp only;rw[byScan_of hsc e3 e1,if_pos rfl];unfold setAddByScan;refine wpAny_bind (wpAny_bind (wpAny_rule (wpAny_bind (wpAny_setScan_of hk ho rfl e4 e1 ?_))));cases hr:List.findIdx? (fun e=>(PySem.strKind P w).is x e.2) es.toList with
 | some j =>
  dsimp only;obtain⟨hj,hp,_⟩:=List.findIdx?_eq_some_iff_getElem.mp hr;have hm:x∈ss:=(strs_mem e2).mp ⟨_,hC3 (hBg hj),hp⟩;have q:=h s.heap ss (Heap.SameBut.refl a _) ⟨es,ep,t,ho,e1,e2,e3,e4,e5,e6⟩ (by rw[if_pos hm]);rw[decide_eq_true hm]at q;exact wpAny_pure (wpAny_pure q)
 | none =>
  dsimp only;have hm:¬x∈ss:=fun z=>by
   obtain⟨v,hv,hp⟩:=(strs_mem e2).mpr z;obtain⟨e,he,rfl⟩:=hA3.mp hv;have q:=List.findIdx?_eq_none_iff.mp hr e he;rw[show(PySem.strKind P w).is x e.2=true from hp]at q;cases q
  have gw:∀ (b:Bool) (s1:Shared) (Q':Unit->Shared->Prop),Q' () s1->wpAny (model P w) A (match b with | true=>rule "set.scan.the-table-gave-way" | false=>pure ()) Q' E s1:=fun b s1 Q' hq=>by
   cases b
   ·exact wpAny_pure hq
   ·exact wpAny_rule hq
  have p:=layNew_perm t es ((PySem.strKind P w).hash x) (.str x tk);have f:=layNew_fits t es ((PySem.strKind P w).hash x) (.str x tk);have l:=laynew_led t es ((PySem.strKind P w).hash x) (.str x tk);generalize layNew t es ((PySem.strKind P w).hash x) (.str x tk)=L at p f l ⊢;obtain⟨es1,t1,wasD,gv⟩:=L;dsimp only at p f l ⊢;rw[Array.toList_push]at p;have d1:ElemsOf (PySem.strKind P w) es1.toList:=(e1.push hk hsc).perm p;obtain⟨ss1,d2,d3⟩:=strs_perm e2 p;have z1:es1.size=es.size+1:=by rw[<-hBp,p.length_eq,hAf,hBp];rfl
  have d4:es1.size<scanBound:=by rw[z1,<-hz];exact room
  have fin:∀ h' ss',Heap.SameBut a s.heap h'->qBz P w h' a ss'->ss'.Perm ss1->Q true { s with heap:=h' }:=fun h' ss' b1 b2 b3=>by
   have q:=h h' ss' b1 b2 (by rw[if_neg hm];exact b3.trans d3);rw[decide_eq_false hm]at q;exact q
  refine wpAny_bind (gw _ _ _ ?_);split
  ·rename_i hpl;refine wpAny_bind ?_;rw[hashByValue_scannable 8 hsc];refine wpAny_pure ?_;refine tset_tail gw ho d1 d2 d4 (SetTable.fits_plain_off f) (l.trans e5) rfl fun h' ss' b1 b2 b3=>?_
   exact wpAny_pure (fin h' ss' b1 b2 b3)
  ·rename_i hpl;refine wpAny_bind (wpAny_pure ?_);rw[if_pos rfl];refine tset_tail gw ho d1 d2 d4 f (l.trans e5) (by simpa using hpl) fun h' ss' b1 b2 b3=>?_
   exact wpAny_pure (fin h' ss' b1 b2 b3)
end
end L2
namespace L2
open PySem PySem.Spec PyProof.Rows
theorem qBz.at (x:qBz P w h a ss) (k:∀ o,h.get? a=some o->h'.get? a=some o):qBz P w h' a ss:=by
 obtain⟨es,ep,t,ho,r⟩:=x;exact⟨es,ep,t,k _ ho,r⟩
section
variable {P:Program} {w:World} {A:Around} {E:Value->Shared->Prop} {s:Shared}
abbrev setO (w:World):Obj:={ cls:=.type "set",dict:=none,data:=.set #[] 0 (.fresh 0 0 (!w.params.followText "set-order")),slots:=#[] }
theorem setO_ok (P:Program) (w:World) (e:h.get? a=some (setO w)):qBz P w h a []:=⟨#[],0,_,e,fun e he=>by simp at he,.nil,by show 0<scanBound;decide,by rfl,rfl,fun z=>absurd rfl z⟩
end
end L2
namespace L2
open PySem PySem.Spec PyProof.Rows
namespace FS
theorem entry_set_iter':entryFor table "set.__iter__" = some Builtin.«frozenset.__iter__»:=entryFor_alias (id':="frozenset.__iter__") (by kernel_rfl) rfl (by decide +kernel) (by kernel_rfl)
theorem slot_sin:Slot "set_iterator" "__next__" "set_iterator.__next__":=.of (owner:="set_iterator") (n:="__next__") (by rw[typeLookup_type,builtinLookup_eq_fast];kernel_rfl) (by decide +kernel) (by decide +kernel) (by decide +kernel) (by first | exact .inl (by decide +kernel) | exact .inr (by decide +kernel)) (by rw[isSubtype_type];kernel_rfl)
theorem entry_sin:entryFor table "set_iterator.__next__" = some Builtin.«set_iterator.__next__»:=entryFor_of_tree (by kernel_rfl)
theorem owner_si:Manifest.owners.lookup (String.ofList ['r','o','t','a','r','e','t','i','_','t','e','s'].reverse)=some Manifest.sig_set_iterator:=by kernel_rfl
theorem args_sin (a:Value):argsOk "set_iterator.__next__" ⟨[a],[]⟩:=by
 unfold argsOk;rw[signature?_of (id:="set_iterator.__next__") (n:=['_','_','t','x','e','n','_','_']) (o:=['r','o','t','a','r','e','t','i','_','t','e','s']) (by kernel_rfl) owner_si];kernel_rfl
theorem slot_sii:Slot "set_iterator" "__iter__" "set_iterator.__iter__":=.of (owner:="set_iterator") (n:="__iter__") (by rw[typeLookup_type,builtinLookup_eq_fast];kernel_rfl) (by decide +kernel) (by decide +kernel) (by decide +kernel) (by first | exact .inl (by decide +kernel) | exact .inr (by decide +kernel)) (by rw[isSubtype_type];kernel_rfl)
theorem entry_sii:entryFor table "set_iterator.__iter__" = some Builtin.«dict_keyiterator.__iter__»:=entryFor_alias (id':="dict_keyiterator.__iter__") (by kernel_rfl) (by first | rfl | decide +kernel | (unfold String.splitOn;simp +decide [String.splitOnAux])) (by decide +kernel) (by kernel_rfl)
theorem args_sii (a:Value):argsOk "set_iterator.__iter__" ⟨[a],[]⟩:=by
 unfold argsOk;rw[signature?_of (id:="set_iterator.__iter__") (n:=['_','_','r','e','t','i','_','_']) (o:=['r','o','t','a','r','e','t','i','_','t','e','s']) (by kernel_rfl) owner_si];kernel_rfl
end FS
theorem qEi:∀ (l:List α) (i:Nat) (x:α),l[i]?=some x->(x :: l.eraseIdx i).Perm l
 | [],i,x,h=>by simp at h
 | y :: l,0,x,h=>by simp at h;subst h;exact hCt _
 | y :: l,i+1,x,h=>by
  have q:=qEi l i x (by simpa using h);rw[List.eraseIdx_cons_succ];exact(List.Perm.swap y x _).trans (q.cons y)
section
variable {M:Model} {A:Around} {E:Value->Shared->Prop} {s:Shared}
theorem wp_choose (hn:n≠0) (h:∀ i d,i<n->Q i { s with drawn:=d }):wpAny M A (choose src n) Q E s:=fun Γ p _=>⟨hn,h _ _ (hCj _ (Nat.pos_of_ne_zero hn))⟩
theorem qEk:∀ (n:Nat) (xs:List α) (s:Shared) (Q:List α->Shared->Prop),xs.length=n->(∀ ys d,ys.Perm xs->Q ys { s with drawn:=d })->wpAny M A (drawOrder n xs) Q E s
 | 0,xs,s,Q,hl,h=>by
  have e:xs=[]:=List.length_eq_zero_iff.mp hl;subst e;exact wpAny_pure (h [] s.drawn (hCt _))
 | n+1,[],s,Q,hl,h=>by simp at hl
 | n+1,y :: ys,s,Q,hl,h=>by
  show wpAny M A (choose .order (y :: ys).length >>= _) Q E s;refine wpAny_bind (wp_choose (by simp) fun i d hi=>?_);have e:(y :: ys)[i]?=some (y :: ys)[i]:=hA2 hi;rw[e];dsimp only;have p:=qEi (y :: ys) i _ e;refine wpAny_bind (qEk n ((y :: ys).eraseIdx i) _ _ ?_ fun zs d2 pz=>wpAny_pure (h _ d2 ((pz.cons _).trans p)));have:=p.length_eq;simp only[hBd]at this hl ⊢;omega
end
theorem pick_go (next:Nat->Nat):∀ (n k:Nat) (left:List α) (out:Array α),left.length=n->(pickOrder.go next n k left out).toList.Perm (out.toList++left)
 | 0,k,left,out,hl=>by
  have e:left=[]:=List.length_eq_zero_iff.mp hl;subst e;rw[pickOrder.go,hBq]
 | n+1,k,left,out,hl=>by
  rw[pickOrder.go];have hi:next k % left.length<left.length:=hCj _ (by omega);have e:left[next k % left.length]?=some left[next k % left.length]:=hA2 hi;rw[e];dsimp only;have p:=qEi left _ _ e;have l:=p.length_eq;simp only[hBd]at l;refine(pick_go next n (k+1) _ _ (by omega)).trans ?_;rw[Array.toList_push,List.append_assoc];exact List.Perm.append_left _ p
theorem pick_perm (next:Nat->Nat) (xs:Array α):(pickOrder next xs).toList.Perm xs.toList:=by
 have q:=pick_go next xs.size 0 xs.toList #[] (by simp)
 simpa [pickOrder] using q
section
variable {P:Program} {w:World} {A:Around} {E:Value->Shared->Prop} {s:Shared} {a:Addr} {es:Array (Int×Value)} {ep:Nat} {t:SetTable}
theorem wp_setDrawn (ho:s.heap.get? a=some { cls:=.type "set",dict:=none,data:=.set es ep t,slots:=#[] }) (hf:t.fits es.size=true) (h:Q (!w.params.followText "set-order" && (!t.plain && decide (es.size > 1))) s):wpAny (model P w) A (setDrawn a) Q E s:=by
 unfold setDrawn;refine wpAny_bind (wpAny_setState_of ho rfl hf ?_);unfold setsByText;exact wpAny_bind (wpAny_bind (wpAny_askSetting (wpAny_pure (wpAny_pure h))))
theorem wp_setNextT (ho:s.heap.get? a=some { cls:=.type "set",dict:=none,data:=.set es ep t,slots:=#[] }) (hf:t.fits es.size=true) (hb:w.params.followText "set-order" = true)
  (h:Q (((pickOrder (w.params.setOrder a ep) es)[i]?).map fun e=>(e.2,slot)) s):wpAny (model P w) A (setNext a slot i ep) Q E s:=by
 unfold setNext;refine wpAny_bind (wpAny_setState_of ho rfl hf ?_);unfold setsByText;refine wpAny_bind (wpAny_bind (wpAny_askSetting (wpAny_pure ?_)));show wpAny _ _ (if (w.params.followText "set-order")=true then _ else _) _ _ _;rw[if_pos hb];rw[if_neg (by simp)];unfold setWalk;refine wpAny_bind (wpAny_bind (wpAny_setState_of ho rfl hf ?_));unfold setsByText;refine wpAny_bind (wpAny_bind (wpAny_askSetting (wpAny_pure ?_)));show wpAny _ _ (if (w.params.followText "set-order")=true then _ else _) _ _ _;rw[if_pos hb];exact wpAny_bind (wpAny_askSetting (wpAny_pure (wpAny_pure h)))
theorem wp_setNext1 (ho:s.heap.get? a=some { cls:=.type "set",dict:=none,data:=.set es ep t,slots:=#[] }) (hf:t.fits es.size=true) (hb:w.params.followText "set-order" = false) (h1:es.size<=1) (hl:t.led=true)
  (h:Q (match es[SetTable.below t.place slot]?,t.place[SetTable.below t.place slot]? with | some (_,x),some j=>some (x,j+1) | _,_=>none) s):wpAny (model P w) A (setNext a slot i ep) Q E s:=by
 unfold setNext;refine wpAny_bind (wpAny_setState_of ho rfl hf ?_);unfold setsByText;refine wpAny_bind (wpAny_bind (wpAny_askSetting (wpAny_pure ?_)));show wpAny _ _ (if (w.params.followText "set-order")=true then _ else _) _ _ _;rw[if_neg (by rw[hb];exact hAm)];show wpAny _ _ (if (!t.plain && decide (es.size > 1))=true then _ else _) _ _ _;rw[if_neg (by rw[hBv];rintro⟨_,z⟩;have:=of_decide_eq_true z;omega)];refine wpAny_bind ?_;show wpAny _ _ (if (!t.led && !es.isEmpty)=true then _ else _) _ _ _;rw[if_neg (by rw[hl];simp)];exact wpAny_pure (wpAny_pure h)
end
end L2
namespace L2
open PySem PySem.Spec PyProof.Rows
abbrev sIt (a:Addr) (f0:Value) (i n ep:Nat):Obj:={ cls:=.type "set_iterator",dict:=none,data:=.fields #[f0,rawInt i,.ref a,rawInt n,rawInt ep],slots:=#[] }
abbrev sOb (es:Array (Int×Value)) (ep:Nat) (t:SetTable):Obj:={ cls:=.type "set",dict:=none,data:=.set es ep t,slots:=#[] }
section
variable {P:Program} {w:World} {A:Around} {E:Value->Shared->Prop} {s:Shared} {a I:Addr} {es:Array (Int×Value)} {ep:Nat} {t:SetTable}
theorem sit_stop {T:Obj} {Q:Fin->Shared->Prop} {f0:Value} {i n:Nat} {pre:Sem Unit} (hh:A.handled=none) (hI:s.heap.get? I=some (sIt a f0 i n ep))
  (hp:∀ {Q':Unit->Shared->Prop},(∀ h1,Heap.SameBut I s.heap h1->(∃ g0,h1.get? I=some (sIt a g0 i n ep))->Q' () { s with heap:=h1 })->wpAny (model P w) A pre Q' E s)
  (hE:∀ h' e,Heap.ExtBut I s.heap h'->(∃ o,h'.get? e=some o/\o.cls = .type "StopIteration")->E (.ref e) { s with heap:=h' }) :
  wpAny (model P w) A (do pre;setField (.ref I) 2 .none;raiseNew (← newExc (.type "StopIteration") [])) Q E s:=by
 refine wpAny_bind (hp fun h1 b1 hg=>?_);obtain⟨g0,hI1⟩:=hg;refine wpAny_bind (wpAny_setField_rec hI1 (by simp) fun h2 hI2 b2=>?_);show wpAny _ _ (newExc (.type "StopIteration") [] >>= fun e=>raiseNew e) _ _ _;refine wpAny_bind ?_;simp only[newExc,newTuple];refine wpAny_bind (wpAny_newObj_type ?_ (by size_fits));refine wpAny_bind (m:=firstArgMember _ _) (wpAny_of_eq (a:=Value.none) (by first | rfl | (simp only[firstArgMember];rfl)) ?_);refine wpAny_newObj_type ?_ (by size_fits);simp only[raiseNew];refine wpAny_bind (wpAny_handled ?_);rw[hh];exact wpAny_bind (wpAny_pure (wpAny_throw (hE _ _ (((b1.trans b2).extBut.push _).push _) ⟨_,Heap.get?_push_size _ rfl,rfl⟩)))
end
section
variable {P:Program} {w:World} {a I:Addr} {es:Array (Int×Value)} {ep:Nat} {t:SetTable}
theorem walk_setI (hne:a≠I) (hf:t.fits es.size=true) (order:List Value) (sl:Nat->Nat)
  (nx:∀ (A:Around) (E:Value->Shared->Prop) (s:Shared) (Q:Option (Value×Nat)->Shared->Prop) (i:Nat),i<=order.length->s.heap.get? a=some (sOb es ep t)->Q ((order[i]?).map fun x=>(x,sl (i+1))) s->wpAny (model P w) A (setNext a (sl i) i ep) Q E s) :
  ∀ A:Around,A.handled=none->Walks P w A I [I,a] [I] order.length (fun i v=>order[i]?=some v) (fun i h=>h.get? I=some (sIt a (rawInt (sl i)) i es.size ep)/\h.get? a=some (sOb es ep t)):=fun A hh=>{
 sub:=fun b hb=>by simp at hb ⊢;exact .inl hb
 frame:=fun i h h' st k=>⟨k I (by simp) _ st.1,k a (by simp) _ st.2⟩
 item:=fun i s Q E hi st hQ=>by
  obtain⟨hI,ho⟩:=st;have hT:s.TypeIs (.ref I) "set_iterator":=⟨_,hI,rfl⟩;unfold pyNext;refine wpAny_bind (wpAny_attempt (wpAny_callSpecial?_slot (name:=Str.ofString "__next__") hT FS.slot_sin (wpAny_call_entry FS.slot_sin hT FS.entry_sin ?_ (FS.args_sin _))));unfold Builtin.«set_iterator.__next__»;refine wpAny_bind (wpAny_pure (wpAny_bind (wpAny_fieldsOf hI rfl ?_)));show wpAny _ _ (setEntries a >>= _) _ _ _;refine wpAny_bind (wpAny_setEntries_of ho rfl hf ?_);rw[if_neg (by simp)];show wpAny _ _ (setNext a (sl i) i ep >>= _) _ _ _;refine wpAny_bind (nx _ _ s _ i (hB2 hi) ho ?_);rw[hA2 hi];show wpAny _ _ (setField (.ref I) 0 (rawInt (sl (i+1))) >>= _) _ _ _;refine wpAny_bind (wpAny_setField_rec hI (by simp) fun h1 hI1 b1=>wpAny_bind (wpAny_setField_rec hI1 (by simp) fun h2 hI2 b2=>?_));refine wpAny_pure ⟨_,rfl,wpAny_pure (hQ _ h2 s.toks (hA2 hi) ⟨hI2,?_⟩ fun b o hb e=>?_)⟩
  ·exact b2.extBut _ _ hne (b1.extBut _ _ hne ho)
  ·have nb:b≠I:=by simpa using hb
   exact b2.extBut _ _ nb (b1.extBut _ _ nb e)
 done:=fun s Q E st hQ=>by
  obtain⟨hI,ho⟩:=st;have hT:s.TypeIs (.ref I) "set_iterator":=⟨_,hI,rfl⟩;unfold pyNext;refine wpAny_bind (wpAny_attempt (wpAny_callSpecial?_slot (name:=Str.ofString "__next__") hT FS.slot_sin (wpAny_call_entry FS.slot_sin hT FS.entry_sin ?_ (FS.args_sin _))));unfold Builtin.«set_iterator.__next__»;refine wpAny_bind (wpAny_pure (wpAny_bind (wpAny_fieldsOf hI rfl ?_)));show wpAny _ _ (setEntries a >>= _) _ _ _;refine wpAny_bind (wpAny_setEntries_of ho rfl hf ?_);rw[if_neg (by simp)];show wpAny _ _ (setNext a (sl order.length) order.length ep >>= _) _ _ _;refine wpAny_bind (nx _ _ s _ order.length (hA5 _) ho ?_);rw[hCo (hA5 _)];refine sit_stop (pre:=pure ()) (T:=sOb es ep t) (by exact hh) hI (fun q=>wpAny_pure (q _ (Heap.SameBut.refl ..) ⟨_,hI⟩)) fun h' e k he=>?_
  obtain⟨oe,h1,h2⟩:=he;refine wpAny_bind (wpAny_isInstance (T:="StopIteration") (b:=true) ⟨oe,h1,h2⟩ isSubtype_stop (wpAny_pure (hQ _ s.toks fun b o hb e=>k _ _ (by simpa using hb) e)))
 self:=fun i s Q E st hQ=>by
  have hT:s.TypeIs (.ref I) "set_iterator":=⟨_,st.1,rfl⟩;refine wpAny_pyIter_slot hT FS.slot_sii (wpAny_call_entry FS.slot_sii hT FS.entry_sii ?_ (FS.args_sii _));exact wpAny_pure ⟨_,rfl,"set_iterator",_,hT,FS.slot_sin.lookup,hQ⟩ }
end
end L2
namespace L2
open PySem PySem.Spec PyProof.Rows
abbrev tOb (xs:Array Value):Obj:={ cls:=.type "tuple",data:=.seq xs }
section
variable {P:Program} {w:World} {a I T:Addr} {es:Array (Int×Value)} {ep:Nat} {t:SetTable}
theorem walk_setD (hne:a≠I) (hT0:T≠I) (hf:t.fits es.size=true) (ps:List Nat) (order:List Value) (hl:order.length=ps.length) (hp:∀ (i p:Nat),ps[i]?=some p->∃ k x,es[p]?=some (k,x)/\order[i]?=some x) :
  ∀ A:Around,A.handled=none->Walks P w A I [I,a,T] [I] order.length (fun i v=>order[i]?=some v) (fun i h=>h.get? I=some (sIt a (.ref T) i es.size ep)/\h.get? a=some (sOb es ep t)/\h.get? T=some (tOb (ps.map fun (p:Nat)=>rawInt p).toArray)):=fun A hh=>{
 sub:=fun b hb=>by simp at hb ⊢;exact .inl hb
 frame:=fun i h h' st k=>⟨k I (by simp) _ st.1,k a (by simp) _ st.2.1,k T (by simp) _ st.2.2⟩
 item:=fun i s Q E hi st hQ=>by
  obtain⟨hI,ho,hTt⟩:=st;have hT:s.TypeIs (.ref I) "set_iterator":=⟨_,hI,rfl⟩;unfold pyNext;refine wpAny_bind (wpAny_attempt (wpAny_callSpecial?_slot (name:=Str.ofString "__next__") hT FS.slot_sin (wpAny_call_entry FS.slot_sin hT FS.entry_sin ?_ (FS.args_sin _))));unfold Builtin.«set_iterator.__next__»;refine wpAny_bind (wpAny_pure (wpAny_bind (wpAny_fieldsOf hI rfl ?_)));show wpAny _ _ (setEntries a >>= _) _ _ _;refine wpAny_bind (wpAny_setEntries_of ho rfl hf ?_);rw[if_neg (by simp)];show wpAny _ _ (seqItems? (.ref T) >>= _) _ _ _;refine wpAny_bind (wpAny_seqItems hTt rfl ?_);have hip:i<ps.length:=by rw[<-hl];exact hi
  obtain⟨k,x,h1,h2⟩:=hp i _ (hA2 hip);have e1:((ps.map fun (p:Nat)=>rawInt p).toArray)[i]?=some (rawInt ((ps[i]:Nat):Int)):=by simp[hip]
  show wpAny _ _ (match ((ps.map fun (p:Nat)=>rawInt p).toArray)[((i:Int)).toNat]? with | some (.int place _)=>_ | some _=>_ | none=>_) _ _ _;rw[hB3,e1];show wpAny _ _ (setNextDrawn a ps[i] ep >>= _) _ _ _;unfold setNextDrawn;refine wpAny_bind (wpAny_bind (wpAny_setState_of ho rfl hf ?_));dsimp only;rw[if_neg (by simp),h1];refine wpAny_pure (wpAny_bind (wpAny_setField_rec hI (by simp) fun h3 hI3 b3=>?_));refine wpAny_pure ⟨_,rfl,wpAny_pure (hQ _ h3 s.toks h2 ⟨hI3,b3.extBut _ _ hne ho,b3.extBut _ _ hT0 hTt⟩ fun b o hb e=>b3.extBut _ _ (by simpa using hb) e)⟩
 done:=fun s Q E st hQ=>by
  obtain⟨hI,ho,hTt⟩:=st;have hT:s.TypeIs (.ref I) "set_iterator":=⟨_,hI,rfl⟩;unfold pyNext;refine wpAny_bind (wpAny_attempt (wpAny_callSpecial?_slot (name:=Str.ofString "__next__") hT FS.slot_sin (wpAny_call_entry FS.slot_sin hT FS.entry_sin ?_ (FS.args_sin _))));unfold Builtin.«set_iterator.__next__»;refine wpAny_bind (wpAny_pure (wpAny_bind (wpAny_fieldsOf hI rfl ?_)));show wpAny _ _ (setEntries a >>= _) _ _ _;refine wpAny_bind (wpAny_setEntries_of ho rfl hf ?_);rw[if_neg (by simp)];show wpAny _ _ (seqItems? (.ref T) >>= _) _ _ _;refine wpAny_bind (wpAny_seqItems hTt rfl ?_);have e1:((ps.map fun (p:Nat)=>rawInt p).toArray)[order.length]?=none:=by simp[hl]
  show wpAny _ _ (match ((ps.map fun (p:Nat)=>rawInt p).toArray)[((order.length:Int)).toNat]? with | some (.int place _)=>_ | some _=>_ | none=>_) _ _ _;rw[hB3,e1];refine sit_stop (pre:=setField (.ref I) 0 (rawInt 0)) (T:=sOb es ep t) (by exact hh) hI (fun q=>wpAny_setField_rec hI (by simp) fun h1 hI1 b1=>q _ b1 ⟨_,hI1⟩) fun h' e k he=>?_
  obtain⟨oe,h1,h2⟩:=he;refine wpAny_bind (wpAny_isInstance (T:="StopIteration") (b:=true) ⟨oe,h1,h2⟩ isSubtype_stop (wpAny_pure (hQ _ s.toks fun b o hb e=>k _ _ (by simpa using hb) e)))
 self:=fun i s Q E st hQ=>by
  have hT:s.TypeIs (.ref I) "set_iterator":=⟨_,st.1,rfl⟩;refine wpAny_pyIter_slot hT FS.slot_sii (wpAny_call_entry FS.slot_sii hT FS.entry_sii ?_ (FS.args_sii _));exact wpAny_pure ⟨_,rfl,"set_iterator",_,hT,FS.slot_sin.lookup,hQ⟩ }
end
theorem below_lt (h:j<=p):SetTable.below #[p] j=0:=by
 unfold SetTable.below;show SetTable.below.go #[p] j 1 0 1=0;unfold SetTable.below.go;have e:¬(#[p]:Array Nat).getD ((0+1) / 2) j<j:=by show ¬p<j;omega
 rw[if_pos (by decide)];dsimp only;rw[if_neg e];rfl
theorem below_ge (h:p<j):SetTable.below #[p] j=1:=by
 unfold SetTable.below;show SetTable.below.go #[p] j 1 0 1=1;unfold SetTable.below.go;have e:(#[p]:Array Nat).getD ((0+1) / 2) j<j:=by show p<j;omega
 rw[if_pos (by decide)];dsimp only;rw[if_pos e];rfl
theorem below_nil (j:Nat):SetTable.below #[] j=0:=rfl
section
variable {P:Program} {w:World} {A:Around} {E:Value->Shared->Prop} {s:Shared} {a:Addr} {ss:List Str}
theorem iter_setT (hS:qBz P w s.heap a ss)
  (h:∀ (I:Addr) (fp:List Addr) (vs:List Value) (ss1:List Str) (St:Nat->Heap->Prop) (h1:Heap) (d:Drawn),StrsAre vs ss1->ss1.Perm ss->(∀ b o,s.heap.get? b=some o->h1.get? b=some o)->(∀ A:Around,A.handled=none->Walks P w A I fp [I] vs.length (fun i v=>vs[i]?=some v) St) ->
   St 0 h1->I∈fp->(∀ b∈fp,b<h1.objs.size/\(b=a\/s.heap.objs.size<=b))->s.heap.objs.size<=I->s.heap.objs.size<=h1.objs.size->Q (.ref I) { s with heap:=h1,drawn:=d }):wpAny (model P w) A (pyIter (.ref a)) Q E s:=by
 obtain⟨es,ep,t,ho,e1,e2,e3,e4,e5,e6⟩:=hS;have hT:s.TypeIs (.ref a) "set":=⟨_,ho,rfl⟩;have ha:a<s.heap.objs.size:=Heap.lt_size ho;have hp4:t.place.size=es.size:=by
  unfold SetTable.fits at e4;rw[hBv]at e4;exact eq_of_beq e4.1
 refine wpAny_pyIter_slot hT PySem.F.slot_set_iter (wpAny_call_entry PySem.F.slot_set_iter hT FS.entry_set_iter' ?_ (PySem.F.args_set_iter_1 _));unfold Builtin.«frozenset.__iter__» Builtin.Frozenset.slot0;refine wpAny_bind (wpAny_bind (wpAny_pure (wpAny_pure ?_)));unfold Builtin.Frozenset.sizeOf;refine wpAny_bind (wpAny_bind (wpAny_setEntries_of ho rfl e4 (wpAny_pure ?_)));refine wpAny_bind (wp_setDrawn ho e4 ?_);dsimp only;cases hb:w.params.followText "set-order" with
 | true =>
  rw[if_neg (by simp)];refine wpAny_bind (wpAny_pure (wpAny_bind (wpAny_setEpoch_of ho rfl e4 ?_)));show wpAny _ _ (newFields "set_iterator" _ >>= _) _ _ _;refine wpAny_bind (wpAny_newObj_type (wpAny_pure ⟨_,rfl,"set_iterator",_,⟨_,Heap.get?_push_size _ rfl,rfl⟩,FS.slot_sin.lookup,?_⟩) (by show 5<=_;decide));have p:=pick_perm (w.params.setOrder a ep) es;obtain⟨ss1,q1,q2⟩:=qEa e2 p;refine h s.heap.objs.size [s.heap.objs.size,a] _ ss1 _ _ s.drawn q1 q2 (fun b o e=>Heap.get?_push_of_some _ e) (walk_setI (ep:=ep) (es:=es) (t:=t) (hAp ha) e4 _ (fun _=>0) ?_) ⟨Heap.get?_push_size _ rfl,Heap.get?_push_of_some _ ho⟩ (by simp) ?_ (hA5 _) (by rw[Heap.size_push];exact hB5 _)
  ·intro A' E' s' Q' i hi ho' hq;refine wp_setNextT ho' e4 hb ?_;rw[hAd,hCb,Option.map_map]at hq;exact hq
  ·intro b hbm;rw[Heap.size_push];simp at hbm;rcases hbm with rfl | rfl
   ·exact⟨hAv _,.inr (hA5 _)⟩
   ·exact⟨hBe ha,.inl rfl⟩
 | false =>
  have led:t.led=true:=by rw[e5,hb];rfl
  by_cases hz:es.size > 1
  ·have pl:t.plain=false:=e6 (by omega);rw[if_pos (by rw[pl,decide_eq_true hz];rfl)];refine wpAny_bind (qEk es.size (List.range es.size) s _ (by simp) fun ps d pp=>?_);refine wpAny_bind (wpAny_newTuple (s:={ s with drawn:=d }) ?_ (by rw[hA1,pp.length_eq,hB4];exact fits_of_scanBound e3));have ho1:(s.heap.push (tOb (ps.map fun (p:Nat)=>rawInt p).toArray)).get? a=some (sOb es ep t):=Heap.get?_push_of_some _ ho;refine wpAny_bind (wpAny_setEpoch_of (s:={ s with heap:=s.heap.push (tOb (ps.map fun (p:Nat)=>rawInt p).toArray),drawn:=d }) ho1 rfl e4 ?_);show wpAny _ _ (newFields "set_iterator" _ >>= _) _ _ _;refine wpAny_bind (wpAny_newObj_type (wpAny_pure ⟨_,rfl,"set_iterator",_,⟨_,Heap.get?_push_size _ rfl,rfl⟩,FS.slot_sin.lookup,?_⟩) (by show 5<=_;decide));have hlt:∀ p∈ps,p<es.size:=fun p hm=>hAn.mp (pp.mem_iff.mp hm)
   have ep1:(ps.filterMap fun p=>es[p]?).Perm es.toList:=by
    have q:=pp.filterMap fun p=>es[p]?
    rw[filterMap_getElem?_range]at q;exact q
   have hfm:∀ l:List Nat,(∀ p∈l,p<es.size)->(l.filterMap fun p=>es[p]?).length=l.length/\∀ (i p:Nat),l[i]?=some p->∃ k x,es[p]?=some (k,x)/\((l.filterMap fun p=>es[p]?).map (·.2))[i]?=some x:=by
    intro l
    induction l with
    | nil=>intro _;exact⟨rfl,fun i p z=>by simp at z⟩
    | cons c l ih =>
     intro hm;obtain⟨i1,i2⟩:=ih fun p hp=>hm p (hA7 _ hp)
     have hcl:c<es.size:=hm c hA9;have hc:es[c]?=some es[c]:=Array.getElem?_eq_getElem hcl;rw[hB0,hc];refine⟨by simp[i1],fun i p z=>?_⟩;cases i with
     | zero =>
      have e:c=p:=by simpa using z
      subst e;exact⟨_,_,hc,by simp⟩
     | succ i =>
      obtain⟨k,x,a1,a2⟩:=i2 i p (by simpa using z);exact⟨k,x,a1,by simpa using a2⟩
   obtain⟨f1,f2⟩:=hfm ps hlt;obtain⟨ss1,q1,q2⟩:=qEa e2 ep1;have sz1:(s.heap.push (tOb (ps.map fun (p:Nat)=>rawInt p).toArray)).objs.size=s.heap.objs.size+1:=Heap.size_push ..;refine h (s.heap.push (tOb (ps.map fun (p:Nat)=>rawInt p).toArray)).objs.size [(s.heap.push (tOb (ps.map fun (p:Nat)=>rawInt p).toArray)).objs.size,a,s.heap.objs.size] _ ss1 _ _ d q1 q2 (fun b o e=>Heap.get?_push_of_some _ (Heap.get?_push_of_some _ e))
    (walk_setD (ep:=ep) (es:=es) (t:=t) (T:=s.heap.objs.size) ?_ ?_ e4 ps _ (by rw[hA1,f1]) f2) ⟨Heap.get?_push_size _ rfl,Heap.get?_push_of_some _ ho1,Heap.get?_push_of_some _ (Heap.get?_push_size _ rfl)⟩ (by simp) ?_ ?_ ?_
   ·rw[sz1];exact hAp (hBe ha)
   ·rw[sz1];exact hAp (hAv _)
   ·intro b hbm;rw[Heap.size_push,sz1];rw[sz1]at hbm;simp at hbm;rcases hbm with rfl | rfl | rfl
    ·exact⟨hAv _,.inr (hB5 _)⟩
    ·exact⟨hBe (hBe ha),.inl rfl⟩
    ·exact⟨hBe (hAv _),.inr (hA5 _)⟩
   ·rw[sz1];exact hB5 _
   ·rw[Heap.size_push,sz1];exact Nat.le_succ_of_le (hB5 _)
  ·rw[if_neg (by rw[decide_eq_false hz];simp)];refine wpAny_bind (wpAny_pure (wpAny_bind (wpAny_setEpoch_of ho rfl e4 ?_)));show wpAny _ _ (newFields "set_iterator" _ >>= _) _ _ _;refine wpAny_bind (wpAny_newObj_type (wpAny_pure ⟨_,rfl,"set_iterator",_,⟨_,Heap.get?_push_size _ rfl,rfl⟩,FS.slot_sin.lookup,?_⟩) (by show 5<=_;decide));refine h s.heap.objs.size [s.heap.objs.size,a] _ ss _ _ s.drawn e2 (hCt _) (fun b o e=>Heap.get?_push_of_some _ e) (walk_setI (ep:=ep) (es:=es) (t:=t) (hAp ha) e4 _ (fun i=>if i=0 then 0 else t.place.getD 0 0+1) ?_) ⟨Heap.get?_push_size _ rfl,Heap.get?_push_of_some _ ho⟩ (by simp) ?_ (hA5 _) (by rw[Heap.size_push];exact hB5 _)
   ·intro A' E' s' Q' i hi ho' hq;refine wp_setNext1 ho' e4 hb (by omega) led ?_;rw[hA1,hBp]at hi;rcases hCp es.size 1 with z0 | z1
    ·have e0:es=#[]:=Array.eq_empty_of_size_eq_zero (by omega);have p0:t.place=#[]:=Array.eq_empty_of_size_eq_zero (by omega);subst e0;rw[p0]at hq ⊢;rw[below_nil]
     simpa using hq
    ·have z:es.size=1:=by omega
     obtain⟨x,e0⟩:∃ x,es=#[x]:=by
      have:=Array.size_eq_one_iff.mp z;exact this
     obtain⟨p,p0⟩:∃ p,t.place=#[p]:=Array.size_eq_one_iff.mp (by omega);subst e0;rw[p0]at hq ⊢;obtain⟨k,x⟩:=x;by_cases i0:i=0
     ·subst i0;rw[if_pos rfl,below_lt (hAw _)]
      simpa using hq
     ·have i1:i=1:=by simp at hi;omega
      subst i1;rw[if_neg (by decide)];show Q' (match (#[(k,x)]:Array (Int×Value))[SetTable.below #[p] (p+1)]?,(#[p]:Array Nat)[SetTable.below #[p] (p+1)]? with | some (_,x),some j=>some (x,j+1) | _,_=>none) s';rw[below_ge (hAv _)]
      simpa using hq
   ·intro b hbm;rw[Heap.size_push];simp at hbm;rcases hbm with rfl | rfl
    ·exact⟨hAv _,.inr (hA5 _)⟩
    ·exact⟨hBe ha,.inl rfl⟩
end
end L2
namespace L2
open PySem PySem.Spec PyProof.Rows
section
variable {X:Cx} {pins:List (Addr×Obj)} {σ:St} {H:Hp} {s:Shared} {h':Heap}
theorem Inv.turnedT {t':Nat} {d':Drawn} {ch:List Addr} {a:Addr} {o:HO} (I:Inv X pins σ H s) (k:∀ b u,b∉ch->s.heap.get? b=some u->h'.get? b=some u) (f:∀ b∈ch,FpOk X pins H b) (hp:s.heap.objs.size<=a) (new:qBs X.prog X.w (upd H a o) h' a o) :
  Inv X pins σ (upd H a o) { s with heap:=h',toks:=t',drawn:=d' }:=by
 have nit:∀ b u,H b=some u->b∉ch:=fun b u e z=>by rw[(f b z).1]at e;cases e
 have hn:H a=none:=I.hok.fresh hp;refine I.step (g':=s.gens) (d':=d') (ch:=ch) (fun b hb=>?_) (fun b u _ _ hc e _=>k b u hc e) (fun b u _ _ hc e _=>⟨u.slots,k b u hc e⟩) (fun b u _ e n=>?_) (fun b u hc e=>⟨u,k b u hc e⟩) (fun b xs q=>by rw[qAh (qAj q hn)];exact q) (fun b u v q=>by rw[qAh (qAj q hn)];exact q)
  (fun b ps q=>⟨#[],by rw[qAh (qAj q hn),q];simp⟩) (fun m hm=>?_) (fun b u e=>?_) I.bare
 ·obtain⟨_,f1,_,f3,f4,f5⟩:=f b hb;exact⟨f3,f1,f4,f5⟩
 ·rw[qAh (hAp (hAh (Heap.lt_size e) hp))];exact n
 ·obtain⟨ob,es,ep,ho,r⟩:=hm;exact⟨ob,es,ep,k _ ob (fun z=>(f _ z).2.1 rfl) ho,r⟩
 ·by_cases hb:b=a
  ·subst hb;rw[upd_same]at e;cases e;exact new
  ·rw[qAh hb]at e;refine(I.hok b u e).stay (fun c v hc q=>k c v ?_ q) (fun c q=>by rw[qAh (qAj q hn)];exact q) fun c xs q=>by rw[qAh (qAj q hn)];exact q
   rcases hc with z | z
   ·rw[z];exact nit b u e
   ·exact nit c _ z
end
section
variable {P:Program} {w:World} {A:Around} {E:Value->Shared->Prop} {s:Shared} {a:Addr} {ss:List Str}
theorem collect_setT (hh:A.handled=none) (hS:qBz P w s.heap a ss)
  (h:∀ (vs:List Value) (ss1:List Str) (h1:Heap) (tk:Nat) (d:Drawn),StrsAre vs ss1->ss1.Perm ss->(∀ b o,s.heap.get? b=some o->h1.get? b=some o)->s.heap.objs.size<=h1.objs.size->Q vs { s with heap:=h1,toks:=tk,drawn:=d }):wpAny (model P w) A (collect (.ref a)) Q E s:=by
 unfold collect;refine wpAny_bind (wpAny_runValue (codeAny_builtin PySem.F.entry_proto_collect ?_));rw[Around.under_plainId PySem.F.plain_proto_collect _];show wpAny _ A.in1 (newList [] >>= fun l=>again (.builtin "list.__iadd__" ⟨[l,.ref a],[]⟩)) _ _ _;refine wpAny_bind (wpAny_newObj_type ?_);refine wpAny_pure ⟨plainId_quiet PySem.F.plain_list_iadd _,codeAny_builtin PySem.F.entry_list_iadd ?_⟩;rw[Around.under_plainId PySem.F.plain_list_iadd _];have hS1:qBz P w (s.heap.push (seqObj "list" #[] 0)) a ss:=hS.at fun o e=>Heap.get?_push_of_some _ e
 have hL1:(s.heap.push (seqObj "list" #[] 0)).get? s.heap.objs.size=some (seqObj "list" #[] 0):=Heap.get?_push_size _ rfl;have hT:∀ s':Shared,qBz P w s'.heap a ss->s'.TypeIs (.ref a) "set":=fun s' z=>by
  obtain⟨es,ep,t,ho,_⟩:=z;exact⟨_,ho,rfl⟩
 have ha:a<s.heap.objs.size:=by
  obtain⟨es,ep,t,ho,_⟩:=hS;exact Heap.lt_size ho
 have hz:ss.length<scanBound:=by
  obtain⟨es,ep,t,_,_,e2,e3,_⟩:=hS;rw[<-e2.strs,hA1,hA1,hBp];exact e3
 have hne:Builtin.List.listSameRef (.ref s.heap.objs.size) (.ref a)=false:=by
  show(s.heap.objs.size == a)=false;exact beq_eq_false_iff_ne.mpr (hCz ha)
 show wpAny _ A.in1 (Builtin.List.listExtendWith (.ref s.heap.objs.size) (.ref a) (.ref s.heap.objs.size)) _ _ { s with heap:=s.heap.push (seqObj "list" #[] 0) };unfold Builtin.List.listExtendWith;refine wpAny_bind (wpAny_typeOf (hT _ hS1) ?_);rw[if_neg (by rw[hne];decide)];refine wpAny_bind (iter_setT hS1 fun I fp vs ss1 St h1 d q1 q2 q3 W st hI hfp hge hsz=>?_);have hS2:qBz P w h1 a ss:=hS1.at fun o e=>q3 _ _ e
 have hL2:h1.get? s.heap.objs.size=some (seqObj "list" #[] 0):=q3 _ _ hL1;refine wpAny_bind (wpAny_holding ?_);unfold Builtin.List.listLengthHint;refine wpAny_bind (wpAny_specialOf (hT { s with heap:=h1,drawn:=d } hS2) PySem.F.slot_set_len.lookup ?_);dsimp only;rw[show splitId "set.__len__" = some ("set","__len__") from by decide +kernel];dsimp only;refine wpAny_bind (wpAny_isInstance (b:=true) (hT { s with heap:=h1,drawn:=d } hS2) sub_set_self ?_);rw[if_neg (by decide),if_pos (by decide +kernel)];refine wpAny_bind (wpAny_typeOf (hT { s with heap:=h1,drawn:=d } hS2) (wpAny_pure ?_));rw[if_pos (by decide +kernel)];refine wpAny_bind (wpAny_rule ?_);unfold Builtin.List.listTouch;have hL3:=get?_update_seq hL2 (·.push .none);have hL4:=get?_update_seq hL3 (·.pop);refine wpAny_bind (wpAny_bind (listUpdate_at (s:={ s with heap:=h1,drawn:=d }) hL2 rfl (listUpdate_at (s:={ s with heap:=h1.update s.heap.objs.size (Obj.mapSeq (·.push .none)),drawn:=d }) hL3 rfl ?_)));have nS:s.heap.objs.size∉fp:=fun z=>by
  rcases(hfp _ z).2 with e | e
  ·exact absurd e (hCz ha)
  ·rw[size_push']at e;exact absurd e (Nat.not_succ_le_self _)
 have upd2:∀ b o,b≠s.heap.objs.size->h1.get? b=some o->((h1.update s.heap.objs.size (Obj.mapSeq (·.push .none))).update s.heap.objs.size (Obj.mapSeq (·.pop))).get? b=some o:=fun b o hb e=>by
  rw[Heap.get?_update_ne _ _ _ _ hb,Heap.get?_update_ne _ _ _ _ hb];exact e
 have hv:vs.length<=sizeLine:=by
  have e1:=q2.length_eq;have e2:vs.length=ss1.length:=by rw[<-q1.strs,hA1]
  rw[e2,e1];exact fits_of_scanBound hz
 have st3:=(W A.in1.in1.in1 (by exact hh)).frame 0 _ ((h1.update s.heap.objs.size (Obj.mapSeq (·.push .none))).update s.heap.objs.size (Obj.mapSeq (·.pop))) st fun b hb o e=>upd2 b o (fun z=>nS (z▸hb)) e
 refine wpAny_pure ⟨plainId_quiet PySem.F.plain_extend_loop _,codeAny_extend_loopS ((W _ (by exact hh)).toS) hv _ nS _ vs.length 0 _ _ _ rfl (hAw _) st3 hL4 (ItemsOf.nil _) fun s' acc' c' hm hS' hacc=>?_⟩;show wpAny _ A (load s.heap.objs.size >>= _) _ _ s';refine wpAny_bind (wpAny_load hS' ?_);have eacc:acc'.toList=vs:=by
  refine List.ext_getElem? fun i=>?_
  by_cases hi:i<vs.length
  ·have hi':i<acc'.size:=by rw[hacc.1];exact hi
   rw[hCb,Array.getElem?_eq_getElem hi'];exact(hacc.2 i _ (Array.getElem?_eq_getElem hi')).symm
  ·rw[hCb,Array.getElem?_eq_none (by rw[hacc.1];omega),hCo (by omega)]
 show wpAny _ A (pure acc'.toList) _ _ s';rw[eacc];obtain⟨h5,g5,d5,tk5,os5⟩:=s';cases(show g5=s.gens from hm.gens);cases(show d5=d from hm.drawn);cases(show os5=s.os from hm.os);have keep:∀ b o,h1.get? b=some o->b≠s.heap.objs.size->b≠I->h5.get? b=some o:=fun b o e n1 n2=>hm.heap b o (by simp only[hAc,hB6,or_false,not_or];exact⟨n1,n2⟩) (upd2 b o n1 e)
 refine wpAny_pure (h vs ss1 h5 tk5 d q1 q2 (fun b o e=>?_) ?_)
 ·have lt:=Heap.lt_size e;refine keep b o (q3 b o (Heap.get?_push_of_some _ e)) (hAp lt) (hAp (hAh lt ?_));rw[size_push']at hge;exact Nat.le_of_succ_le hge
 ·exact hB2 (Heap.lt_size hS')
end
def SetS (P:Program) (w:World) (a:Addr) (ss:List Str):HO:=.ext fun h=>qBz P w h a ss
section
variable {X:Cx}
theorem qF1 (hc:X.calm=true):qCr X (.builtin "sorted") (fun xs H Q=>∃ (p:Addr) (ss:List Str),xs=[.ref p]/\H p=some (SetS X.prog X.w p ss)/\ss.length<64/\∀ (r:Addr) (ss':List Str),H r=none->ss'.Perm ss->sortedS ss'=true->Q (.ref r) (upd H r (.lst (ss'.map V.str)))):=by
 intro pins s σ H xs us Q I r h;obtain⟨p,ss,rfl,hp,h64,q⟩:=h;obtain⟨u,rfl,rx⟩:=qC3 r;cases rx;have hS:qBz X.prog X.w s.heap p ss:=(I.hok p _ hp).1;refine Calls.call_function_entry kind_sorted plain_sorted entry_sorted (args_sorted1 _) ?_;unfold Builtin.«sorted»;refine wpAny_bind (m:=checkCount "sorted" 1 1 _) (wpAny_pure (wpAny_bind (collect_setT (I.ok.hd hc) hS fun vs ss1 h1 tk d a1 a2 a3 a4=>?_)));have hvl:vs.length=ss1.length:=by rw[<-a1.strs,hA1]
 have hl64:vs.length<64:=by rw[hvl,a2.length_eq];exact h64
 refine wpAny_bind (wpAny_newList ?_ (by have:sizeLine > 64:=(by decide);omega));have hoL:(h1.push (seqObj "list" vs.toArray 0)).get? h1.objs.size=some (seqObj "list" vs.toArray 0):=Heap.get?_push_size _ rfl;refine wpAny_bind (wpAny_holding (wpAny_call_entry slot_list_sort ⟨_,hoL,rfl⟩ entry_list_sort (list_sort_treeK strKind_oneLt hoL a1.keysOf (fun v1 v2 rest e=>keyKind_strs (by rw[<-e];exact a1)) hl64 fun st' b1 b2=>⟨_,rfl,?_⟩) (args_list_sort _)));obtain⟨ss',c1,c2,c3⟩:=sorted_out_str a1 b1 b2;refine wpAny_pure ⟨_,rfl,?_⟩;have nz:H h1.objs.size=none:=I.hok.fresh a4;obtain⟨e,he⟩:=sortedHeap_at (out:=(arrOf st').map (·.2)) hoL;refine⟨.ref h1.objs.size,_,I.turnedT (t':=tk) (d':=d) (ch:=[]) (a:=h1.objs.size) (o:=.lst (ss'.map V.str)) (fun b o _ eb=>?_) (fun b z=>nomatch z) a4 ?_,rfl,q _ ss' nz (c2.trans a2) c3⟩
 ·have e1:=a3 b o eb;have lt:=Heap.lt_size e1;rw[sortedHeap_old (hAp lt) (by rw[size_push'];exact hBe lt)];exact Heap.get?_push_of_some _ e1
 ·refine⟨?_,((arrOf st').map (·.2)).toList,e,qGg c1,he⟩;rw[hA1,c2.length_eq,a2.length_eq];exact hB2 (qAi (by omega))
end
end L2
namespace L2
open PySem PySem.Spec PyProof.Rows
section
variable {X:Cx} {pins:List (Addr×Obj)} {σ:St} {H:Hp} {s:Shared} {h':Heap}
theorem Inv.turnedL {t':Nat} {ch:List Addr} (I:Inv X pins σ H s) (k:∀ b u,b∉ch->s.heap.get? b=some u->h'.get? b=some u) (f:∀ b∈ch,FpOk X pins H b):Inv X pins σ H { s with heap:=h',toks:=t' }:=by
 have nit:∀ b u,H b=some u->b∉ch:=fun b u e z=>by rw[(f b z).1]at e;cases e
 refine I.step (g':=s.gens) (d':=s.drawn) (ch:=ch) (fun b hb=>?_) (fun b u _ _ hc e _=>k b u hc e) (fun b u _ _ hc e _=>⟨u.slots,k b u hc e⟩) (fun b u _ e n=>n) (fun b u hc e=>⟨u,k b u hc e⟩) (fun b xs q=>q) (fun b u v q=>q) (fun b ps q=>⟨#[],by rw[q];simp⟩) (fun m hm=>?_) (fun b u e=>?_) I.bare
 ·obtain⟨_,f1,_,f3,f4,f5⟩:=f b hb;exact⟨f3,f1,f4,f5⟩
 ·obtain⟨ob,es,ep,ho,r⟩:=hm;exact⟨ob,es,ep,k _ ob (fun z=>(f _ z).2.1 rfl) ho,r⟩
 ·refine(I.hok b u e).stay (fun c v hc q=>k c v ?_ q) (fun c q=>q) fun c xs q=>q
  rcases hc with z | z
  ·rw[z];exact nit b u e
  ·exact nit c _ z
end
def Itp (n:Nat) (Ls:Hp->Prop) (xv:Nat->List V):It:=⟨fun i H=>Ls H/\i<n,fun i H x H'=>∃ T,H T=none/\H'=upd H T (.tup (xv i))/\x = .ref T,fun i H=>Ls H/\i=n⟩
theorem qF4 {P:Program} {w:World} {K:PySem.W.Frag} {elts:List Expr} {ct:Nat} {pos:Pos} (it:Addr) (fp fpW wr:List Addr) (n:Nat) (Ls:Hp->Prop) (xv:Nat->List V) (tn:Nat->Heap->Prop)
  (hit:it∈fp) (hwr:∀ b∈wr,b∈fp) (hobj:∀ i h,tn i h->∀ b∈fp,∃ o,h.get? b=some o/\∀ v,o.data≠.cell v) (hkeep:∀ i h h',tn i h->(∀ b∈fp,∀ o,h.get? b=some o->h'.get? b=some o)->tn i h')
  (hx:∀ i,(xv i).length<=sizeLine)
  (W:∀ (X:Cx),X.prog=P->X.w=w->X.K=K->X.calm=true->∀ (pins:List (Addr×Obj)) (s:Shared) (σ:L2.St) (H:Hp),Inv X pins σ H s->Ls H->∃ (Pt:Nat->Array Value->Prop) (St:Nat->Heap->Prop) (Mid:Nat->Addr->Heap->Prop),WalksT P w X.A it fpW wr n Pt St Mid/\(∀ i,tn i s.heap->St i s.heap)/\(∀ i h,St i h->tn i h) /\
   (∀ i vals,Pt i vals->qA5 (xv i) vals.toList))
  (hself:∀ (A:Around) (i:Nat) (s:Shared) (Q:Value->Shared->Prop) (E:Value->Shared->Prop),tn i s.heap->Q (.ref it) s->wpAny (model P w) A (pyIter (.ref it)) Q E s):Turn P w K (.Tuple elts ct pos) (Itp n Ls xv) fp it tn where
 mem:=hit
 obj:=hobj
 keep:=hkeep
 item:=by
  intro X hP hw hK hc i pins s σ H E I hf st hg;obtain⟨hL,hi⟩:=hg;obtain⟨Pt,St,Mid,Wt,w1,w2,w3⟩:=W X hP hw hK hc pins s σ H I hL;subst hP hw hK;refine Wt.item i s _ _ hi (w1 i st) fun T vals h1 tk pv hT ht mid k1=>?_
  have hTw:T∉wr:=Wt.apart i T h1 mid;refine⟨_,rfl,Wt.go elts ct pos i T _ _ _ mid fun h2 st2 k2=>?_⟩;have ht2:IsTup h2 T (vals.toList).toArray:=by
   obtain⟨o,a1,a2,nn,a3⟩:=ht;exact⟨o,k2 _ _ hTw a1,a2,nn,by simpa using a3⟩
  refine⟨.ref T,upd H T (.tup (xv i)),I.turnedT (t':=tk) (d':=s.drawn) (ch:=wr) (fun b u hb e=>k2 b u hb (k1 b u hb e)) (fun b hb=>hf b (hwr b hb)) hT ⟨hx i,vals.toList,w3 i vals pv,ht2⟩,rfl,⟨T,I.hok.fresh hT,rfl,rfl⟩,w2 _ _ st2,fun b hb=>?_⟩;have e:b≠T:=by
   obtain⟨o,ho,_⟩:=hobj i _ st b hb;exact hAp (hAh (Heap.lt_size ho) hT)
  rw[qAh e];exact(hf b hb).1
 done:=by
  intro X hP hw hK hc i pins s σ H E I hf st hg;obtain⟨hL,hi⟩:=hg;obtain⟨Pt,St,Mid,Wt,w1,w2,w3⟩:=W X hP hw hK hc pins s σ H I hL;subst hP hw hK hi;exact Wt.done s _ _ (w1 _ st) fun h1 tk k1=>⟨rfl,I.turnedL (ch:=wr) (fun b u hb e=>k1 b u hb e) fun b hb=>hf b (hwr b hb)⟩
 self:=hself
theorem zip_apart (n a b:Nat) (h1:a<n) (h2:b<n):ZipApart (n+4) (n+2) (n+3) n (n+1) a b:=by
 constructor <;> (show @Ne Nat _ _;omega)
section
variable {X:Cx}
def iZip (K:PySem.W.Frag) (ta:TA):TI:=fun σ H R=>ta σ H fun vs H1=>∃ (a b:Addr) (xs ys:List V),vs=[.ref a,.ref b]/\SqL K H1 a xs/\SqL K H1 b ys/\R (Itp (min xs.length ys.length) (fun H=>SqL K H a xs/\SqL K H b ys) (fun i=>[xs.getD i .non,ys.getD i .non])) H1
theorem boot_zip:bootBuiltins "zip" = some (.type "zip"):=by decide +kernel
theorem pi_zip {a b:Expr} {ta:TA} {p pos tpos:Pos} {elts:List Expr} {ct:Nat} (hg:Gl X "zip") (hm:X.mg "zip" = none) (ha:PA X [a,b] ta) (hs:starEach [a,b] X.env=[(false,eval a X.env),(false,eval b X.env)]:=by rfl) (hs2:starEach [b] X.env=[(false,eval b X.env)]:=by rfl) :
  PI X (.Tuple elts ct tpos) (.Call (.Name "zip" p) [a,b] [] pos) (iZip X.K ta):=by
 intro pins s σ H R I h;refine Call_ (qD6 I hg hm boot_zip (hBz (thn (ha pos pins s σ H _ I h) fun us s1 ⟨vs,H1,I1,r1,q1⟩=>?_) (by rw[hs,hs2]) (by rw[hs2];rfl)));obtain⟨l1,l2,xs,ys,e,hx,hy,q⟩:=q1;subst e;obtain⟨u1,u2,rfl,r1,r2⟩:=vals2 r1;cases r1;cases r2;obtain⟨it1,rv1,pl1,hz1⟩:=I1.list hx;obtain⟨it2,rv2,pl2,hz2⟩:=I1.list hy;have n1:=rv1.length;have n2:=rv2.length;have b1:l1<s1.heap.objs.size:=by obtain⟨o,n,e,_⟩:=pl1;exact Heap.lt_size e
 have b2:l2<s1.heap.objs.size:=by obtain⟨o,n,e,_⟩:=pl2;exact Heap.lt_size e
 refine call_zip_2 pl1.isList pl2.isList fun h1 z1 z2 z3 z4 z5 z6 z7=>?_
 refine wpAny_pyIter_zip z1 ?_;have D:=zip_apart s1.heap.objs.size l1 l2 b1 b2;have hfp:∀ b∈[s1.heap.objs.size+4,s1.heap.objs.size+2,s1.heap.objs.size+3,s1.heap.objs.size,s1.heap.objs.size+1],s1.heap.objs.size<=b:=fun b hb=>by
  simp only[hAc,hB6,or_false]at hb;rcases hb with rfl | rfl | rfl | rfl | rfl
  ·exact hCi _ _
  ·exact hCi _ _
  ·exact hCi _ _
  ·exact hA5 _
  ·exact hCi _ _
 refine⟨s1.heap.objs.size+4,[s1.heap.objs.size+4,s1.heap.objs.size+2,s1.heap.objs.size+3,s1.heap.objs.size,s1.heap.objs.size+1],
  fun i h=>IsZip h (s1.heap.objs.size+4) (s1.heap.objs.size+2) (s1.heap.objs.size+3) .none/\IsPair h (s1.heap.objs.size+2) (.ref s1.heap.objs.size) (.ref (s1.heap.objs.size+1))/\(∃ a b,IsPair h (s1.heap.objs.size+3) a b)/\h.IsListIter s1.heap.objs.size l1 i/\h.IsListIter (s1.heap.objs.size+1) l2 i,
  _,H1,rfl,I1.kept (t':=s1.toks) z7,
  qF4 (s1.heap.objs.size+4) _ [s1.heap.objs.size+4,s1.heap.objs.size+2,s1.heap.objs.size+3,s1.heap.objs.size,s1.heap.objs.size+1,l1,l2] [s1.heap.objs.size+4,s1.heap.objs.size+3,s1.heap.objs.size,s1.heap.objs.size+1] _ _ _ _ (by simp) (fun b hb=>?_) (fun i h st b hb=>?_) (fun i h h' st k=>?_) (fun i=>by show 2<=sizeLine;decide) ?_ (fun A i s' Q E st hQ=>wpAny_pyIter_zip st.1 hQ),
  ⟨z1,z2,⟨_,_,z3⟩,z4,z5⟩,fun b hb=>I1.fpOk (hfp b hb) (I1.hok.fresh (hfp b hb)),q⟩
 ·simp only[hAc,hB6,or_false]at hb ⊢;rcases hb with h | h | h | h
  ·exact .inl h
  ·exact .inr (.inr (.inl h))
  ·exact .inr (.inr (.inr (.inl h)))
  ·exact .inr (.inr (.inr (.inr h)))
 ·obtain⟨a1,a2,⟨c,d,a3⟩,⟨o4,a4,c4,d4⟩,⟨o5,a5,c5,d5⟩⟩:=st;simp only[hAc,hB6,or_false]at hb;rcases hb with rfl | rfl | rfl | rfl | rfl
  ·exact⟨_,a1,fun v z=>by cases z⟩
  ·exact⟨_,a2,fun v z=>by cases z⟩
  ·exact⟨_,a3,fun v z=>by cases z⟩
  ·exact⟨_,a4,fun v z=>by rw[d4]at z;cases z⟩
  ·exact⟨_,a5,fun v z=>by rw[d5]at z;cases z⟩
 ·obtain⟨a1,a2,⟨c,d,a3⟩,a4,a5⟩:=st;exact⟨k _ (by simp) _ a1,k _ (by simp) _ a2,⟨c,d,k _ (by simp) _ a3⟩,a4.at fun o e=>k _ (by simp) o e,a5.at fun o e=>k _ (by simp) o e⟩
 ·intro X' hP hw hK hc pins' s' σ' H' I' hL;obtain⟨hx',hy'⟩:=hL;rw[<-hK]at hx' hy';obtain⟨jt1,sv1,ql1,_⟩:=I'.list hx';obtain⟨jt2,sv2,ql2,_⟩:=I'.list hy';have m1:=sv1.length;have m2:=sv2.length;have Wz:=WalksT.zip2 (prog:=X.prog) (w:=X.w) (I'.ok.hd hc) _ _ _ _ _ l1 l2 D jt1.toArray jt2.toArray;rw[show min jt1.toArray.size jt2.toArray.size=min xs.length ys.length by show min jt1.length jt2.length=_;rw[m1,m2]]at Wz;refine⟨_,_,_,Wz,fun i st=>?_,fun i h st=>?_,fun i vals pv=>?_⟩
  ·obtain⟨a1,a2,a3,a4,a5⟩:=st;exact⟨a1,a2,a3,a4,a5,ql1.isList,ql2.isList⟩
  ·obtain⟨a1,a2,a3,a4,a5,_⟩:=st;exact⟨a1,a2,a3,a4,a5⟩
  ·obtain⟨x,y,e1,e2,rfl⟩:=pv;have e1:jt1[i]?=some x:=by simpa using e1
   have e2:jt2[i]?=some y:=by simpa using e2
   have c1:i<xs.length:=by rw[m1];exact(hAo.mp e1).1
   have c2:i<ys.length:=by rw[m2];exact(hAo.mp e2).1
   obtain⟨u,d1,d2⟩:=sv1.get (hA2 c1);obtain⟨v,f1,f2⟩:=sv2.get (hA2 c2);rw[e1]at d1;rw[e2]at f1;cases d1;cases f1;show qA5 [xs.getD i .non,ys.getD i .non] [x,y];rw[hAb,hA2 c1,hAb,hA2 c2];exact .cons d2 (.cons f2 .nil)
end
section
variable {σ0:St} {g:TG} {tt:TT} {te:TE} {Q:List V->Hp->Prop} {H1:Hp}
theorem turns_tup (Pv:Nat->List V->Hp->Prop) (h0:Pv 0 [] H1) (hl:∀ i ys H,i<=n->Pv i ys H->Ls H)
  (hs:∀ i ys H T,i<n->Pv i ys H->H T=none->g (.ref T) σ0 (upd H T (.tup (xv i))) fun σ2 H2=>Sle σ0 σ2/\tt σ2 H2 fun b H3=>if b=true then te σ2 H3 (fun v H4=>ys.length<sizeLine/\Nxt n i Pv (ys++[v]) H4) else Nxt n i Pv ys H3)
  (hd:∀ ys H,Pv n ys H->Q ys H):qCu (Itp n Ls xv) σ0 g tt te Q H1:=by
 refine⟨fun i m ys H=>m=n - i/\i<=n/\Pv i ys H,⟨n,by simp,hAw _,h0⟩,?_⟩;rintro i m ys H ⟨rfl,hi,p⟩;have q:=hl i ys H hi p;by_cases hlt:i<n
 ·refine .inr ⟨⟨q,hlt⟩,fun x H' y=>?_⟩;obtain⟨T,e1,e2,e3⟩:=y;subst e2 e3;exact hs i ys H T hlt p e1
 ·have e:i=n:=by omega
  subst e;exact .inl ⟨⟨q,rfl⟩,hd ys H p⟩
end
end L2
namespace L2
open PySem PySem.Spec PyProof.Rows
section
variable {X:Cx} {pins:List (Addr×Obj)} {σ:St} {H H':Hp} {s:Shared}
theorem inv_compO (I:Inv X pins σ H s) (O:CmpOk X.N X.env.scope N' scope sub) (hf:∀ b∈fp,FpOk X pins H b)
  (hfl:∀ b∈fp,b<s.heap.objs.size) (nf:o0.isFreed=false) (nc:∀ v,o0.data≠.cell v) :
  Inv (qB5 X scope N' (s.heap.objs.size+1) s H fp) [(s.heap.objs.size,o0)] (subσ sub σ) H
   { s with heap:=pushCells ((s.heap.push o0).push { cls:=.type "dict",data:=.dict #[] }) scope.names }:=by
 have hk3:∀ b o,s.heap.get? b=some o->(s.heap.push o0).get? b=some o:=fun b o e=>Heap.get?_push_of_some _ e
 have sz3:(s.heap.push o0).objs.size=s.heap.objs.size+1:=Heap.size_push ..;have hk:∀ b o,s.heap.get? b=some o->(pushCells ((s.heap.push o0).push { cls:=.type "dict",data:=.dict #[] }) scope.names).get? b=some o :=
  fun b o e=>pushCells_keeps _ _ b o (Heap.get?_push_of_some _ (hk3 b o e))
 have cf:=qFq (h3:=s.heap.push o0) I O hk3;rw[sz3]at cf;have hC:H (s.heap.objs.size+1)=none:=I.hok.fresh (hB5 _);have nsC:(pushCells ((s.heap.push o0).push { cls:=.type "dict",data:=.dict #[] }) scope.names).Ns (s.heap.objs.size+1) (fun _=>none):=by
  rw[<-sz3];exact(Heap.Ns.new _ _).keeps (pushCells_keeps _ _)
 have has:∀ x,(scope.names.lookup x=some .cell\/scope.names.lookup x=some .free)->∃ c,(cellsFrom (s.heap.objs.size+1+1) scope.names (qCc X.env.cells scope.names [])).lookup x=some c:=fun x hx=>by
  refine hCd.mp (hCk _ _ _ ?_);rcases hx with z | z
  ·exact .inl z
  ·exact .inr (qDe (.inl (hBa z)))
 have kindB:∀ x,(qBy X.env scope (s.heap.objs.size+1)).kindOf x=(scope.names.lookup x).map fun k=>if (k == NameKind.free && X.env.scope.kind == .function && X.env.scope.names.lookup x == some .cell) then NameKind.cell else k:=fun x=>qC6
 have cellOk:∀ x c,(qBy X.env scope (s.heap.objs.size+1)).cells.lookup x=some c->∃ v,(pushCells ((s.heap.push o0).push { cls:=.type "dict",data:=.dict #[] }) scope.names).IsCell c v:=fun x c h=>by
  rcases cf.1 x c h with q | q
  ·exact⟨_,q.1⟩
  ·obtain⟨v,z⟩:=I.cell x c q.2;exact⟨v,z.keeps hk⟩
 refine⟨⟨I.ok.mod,O.kind,I.ok.glob,I.ok.blt,hB5 _,fun x y c h1 h2=>cf.2 x y c h1 h2,fun x hx=>?_,fun x c hx h=>?_,I.ok.hd,I.ok.frames,.inl rfl,fun b hb=>?_,fun b o e=>I.bs b o e,hB7 I.ok.bsz I.sz,fun b o e hb=>?_,fun b hb=>?_,I.stack,I.stkFree⟩,
  rfl,I.bare,Un.kept hk,⟨fun _=>none,nsC,fun i x v h1 h2 h3=>?_⟩,cellOk,hC,fun x c h=>?_,fun p hp=>?_,I.hok.kept hk,?_⟩
 ·-- has
  refine has x ?_;have hx:(qBy X.env scope (s.heap.objs.size+1)).kindOf x=some .cell\/(qBy X.env scope (s.heap.objs.size+1)).kindOf x=some .free:=hx;rw[kindB]at hx;cases e:scope.names.lookup x with
  | none=>rw[e]at hx;rcases hx with z | z <;> cases z
  | some k =>
   rw[e]at hx;cases k with
   | cell=>exact .inl rfl
   | free=>exact .inr rfl
   | _=>exfalso;rcases hx with z | z <;> simp at z
 ·-- cab
  rcases cf.1 x c h with q | q
  ·have:=q.2.1;show s.heap.objs.size<=c;omega
  ·exfalso;have e:=qBi O.nd q.1;have hx':(!(scope.names.lookup x == some NameKind.free))=true:=hx;rw[e]at hx';exact absurd hx' (by decide)
 ·-- exf
  obtain⟨f0,f1,f2,f3,f4,f5⟩:=hf b hb;have lt:=hfl b hb;refine⟨fun e=>?_,fun x c h e=>?_⟩
  ·have e':b=s.heap.objs.size+1:=e;rw[e']at lt;exact absurd lt (Nat.not_lt.mpr (hB5 _))
  ·rcases cf.1 x c h with q | q
   ·have z:=q.2.1;rw[e]at z;exact absurd lt (Nat.not_lt.mpr (hB7 (hB7 (hB5 _) (hB5 _)) z))
   ·exact f4 x c q.2 e
 ·-- noex
  obtain⟨f0,f1,f2,f3,f4,f5⟩:=hf b hb;rcases f3 with z | z
  ·exact I.ok.noex b o e z
  ·exact absurd (hAh (Heap.lt_size (I.ok.bs b o e).1) z) (hBl _)
 ·-- exfs
  obtain⟨f0,f1,f2,f3,f4,f5⟩:=hf b hb;exact fun z=>f2 (qGn I z f1)
 ·-- loc
  have h1':N'[i]?=some x:=h1;have hsub:∃ k,sub[i]?=some (some k)/\(σ[k]?).join=some v:=by
   unfold subσ at h2;rw[hAd]at h2;cases e:sub[i]? with
   | none=>rw[e]at h2;cases h2
   | some o =>
    rw[e]at h2;cases o with
    | none=>cases h2
    | some k=>exact⟨k,rfl,by simpa using h2⟩
  obtain⟨k,hk1,hk2⟩:=hsub;obtain⟨nk,fx⟩:=O.sub i k x hk1 h1';have sk:σ[k]?=some (some v):=by
   cases e:σ[k]? with
   | none=>rw[e]at hk2;cases hk2
   | some o=>rw[e]at hk2;cases o with
    | none=>cases hk2
    | some y=>cases hk2;rfl
  have cx:=O.free _ (hBa fx) rfl;obtain⟨m,hn,hl⟩:=I.loc;obtain⟨u,ru,lk⟩:=hl k x v nk sk (by
   rcases cx with z | z
   ·exact .inr (.inl z)
   ·exact .inr (.inr z))
  refine⟨u,ru,.inr ⟨?_,?_⟩⟩
  ·show(qBy X.env scope (s.heap.objs.size+1)).kindOf x=some .cell\/(qBy X.env scope (s.heap.objs.size+1)).kindOf x=some .free;rw[kindB,fx];by_cases hc:(NameKind.free == NameKind.free && X.env.scope.kind == .function && X.env.scope.names.lookup x == some .cell)=true
   ·exact .inl (by rw[hC0,if_pos hc])
   ·exact .inr (by rw[hC0,if_neg hc])
  ·rcases lk with ⟨kl,_⟩ | ⟨_,c,hc,hcell⟩
   ·exfalso;have kl':X.env.scope.names.lookup x=some .local:=kl;rcases cx with z | z <;> rw[kl']at z <;> cases z
   ·obtain⟨c',hc'⟩:=has x (.inr fx);refine⟨c',hc',?_⟩;rcases cf.1 x c' hc' with q | q
    ·exfalso;have e:=qBi O.nd q.2.2;rw[fx]at e;cases e
    ·rw[hc]at q;have e:c=c':=hAa q.2;subst e;exact hcell.keeps hk
 ·-- freeC
  rcases cf.1 x c h with q | q
  ·exact I.hok.fresh (by have:=q.2.1;omega)
  ·exact I.freeC x c q.2
 ·-- pin
  have hp':p=(s.heap.objs.size,o0):=by
   have:p∈([]++[(s.heap.objs.size,o0)]:List (Addr×Obj)):=hp
   simpa using this
  subst hp';refine⟨pushCells_keeps _ _ _ _ (Heap.get?_push_of_some _ (Heap.get?_push_size _ nf)),I.hok.fresh (hA5 _),hAp (hAv _),fun z=>?_,fun v z=>?_⟩
  ·rcases hAc.mp (I.stkSub _ z) with e | e
   ·exact absurd I.lt (by rw[<-e];exact hBl _)
   ·exact I.nofs (hA5 _) e
  ·exact nc v z
 ·-- len
  show(subσ sub σ).length=N'.length;unfold subσ;rw[hA1,O.len]
theorem Inv.repin (I:Inv X ((acc,o) :: pins) σ H s) (k:∀ b u,b≠acc->s.heap.get? b=some u->h'.get? b=some u) (e:h'.get? acc=some o') (nc:∀ v,o'.data≠.cell v) (hx:acc∈X.ex\/X.s₀.heap.objs.size<=acc) (np:∀ p∈X.pn++pins,p.1≠acc) :
  Inv X ((acc,o') :: pins) σ H { s with heap:=h',toks:=t' }:=by
 have pa:=I.pin (acc,o) (hA6 _ hA9);have I1:Inv X pins σ H s:=I.pins_of fun p hp=>I.pin p (hA6 _ (hA7 _ hp))
 have I2:Inv X pins σ H { s with heap:=h',toks:=t' }:=I1.turned (t':=t') (it:=acc) k pa.2.1 pa.2.2.1 hx
  (fun y c hy z=>by
   obtain⟨w',o2,ho2,hd2⟩:=I.cell y c hy;rw[z,pa.1]at ho2;exact pa.2.2.2.2 _ (by cases ho2;exact hd2)) np
 refine I2.pins_of fun p hp=>?_
 rcases hAc.mp hp with z | z
 ·subst z;exact⟨e,pa.2.1,pa.2.2.1,pa.2.2.2.1,nc⟩
 ·exact I2.pin p (hA6 _ z)
end
def qCf (tpos:Pos) (it:Value) (target:Expr) (env:Env) (ifs:List Expr) (body:Sem Unit) (k:Sem Fin):Sem Fin:=do
 standAt tpos
 match ← pyNext it with
 | none=>pure (.done .next)
 | some v =>
  letOwnedTupleGo target it v
  assign target env v
  let mut ok:=true
  for c in ifs do
   if ok then ok ← isTrue c env (eval c env)
  if ok then
   body
  k
theorem compLoop_gen (hsh:compTurn e d it acc env=qCf tpos it target env ifs body (again (.compLoop e d it acc env))) (hdn:∀ (A:Around) (Q:PySem.Fin->Shared->Prop) (E:Value->Shared->Prop) (s:Shared),wpAny (model prog w) A ((compTurn e d it acc env).onRaise (fun x=>do noteFrame x env;theTreesLotGoes x)) Q E s->wpAny (model prog w) (A.under (.compLoop e d it acc env)) ((model prog w).den (.compLoop e d it acc env)) Q E s) (I:Nat->Shared->Prop)
  (turn:∀ n s,I n s->wpAny (model prog w) A (pyNext it) (fun r s₁=>match r with
   | none=>R (.ok .next) s₁
   | some v=>wpAny (model prog w) A (letOwnedTupleGo target it v) (fun _ s₁'=>wpAny (model prog w) A (assign target env v) (fun _ s₂ =>
     wpAny (model prog w) A (forIn ifs true fun c r=>if r=true then do let ok ← isTrue c env (eval c env);pure (ForInStep.yield ok) else pure (ForInStep.yield r)) (fun ok s₃ =>
      if ok=true then wpAny (model prog w) A body (fun _ s₅=>∃ m,m<n/\I m s₅) (fun _ _=>False) s₃
      else ∃ m,m<n/\I m s₃) (fun _ _=>False) s₂) (fun _ _=>False) s₁') (fun _ _=>False) s₁) (fun _ _=>False) s)
  (n:Nat) (h:I n s):codeAny (model prog w) A (.compLoop e d it acc env) R s:=by
 refine codeAny_loop rfl I (fun n s hI=>?_) n h;refine hdn _ _ _ _ (wpAny_noted ?_);rw[hsh];unfold qCf;refine wpAny_bind (wpAny_standAt (wpAny_bind (wpAny_mono (turn n s hI) (fun r s₁ h₁=>?_) fun _ _ h'=>h'.elim)));cases r with
 | none=>exact wpAny_pure h₁
 | some v =>
  refine wpAny_bind (wpAny_mono h₁ (fun _ s₁' h₁=>?_) fun _ _ h'=>h'.elim);refine wpAny_bind (wpAny_mono h₁ (fun _ s₂ h₂=>wpAny_bind (wpAny_mono h₂ (fun ok s₃ h₃=>?_) fun _ _ h'=>h'.elim)) fun _ _ h'=>h'.elim);cases ok with
  | false=>exact wpAny_pure ⟨rfl,h₃⟩
  | true=>exact wpAny_bind (wpAny_mono h₃ (fun _ s₅ h₅=>wpAny_pure ⟨rfl,h₅⟩) fun _ _ h'=>h'.elim)
section
variable {AS:Type}
abbrev TB (AS:Type):=AS->St->Hp->(AS->St->Hp->Prop)->Prop
def PBd (X:Cx) (AO:AS->Obj->Prop) (acc:Addr) (body:Sem Unit) (tb:TB AS):Prop :=
 ∀ (pins:List (Addr×Obj)) (s:Shared) (σ:St) (H:Hp) (a:AS) (o:Obj) (Q:AS->St->Hp->Prop),Inv X ((acc,o) :: pins) σ H s->(∀ p∈X.pn++pins,p.1≠acc)->(acc∈X.ex\/X.s₀.heap.objs.size<=acc)->AO a o->tb a σ H Q ->
  wpAny (model X.prog X.w) X.A body (fun _ s'=>∃ (a':AS) (o':Obj) (σ':St) (H':Hp),Inv X ((acc,o') :: pins) σ' H' s'/\AO a' o'/\Q a' σ' H') (fun _ _=>False) s
def qGm (J:It) (g:TG) (tt:TT) (tb:TB AS) (Q:AS->St->Hp->Prop) (a0:AS) (σ0:St) (H0:Hp):Prop :=
 ∃ W:Nat->Nat->AS->St->Hp->Prop,(∃ m,W 0 m a0 σ0 H0)/\∀ i m a σ H,W i m a σ H ->
  (J.stop i H/\Q a σ H) \/
  (J.go i H/\∀ x H',J.yld i H x H'->g x σ H' fun σ2 H2=>tt σ2 H2 fun b H3 =>
   if b=true then tb a σ2 H3 (fun a' σ' H'=>∃ m',m'<m/\W (i+1) m' a' σ' H') else ∃ m',m'<m/\W (i+1) m' a σ2 H3)
theorem gloop
  (hc:X.calm=true) (xxe:X.xe=fun _ _=>False) (hsh:compTurn e d (.ref it) (.ref acc) X.env=qCf tpos (.ref it) target X.env ifs body (again (.compLoop e d (.ref it) (.ref acc) X.env))) (hdn:∀ (A:Around) (Q:PySem.Fin->Shared->Prop) (E:Value->Shared->Prop) (s:Shared),wpAny (model X.prog X.w) A ((compTurn e d (.ref it) (.ref acc) X.env).onRaise (fun x=>do noteFrame x X.env;theTreesLotGoes x)) Q E s->wpAny (model X.prog X.w) (A.under (.compLoop e d (.ref it) (.ref acc) X.env)) ((model X.prog X.w).den (.compLoop e d (.ref it) (.ref acc) X.env)) Q E s)
  (T:Turn X.prog X.w X.K target J fp it tn) (st:tn 0 s.heap) (hf:∀ b∈fp,FpOk X ((acc,o) :: pins) H b) (hg:PG X target g) (ht:PTs X ifs tt) (hb:PBd X AO acc body tb)
  (I:Inv X ((acc,o) :: pins) σ H s) (np:∀ p∈X.pn++pins,p.1≠acc) (hx:acc∈X.ex\/X.s₀.heap.objs.size<=acc) (ha:AO a o) (rd:qGm J g tt tb Q a σ H)
  (hR:∀ (s':Shared) (a':AS) (o':Obj) (σ':St) (H':Hp),Inv X ((acc,o') :: pins) σ' H' s'->AO a' o'->Q a' σ' H'->(∀ b∈fp,H' b=none)->R (.ok .next) s') :
  codeAny (model X.prog X.w) X.A (.compLoop e d (.ref it) (.ref acc) X.env) R s:=by
 obtain⟨W,⟨m0,w0⟩,turn⟩:=rd;have stat:∀ {o':Obj} {H':Hp},(∀ b∈fp,H' b=none)->∀ b∈fp,FpOk X ((acc,o') :: pins) H' b:=fun {o' H'} hn b hb=>by
  obtain⟨f0,f1,f2,f3,f4,f5⟩:=hf b hb;refine⟨hn b hb,f1,f2,f3,f4,fun p hp=>?_⟩;rcases hAr.mp hp with z | z
  ·exact f5 p (hAz _ z)
  ·rcases hAc.mp z with z | z
   ·rw[z];exact f5 (acc,o) (hA6 _ hA9)
   ·exact f5 p (hA6 _ (hA7 _ z))
 refine compLoop_gen hsh hdn (fun n s'=>∃ (i:Nat) (a':AS) (o':Obj) (σ':St) (H':Hp),Inv X ((acc,o') :: pins) σ' H' s'/\AO a' o'/\tn i s'.heap/\(∀ b∈fp,H' b=none)/\W i n a' σ' H') ?_ m0 ⟨0,a,o,σ,H,I,ha,st,fun b hb=>(hf b hb).1,w0⟩;rintro n s4 ⟨i,a4,o4,σ4,H4,I4,ha4,st4,fr4,w4⟩;rcases turn i n a4 σ4 H4 w4 with ⟨stop,q⟩ | ⟨go,step⟩
 ·refine thn (T.done X rfl rfl rfl hc i _ s4 σ4 H4 (fun _ _=>False) I4 (stat fr4) st4 stop) fun r s5 ⟨hr,I5⟩=>?_
  subst hr;exact hR s5 a4 o4 σ4 H4 I5 ha4 q fr4
 ·refine thn (T.item X rfl rfl rfl hc i _ s4 σ4 H4 (fun _ _=>False) I4 (stat fr4) st4 go) fun r s5 ⟨u,hr,h5⟩=>?_
  subst hr;refine thn h5 fun _ s6 ⟨x,H6,I6,r6,y6,st6,fr6⟩=>?_
  have I6':=I6.pinned (stat fr6) (T.obj _ _ st6);have back:∀ {o':Obj} {σ':St} {H':Hp} {s':Shared},Inv X ((acc,o') :: (pins++pinsAt fp s6.heap)) σ' H' s'->Inv X ((acc,o') :: pins) σ' H' s'/\tn (i+1) s'.heap/\∀ b∈fp,H' b=none:=fun {o' σ' H' s'} I'=>by
   refine⟨Inv.unpinned (pl:=pinsAt fp s6.heap) I',T.keep _ _ _ st6 fun b hb o e=>?_,fun b hb=>?_⟩
   ·exact(I'.pin (b,o) (hA6 _ (hA7 _ (hA6 _ (qBq hb e))))).1
   ·obtain⟨o,e,d⟩:=T.obj _ _ st6 b hb;exact(I'.pin (b,o) (hA6 _ (hA7 _ (hA6 _ (qBq hb e))))).2.1
  have np':∀ p∈X.pn++(pins++pinsAt fp s6.heap),p.1≠acc:=fun p hp=>by
   rcases hAr.mp hp with z | z
   ·exact np p (hAz _ z)
   ·rcases hAr.mp z with z | z
    ·exact np p (hA6 _ z)
    ·obtain⟨hb,_⟩:=of_pinsAt z;exact Ne.symm ((stat (o':=o4) fr6 p.1 hb).2.2.2.2.2 (acc,o4) (hA6 _ hA9))
  have tg:=hg _ s6 σ4 H6 x u _ I6' r6 (step x H6 y6);rw[xxe]at tg;refine thn tg fun _ s7 ⟨σ7,H7,I7,q7⟩=>?_
  have tts:=ht _ s7 σ7 H7 _ I7 q7;rw[xxe]at tts;refine thn tts fun b s8 ⟨H8,I8,q8⟩=>?_
  cases b with
  | false =>
   rw[if_neg hAm]at q8 ⊢;obtain⟨m',hm',w8⟩:=q8;obtain⟨b1,b2,b3⟩:=back I8;exact⟨m',hm',i+1,a4,o4,σ7,H8,b1,ha4,b2,b3,w8⟩
  | true =>
   rw[if_pos rfl]at q8 ⊢;refine thn (hb _ s8 σ7 H8 a4 o4 _ I8 np' hx ha4 q8) fun _ s9 ⟨a9,o9,σ9,H9,I9,ha9,m',hm',w9⟩=>?_
   obtain⟨b1,b2,b3⟩:=back I9;exact⟨m',hm',i+1,a9,o9,σ9,H9,b1,ha9,b2,b3,w9⟩
end
end L2
namespace L2
open PySem PySem.Spec PyProof.Rows
theorem qD7 (hcl:(clausesOf e)[d]?=some g) (hga:g.is_async=0)
  (hdn:∀ (A:Around) (Q:PySem.Fin->Shared->Prop) (E:Value->Shared->Prop) (s:Shared),wpAny (model prog w) A ((compStart e d it acc env).onRaise (fun x=>do noteFrame x env;standAt theWindowsPlace)) Q E s->wpAny (model prog w) (A.under (.compStart e d it acc env)) ((model prog w).den (.compStart e d it acc env)) Q E s)
  (hq:∀ it',(Code.compLoop e d it' acc env).quiet=true)
  (h0:codeAny (model prog w) A (.compLoop e d it acc env) R s)
  (h:wpAny (model prog w) A (pyIter it) (fun it' s'=>codeAny (model prog w) A (.compLoop e d it' acc env) R s') (fun _ _=>False) s):codeAny (model prog w) A (.compStart e d it acc env) R s:=by
 refine codeAny_of_tree (hdn _ _ _ _ (wpAny_notedAt ?_));unfold compStart;rw[hcl];show wpAny _ _ (if (g.is_async != 0)=true then _ else _) _ _ s;rw[if_neg (by rw[hga];decide)];refine wpAny_bind (wpAny_askSetting (wpAny_ite ?_));split
 ·first
   | exact wpAny_bind (wpAny_pure (wpAny_pure (And.intro (hq _) h0)))
   | exact wpAny_pure (And.intro (hq _) h0)
 ·exact wpAny_bind (wpAny_rule (wpAny_bind (wpAny_standAt (wpAny_bind (wpAny_mono h (fun it' s' h'=>wpAny_pure (And.intro (hq _) h')) fun _ _ x=>x.elim)))))
section
variable {X:Cx} {pins:List (Addr×Obj)} {σ:St} {H:Hp} {s:Shared} {AS:Type}
theorem gcore {e target:Expr} {gcl:Comprehension} {tpos:Pos} {ifs:List Expr} {scope:Scope} {N':List Str} {sub:List (Option Nat)} {J:It} {fp:List Addr} {it:Addr} {tn:Nat->Heap->Prop} {g:TG} {tt:TT} {tb:TB AS} {o0:Obj} {a0:AS} {AO:AS->Obj->Prop} {HOf:Addr->AS->HO} {newAcc:Sem Value} {body:Addr->Env->Sem Unit}
  {Qe:AS->Hp->Prop} {E:Value->Shared->Prop} {RR:Value->Addr->Result->Shared->Prop}
  (hnew:∀ (A:Around) (s:Shared) (Q:Value->Shared->Prop) (E:Value->Shared->Prop),Q (.ref s.heap.objs.size) { s with heap:=s.heap.push o0 }->wpAny (model X.prog X.w) A newAcc Q E s) (nf:o0.isFreed=false) (nc:∀ a o,AO a o->∀ v,o.data≠.cell v) (hA0:AO a0 o0)
  (hHO:∀ (H':Hp) (h:Heap) (acc:Addr) (a:AS) (o:Obj),sysModules<acc->AO a o->h.get? acc=some o->qBs X.prog X.w H' h acc (HOf acc a))
  (hcl:(clausesOf e)[0]?=some gcl) (hga:gcl.is_async=0)
  (hdnS:∀ (it acc:Value) (env:Env) (A:Around) (Q:PySem.Fin->Shared->Prop) (E:Value->Shared->Prop) (s:Shared),wpAny (model X.prog X.w) A ((compStart e 0 it acc env).onRaise (fun x=>do noteFrame x env;standAt theWindowsPlace)) Q E s->wpAny (model X.prog X.w) (A.under (.compStart e 0 it acc env)) ((model X.prog X.w).den (.compStart e 0 it acc env)) Q E s)
  (hdnL:∀ (it acc:Value) (env:Env) (A:Around) (Q:PySem.Fin->Shared->Prop) (E:Value->Shared->Prop) (s:Shared),wpAny (model X.prog X.w) A ((compTurn e 0 it acc env).onRaise (fun x=>do noteFrame x env;theTreesLotGoes x)) Q E s->wpAny (model X.prog X.w) (A.under (.compLoop e 0 it acc env)) ((model X.prog X.w).den (.compLoop e 0 it acc env)) Q E s)
  (hq:∀ it acc env,(Code.compLoop e 0 it acc env).quiet=true)
  (hsh:∀ (it acc:Addr) (env:Env),compTurn e 0 (.ref it) (.ref acc) env=qCf tpos (.ref it) target env ifs (body acc env) (again (.compLoop e 0 (.ref it) (.ref acc) env)))
  (hc:X.calm=true) (I:Inv X pins σ H s) (O:CmpOk X.N X.env.scope N' scope sub) (T:Turn X.prog X.w X.K target J fp it tn) (st:tn 0 s.heap) (hf:∀ b∈fp,FpOk X pins H b)
  (B:∀ C s H fp,PG (qB5 X scope N' C s H fp) target g/\PTs (qB5 X scope N' C s H fp) ifs tt/\∀ acc,PBd (qB5 X scope N' C s H fp) AO acc (body acc (qB5 X scope N' C s H fp).env) tb)
  (rd:qGm J g tt tb (fun a _ H'=>Qe a H') a0 (subσ sub σ) H)
  (hRR:∀ (acc C:Addr) (a:AS) (H':Hp) (s':Shared),Inv X pins σ (upd H' acc (HOf acc a)) s'->FpOk X pins (upd H' acc (HOf acc a)) C->(∃ m,s'.heap.Ns C m)->H' acc=none->Qe a H'->RR (.ref acc) C (.ok .next) s') :
  wpAny (model X.prog X.w) X.A newAcc (fun acc s₃=>wpAny (model X.prog X.w) X.A (newFunctionEnv scope X.env.globals (qCc X.env.cells scope.names []) [] X.env.qual none .none (some X.env)) (fun cenv s₄ =>
   codeAny (model X.prog X.w) X.A (.compStart e 0 (.ref it) acc { cenv with scope:=relabel scope X.env }) (RR acc cenv.locals) s₄) E s₃) E s:=by
 refine hnew _ _ _ _ (qDr ?_);have hfl:∀ b∈fp,b<s.heap.objs.size:=fun b hb=>by
  obtain⟨o,e,_⟩:=T.obj _ _ st b hb;exact Heap.lt_size e
 have I0:=inv_compO (o0:=o0) (sub:=sub) I O hf hfl nf (nc a0 o0 hA0);have sz3:(s.heap.push o0).objs.size=s.heap.objs.size+1:=Heap.size_push ..;dsimp only;show codeAny _ _ (.compStart _ 0 (.ref it) (.ref s.heap.objs.size) { scope:=relabel scope X.env,locals:=(s.heap.push o0).objs.size,globals:=X.env.globals,cells:=cellsFrom ((s.heap.push o0).objs.size+1) scope.names (qCc X.env.cells scope.names []),qual:=X.env.qual,func:=none,code:=X.env.code,frame:=X.env.frame,builtins:=X.env.builtins })
  (RR (.ref s.heap.objs.size) (s.heap.push o0).objs.size) { s with heap:=pushCells ((s.heap.push o0).push { cls:=.type "dict",data:=.dict #[] }) scope.names }
 rw[sz3];show codeAny _ _ (.compStart _ 0 (.ref it) (.ref s.heap.objs.size) (qBy X.env scope (s.heap.objs.size+1))) (RR (.ref s.heap.objs.size) (s.heap.objs.size+1)) _;generalize hs0:({ s with heap:=pushCells ((s.heap.push o0).push { cls:=.type "dict",data:=.dict #[] }) scope.names }:Shared)=s0 at I0 ⊢;have hk0:∀ b o,s.heap.get? b=some o->s0.heap.get? b=some o:=fun b o e=>by
  rw[<-hs0];exact pushCells_keeps _ _ b o (Heap.get?_push_of_some _ (Heap.get?_push_of_some _ e))
 have st0:tn 0 s0.heap:=T.keep _ _ _ st fun b hb o e=>hk0 b o e
 clear hs0 sz3;generalize hX:qB5 X scope N' (s.heap.objs.size+1) s H fp=X' at I0;have xp:X'.prog=X.prog:=by rw[<-hX];rfl
 have xw:X'.w=X.w:=by rw[<-hX];rfl
 have xK:X'.K=X.K:=by rw[<-hX];rfl
 have xA:X'.A=X.A:=by rw[<-hX];rfl
 have xc:X'.calm=true:=by rw[<-hX];exact hc
 have xe:X'.env=qBy X.env scope (s.heap.objs.size+1):=by rw[<-hX];rfl
 have xx:X'.ex=fp:=by rw[<-hX];rfl
 have xf:X'.fs=frs X.stack:=by rw[<-hX];rfl
 have xpn:X'.pn=[]:=by rw[<-hX];rfl
 have x0:X'.s₀=s:=by rw[<-hX];rfl
 have xh:X'.H₀=H:=by rw[<-hX];rfl
 have xxe:X'.xe=fun _ _=>False:=by rw[<-hX];rfl
 obtain⟨hg,ht,hbd⟩:=B (s.heap.objs.size+1) s H fp;rw[hX]at hg ht hbd;clear hX;have f0':∀ b∈fp,FpOk X' [(s.heap.objs.size,o0)] H b:=fun b hb=>by
  obtain⟨f0,f1,f2,f3,f4,f5⟩:=hf b hb;refine⟨f0,(I0.ok.exf b (by rw[xx];exact hb)).1,I0.ok.exfs b (by rw[xx];exact hb),.inl (by rw[xx];exact hb),(I0.ok.exf b (by rw[xx];exact hb)).2,fun p hp'=>?_⟩;rw[xpn,List.nil_append,hAk]at hp';rw[hp'];exact hCz (hfl b hb)
 have loop:codeAny (model X.prog X.w) X.A (.compLoop e 0 (.ref it) (.ref s.heap.objs.size) (qBy X.env scope (s.heap.objs.size+1))) (RR (.ref s.heap.objs.size) (s.heap.objs.size+1)) s0:=by
  have T':Turn X'.prog X'.w X'.K target J fp it tn:=by rw[xp,xw,xK];exact T
  have hb0:=hbd s.heap.objs.size;have key:=gloop (X:=X') (AO:=AO) (e:=e) (d:=0) (tpos:=tpos) (R:=RR (.ref s.heap.objs.size) (s.heap.objs.size+1)) (pins:=[]) (a:=a0) (o:=o0) (acc:=s.heap.objs.size) xc xxe (hsh it s.heap.objs.size X'.env) (by rw[xp,xw];exact hdnL _ _ _) T' st0 f0' hg ht hb0 I0 (by rw[xpn];exact fun p hp=>absurd hp (by simp)) (.inr (by rw[x0];exact hA5 _)) hA0 rd ?_
  ·rw[xp,xw,xA,xe]at key;exact key
  intro s5 a5 o5 σ5 H4 I5 ha5 q fr5;have pa:=I5.pin (s.heap.objs.size,o5) (by rw[xpn];simp);have nacc:H4 s.heap.objs.size=none:=pa.2.1;have nC:H4 (s.heap.objs.size+1)=none:=by have z:=I5.free;rw[xe]at z;exact z
  have un:Un (frs X.stack) fp H H4 s.heap s5.heap:=by have z:=I5.base;rw[xf,xx,xh,x0]at z;exact z
  have un2:Un (frs X.stack) fp H (upd H4 s.heap.objs.size (HOf s.heap.objs.size a5)) s.heap s5.heap:=by
   refine⟨un.keep,un.slot,fun b o e n hx=>?_,un.there,fun b xs e=>?_,fun b o u e=>?_,fun b ps e=>?_⟩
   ·rw[qAh (hAp (Heap.lt_size e))];exact un.free b o e n hx
   ·have z:=un.tups b xs e;rw[qAh (qAj z nacc)];exact z
   ·have z:=un.frzs b o u e;rw[qAh (qAj z nacc)];exact z
   ·obtain⟨more,z⟩:=un.tbls b ps e;exact⟨more,by rw[qAh (qAj z nacc)];exact z⟩
  have hok5:HOk X.prog X.w H4 s5.heap:=by have z:=I5.hok;rw[xp,xw]at z;exact z
  have hok2:HOk X.prog X.w (upd H4 s.heap.objs.size (HOf s.heap.objs.size a5)) s5.heap:=fun b u e=>by
   by_cases hb:b=s.heap.objs.size
   ·subst hb;rw[upd_same]at e;cases e;exact hHO _ _ _ _ _ I.big ha5 pa.1
   ·rw[qAh hb]at e;exact(hok5 b u e).stay (fun _ _ _ q=>q) (fun c q=>by rw[qAh (qAj q nacc)];exact q) fun c xs q=>by rw[qAh (qAj q nacc)];exact q
  have os5:s5.os=s.os:=by have z:=I5.os;rw[x0]at z;exact z
  have J5:Inv X pins σ (upd H4 s.heap.objs.size (HOf s.heap.objs.size a5)) s5:=I.call' os5 un2 hok2 I5.bare fun b hb=>by
   obtain⟨f0,f1,f2,f3,f4,f5⟩:=hf b hb;exact⟨f3,f1,f4,f5⟩
  refine hRR _ _ a5 H4 s5 J5 (I.fpOk (hB5 _) ?_) ?_ nacc q
  ·rw[qAh (Nat.succ_ne_self _)];exact nC
  ·obtain⟨m,hn,_⟩:=I5.loc;rw[xe]at hn;exact⟨m,hn⟩
 exact qD7 hcl hga (hdnS _ _ _) (fun it'=>hq _ _ _) loop (T.self _ 0 _ _ _ st0 loop)
end
end L2
namespace L2
open PySem PySem.Spec PyProof.Rows
def qEx (e iter2:Expr) (acc:Addr) (env:Env):Sem Unit:=do
 let x ← eval iter2 env
 standAt iter2.pos
 let x ← foldedSetIterable iter2 env x
 let _ ← runOwn (.compStart e 1 (← holding [x] (pyIter x)) (.ref acc) env) env
def tNest {AS:Type} (wi:TI) (g:TG) (tt:TT) (tb:TB AS):TB AS:=fun a σ H Q=>wi σ H fun J H1=>qGm J g tt tb Q a σ H1
theorem pbd_nest {X:Cx} {AS:Type} {AO:AS->Obj->Prop} {acc:Addr} {e iter2 target2:Expr} {ifs2:List Expr} {tpos2:Pos} {gcl:Comprehension} {body:Sem Unit} {wi:TI} {g:TG} {tt:TT} {tb:TB AS} (hc:X.calm=true) (xxe:X.xe=fun _ _=>False)
  (hi:PI X target2 iter2 wi) (hg:PG X target2 g) (ht:PTs X ifs2 tt) (hb:PBd X AO acc body tb) (hfold:∀ x,foldedSetIterable iter2 X.env x=pure x)
  (hcl:(clausesOf e)[1]?=some gcl) (hga:gcl.is_async=0)
  (hsh:∀ it:Addr,compTurn e 1 (.ref it) (.ref acc) X.env=qCf tpos2 (.ref it) target2 X.env ifs2 body (again (.compLoop e 1 (.ref it) (.ref acc) X.env)))
  (hdnS:∀ (it:Value) (A:Around) (Q:PySem.Fin->Shared->Prop) (E:Value->Shared->Prop) (s:Shared),wpAny (model X.prog X.w) A ((compStart e 1 it (.ref acc) X.env).onRaise (fun x=>do noteFrame x X.env;standAt theWindowsPlace)) Q E s->wpAny (model X.prog X.w) (A.under (.compStart e 1 it (.ref acc) X.env)) ((model X.prog X.w).den (.compStart e 1 it (.ref acc) X.env)) Q E s)
  (hdnL:∀ (it:Value) (A:Around) (Q:PySem.Fin->Shared->Prop) (E:Value->Shared->Prop) (s:Shared),wpAny (model X.prog X.w) A ((compTurn e 1 it (.ref acc) X.env).onRaise (fun x=>do noteFrame x X.env;theTreesLotGoes x)) Q E s->wpAny (model X.prog X.w) (A.under (.compLoop e 1 it (.ref acc) X.env)) ((model X.prog X.w).den (.compLoop e 1 it (.ref acc) X.env)) Q E s)
  (hq:∀ it,(Code.compLoop e 1 it (.ref acc) X.env).quiet=true):PBd X AO acc (qEx e iter2 acc X.env) (tNest wi g tt tb):=by
 intro pins s σ H a o Q I np hx ha h;have h0:=hi _ s σ H _ I h;rw[xxe]at h0;unfold qEx;refine wpAny_bind (thn h0 fun v s1 h1=>wpAny_bind (wpAny_standAt (wpAny_bind (wpAny_of_eq (hfold v) (wpAny_bind (wpAny_holding (thn h1 fun itv s2 h2=>?_)))))));obtain⟨it,fp,tn,J,H2,e2,I2,T,st2,f2,rd⟩:=h2;subst e2;refine wpAny_bind (wpAny_runOwn ?_);have loop:=gloop (X:=X) (AO:=AO) (e:=e) (d:=1) (tpos:=tpos2) (R:=fun r s'=>match r with
   | .ok f=>wpAny (model X.prog X.w) X.A (pure ():Sem Unit) (fun _ s'=>∃ (a':AS) (o':Obj) (σ':St) (H':Hp),Inv X ((acc,o') :: pins) σ' H' s'/\AO a' o'/\Q a' σ' H') (fun _ _=>False) s'
   | .error e=>cameBackBy (model X.prog X.w) X.A X.env (fun _ _=>False) e s') hc xxe (hsh it) (hdnL _) T st2 f2 hg ht hb I2 np hx ha rd
  (fun s' a' o' σ' H' I' ha' q' _=>wpAny_pure ⟨a',o',σ',H',I',ha',q'⟩)
 exact qD7 hcl hga (hdnS _) hq loop (T.self _ 0 _ _ _ st2 loop)
def qFx (P:Program) (w:World) (ss:List Str) (o:Obj):Prop :=
 ∃ (es:Array (Int×Value)) (ep:Nat) (t:SetTable),o=sOb es ep t/\ElemsOf (PySem.strKind P w) es.toList/\StrsAre (es.toList.map (·.2)) ss/\es.size<scanBound/\t.fits es.size=true/\t.led=!w.params.followText "set-order"/\(es.size≠0->t.plain=false)
theorem qFx.set (x:qFx P w ss o) (e:h.get? a=some o):qBz P w h a ss:=by
 obtain⟨es,ep,t,rfl,r⟩:=x;exact⟨es,ep,t,e,r⟩
theorem qBz.obj (x:qBz P w h a ss):∃ o,h.get? a=some o/\qFx P w ss o:=by
 obtain⟨es,ep,t,e,r⟩:=x;exact⟨_,e,es,ep,t,rfl,r⟩
theorem qFx.nocell (x:qFx P w ss o):∀ v,o.data≠.cell v:=by
 obtain⟨es,ep,t,rfl,_⟩:=x;intro v z;cases z
def setBody (elt:Expr) (acc:Addr) (env:Env):Sem Unit:=do
 let v ← eval elt env
 standAt elt.pos
 let _ ← call (.builtin "set.add") [.ref acc,v]
def tPut (te:TE):TB (List Str):=fun ss σ H Q=>te σ H fun v H'=>∃ x:Str,v = .str x/\ss.length<1000/\∀ ss',(if x∈ss then ss'=ss else ss'.Perm (ss++[x]))->Q ss' σ H'
theorem pbd_set (xxe:X.xe=fun _ _=>False) (he:PE X elt te):PBd X (qFx X.prog X.w) acc (setBody elt acc X.env) (tPut te):=by
 intro pins s σ H a o Q I np hx ha h;have h0:=he _ s σ H _ I h;rw[xxe]at h0;unfold setBody;refine wpAny_bind (thn h0 fun v s1 ⟨y,H1,I1,r1,x,ex,hl,q⟩=>wpAny_bind (wpAny_standAt (wpAny_bind ?_)));subst ex;obtain⟨tk,rfl⟩:=r1;have pa:=I1.pin (acc,o) (hA6 _ hA9);have hS:qBz X.prog X.w s1.heap acc a:=ha.set pa.1;have hT:s1.TypeIs (.ref acc) "set":=by
  obtain⟨es,ep,t,ho,_⟩:=hS;exact⟨_,ho,rfl⟩
 refine wpAny_call_entry PySem.F.slot_set_add hT PySem.F.entry_set_add ?_ (PySem.F.args_set_add_2 _ _);unfold Builtin.«set.add» Builtin.Frozenset.oneOther;simp only[List.isEmpty_nil,bind_assoc];unfold Builtin.Frozenset.addrOf setAdd;refine wpAny_bind (wpAny_pure ?_);try dsimp only
 refine wpAny_bind (wpAny_pure ?_);try dsimp only
 refine wpAny_bind (wpAny_holding (wpAny_bind ((PySem.strKind X.prog X.w).pyHash (strKind_is X.prog X.w x tk) ?_)));refine tset_add (s:={ s1 with toks:=s1.toks+1 }) hS (by have:scanBound=4096:=rfl;omega) fun h2 ss2 sb2 hS2 q2=>?_
 show wpAny _ _ (ret Value.none) _ _ _;refine wpAny_pure ⟨_,rfl,wpAny_pure ?_⟩;obtain⟨o2,e2,ho2⟩:=hS2.obj;exact⟨ss2,o2,σ,H1,I1.repin (t':=s1.toks+1) (fun b u hb e=>(sb2.2 b hb).trans e) e2 ho2.nocell hx np,ho2,q ss2 q2⟩
end L2
namespace L2
open PySem PySem.Spec PyProof.Rows
structure GC (P:Program) (w:World) {AS:Type} (e target iter:Expr) (ifs:List Expr) (scope:Scope) (tpos:Pos) (newAcc:Sem Value) (body:Addr->Env->Sem Unit) (o0:Obj) (a0:AS) (AO:AS->Obj->Prop) (HOf:Addr->AS->HO):Prop where
 new:∀ (A:Around) (s:Shared) (Q:Value->Shared->Prop) (E:Value->Shared->Prop),Q (.ref s.heap.objs.size) { s with heap:=s.heap.push o0 }->wpAny (model P w) A newAcc Q E s
 nf:o0.isFreed=false
 nc:∀ a o,AO a o->∀ v,o.data≠.cell v
 hA0:AO a0 o0
 hHO:∀ (H':Hp) (h:Heap) (acc:Addr) (a:AS) (o:Obj),sysModules<acc->AO a o->h.get? acc=some o->qBs P w H' h acc (HOf acc a)
 cl:∃ gs,clausesOf e=⟨target,iter,ifs,0⟩ :: gs
 dnS:∀ (it acc:Value) (env:Env) (A:Around) (Q:PySem.Fin->Shared->Prop) (E:Value->Shared->Prop) (s:Shared),wpAny (model P w) A ((compStart e 0 it acc env).onRaise (fun x=>do noteFrame x env;standAt theWindowsPlace)) Q E s->wpAny (model P w) (A.under (.compStart e 0 it acc env)) ((model P w).den (.compStart e 0 it acc env)) Q E s
 dnL:∀ (it acc:Value) (env:Env) (A:Around) (Q:PySem.Fin->Shared->Prop) (E:Value->Shared->Prop) (s:Shared),wpAny (model P w) A ((compTurn e 0 it acc env).onRaise (fun x=>do noteFrame x env;theTreesLotGoes x)) Q E s->wpAny (model P w) (A.under (.compLoop e 0 it acc env)) ((model P w).den (.compLoop e 0 it acc env)) Q E s
 q:∀ it acc env,(Code.compLoop e 0 it acc env).quiet=true
 sh:∀ (it acc:Addr) (env:Env),compTurn e 0 (.ref it) (.ref acc) env=qCf tpos (.ref it) target env ifs (body acc env) (again (.compLoop e 0 (.ref it) (.ref acc) env))
def tGath {AS:Type} (sub:List (Option Nat)) (wi:TI) (g:TG) (tt:TT) (tb:TB AS) (a0:AS) (HOf:Addr->AS->HO):TE:=fun σ H Q=>wi σ H fun J H1 =>
 qGm J g tt tb (fun a _ H'=>∀ r,H' r=none->Q (.ref r) (upd H' r (HOf r a))) a0 (subσ sub σ) H1
section
variable {X:Cx} {AS:Type} {e target iter:Expr} {ifs:List Expr} {scope sc:Scope} {pos tpos cpos:Pos} {N N':List Str} {sub:List (Option Nat)} {wi:TI} {g:TG} {tt:TT} {tb:TB AS} {newAcc:Sem Value} {body:Addr->Env->Sem Unit} {o0:Obj} {a0:AS} {AO:AS->Obj->Prop} {HOf:Addr->AS->HO}
theorem pe_g (GG:GC X.prog X.w e target iter ifs scope tpos newAcc body o0 a0 AO HOf) (hev:eval e X.env=comprehension e scope X.env cpos newAcc false (eval iter X.env)) (hN:X.N=N) (hsc:X.env.scope=sc) (O:CmpOk N sc N' scope sub) (hc:X.calm=true) (hi:PI X target iter wi)
  (B:∀ C s H fp,PG (qB5 X scope N' C s H fp) target g/\PTs (qB5 X scope N' C s H fp) ifs tt/\∀ acc,PBd (qB5 X scope N' C s H fp) AO acc (body acc (qB5 X scope N' C s H fp).env) tb)
  (hs:∀ x,foldedSetIterable iter X.env x=pure x:=by intro _;rfl):PE X e (tGath sub wi g tt tb a0 HOf):=by
 subst hN hsc;intro pins s σ H Q I h;rw[hev];obtain⟨gs,hcl⟩:=GG.cl;refine wpAny_comprehension_free (use:=none) hcl hs (clos_of I O) O.kind (names_of O) (thn (hi pins s σ H _ I h) fun v s1 h1=>thn h1 fun itv s2 h2=>?_);obtain⟨it,fp,tn,J,H2,e,I2,T,st2,f2,rd⟩:=h2;subst e;refine gcore (RR:=fun acc C=>compPost (model X.prog X.w) X.A X.xe none (EP X pins σ Q) acc C) GG.new GG.nf GG.nc GG.hA0 GG.hHO (by rw[hcl];rfl) rfl GG.dnS GG.dnL GG.q GG.sh hc I2 O T st2 f2 B rd fun acc C a H' s' I' fC hn na q=>?_
 obtain⟨m,hn⟩:=hn;obtain⟨f0,f1,f3,f4,f5,f6⟩:=fC;refine⟨m,hn,fun h' sb=>?_⟩;exact⟨.ref acc,upd H' acc (HOf acc a),I'.turned (t':=s'.toks) (it:=C) (fun b o hb e=>(sb.2 b hb).trans e) f0 f1 f4 f5 f6,rfl,q acc na⟩
end
section
variable {P:Program} {w:World} {target iter target2 iter2 elt kx vx:Expr} {ifs ifs2:List Expr} {scope:Scope} {pos:Pos}
theorem gc_set2:GC P w (.SetComp elt [⟨target,iter,ifs,0⟩,⟨target2,iter2,ifs2,0⟩] scope pos) target iter ifs scope iter.pos (newSet (.type "set")) (qEx (.SetComp elt [⟨target,iter,ifs,0⟩,⟨target2,iter2,ifs2,0⟩] scope pos) iter2) (setO w) ([]:List Str) (qFx P w) (SetS P w) where
 new:=fun A s Q E h=>by
  unfold newSet setsByText;refine wpAny_bind (wpAny_bind (wpAny_askSetting (wpAny_pure ?_)));dsimp only;simp only[newObj];exact wpAny_bind (wpAny_alloc (wpAny_pure h))
 nf:=rfl
 nc:=fun a o h=>h.nocell
 hA0:=by
  obtain⟨o,e,r⟩:=(setO_ok P w (h:=(({}:Heap).push (setO w))) (a:=({}:Heap).objs.size) (Heap.get?_push_size _ rfl)).obj;rw[Heap.get?_push_size _ rfl]at e;cases e;exact r
 hHO:=fun H' h acc a o _ x e=>⟨x.set e,⟨o,e⟩,fun h1 h2 z k=>z.at k⟩
 cl:=⟨_,rfl⟩
 dnS:=fun _ _ _ _ _ _ _ h=>h
 dnL:=fun _ _ _ _ _ _ _ h=>h
 q:=fun _ _ _=>rfl
 sh:=fun it acc env=>by
  unfold qCf qEx;simp only[bind_assoc];rfl
end
end L2
namespace L2
open PySem PySem.Spec PyProof.Rows
end L2
namespace L2
open PySem PySem.Spec PyProof.Rows PySem.W
abbrev Rng (n:Nat):Array Nat:=List.toArray (List.range n)
def Gd (n:Nat) (p:Array Nat):Prop:=p.Perm (Rng n)
section
variable {n:Nat} {cmp:Nat->Nat->(Bool->Shared->Prop)->Shared->Prop} {s:Shared} (hask:∀ i j C,i<n->j<n->(∀ b,C b s)->cmp i j C s) (h0:0<n)
include hask h0
end
end L2
namespace L2
open PySem PySem.Spec PyProof.Rows PySem.W
end L2
namespace L2
open PySem PySem.Spec PyProof.Rows PySem.W
section
variable {AS:Type} {g:TG} {tt:TT} {tb:TB AS} {Q:AS->St->Hp->Prop} {a0:AS} {σ0:St} {H0:Hp}
def NxG (n i:Nat) (Pv:Nat->AS->St->Hp->Prop) (a:AS) (σ:St) (H:Hp):Prop:=∃ m',m'<n - i/\m'=n - (i+1)/\i+1<=n/\Pv (i+1) a σ H
theorem nxg (hi:i<n) (h:Pv (i+1) a σ H):NxG n i Pv a σ H:=⟨_,by omega,rfl,hi,h⟩
theorem g_list {K:PySem.W.Frag} {p:Addr} {xs:List V} (Pv:Nat->AS->St->Hp->Prop) (h0:Pv 0 a0 σ0 H0) (hl:∀ i a σ H,i<=xs.length->Pv i a σ H->SqL K H p xs)
  (hs:∀ i x a σ H,xs[i]?=some x->Pv i a σ H->g x σ H fun σ2 H2=>tt σ2 H2 fun b H3=>if b=true then tb a σ2 H3 (NxG xs.length i Pv) else NxG xs.length i Pv a σ2 H3)
  (hd:∀ a σ H,Pv xs.length a σ H->Q a σ H):qGm (Itl K p) g tt tb Q a0 σ0 H0:=by
 refine⟨fun i m a σ H=>m=xs.length - i/\i<=xs.length/\Pv i a σ H,⟨xs.length,by simp,hAw _,h0⟩,?_⟩;rintro i m a σ H ⟨rfl,hi,pv⟩;have q:=hl i a σ H hi pv;by_cases hlt:i<xs.length
 ·refine .inr ⟨⟨xs,xs[i],q,by simp[hlt]⟩,fun x H' y=>?_⟩;obtain⟨e,y⟩:=y;subst e;exact hs i x a σ _ (y xs q) pv
 ·have e:i=xs.length:=by omega
  subst e;exact .inl ⟨⟨xs,q,hA5 _⟩,hd a σ H pv⟩
theorem g_tuple {K:PySem.W.Frag} {p:Addr} {xs:List V} (Pv:Nat->AS->St->Hp->Prop) (h0:Pv 0 a0 σ0 H0) (hl:∀ i a σ H,i<=xs.length->Pv i a σ H->SqT K H p xs)
  (hs:∀ i x a σ H,xs[i]?=some x->Pv i a σ H->g x σ H fun σ2 H2=>tt σ2 H2 fun b H3=>if b=true then tb a σ2 H3 (NxG xs.length i Pv) else NxG xs.length i Pv a σ2 H3)
  (hd:∀ a σ H,Pv xs.length a σ H->Q a σ H):qGm (Itt K p) g tt tb Q a0 σ0 H0:=by
 refine⟨fun i m a σ H=>m=xs.length - i/\i<=xs.length/\Pv i a σ H,⟨xs.length,by simp,hAw _,h0⟩,?_⟩;rintro i m a σ H ⟨rfl,hi,pv⟩;have q:=hl i a σ H hi pv;by_cases hlt:i<xs.length
 ·refine .inr ⟨⟨xs,xs[i],q,by simp[hlt]⟩,fun x H' y=>?_⟩;obtain⟨e,y⟩:=y;subst e;exact hs i x a σ _ (y xs q) pv
 ·have e:i=xs.length:=by omega
  subst e;exact .inl ⟨⟨xs,q,hA5 _⟩,hd a σ H pv⟩
end
end L2
namespace L2
open PySem PySem.Spec PyProof.Rows PySem.W
structure Ordr (lt:Nat->Nat->Bool):Prop where
 asym:∀ a b,lt a b=true->lt b a=false
 tr:∀ a b c,lt b a=false->lt c b=false->lt c a=false
section
variable {lt:Nat->Nat->Bool} (o:Ordr lt)
include o
variable {n:Nat} {cmp:Nat->Nat->(Bool->Shared->Prop)->Shared->Prop} {s:Shared} (hask:∀ i j C,i<n->j<n->C (lt i j) s->cmp i j C s) (h0:0<n)
include hask h0
end
end L2
namespace L2
open PySem PySem.Spec PyProof.Rows PySem.W
theorem txTri:∀ a b:List Nat,a<b\/a=b\/b<a
 | [],[]=>.inr (.inl rfl)
 | [],_ :: _=>.inl (List.nil_lt_cons _ _)
 | _ :: _,[]=>.inr (.inr (List.nil_lt_cons _ _))
 | x :: a,y :: b=>by
  rcases Nat.lt_trichotomy x y with h | h | h
  ·exact .inl (hBr.mpr (.inl h))
  ·subst h;rcases txTri a b with h | h | h
   ·exact .inl (hBr.mpr (.inr ⟨rfl,h⟩))
   ·exact .inr (.inl (by rw[h]))
   ·exact .inr (.inr (hBr.mpr (.inr ⟨rfl,h⟩)))
  ·exact .inr (.inr (hBr.mpr (.inl h)))
theorem txExt {x y:Str} (h:x.cps.toList=y.cps.toList):x=y:=by
 cases x;cases y;simp only[Str.mk.injEq];exact Array.toList_inj.mp h
def sLtB (x y:Str):Bool:=decide (x.cps.toList<y.cps.toList)
theorem sLtB_irr (x:Str):sLtB x x=false:=decide_eq_false (List.lt_irrefl _)
theorem qEc (h:sLtB x y=true) (h':sLtB y z=true):sLtB x z=true:=decide_eq_true (List.lt_trans (of_decide_eq_true h) (of_decide_eq_true h'))
theorem sLtB_tri (x y:Str):sLtB x y=true\/x=y\/sLtB y x=true:=by
 rcases txTri x.cps.toList y.cps.toList with h | h | h
 ·exact .inl (decide_eq_true h)
 ·exact .inr (.inl (txExt h))
 ·exact .inr (.inr (decide_eq_true h))
def ltL:List Str->List Str->Bool
 | [],[]=>false
 | [],_ :: _=>true
 | _ :: _,[]=>false
 | x :: r,y :: t=>if x=y then ltL r t else sLtB x y
theorem ltL_tri:∀ a b:List Str,ltL a b=true\/a=b\/ltL b a=true
 | [],[]=>.inr (.inl rfl)
 | [],_ :: _=>.inl rfl
 | _ :: _,[]=>.inr (.inr rfl)
 | x :: r,y :: t=>by
  unfold ltL;by_cases e:x=y
  ·subst e;rw[if_pos rfl,if_pos rfl];rcases ltL_tri r t with h | h | h
   ·exact .inl h
   ·exact .inr (.inl (by rw[h]))
   ·exact .inr (.inr h)
  ·rw[if_neg e,if_neg (fun z=>e z.symm)];rcases sLtB_tri x y with h | h | h
   ·exact .inl h
   ·exact absurd h e
   ·exact .inr (.inr h)
end L2
namespace L2
open PySem PySem.Spec PyProof.Rows PySem.W
end L2
namespace L2
open PySem PySem.Spec PyProof.Rows PySem.W
end L2
namespace L2
open PySem PySem.Spec PyProof.Rows
end L2
namespace L2
open PySem PySem.Spec PyProof.Rows PySem.W
abbrev Srt (a:List (List Str)):Prop:=a.Pairwise fun x y=>ltL y x=false
theorem srt_uniq:∀ {a b:List (List Str)},Srt a->Srt b->a.Perm b->a=b
 | [],b,_,_,p=>(List.nil_perm.mp p).symm▸rfl
 | x :: a,[],_,_,p=>by have:=p.length_eq;simp at this
 | x :: a,y :: b,ha,hb,p=>by
  obtain⟨a1,a2⟩:=hBm.mp ha;obtain⟨b1,b2⟩:=hBm.mp hb;have e:x=y:=by
   rcases hAc.mp (p.mem_iff.mp hA9) with z | z
   ·exact z
   ·rcases hAc.mp (p.mem_iff.mpr hA9) with w' | w'
    ·exact w'.symm
    ·have h1:=b1 x z;have h2:=a1 y w';rcases ltL_tri x y with q | q | q
     ·rw[q]at h1;cases h1
     ·exact q
     ·rw[q]at h2;cases h2
  subst e;rw[srt_uniq a2 b2 ((List.perm_cons _).mp p)]
end L2
namespace L2
open PySem PySem.Spec PyProof.Rows
theorem qCp {X:Cx} {target iter elt:Expr} {ifs:List Expr} {scope sc:Scope} {pos:Pos} {N N':List Str} {sub:List (Option Nat)} {wi:TI} {g:TG} {tt:TT} {te:TE} (hN:X.N=N) (hsc:X.env.scope=sc)
  (O:CmpOk N sc N' scope sub) (hc:X.calm=true) (hi:PI X target iter wi)
  (B:∀ C s H fp,PG (qB5 X scope N' C s H fp) target g/\PTs (qB5 X scope N' C s H fp) ifs tt/\PE (qB5 X scope N' C s H fp) elt te)
  (hs:∀ x,foldedSetIterable iter X.env x=pure x:=by intro _;rfl):PE X (.ListComp elt [⟨target,iter,ifs,0⟩] scope pos) (tComp sub wi g tt te) :=
 pe_comp hc (by rw[hN,hsc];exact O) hi B hs
theorem ps_lc {X:Cx} {target iter elt:Expr} {ifs:List Expr} {scope sc:Scope} {pos:Pos} {N N':List Str} {sub:List (Option Nat)} {wi:TI} {g:TG} {tt:TT} {te:TE} {i:Nat} {y:Str} {py spos:Pos} (hN:X.N=N) (hsc:X.env.scope=sc)
  (O:CmpOk N sc N' scope sub) (hc:X.calm=true) (hi:PI X target iter wi)
  (B:∀ C s H fp,PG (qB5 X scope N' C s H fp) target g/\PTs (qB5 X scope N' C s H fp) ifs tt/\PE (qB5 X scope N' C s H fp) elt te)
  (nd:X.N.Nodup) (hy:X.N[i]?=some y) (hx:Loc X.env.scope y)
  (hsw:swapsWith (.ListComp elt [⟨target,iter,ifs,0⟩] scope pos) (some (.Name y py)) spos.line X.env=pure true:=by rfl)
  (hs:∀ x,foldedSetIterable iter X.env x=pure x:=by intro _;rfl) (hf:X.fn y=true\/X.env.scope.names.lookup y=some .local:=by first | exact .inl rfl | exact .inr rfl | assumption) :
  PS X (.Assign [.Name y py] (.ListComp elt [⟨target,iter,ifs,0⟩] scope pos) spos) (tAsg (tComp sub wi g tt te) (gName i)) :=
 ps_comp hc (by rw[hN,hsc];exact O) hi B nd hy hx hsw hs hf
end L2
namespace My
open PySem L2
structure Cl (P:Program) (w:World) (K:PySem.W.Frag) (mg:Str->Option Value) (base:Heap) (CX:CXT) (k:Nat) (f:Addr) (fd:FuncData) (ps:List Str) (sp:Sp) (n:Str):Prop where
 g:FnOk P w K mg base CX k f fd ps sp
 b:Binds K fd ps []
 k:PySem.W.keepIn K (.ref f)=true
 m:mg n=some (.ref f)
theorem qAv {X:Cx} {CX:CXT} {k:Nat} {f:Addr} {fd:FuncData} {ps:List Str} {sp:Sp} {x:Str} {dvs:List V} {E:XK} {e:Expr} {es:List Expr} {t:TA} {p pos:Pos} (G:Cl X.prog X.w X.K X.mg X.base CX k f fd ps sp x) (hr:Room k X.A) (hg:Gl X x) (hd:qA5 dvs []) (hx:Passes CX X E)
  (ha:PA X (e :: es) t) (hdb:(x == ("__debug__" : Str))=false:=by decide) (he:starEach (e :: es) X.env=(false,eval e X.env) :: starEach es X.env:=by rfl) (hpl:(backTo pos (starEach es X.env)).any (·.1)=false:=by rfl):PE X (.Call (.Name x p) (e :: es) [] pos) (tCall sp dvs E t):=pe_call G.g hr hg G.m G.k G.b hd hx ha hdb he hpl
def top (i:Nat):Stmt:=PySem.Challenge.pw_roundsalone_k66_papers_of_nets.main.body.getD i (.Pass ⟨0,0,0,0⟩)
abbrev sName:Stmt:=top 3
abbrev qEl:Stmt:=top 4
abbrev sMask:Stmt:=top 6
abbrev qFa:Stmt:=top 7
abbrev sLess:Stmt:=top 8
abbrev sRedu:Stmt:=top 9
abbrev sLead:Stmt:=top 10
abbrev sCrM:Stmt:=top 11
abbrev sTabF:Stmt:=top 13
abbrev qE9:Stmt:=top 15
abbrev sStps:Stmt:=top 16
abbrev sAlk:Stmt:=top 17
abbrev qGa:Stmt:=top 18
abbrev qFb:Stmt:=top 20
abbrev sForm:Stmt:=top 21
abbrev sTies:Stmt:=top 22
abbrev qDk:Stmt:=top 23
abbrev sMet:Stmt:=top 24
abbrev qE8:Stmt:=top 25
abbrev sIsTu:Stmt:=top 33
abbrev sINO:Stmt:=top 34
abbrev sStan:Stmt:=top 44
abbrev sCell:Stmt:=top 46
abbrev qF9:Stmt:=top 47
abbrev sTake:Stmt:=top 48
abbrev qDu:Stmt:=top 49
abbrev sLLd:Stmt:=top 50
abbrev sLSt:Stmt:=top 51
abbrev sLCr:Stmt:=top 52
abbrev sLTi:Stmt:=top 53
abbrev sStM:Stmt:=top 54
abbrev sLRow:Stmt:=top 55
abbrev sTab:Stmt:=top 56
abbrev sLCop:Stmt:=top 57
abbrev sSays:Stmt:=top 58
abbrev sLPt:Stmt:=top 59
abbrev sNPa:Stmt:=top 60
abbrev sNGo:Stmt:=top 61
abbrev sNOf:Stmt:=top 62
abbrev sSpo:Stmt:=top 63
abbrev sDue:Stmt:=top 64
abbrev sLaw:Stmt:=top 65
def Ext (H H':Hp):Prop:=∀ b o,H b=some o->H' b=some o
theorem Ext.refl (H:Hp):Ext H H:=fun _ _ h=>h
theorem Ext.trans {H H1 H2:Hp} (a:Ext H H1) (b:Ext H1 H2):Ext H H2:=fun c o h=>b c o (a c o h)
theorem Ext.new {H:Hp} {p:Addr} (h:H p=none) (o:HO):Ext H (upd H p o):=fun b u q=>by rw[qAh (qAj q h)];exact q
theorem Ext.none {H H':Hp} (e:Ext H H') {p:Addr} (h:H' p=none):H p=none:=by
 cases q:H p with
 | none=>rfl
 | some o=>rw[e p o q]at h;cases h
theorem Ext.sqL {K:PySem.W.Frag} {H H':Hp} {a:Addr} {xs:List V} (e:Ext H H') (h:SqL K H a xs):SqL K H' a xs:=by
 rcases h with (h | ⟨o,h⟩) | h
 ·exact .inl (.inl (e _ _ h))
 ·exact .inl (.inr ⟨o,e _ _ h⟩)
 ·exact .inr h
def spCell (K:PySem.W.Frag):Sp:=fun vs H Q _=>∃ (a:Addr) (ns:List Int) (k:Int),vs=[.ref a,.int k]/\SqL K H a (ns.map V.int)/\0<=k/\∀ v,Q (.int v) H
section
variable {P:Program} {w:World} {K:PySem.W.Frag} {mg:Str->Option Value} {base:Heap} {f f1:Addr} {fd fd1:FuncData}
theorem scCell:FnScope ["_law_script","_law_k"] ["_law_script","_law_k"] (qAd sCell):=⟨rfl,rfl,rfl,by decide +kernel,rfl,by decide +kernel,by decide +kernel⟩
theorem ok_cell (F:Fun K "_law_cell_at" "_law_cell_at" sCell f fd) (ml:mg "len" = none):FnOk P w K mg base CX0 1 f fd ["_law_script","_law_k"] (spCell K):=by
 refine F.ok scCell (fun vs H Q E h=>?_) (fun cdv A outer s H vs Q E hr h=>?_)
 ·obtain⟨a,ns,k,rfl,_⟩:=h;rfl
 obtain⟨a,ns,k,rfl,hS,h0,q⟩:=h;refine⟨_,qAc (qBd (qAp op_lt (pv 1) (qAg qAk rfl ml hAl (qAa (pv 0) qAb)) (qAu _)) (qAf (qAs (qA0 qAz (pv 0) (pv 1) (fun _ _=>rfl)))) qAx) (qAf (qAs qAe)),?_⟩;refine⟨_,rfl,_,rfl,a,_,rfl,.inl hS,_,_,rfl,rfl,_,rfl,?_⟩;refine qCb (fun c=>?_) (fun c=>q 0);have c':k<(((ns.map V.int).length:Nat):Int):=of_decide_eq_true c;rw[hA1]at c';have hk:k.toNat<ns.length:=by omega
 have hv:atI (ns.map V.int) ((k.toNat:Nat):Int)=some (.int ns[k.toNat]):=qAr (by rw[hAd,hA2 hk] <;> rfl);rw[hCx h0]at hv;exact⟨_,rfl,_,rfl,a,_,_,_,rfl,rfl,hS,hv,q _⟩
end
end My
namespace My
open PySem L2
theorem boot_bool':bootBuiltins "bool" = some (.type "bool"):=by decide +kernel
theorem qA9:bootBuiltins "isinstance" = some (.builtin "isinstance"):=by decide +kernel
theorem qBo (K:PySem.W.Frag) (t:Value):PySem.W.kitOne K t t=some true:=by unfold PySem.W.kitOne;rw[if_pos (beq_self_eq_true t)]
end My
namespace My
open PySem L2
section
variable {σ0:St} {g:TG} {tt:TT} {te:TE} {Q:List V->Hp->Prop} {H1:Hp}
theorem turns_ext {K:PySem.W.Frag} {a:Addr} {xs:List V} (f:V->Option V) (hS:SqL K H1 a xs) (hz:xs.length<=sizeLine)
  (hs:∀ x∈xs,∀ H,Ext H1 H->∀ C:Option V->Hp->Prop,(∀ H',Ext H H'->C (f x) H')->g x σ0 H fun σ2 H2=>Sle σ0 σ2/\tt σ2 H2 fun b H3=>if b=true then te σ2 H3 (fun v H4=>C (some v) H4) else C none H3)
  (hd:∀ H',Ext H1 H'->Q (xs.filterMap f) H'):qCu (Itl K a) σ0 g tt te Q H1:=by
 refine qA2 (xs:=xs) (fun i ys H=>Ext H1 H/\ys=(xs.take i).filterMap f) ⟨Ext.refl _,by simp⟩ (fun i ys H _ h=>h.1.sqL hS) ?_ ?_
 ·rintro i x ys H hx ⟨he,rfl⟩;have hi:i<xs.length:=(hAo.mp hx).1;have hm:x∈xs:=hAj hx;have tk:(xs.take (i+1)).filterMap f=(xs.take i).filterMap f++(f x).toList:=by
   rw[List.take_add_one,hx,hC5];cases e:f x <;> simp[e]
  have hl:((xs.take i).filterMap f).length<sizeLine:=by
   have h1:=hCe f (xs.take i);rw[hAi]at h1;omega
  refine hs x hm H he (fun o H4=>match o with | some v=>((xs.take i).filterMap f).length<sizeLine/\Nxt xs.length i _ ((xs.take i).filterMap f++[v]) H4 | none=>Nxt xs.length i _ ((xs.take i).filterMap f) H4) (fun H' he'=>?_);cases e:f x with
  | none=>exact nxt hi ⟨he.trans he',by rw[tk,e];simp⟩
  | some v=>exact⟨hl,nxt hi ⟨he.trans he',by rw[tk,e];simp⟩⟩
 ·rintro ys H ⟨he,rfl⟩;rw[hA8 (hA5 _)];exact hd H he
end
theorem inV_str (n:Str):∀ other:List Str,inV (.str n) (other.map V.str)=decide (n∈other)
 | []=>by simp[inV]
 | x :: r=>by
  have ih:=inV_str n r;unfold inV at ih ⊢;rw[hAu,hCr,ih];show(x == n || decide (n∈r))=_;by_cases e:n=x
  ·subst e;simp
  ·have e':¬x=n:=fun z=>e z.symm
   simp[e,e']
theorem flat_strs:∀ other:List Str,(other.map V.str).all qF0=true:=fun other=>by
 rw[hBw];intro x hx;obtain⟨y,_,rfl⟩:=hA3.mp hx;rfl
def LsS (H:Hp) (a:Addr) (ss:List Str):Prop:=H a=some (.lst (ss.map V.str))
end My
namespace My
open PySem L2
abbrev sg:Str:="abcdefghijklmnopqrstuvwxyz0123456789"
def sgC (n:Nat):Nat:=sg.cps.toList.getD n 0
theorem sg_len:sg.cps.toList.length=36:=by decide +kernel
theorem sg_nd:sg.cps.toList.Nodup:=by decide +kernel
theorem sg_small:∀ c∈sg.cps.toList,c<128:=by decide +kernel
theorem sg_at {i:Int} (h0:0<=i) (h1:i<36):atI sg.cps.toList i=some (sgC i.toNat):=by
 have hk:i.toNat<sg.cps.toList.length:=by rw[sg_len];omega
 have:=qAr (xs:=sg.cps.toList) (j:=i.toNat) (v:=sgC i.toNat) (by
  unfold sgC;rw[hAb,hA2 hk];rfl)
 rw[hCx h0]at this;exact this
theorem sgC_inj {i j:Nat} (hi:i<36) (hj:j<36) (e:sgC i=sgC j):i=j:=by
 have hi':i<sg.cps.toList.length:=by rw[sg_len];exact hi
 have hj':j<sg.cps.toList.length:=by rw[sg_len];exact hj
 unfold sgC at e;rw[hAb,hAb,hA2 hi',hA2 hj']at e;exact(List.getElem_inj sg_nd).mp e
theorem sgC_small {i:Nat} (hi:i<36):sgC i<128:=by
 have hi':i<sg.cps.toList.length:=by rw[sg_len];exact hi
 unfold sgC;rw[hAb,hA2 hi'];exact sg_small _ (hBg hi')
def Sm (x:Str):Prop:=∀ c∈x.cps.toList,c<128
theorem Sm.ok {x:Str} (h:Sm x):PyData.strOk x=true:=by
 unfold PyData.strOk;rw[Array.all_eq_true_iff_forall_mem];intro c hc;have:=h c (by simpa using hc);exact decide_eq_true (by omega)
theorem Sm.app {x y:Str} (h:Sm x) (h':Sm y):Sm (x++y):=fun c hc=>by
 rw[Str.cps_append,hCg,hAr]at hc;exact hc.elim (h c) (h' c)
end My
namespace My
open PySem L2
def qEd (r:List Str):PyData:=.list (r.map .str)
def rowsD (F:List (List Str)):PyData:=.list (F.map qEd)
theorem eqv_strs:∀ a b:List Str,PyData.eqvAll (a.map .str) (b.map .str)=decide (a=b)
 | [],[]=>rfl
 | [],_ :: _=>rfl
 | _ :: _,[]=>rfl
 | x :: a,y :: b=>by
  show(x == y && PyData.eqvAll (a.map .str) (b.map .str))=_;rw[eqv_strs a b];by_cases e:x=y
  ·subst e;simp
  ·simp[e]
theorem eqv_row (a b:List Str):PyData.eqv (qEd a) (qEd b)=decide (a=b):=eqv_strs a b
def SOk (r:List Str):Prop:=∀ x∈r,PyData.strOk x=true
theorem qE0:∀ {r:List Str},SOk r->PyData.canLayAll0 (r.map .str)=true/\PyData.depthAll (r.map .str)=0
 | [],_=>⟨rfl,rfl⟩
 | x :: r,h=>by
  obtain⟨h1,h2⟩:=qE0 (r:=r) fun y hy=>h y (hA7 _ hy)
  refine⟨?_,?_⟩
  ·show(PyData.strOk x && PyData.canLayAll0 (r.map .str))=true;rw[h1,h x hA9];rfl
  ·show max 0 (PyData.depthAll (r.map .str))=0;rw[h2];rfl
theorem qDd {r:List Str} (h:SOk r):SeqAt.shaped (qEd r)=true:=by
 obtain⟨h3,h4⟩:=qE0 h;show(PyData.canLayAll0 (r.map .str) && decide (PyData.depthAll (r.map .str)+1<=64))=true;rw[h3,h4];rfl
theorem dr_strs {K:PySem.W.Frag} {H:Hp}:∀ r:List Str,DRs K H (r.map V.str) (r.map .str)
 | []=>.nil
 | x :: r=>.cons (.str x) (dr_strs r)
theorem qGo {K:PySem.W.Frag} {H:Hp} {a:Addr} {r:List Str} (h:LsS H a r):DR K H (.ref a) (qEd r):=.lst (SqL.of h) (dr_strs r)
end My
namespace My
open PySem L2
theorem qFd {k:Nat} {A:Around} (hr:Room k A):A.units+64<cLine:=by have:=hr.un;omega
theorem qBj:bootBuiltins "list" = some (.type "list"):=by decide +kernel
theorem boot_str':bootBuiltins "str" = some (.type "str"):=by decide +kernel
theorem qEq:bootBuiltins "sorted" = some (.builtin "sorted"):=by decide +kernel
theorem qDa:bootBuiltins "all" = some (.builtin "all"):=by decide +kernel
theorem qCg:bootBuiltins "tuple" = some (.type "tuple"):=by decide +kernel
end My
namespace My
open PySem L2
theorem snoc_ind {α:Type} {P:List α->Prop} (h0:P []) (hs:∀ l t,P l->P (l++[t])) (l:List α):P l:=by
 have:∀ r:List α,P r.reverse:=fun r=>by
  induction r with
  | nil=>exact h0
  | cons a r ih=>rw[hCf];exact hs _ _ ih
 have q:=this l.reverse
 rwa [List.reverse_reverse]at q
abbrev Tr:=Str×Str×Str
abbrev lab (f:Str->Str) (t:Tr):Str->Str:=fun p=>if f p=f t.2.2 then f t.2.1 else f p
def homF (net:List Tr):Str->Str:=net.foldl lab id
def isPt (net:List Tr) (x:Str):Prop:=∃ t∈net,x=t.2.1\/x=t.2.2
theorem isPt_snoc {net:List Tr} {t:Tr} {x:Str}:isPt (net++[t]) x↔isPt net x\/x=t.2.1\/x=t.2.2:=by
 unfold isPt;constructor
 ·rintro⟨u,hu,h⟩;rcases hAr.mp hu with z | z
  ·exact .inl ⟨u,z,h⟩
  ·rw[hAk]at z;subst z;exact .inr h
 ·rintro(⟨u,hu,h⟩ | h)
  ·exact⟨u,hAz _ hu,h⟩
  ·exact⟨t,hA6 _ (hAk.mpr rfl),h⟩
def wStep (kept:List Tr) (t:Tr):List Tr:=if homF kept t.2.1=homF kept t.2.2 then kept else kept++[t]
def woodF (net:List Tr):List Tr:=net.foldl wStep []
end My
namespace My
open PySem L2
abbrev qE2 (l:List Str):Prop:=l.Pairwise fun a b=>sLtB a b=true
end My
namespace My
open PySem L2
abbrev trV (t:Tr):List V:=[.str t.1,.str t.2.1,.str t.2.2]
def qDf (H:Hp) (p:Addr) (net:List Tr):Prop:=∃ as:List Addr,H p=some (.lst (as.map V.ref))/\Paired (fun a t=>H a=some (.tup (trV t))) as net
theorem qDf.ext {H H':Hp} {p:Addr} {net:List Tr} (h:qDf H p net) (e:Ext H H'):qDf H' p net:=by
 obtain⟨as,h1,h2⟩:=h;exact⟨as,e _ _ h1,Paired.mapP h2 fun a t z=>e _ _ z⟩
theorem qA6 {α β:Type} {R:α->β->Prop}:∀ {as:List α} {bs:List β} {i:Nat} {a:α},Paired R as bs->as[i]?=some a->∃ b,bs[i]?=some b/\R a b
 | _,_,_,_,.nil,e=>by simp at e
 | _,_,0,_,.cons h _,e=>by simp at e;subst e;exact⟨_,rfl,h⟩
 | _,_,i+1,_,.cons _ t,e=>by
  obtain⟨b,h1,h2⟩:=qA6 (i:=i) t (by simpa using e);exact⟨b,by simpa using h1,h2⟩
theorem net_get {H:Hp} {as:List Addr} {net:List Tr} {i:Nat} {x:V} (h:Paired (fun a t=>H a=some (.tup (trV t))) as net) (e:(as.map V.ref)[i]?=some x):∃ a t,x = .ref a/\net[i]?=some t/\H a=some (.tup (trV t)):=by
 rw[hAd]at e;cases ha:as[i]? with
 | none=>rw[ha]at e;cases e
 | some a =>
  rw[ha]at e;obtain⟨t,h1,h2⟩:=qA6 h ha;exact⟨a,t,(hAa e).symm,h1,h2⟩
theorem qAq {α:Type} {l:List α} {i:Nat} {t:α} (h:l[i]?=some t):l.take (i+1)=l.take i++[t]:=by rw[List.take_add_one,h];rfl
theorem qBc {α:Type} {l:List α} {i:Nat} {t:α} (h:l[i]?=some t):i<l.length:=(hAo.mp h).1
theorem rise_go:∀ (l:List Str) (p:Str),PyProof.Rows.risingS p l=true->(p :: l).Nodup->qE2 (p :: l)
 | [],p,_,_=>List.pairwise_singleton _ _
 | x :: r,p,h,nd=>by
  have h':(!PySem.Spec.ltCps x.cps.toList p.cps.toList && PyProof.Rows.risingS x r)=true:=h;rw[hBv]at h';have nd':=hBh.mp nd;have ih:=rise_go r x h'.2 nd'.2;have px:sLtB p x=true:=by
   have z:=h'.1;rw[PyProof.Rows.ltCps_eq]at z;rcases sLtB_tri p x with t | t | t
   ·exact t
   ·exact absurd t (fun e=>nd'.1 (by rw[e];exact hA9))
   ·rw[decide_eq_true (of_decide_eq_true t)]at z;cases z
  refine hBm.mpr ⟨fun y hy=>?_,ih⟩;rcases hAc.mp hy with e | hy
  ·rw[e];exact px
  ·exact qEc px ((hBm.mp ih).1 y hy)
theorem rise_of {l:List Str} (h:PyProof.Rows.sortedS l=true) (nd:l.Nodup):qE2 l:=by
 cases l with
 | nil=>exact List.Pairwise.nil
 | cons x r=>exact rise_go r x h nd
def PtsOk (net:List Tr) (ps:List Str):Prop:=ps.Nodup/\∀ x,x∈ps↔isPt net x
def spPoints:Sp:=fun vs H Q _=>∃ (p:Addr) (net:List Tr),vs=[.ref p]/\qDf H p net/\net.length<=12/\∀ r ps H',Ext H H'->H r=none->LsS H' r ps->PtsOk net ps->qE2 ps->ps.length<=24->Q (.ref r) H'
section
variable {P:Program} {w:World} {K:PySem.W.Frag} {mg:Str->Option Value} {base:Heap} {f f1:Addr} {fd fd1:FuncData}
theorem scPoints:FnScope ["net"] ["net"] (qAd qDk):=⟨rfl,rfl,rfl,by decide +kernel,rfl,by decide +kernel,by decide +kernel⟩
abbrev ptN:List Str:=["tie","one","other","end"]
theorem ok_points (F:Fun K "points" "points" qDk f fd) (mso:mg "sorted" = none):FnOk P w K mg base CX0 1 f fd ["net"] spPoints:=by
 refine F.ok scPoints (fun vs H Q E h=>?_) (fun cdv A outer s H vs Q E hr h=>?_)
 ·obtain⟨p,net,rfl,_⟩:=h;rfl
 obtain⟨p,net,rfl,⟨as,hp,pr⟩,hl,q⟩:=h;refine⟨_,qAf (qAs (qAg (qF1 rfl) rfl mso qEq (qAa
  (pe_g gc_set2 rfl (N:=["net"]) (sc:=qAd qDk) (N':=ptN) (sub:=[none,none,none,none]) rfl rfl (CmpOk.of (by decide +kernel)) rfl (qA4 (pv 0))
   (fun C s H fp=>⟨(show PG _ _ (gTup K 3 _) from qDz rfl (qA1 (qAl (i:=0) (by show ptN.Nodup;decide) rfl (Or.inl rfl)) (qA1 (qAl (i:=1) (by show ptN.Nodup;decide) rfl (Or.inl rfl)) (qA1 (qAl (i:=2) (by show ptN.Nodup;decide) rfl (Or.inl rfl)) qCy)))),qA3,
    fun acc=>pbd_nest rfl rfl (show PI _ _ _ (iTup K _) from pi_tup (qBk (qAa (pv 1) (qAa (pv 2) qAb)))) (qAl (i:=3) (by show ptN.Nodup;decide) rfl (Or.inl rfl)) qA3 (pbd_set rfl (pv 3)) (fun _=>rfl) rfl rfl (fun _=>rfl) (fun _ _ _ _ _ h=>h) (fun _ _ _ _ _ h=>h) (fun _=>rfl)⟩)) qAb))),?_⟩
 have lA:as.length=net.length:=pr.length;refine⟨_,rfl,p,rfl,⟨_,SqL.of hp⟩,?_⟩;refine g_list (xs:=as.map V.ref) (fun i ss σ H'=>Ext H H'/\(∃ x0 x1 x2 x3:Option V,σ=[x0,x1,x2,x3])/\ss.Nodup/\(∀ x,x∈ss↔isPt (net.take i) x)/\ss.length<=2*i) ⟨Ext.refl _,⟨none,none,none,none,rfl⟩,List.nodup_nil,fun x=>⟨fun z=>(by cases z),fun ⟨t,ht,_⟩=>(by simp at ht)⟩,hAw _⟩ (fun i ss σ H' _ h=>SqL.of (h.1 _ _ hp)) ?_ ?_
 ·rintro i x ss σ H' hx ⟨he,⟨x0,x1,x2,x3,rfl⟩,nd,mem,ln⟩;obtain⟨a,t,rfl,ht,ha⟩:=net_get pr hx;have hi:=qBc ht;refine⟨a,_,rfl,SqT.of (he _ _ ha),rfl,_,_,rfl,_,_,rfl,_,_,rfl,rfl,iteT (B:=False) ?_⟩;refine⟨_,rfl,_,rfl,(by show 2<=sizeLine;decide),fun T hT=>⟨T,rfl,⟨_,SqT.of upd_same⟩,?_⟩⟩;have X1:=Ext.new hT (.tup [V.str t.2.1,V.str t.2.2]);refine g_tuple (xs:=[V.str t.2.1,V.str t.2.2]) (fun j ss σ H2=>Ext (upd H' T (.tup [V.str t.2.1,V.str t.2.2])) H2/\(∃ y:Option V,σ=[some (.str t.1),some (.str t.2.1),some (.str t.2.2),y])/\ss.Nodup/\(∀ x,x∈ss↔isPt (net.take i) x\/(0<j/\x=t.2.1)\/(1<j/\x=t.2.2))/\ss.length<=2*i+j)
   ⟨Ext.refl _,⟨_,rfl⟩,nd,fun x=>by rw[mem];simp,by omega⟩ (fun j ss σ H2 _ h=>SqT.of (h.1 _ _ upd_same)) ?_ ?_
  ·rintro j z ss2 σ H2 hz ⟨h2,⟨y,rfl⟩,nd2,mem2,ln2⟩;have hj:j<2:=qBc hz;obtain⟨v,rfl,hv⟩:∃ v:Str,z = .str v/\((j=0/\v=t.2.1)\/(j=1/\v=t.2.2)):=by
    rcases(show j=0\/j=1 by omega) with rfl | rfl
    ·exact⟨t.2.1,(hAa hz).symm,.inl ⟨rfl,rfl⟩⟩
    ·exact⟨t.2.2,(hAa hz).symm,.inr ⟨rfl,rfl⟩⟩
   refine iteT (B:=False) ⟨_,rfl,v,rfl,by omega,fun ss3 h3=>nxg hj ⟨h2,⟨_,rfl⟩,?_⟩⟩;have key:ss3.Nodup/\(∀ x,x∈ss3↔x∈ss2\/x=v)/\ss3.length<=ss2.length+1:=by
    by_cases m:v∈ss2
    ·rw[if_pos m]at h3;subst h3;exact⟨nd2,fun x=>⟨.inl,fun z=>z.elim id fun e=>e▸m⟩,hB5 _⟩
    ·rw[if_neg m]at h3;refine⟨h3.nodup_iff.mpr ?_,fun x=>by rw[h3.mem_iff,hAr,hAk],by rw[h3.length_eq,hAf];exact hA5 _⟩;rw[List.nodup_append];exact⟨nd2,by simp,fun y hy z hz=>by rw[hAk]at hz;subst hz;rintro rfl;exact m hy⟩
   refine⟨key.1,fun x=>?_,by have:=key.2.2;omega⟩;rw[key.2.1,mem2];rcases hv with ⟨rfl,rfl⟩ | ⟨rfl,rfl⟩
   ·simp
   ·simp[or_assoc]
  ·rintro ss2 σ H2 ⟨h2,⟨y,rfl⟩,nd2,mem2,ln2⟩;refine nxg (qBc hx) ⟨he.trans (X1.trans h2),⟨_,_,_,_,rfl⟩,nd2,fun x=>?_,by have:ss2.length<=2*i+2:=ln2;omega⟩;rw[mem2,qAq ht,isPt_snoc];simp
 ·rintro ss σ H' ⟨he,_,nd,mem,ln⟩ r hr1;rw[hA1,lA,hA8 (hA5 _)]at mem;rw[hA1,lA]at ln;refine⟨r,ss,rfl,upd_same,by omega,fun r2 ss2 hr2 pm srt=>?_⟩;exact q r2 ss2 _ ((he.trans (Ext.new hr1 _)).trans (Ext.new hr2 _)) ((he.trans (Ext.new hr1 _)).none hr2) upd_same ⟨pm.nodup_iff.mpr nd,fun x=>by rw[pm.mem_iff,mem]⟩ (rise_of srt (pm.nodup_iff.mpr nd)) (by rw[pm.length_eq];omega)
end
end My
namespace My
open PySem L2
theorem Ext.over {H H':Hp} {d:Addr} (e:Ext H H') (h:H d=Option.none) (o:HO):Ext H (upd H' d o):=fun b u q=>by rw[qAh (qAj q h)];exact e b u q
def hD (ps:List Str) (f:Str->Str):List (Key×V):=ps.map fun p=>(Sum.inr p,V.str (f p))
end My
namespace My
open PySem L2
def qGq (H:Hp) (p:Addr) (F:List (List Str)):Prop:=∃ as:List Addr,H p=some (.lst (as.map V.ref))/\Paired (LsS H) as F
theorem qGq.ext {H H':Hp} {p:Addr} {F:List (List Str)} (h:qGq H p F) (e:Ext H H'):qGq H' p F:=by
 obtain⟨as,h1,h2⟩:=h;exact⟨as,e _ _ h1,Paired.mapP h2 fun a r z=>e _ _ z⟩
def RowsY (H0 H:Hp) (fo:Addr) (F:List (List Str)):Prop:=∃ as:List Addr,H fo=some (.lst (as.map V.ref))/\Paired (fun a r=>LsS H a r/\H0 a=none/\a≠fo) as F
theorem RowsY.rows {H0 H:Hp} {p:Addr} {F:List (List Str)} (h:RowsY H0 H p F):qGq H p F:=by
 obtain⟨as,h1,h2⟩:=h;exact⟨as,h1,Paired.mapP h2 fun a r z=>z.1⟩
theorem getD_rangeA (as:List Addr):(List.range as.length).map (fun i=>as.getD i 0)=as:=by
 refine List.ext_getElem? fun i=>?_
 by_cases hi:i<as.length
 ·rw[hAd,List.getElem?_range hi,hA2 hi];show some (as.getD i 0)=_;rw[hAb,hA2 hi];rfl
 ·rw[hCo (by simp;omega),hCo (by omega)]
theorem pick_perm {as:List Addr} {o:Array Nat} (g:Gd as.length o):(o.toList.map fun i=>as.getD i 0).Perm as :=
 ((Array.perm_iff_toList_perm.mp g).map fun i=>as.getD i 0).trans (List.Perm.of_eq (getD_rangeA as))
end My
namespace My
open PySem L2
end My
namespace My
open PySem L2
abbrev enV (e:Int×Int):List V:=[.int e.1,.int e.2]
def EndsAt (H:Hp) (p:Addr) (es:List (Int×Int)):Prop:=∃ as:List Addr,H p=some (.lst (as.map V.ref))/\Paired (fun a e=>H a=some (.tup (enV e))) as es
def InSp (sp:Int) (e:Int×Int):Prop:=(0<=e.1/\e.1<sp)/\0<=e.2/\e.2<sp
section
variable {P:Program} {w:World} {K:PySem.W.Frag} {mg:Str->Option Value} {base:Heap} {f f1 f2:Addr} {fd fd1 fd2:FuncData}
structure EI (H:Hp) (sp n:Int) (i:Nat) (σ:St) (H':Hp) (b' h:Int) (hp fo:Addr) (hs:List Int) (es:List (Int×Int)):Prop where
 st:∃ x6 x7 x8 x9:Option V,σ=[some (.int b'),some (.int n),some (.int sp),some (.ref hp),some (.ref fo),some (.int h),x6,x7,x8,x9]
 ext:Ext H H'
 fo0:H fo=none
 ne:hp≠fo
 hsA:H' hp=some (.lst (hs.map V.int))
 hsl:(hs.length:Int)=sp
 esA:EndsAt H' fo es
 esl:es.length<=i
 esi:∀ e∈es,InSp sp e
end
end My
namespace L2
open PySem PySem.Spec PyProof.Rows
theorem for_pairs {n:Nat} {Ls:Hp->Prop} {xv:Nat->List V} {g:TG} {tb:TS} {D:Ends} {σ:St} {H:Hp} (Pv:Nat->St->Hp->Prop) (h0:Pv 0 σ H) (hl:∀ i σ H,i<=n->Pv i σ H->Ls H)
  (hs:∀ i σ H T,i<n->Pv i σ H->H T=none->g (.ref T) σ (upd H T (.tup (xv i))) fun σ2 H2=>tb { D with nx:=Pv (i+1),ct:=Pv (i+1),bk:=D.nx } σ2 H2) (hd:∀ σ H,Pv n σ H->D.nx σ H) :
  ∃ W:Nat->Nat->St->Hp->Prop,(∃ m,W 0 m σ H)/\∀ i m σ H,W i m σ H ->
   ((Itp n Ls xv).stop i H/\D.nx σ H)\/((Itp n Ls xv).go i H/\∃ N:St->Hp->Prop,(∀ σ' H',N σ' H'->∃ m',m'<m/\W (i+1) m' σ' H')/\∀ x H',(Itp n Ls xv).yld i H x H'->g x σ H' fun σ2 H2=>tb { D with nx:=N,ct:=N,bk:=D.nx } σ2 H2):=by
 refine⟨fun i m σ H=>m=n - i/\i<=n/\Pv i σ H,⟨n,by simp,hAw _,h0⟩,?_⟩;rintro i m σ H ⟨rfl,hi,p⟩;have q:=hl i σ H hi p;by_cases hlt:i<n
 ·refine .inr ⟨⟨q,hlt⟩,Pv (i+1),fun σ' H' p'=>⟨n - (i+1),by omega,rfl,hlt,p'⟩,fun x H' y=>?_⟩;obtain⟨T,e1,e2,e3⟩:=y;subst e2 e3;exact hs i σ H T hlt p e1
 ·have e:i=n:=by omega
  subst e;exact .inl ⟨⟨q,rfl⟩,hd σ H p⟩
end L2
namespace My
open PySem L2
def t0:Tr:=("","","")
def TxT (t:Tr):Prop:=Sm t.1/\Sm t.2.1/\Sm t.2.2
def TxN (net:List Tr):Prop:=∀ t∈net,TxT t
end My
namespace My
open PySem L2
section
variable {K:PySem.W.Frag}
theorem turns_net {as:List Addr} {net:List Tr} {Q:List V->Hp->Prop} {H1:Hp} {σ0:St} {g:TG} {tt:TT} {te:TE} {p:Addr} (h:Tr->Str) (hp:H1 p=some (.lst (as.map V.ref))) (pr:Paired (fun a t=>H1 a=some (.tup (trV t))) as net) (ln:net.length<=20)
  (hs:∀ a t,H1 a=some (.tup (trV t))->∀ (C:V->Hp->Prop) (B:Hp->Prop),C (.str (h t)) H1->g (.ref a) σ0 H1 fun σ2 H2=>Sle σ0 σ2/\tt σ2 H2 fun b H3=>if b=true then te σ2 H3 C else B H3)
  (hd:Q ((net.map h).map V.str) H1):qCu (Itl K p) σ0 g tt te Q H1:=by
 have lA:as.length=net.length:=pr.length;refine qA2 (xs:=as.map V.ref) (fun j ys H2=>H2=H1/\ys=((net.take j).map h).map V.str) ⟨rfl,rfl⟩ (fun j ys H2 _ h=>by rw[h.1];exact SqL.of hp) ?_ ?_
 ·rintro j x ys H2 hx ⟨rfl,rfl⟩;obtain⟨a,t,rfl,ht,ha⟩:=net_get pr hx;have hi:=qBc ht;have sz:(((net.take j).map h).map V.str).length<sizeLine:=by
   rw[hA1,hA1,hAi];exact qAi (by omega)
  exact hs a t ha _ _ ⟨sz,nxt (qBc hx) ⟨rfl,by rw[qAq ht,hA4,hA4];rfl⟩⟩
 ·rintro ys H2 ⟨rfl,rfl⟩;rw[hA1,lA,hA8 (hA5 _)];exact hd
end
end My
namespace My
theorem tb_hi {x i:Nat} (h:x<2^i) {j:Nat} (hj:i<=j):x.testBit j=false :=
 Nat.testBit_lt_two_pow (hAh h (hC1 (by decide) hj))
theorem tb_ge {x i:Nat} (h:x.testBit i=true):2^i<=x:=by
 rcases hCp x (2^i) with z | z
 ·rw[Nat.testBit_lt_two_pow z]at h;cases h
 ·exact z
theorem log2_of {x i:Nat} (h1:x.testBit i=true) (h2:x<2^(i+1)):x.log2=i:=by
 have g:=tb_ge h1;have nz:x≠0:=fun z=>by subst z;simp at h1
 have a:=(Nat.log2_lt nz).mpr h2;have b:=(Nat.le_log2 nz).mpr g;omega
theorem tb_le {x i:Nat} (h:x.testBit i=true):i<=x.log2:=by
 have nz:x≠0:=fun z=>by subst z;simp at h
 exact(Nat.le_log2 nz).mpr (tb_ge h)
theorem tb_above {x i:Nat} (h:x.log2<i):x.testBit i=false:=tb_hi hC9 h
theorem qEj {n:Nat} (h:n % 2=0):n^^^1=n+1:=by
 have d:(n^^^1) / 2=n / 2:=by rw[Nat.xor_div_two];simp
 have b:(n^^^1).testBit 0=true:=by rw[hAx,hAt,hAt];simp[h]
 rw[hAt]at b;have b':=of_decide_eq_true b;omega
theorem xor_one_odd {n:Nat} (h:n % 2=1):n^^^1=n - 1:=by
 have d:(n^^^1) / 2=n / 2:=by rw[Nat.xor_div_two];simp
 have b:(n^^^1).testBit 0=false:=by rw[hAx,hAt,hAt];simp[h]
 rw[hAt]at b;have b':=of_decide_eq_false b;omega
theorem shr_log2 {s:Nat} (hs:s≠0):s >>> s.log2=1:=by
 rw[hCc];have a:=Nat.log2_self_le hs;have b:s<2^(s.log2+1):=hC9;rw[Nat.pow_succ]at b;have p:0<2^s.log2:=Nat.pow_pos (by decide);exact Nat.div_eq_of_lt_le (by omega) (by omega)
theorem qF2 (x:Nat) {s:Nat} (hs:s≠0):x^^^s<x↔x.testBit s.log2=true:=by
 have e:(x^^^s) >>> s.log2=(x >>> s.log2)^^^1:=by rw[Nat.shiftRight_xor_distrib,shr_log2 hs]
 have tb:x.testBit s.log2=decide ((x >>> s.log2) % 2=1):=by rw[Nat.testBit_eq_decide_div_mod_eq,hCc]
 rw[tb];have lt:∀ {a b:Nat},a >>> s.log2<b >>> s.log2->a<b:=fun {a b} h=>by
  rw[hCc,hCc]at h;rcases hCp a b with z | z
  ·exact z
  ·have:=Nat.div_le_div_right (c:=2^s.log2) z;omega
 rcases hBc (x >>> s.log2) with h | h
 ·rw[qEj h]at e;have:x<x^^^s:=lt (by omega);constructor
  ·intro z;omega
  ·intro z;rw[h]at z;simp at z
 ·rw[xor_one_odd h]at e;have:x^^^s<x:=lt (by rw[e];exact Nat.sub_one_lt fun z=>by rw[z]at h;cases h);exact⟨fun _=>by simp[h],fun _=>this⟩
def rd1 (x s:Nat):Nat:=if x.testBit s.log2=true then x^^^s else x
theorem min_rd1 (x:Nat) {s:Nat} (hs:s≠0):(if x^^^s<x then x^^^s else x)=rd1 x s:=by
 unfold rd1;by_cases h:x.testBit s.log2=true
 ·rw[if_pos h,if_pos ((qF2 x hs).mpr h)]
 ·rw[if_neg h,if_neg (fun z=>h ((qF2 x hs).mp z))]
theorem qCn (x s i:Nat):(rd1 x s).testBit i=(x.testBit i ^^ (x.testBit s.log2 && s.testBit i)):=by
 unfold rd1;by_cases h:x.testBit s.log2=true
 ·rw[if_pos h,hAx,h,hBn]
 ·rw[if_neg h];have:x.testBit s.log2=false:=by simpa using h
  rw[this];simp
theorem rd1_zero (s:Nat):rd1 0 s=0:=by unfold rd1;simp
theorem rd1_lin (x y s:Nat):rd1 (x^^^y) s=rd1 x s^^^rd1 y s:=by
 refine hB8 fun i=>?_
 rw[qCn,hAx,hAx,hAx,qCn,qCn];cases x.testBit i <;> cases y.testBit i <;> cases x.testBit s.log2 <;> cases y.testBit s.log2 <;> cases s.testBit i <;> rfl
def red1 (k:List Nat) (x:Nat):Nat:=k.foldl rd1 x
theorem qFf:∀ k:List Nat,red1 k 0=0
 | []=>rfl
 | s :: k=>by show red1 k (rd1 0 s)=0;rw[rd1_zero];exact qFf k
theorem red1_lin:∀ (k:List Nat) (x y:Nat),red1 k (x^^^y)=red1 k x^^^red1 k y
 | [],_,_=>rfl
 | s :: k,x,y=>by show red1 k (rd1 (x^^^y) s)=red1 k (rd1 x s)^^^red1 k (rd1 y s);rw[rd1_lin];exact red1_lin k _ _
structure RR (k:List Nat):Prop where
 nz:∀ s∈k,s≠0
 ap:k.Pairwise fun s t=>t.testBit s.log2=false/\s.testBit t.log2=false
theorem RR.nil:RR []:=⟨fun s h=>(by cases h),.nil⟩
theorem RR.tl {s:Nat} {k:List Nat} (h:RR (s :: k)):RR k:=⟨fun t ht=>h.nz t (hA7 _ ht),(hBm.mp h.ap).2⟩
theorem RR.hd {s:Nat} {k:List Nat} (h:RR (s :: k)):∀ t∈k,t.testBit s.log2=false/\s.testBit t.log2=false:=(hBm.mp h.ap).1
theorem RR.ne:∀ {k:List Nat},RR k->∀ {s t:Nat},s∈k->t∈k->s≠t->s.testBit t.log2=false
 | [],_,_,_,hs,_,_=>by cases hs
 | a :: k,h,s,t,hs,ht,e=>by
  rcases hAc.mp hs with rfl | zs
  ·rcases hAc.mp ht with rfl | zt
   ·exact absurd rfl e
   ·exact(h.hd t zt).2
  ·rcases hAc.mp ht with rfl | zt
   ·exact(h.hd s zs).1
   ·exact RR.ne h.tl zs zt e
theorem RR.self {k:List Nat} (h:RR k) {s:Nat} (hs:s∈k):s.testBit s.log2=true:=hCu (h.nz s hs)
theorem RR.nd {k:List Nat} (h:RR k):k.Nodup:=by
 have:∀ {k:List Nat},RR k->k.Nodup:=fun {k} h=>by
  induction k with
  | nil=>exact List.nodup_nil
  | cons s k ih =>
   refine hBh.mpr ⟨fun z=>?_,ih h.tl⟩;have:=(h.hd s z).1;rw[h.self hA9]at this;cases this
 exact this h
theorem qDx:∀ {k:List Nat} {x i:Nat},RR k->(∀ s∈k,x.testBit s.log2=true->s.testBit i=false)->(red1 k x).testBit i=x.testBit i
 | [],_,_,_,_=>rfl
 | s :: k,x,i,h,hx=>by
  show(red1 k (rd1 x s)).testBit i=_;have b1:(rd1 x s).testBit i=x.testBit i:=by
   rw[qCn];cases q:x.testBit s.log2 with
   | false=>simp
   | true=>rw[hx s hA9 q];simp
  rw[qDx h.tl fun t ht hb=>?_,b1];refine hx t (hA7 _ ht) ?_;rw[qCn,(h.hd t ht).2]at hb
  simpa using hb
theorem qDw:∀ {k:List Nat} {x:Nat},RR k->∀ s∈k,(red1 k x).testBit s.log2=false
 | [],_,_,_,hs=>by cases hs
 | a :: k,x,h,s,hs=>by
  show(red1 k (rd1 x a)).testBit s.log2=false;rcases hAc.mp hs with rfl | z
  ·rw[qDx h.tl fun t ht _=>(h.hd t ht).1,qCn,h.self hA9];cases x.testBit s.log2 <;> rfl
  ·exact qDw h.tl s z
theorem red1_mem:∀ {k:List Nat},RR k->∀ s∈k,red1 k s=0
 | [],_,_,hs=>by cases hs
 | a :: k,h,s,hs=>by
  show red1 k (rd1 s a)=0;rcases hAc.mp hs with rfl | z
  ·have:rd1 s s=0:=by unfold rd1;rw[if_pos (h.self hA9),Nat.xor_self]
   rw[this];exact qFf k
  ·have:rd1 s a=s:=by unfold rd1;rw[if_neg (by rw[(h.hd s z).1];decide)]
   rw[this];exact red1_mem h.tl s z
theorem red1_none {k:List Nat} (h:RR k) {x:Nat} (hx:∀ s∈k,x.testBit s.log2=false):red1 k x=x :=
 hB8 fun i=>qDx h fun s hs z=>by rw[hx s hs]at z;cases z
inductive Spn (l:List Nat):Nat->Prop
 | zero:Spn l 0
 | add {x y:Nat}:x∈l->Spn l y->Spn l (x^^^y)
theorem Spn.mem {l:List Nat} {x:Nat} (h:x∈l):Spn l x:=by
 have:=Spn.add h Spn.zero
 rwa [Nat.xor_zero]at this
theorem Spn.xor {l:List Nat} {x y:Nat} (h:Spn l x) (h':Spn l y):Spn l (x^^^y):=by
 induction h with
 | zero=>rwa [hD1]
 | add m _ ih=>rw[Nat.xor_assoc];exact .add m ih
theorem Spn.mono {l l':List Nat} (h:∀ x∈l,Spn l' x) {y:Nat} (hy:Spn l y):Spn l' y:=by
 induction hy with
 | zero=>exact .zero
 | add m _ ih=>exact(h _ m).xor ih
theorem Spn.lt {l:List Nat} {m:Nat} (h:∀ x∈l,x<2^m) {y:Nat} (hy:Spn l y):y<2^m:=by
 induction hy with
 | zero=>exact Nat.pow_pos (by decide)
 | add hm _ ih=>exact hC7 (h _ hm) ih
theorem qB9 (x y:Nat):(x^^^y)^^^y=x:=by rw[Nat.xor_assoc,Nat.xor_self,Nat.xor_zero]
theorem rd1_spn {k:List Nat} {x s:Nat} (hs:s∈k):Spn k (rd1 x s^^^x):=by
 unfold rd1;split
 ·rw[Nat.xor_comm x s,qB9];exact .mem hs
 ·rw[Nat.xor_self];exact .zero
theorem red1_spn (k:List Nat):∀ (k':List Nat),(∀ s∈k',s∈k)->∀ x,Spn k (red1 k' x^^^x)
 | [],_,x=>by show Spn k (x^^^x);rw[Nat.xor_self];exact .zero
 | s :: k',h,x=>by
  have a:=red1_spn k k' (fun t ht=>h t (hA7 _ ht)) (rd1 x s);have b:=rd1_spn (x:=x) (h s hA9);have c:=a.xor b;rw[<-Nat.xor_assoc,qB9]at c;exact c
theorem spn_red1 {k:List Nat} (h:RR k) {y:Nat} (hy:Spn k y):red1 k y=0:=by
 induction hy with
 | zero=>exact qFf k
 | add m _ ih=>rw[red1_lin,red1_mem h _ m,ih];rfl
theorem spn_zero {k:List Nat} (h:RR k) {y:Nat} (hy:Spn k y) (hx:∀ s∈k,y.testBit s.log2=false):y=0:=(red1_none h hx).symm.trans (spn_red1 h hy)
theorem spn_lead {k:List Nat} (h:RR k) {y:Nat} (hy:Spn k y) (nz:y≠0):∃ s∈k,s.log2=y.log2:=by
 refine Classical.byContradiction fun no=>?_
 have e:(red1 k y).testBit y.log2=y.testBit y.log2:=qDx h fun s hs hb=>by
  have le:=tb_le hb;have ne:s.log2≠y.log2:=fun z=>no ⟨s,hs,z⟩
  exact tb_above (by omega)
 rw[spn_red1 h hy,hCu nz]at e;simp at e
theorem rr_uniq {a b:List Nat} (ha:RR a) (hb:RR b) (h:∀ y,Spn a y↔Spn b y):∀ s∈a,s∈b:=fun s hs=>by
 obtain⟨t,ht,e⟩:=spn_lead hb ((h s).mp (.mem hs)) (ha.nz s hs);have d:s^^^t=0:=by
  refine spn_zero ha ((Spn.mem hs).xor ((h t).mpr (.mem ht))) fun u hu=>?_
  rw[hAx];by_cases z:u=s
  ·subst z;have h2:=hb.self ht;rw[e]at h2;rw[ha.self hs,h2];rfl
  ·have s1:=ha.ne hs hu (fun w=>z w.symm);obtain⟨v,hv,ev⟩:=spn_lead hb ((h u).mp (.mem hu)) (ha.nz u hu);have us:=ha.ne hu hs z;have vt:t≠v:=fun w=>by
    have h3:=ha.self hu;rw[<-ev,<-w,e]at h3;rw[h3]at us;cases us
   have t1:=hb.ne ht hv vt;rw[ev]at t1;rw[s1,t1];rfl
 have:s=t:=by
  have q:=qB9 s t;rw[d,hD1]at q;exact q.symm
 rw[this];exact ht
def redS (k:List Nat) (x:Nat):List Nat:=if red1 k x=0 then k else k.map (fun s=>rd1 s (red1 k x))++[red1 k x]
def red (xs:List Nat):List Nat:=xs.foldl redS []
theorem qDv (xs:List Nat) (x:Nat):red (xs++[x])=redS (red xs) x:=by unfold red;rw[hCs];rfl
theorem rd1_log2 {s f:Nat} (hs:s≠0) (hf:f≠0) (h:f.testBit s.log2=false):(rd1 s f).log2=s.log2/\rd1 s f≠0:=by
 have ss:=hCu hs;have bit:(rd1 s f).testBit s.log2=true:=by rw[qCn,ss,h];simp
 refine⟨log2_of bit ?_,fun z=>by rw[z]at bit;simp at bit⟩;unfold rd1;split
 ·rename_i q;have le:=tb_le q;exact hC7 hC9 (hAh hC9 (hC1 (by decide) (by omega)))
 ·exact hC9
theorem RR.step {k:List Nat} (h:RR k) (x:Nat):RR (redS k x):=by
 unfold redS;by_cases z:red1 k x=0
 ·rw[if_pos z];exact h
 rw[if_neg z];have ld:=fun s hs=>qDw (x:=x) h s hs
 generalize red1 k x=f at z ld;have l2:∀ s∈k,(rd1 s f).log2=s.log2/\rd1 s f≠0:=fun s hs=>rd1_log2 (h.nz s hs) z (ld s hs)
 have ff:=hCu z;refine⟨fun s hs=>?_,?_⟩
 ·rcases hAr.mp hs with w | w
  ·obtain⟨u,hu,rfl⟩:=hA3.mp w;exact(l2 u hu).2
  ·rw[hAk]at w;rw[w];exact z
 ·rw[List.pairwise_append];refine⟨?_,List.pairwise_singleton _ _,fun a ha b hb=>?_⟩
  ·rw[hBf];refine hBi (fun {a b} ha hb r=>?_) h.ap;rw[(l2 a ha).1,(l2 b hb).1,qCn,qCn,r.1,r.2,ld a ha,ld b hb];simp
  ·rw[hAk]at hb;obtain⟨u,hu,rfl⟩:=hA3.mp ha;subst hb;refine⟨by rw[(l2 u hu).1];exact ld u hu,?_⟩;rw[qCn,ff];cases u.testBit b.log2 <;> rfl
theorem redS_spn {k:List Nat} (x y:Nat):Spn (redS k x) y↔Spn (k++[x]) y:=by
 have rx:=red1_spn k k (fun _ h=>h) x;unfold redS;have inl:∀ {z},Spn k z->Spn (k++[x]) z:=fun {z} hz=>hz.mono fun u hu=>.mem (hAz _ hu)
 have xm:Spn (k++[x]) x:=.mem (by simp);by_cases z:red1 k x=0
 ·rw[if_pos z];rw[z,hD1]at rx;refine⟨inl,fun h=>h.mono fun u hu=>?_⟩;rcases hAr.mp hu with w | w
  ·exact .mem w
  ·rw[hAk]at w;rw[w];exact rx
 rw[if_neg z];have fm:Spn (k++[x]) (red1 k x):=by
  have:=(inl rx).xor xm
  rwa [qB9]at this
 revert rx fm;generalize red1 k x=f;intro rx fm;have ff:Spn (k.map (fun s=>rd1 s f)++[f]) f:=.mem (by simp);have sk:∀ s∈k,Spn (k.map (fun s=>rd1 s f)++[f]) s:=fun s hs=>by
  have a:Spn (k.map (fun s=>rd1 s f)++[f]) (rd1 s f):=.mem (hAz _ (hC3 (f:=fun s=>rd1 s f) hs));by_cases q:s.testBit f.log2=true
  ·have b:=a.xor ff;rw[show rd1 s f=s^^^f from if_pos q,qB9]at b;exact b
  ·rw[show rd1 s f=s from if_neg q]at a;exact a
 constructor
 ·intro h;refine h.mono fun u hu=>?_
  rcases hAr.mp hu with w | w
  ·obtain⟨s,hs,rfl⟩:=hA3.mp w;unfold rd1;split
   ·exact(inl (.mem hs)).xor fm
   ·exact inl (.mem hs)
  ·rw[hAk]at w;rw[w];exact fm
 ·intro h;refine h.mono fun u hu=>?_
  rcases hAr.mp hu with w | w
  ·exact sk u w
  ·rw[hAk]at w;subst w;have b:=ff.xor (rx.mono sk);rw[<-Nat.xor_assoc,Nat.xor_self,hD1]at b;exact b
theorem snocN {P:List Nat->Prop} (h0:P []) (hs:∀ l t,P l->P (l++[t])) (l:List Nat):P l:=by
 have:∀ r:List Nat,P r.reverse:=fun r=>by
  induction r with
  | nil=>exact h0
  | cons a r ih=>rw[hCf];exact hs _ _ ih
 have q:=this l.reverse
 rwa [List.reverse_reverse]at q
theorem qEm (xs:List Nat):RR (red xs):=snocN (P:=fun xs=>RR (red xs)) RR.nil (fun l t ih=>by rw[qDv];exact ih.step t) xs
theorem qDl (xs:List Nat):∀ y,Spn (red xs) y↔Spn xs y:=by
 refine snocN (P:=fun xs=>∀ y,Spn (red xs) y↔Spn xs y) (fun y=>Iff.rfl) (fun l t ih y=>?_) xs;rw[qDv,redS_spn];constructor
 ·exact fun h=>h.mono fun u hu=>by
   rcases hAr.mp hu with w | w
   ·exact((ih u).mp (.mem w)).mono fun v hv=>.mem (hAz _ hv)
   ·exact .mem (hA6 _ w)
 ·exact fun h=>h.mono fun u hu=>by
   rcases hAr.mp hu with w | w
   ·exact((ih u).mpr (.mem w)).mono fun v hv=>.mem (hAz _ hv)
   ·exact .mem (hA6 _ w)
theorem red_lt {xs:List Nat} {m:Nat} (h:∀ x∈xs,x<2^m):∀ s∈red xs,s<2^m:=fun s hs=>Spn.lt h ((qDl xs s).mp (.mem hs))
def Fsh (xs:List Nat):Prop:=∀ i x,xs[i]?=some x->∃ j,x.testBit j=true/\∀ y∈xs.take i,y.testBit j=false
end My
namespace My
def xsum:Nat->(Nat->Bool)->Bool
 | 0,_=>false
 | m+1,f=>xsum m f ^^ f m
theorem qBp {f g:Nat->Bool}:∀ {m:Nat},(∀ j,j<m->f j=g j)->xsum m f=xsum m g
 | 0,_=>rfl
 | m+1,h=>by unfold xsum;rw[qBp fun j hj=>h j (by omega),h m (by omega)]
theorem xsum_xor (f g:Nat->Bool):∀ m:Nat,xsum m (fun j=>f j ^^ g j)=(xsum m f ^^ xsum m g)
 | 0=>rfl
 | m+1=>by
  unfold xsum;rw[xsum_xor f g m];show((xsum m f ^^ xsum m g) ^^ (f m ^^ g m))=_;cases xsum m f <;> cases xsum m g <;> cases f m <;> cases g m <;> rfl
theorem qD8:∀ m:Nat,xsum m (fun _=>false)=false
 | 0=>rfl
 | m+1=>by unfold xsum;rw[qD8 m];rfl
theorem xsum_one {f:Nat->Bool} {l:Nat}:∀ {m:Nat},(∀ j,j<m->j≠l->f j=false)->xsum m f=(decide (l<m) && f l)
 | 0,_=>by simp[xsum]
 | m+1,h=>by
  unfold xsum;rw[xsum_one (m:=m) fun j hj=>h j (by omega)];by_cases e:l=m
  ·subst e;simp
  ·have n:=h m (by omega) (fun z=>e z.symm);rw[n];have:decide (l<m)=decide (l<m+1):=by
    by_cases q:l<m
    ·rw[decide_eq_true q,decide_eq_true (by omega)]
    ·rw[decide_eq_false q,decide_eq_false (by omega)]
   rw[this];simp
theorem xsum_head (f:Nat->Bool):∀ m:Nat,xsum (m+1) f=(f 0 ^^ xsum m fun j=>f (j+1))
 | 0=>by simp[xsum]
 | m+1=>by
  rw[xsum,xsum_head f m,xsum];cases f 0 <;> cases xsum m (fun j=>f (j+1)) <;> cases f (m+1) <;> rfl
theorem xsum_rev (f:Nat->Bool):∀ m:Nat,xsum m (fun j=>f (m - 1 - j))=xsum m f
 | 0=>rfl
 | m+1=>by
  rw[xsum_head];have:xsum m (fun j=>f (m+1 - 1 - (j+1)))=xsum m fun j=>f (m - 1 - j):=qBp fun j hj=>by
   rw[show m+1 - 1 - (j+1)=m - 1 - j by omega]
  rw[this,xsum_rev f m];show(f m ^^ xsum m f)=(xsum m f ^^ f m);cases f m <;> cases xsum m f <;> rfl
def dot (m x y:Nat):Bool:=xsum m fun j=>x.testBit j && y.testBit j
theorem qE1 (m x x' y:Nat):dot m (x^^^x') y=(dot m x y ^^ dot m x' y):=by
 unfold dot;rw[<-xsum_xor];refine qBp fun j _=>?_
 rw[hAx];cases x.testBit j <;> cases x'.testBit j <;> cases y.testBit j <;> rfl
theorem dot_right (m x y y':Nat):dot m x (y^^^y')=(dot m x y ^^ dot m x y'):=by
 unfold dot;rw[<-xsum_xor];refine qBp fun j _=>?_
 rw[hAx];cases x.testBit j <;> cases y.testBit j <;> cases y'.testBit j <;> rfl
theorem dot_zero (m y:Nat):dot m 0 y=false:=by
 unfold dot;rw[qBp (g:=fun _=>false) fun j _=>by simp,qD8]
theorem qCs (m y:Nat):dot m y 0=false:=by
 unfold dot;rw[qBp (g:=fun _=>false) fun j _=>by simp,qD8]
theorem dot_pow {m p y:Nat} (hp:p<m):dot m (2^p) y=y.testBit p:=by
 unfold dot;rw[xsum_one (l:=p) fun j _ ne=>by rw[hBs,decide_eq_false (fun z=>ne z.symm)];rfl];rw[hBs];simp[hp]
theorem dot_only {m x s l:Nat} (hl:l<m) (hs:s.testBit l=true) (h:∀ j,j<m->j≠l->(x.testBit j && s.testBit j)=false):dot m x s=x.testBit l:=by
 unfold dot;rw[xsum_one (l:=l) h,decide_eq_true hl,hs];simp
theorem qC4 {l:List Nat} {m y:Nat} (h:∀ s∈l,dot m y s=false) {z:Nat} (hz:Spn l z):dot m y z=false:=by
 induction hz with
 | zero=>exact qCs m y
 | add hm _ ih=>rw[dot_right,h _ hm,ih];rfl
theorem spn_dotL {l:List Nat} {m s:Nat} (h:∀ x∈l,dot m x s=false) {z:Nat} (hz:Spn l z):dot m z s=false:=by
 induction hz with
 | zero=>exact dot_zero m s
 | add hm _ ih=>rw[qE1,h _ hm,ih];rfl
theorem qFw:∀ (l x:Nat),x.testBit l=false->2^l+x=2^l^^^x
 | 0,x,h=>by
  have e:x % 2=0:=by
   rw[hAt]at h;have:=of_decide_eq_false h;omega
  show 1+x=1^^^x;rw[Nat.xor_comm,qEj e,Nat.add_comm]
 | l+1,x,h=>by
  rw[hBx]at h;have ih:=qFw l (x / 2) h;have d:(2^(l+1)^^^x) / 2=2^l+x / 2:=by
   rw[Nat.xor_div_two,ih,Nat.pow_succ,Nat.mul_div_cancel _ (by decide)]
  have b:(2^(l+1)^^^x).testBit 0=x.testBit 0:=by rw[hAx,hBs];simp
  rw[hAt,hAt]at b;have b':(2^(l+1)^^^x) % 2=1↔x % 2=1:=by simpa using b
  have p:=Nat.pow_succ (n:=2) (m:=l);rcases hBc x with q | q
  ·have:¬(2^(l+1)^^^x) % 2=1:=fun z=>by have:=b'.mp z;omega
   omega
  ·have:=b'.mpr q;omega
theorem qDi:∀ (L:List Nat),L.Nodup->∀ j,((L.map fun l=>2^l).sum).testBit j=decide (j∈L)
 | [],_,j=>by simp
 | l :: L,nd,j=>by
  obtain⟨n1,n2⟩:=hBh.mp nd;have ih:=qDi L n2;rw[hAu,List.sum_cons,qFw l _ (by rw[ih l,decide_eq_false n1]),hAx,ih j,hBs];by_cases e:l=j
  ·subst e;simp[n1]
  ·have e':¬j=l:=fun z=>e z.symm
   simp[e,e']
def crM (S:List Nat) (p:Nat):Nat:=2^p+((S.filter fun s:Nat=>s.testBit p).map fun s:Nat=>2^s.log2).sum
def isLd (S:List Nat) (p:Nat):Prop:=∃ s∈S,s.log2=p
instance (S:List Nat):DecidablePred (isLd S):=fun p=>inferInstanceAs (Decidable (∃ s∈S,s.log2=p))
theorem ld_nd:∀ {S:List Nat},RR S->(S.map Nat.log2).Nodup
 | [],_=>List.nodup_nil
 | s :: S,h=>by
  rw[hAu];refine hBh.mpr ⟨fun z=>?_,ld_nd h.tl⟩;obtain⟨t,ht,e⟩:=hA3.mp z;have a:=(h.hd t ht).1;rw[<-e,h.self (hA7 _ ht)]at a;cases a
theorem qD5 {S:List Nat} (h:RR S) (p j:Nat):(((S.filter fun s:Nat=>s.testBit p).map fun s:Nat=>2^s.log2).sum).testBit j=decide (∃ s∈S,s.testBit p=true/\s.log2=j):=by
 have e:((S.filter fun s:Nat=>s.testBit p).map fun s:Nat=>2^s.log2)=((S.filter fun s:Nat=>s.testBit p).map Nat.log2).map fun l=>2^l:=by rw[hAs];rfl
 rw[e,qDi _ ((ld_nd h).sublist (hCy.map _))];refine decide_eq_decide.mpr ?_;rw[hA3];constructor
 ·rintro⟨s,hs,rfl⟩;exact⟨s,(hAq.mp hs).1,(hAq.mp hs).2,rfl⟩
 ·rintro⟨s,hs,h1,rfl⟩;exact⟨s,hAq.mpr ⟨hs,h1⟩,rfl⟩
theorem leads_bit {S:List Nat} (h:RR S) (j:Nat):((S.map fun s:Nat=>2^s.log2).sum).testBit j=decide (isLd S j):=by
 have e:(S.map fun s:Nat=>2^s.log2)=(S.map Nat.log2).map fun l=>2^l:=by rw[hAs];rfl
 rw[e,qDi _ (ld_nd h)];refine decide_eq_decide.mpr ?_;rw[hA3];exact Iff.rfl
theorem qFp {S:List Nat} (h:RR S) {p:Nat} (np:¬isLd S p) (j:Nat):(crM S p).testBit j=(decide (p=j) ^^ decide (∃ s∈S,s.testBit p=true/\s.log2=j)):=by
 unfold crM;rw[qFw _ _ (by rw[qD5 h];exact decide_eq_false fun ⟨s,hs,_,e⟩=>np ⟨s,hs,e⟩),hAx,hBs,qD5 h]
theorem crM_lt {S:List Nat} {m:Nat} (h:RR S) (hm:∀ s∈S,s<2^m) {p:Nat} (hp:p<m) (np:¬isLd S p):crM S p<2^m:=by
 refine hBu _ fun i hi=>?_
 rw[qFp h np,decide_eq_false (by omega:¬p=i),decide_eq_false]
 ·rfl
 ·rintro⟨s,hs,_,e⟩;have:=h.self hs;rw[e,tb_hi (hm s hs) hi]at this;cases this
theorem crM_dot {S:List Nat} {m:Nat} (h:RR S) (hm:∀ s∈S,s<2^m) {p:Nat} (hp:p<m) (np:¬isLd S p):∀ s∈S,dot m (crM S p) s=false:=fun s hs=>by
 have e:crM S p=2^p^^^((S.filter fun s:Nat=>s.testBit p).map fun s:Nat=>2^s.log2).sum:=by
  unfold crM;exact qFw _ _ (by rw[qD5 h];exact decide_eq_false fun ⟨s,hs,_,e⟩=>np ⟨s,hs,e⟩)
 have ls:s.log2<m:=by
  have:=h.self hs;rcases hCp s.log2 m with z | z
  ·exact z
  ·rw[tb_hi (hm s hs) z]at this;cases this
 rw[e,qE1,dot_pow hp,dot_only (l:=s.log2) ls (h.self hs) fun j hj ne=>?_,qD5 h]
 ·have:decide (∃ t∈S,t.testBit p=true/\t.log2=s.log2)=s.testBit p:=by
   cases q:s.testBit p with
   | true=>exact decide_eq_true ⟨s,hs,q,rfl⟩
   | false =>
    refine decide_eq_false ?_;rintro⟨t,ht,h1,h2⟩;by_cases z:t=s
    ·subst z;rw[q]at h1;cases h1
    ·have a:=h.ne hs ht (fun w=>z w.symm);rw[h2,h.self hs]at a;cases a
  rw[this];cases s.testBit p <;> rfl
 ·rw[qD5 h];by_cases q:∃ t∈S,t.testBit p=true/\t.log2=j
  ·obtain⟨t,ht,h1,h2⟩:=q;have z:s≠t:=fun w=>ne (by rw[w,h2])
   have a:=h.ne hs ht z;rw[h2]at a;rw[a];simp
  ·rw[decide_eq_false q];rfl
def crAll (S:List Nat) (m:Nat):List Nat:=((List.range m).filter fun p=>!decide (isLd S p)).map (crM S)
def xl (L:List Nat):Nat:=L.foldr (·^^^·) 0
theorem xl_spn {l L:List Nat} (h:∀ x∈L,x∈l):Spn l (xl L):=by
 induction L with
 | nil=>exact .zero
 | cons a L ih=>exact .add (h a hA9) (ih fun x hx=>h x (hA7 _ hx))
theorem xl_cr {S:List Nat} (h:RR S):∀ (L:List Nat),L.Nodup->(∀ p∈L,¬isLd S p)->∀ j,¬isLd S j->(xl (L.map (crM S))).testBit j=decide (j∈L)
 | [],_,_,j,_=>by simp[xl]
 | p :: L,nd,np,j,nj=>by
  obtain⟨n1,n2⟩:=hBh.mp nd;show(crM S p^^^xl (L.map (crM S))).testBit j=_;rw[hAx,xl_cr h L n2 (fun q hq=>np q (hA7 _ hq)) j nj,qFp h (np p hA9),decide_eq_false (p:=∃ s∈S,s.testBit p=true/\s.log2=j) fun ⟨s,hs,_,e⟩=>nj ⟨s,hs,e⟩];by_cases e:p=j
  ·subst e;simp[n1]
  ·have e':¬j=p:=fun z=>e z.symm
   simp[e,e']
theorem cr_spn {S:List Nat} {m:Nat} (h:RR S) (hm:∀ s∈S,s<2^m) (y:Nat):Spn (crAll S m) y↔y<2^m/\∀ s∈S,dot m y s=false:=by
 have mem:∀ x,x∈crAll S m↔∃ p,p<m/\¬isLd S p/\crM S p=x:=fun x=>by
  unfold crAll;rw[hA3];constructor
  ·rintro⟨p,hp,rfl⟩;obtain⟨h1,h2⟩:=hAq.mp hp;exact⟨p,hAn.mp h1,by simpa using h2,rfl⟩
  ·rintro⟨p,h1,h2,rfl⟩;exact⟨p,hAq.mpr ⟨hAn.mpr h1,by simpa using h2⟩,rfl⟩
 constructor
 ·intro hy;refine⟨Spn.lt (fun x hx=>?_) hy,fun s hs=>spn_dotL (fun x hx=>?_) hy⟩
  ·obtain⟨p,h1,h2,rfl⟩:=(mem x).mp hx;exact crM_lt h hm h1 h2
  ·obtain⟨p,h1,h2,rfl⟩:=(mem x).mp hx;exact crM_dot h hm h1 h2 s hs
 ·rintro⟨hy,hd⟩;have hL:∀ p∈(List.range m).filter (fun p=>!decide (isLd S p) && y.testBit p),p<m/\¬isLd S p/\y.testBit p=true:=fun p hp=>by
   obtain⟨h1,h2⟩:=hAq.mp hp;rw[hBv]at h2;exact⟨hAn.mp h1,by simpa using h2.1,h2.2⟩
  have nd:((List.range m).filter (fun p=>!decide (isLd S p) && y.testBit p)).Nodup:=List.nodup_range.sublist hCy;have cov:∀ j,j<m->¬isLd S j->(j∈(List.range m).filter (fun p=>!decide (isLd S p) && y.testBit p)↔y.testBit j=true):=fun j hj nj=>by
   rw[hAq,hAn];simp[hj,nj]
  generalize (List.range m).filter (fun p=>!decide (isLd S p) && y.testBit p)=L at hL nd cov;have sp:Spn (crAll S m) (xl (L.map (crM S))):=xl_spn fun x hx=>by
   obtain⟨p,hp,rfl⟩:=hA3.mp hx;exact(mem _).mpr ⟨p,(hL p hp).1,(hL p hp).2.1,rfl⟩
  have lt1:xl (L.map (crM S))<2^m:=Spn.lt (fun x hx=>by
   obtain⟨p,h1,h2,rfl⟩:=(mem x).mp hx;exact crM_lt h hm h1 h2) sp
  have dz:∀ s∈S,dot m (y^^^xl (L.map (crM S))) s=false:=fun s hs=>by
   rw[qE1,hd s hs,spn_dotL (fun x hx=>?_) sp]
   ·rfl
   ·obtain⟨p,h1,h2,rfl⟩:=(mem x).mp hx;exact crM_dot h hm h1 h2 s hs
  have non:∀ j,¬isLd S j->(y^^^xl (L.map (crM S))).testBit j=false:=fun j nj=>by
   rw[hAx,xl_cr h L nd (fun p hp=>(hL p hp).2.1) j nj];by_cases hj:j<m
   ·cases q:y.testBit j with
    | true=>rw[decide_eq_true ((cov j hj nj).mpr q)];rfl
    | false=>rw[decide_eq_false fun z=>by rw[(cov j hj nj).mp z]at q;cases q];rfl
   ·rw[tb_hi hy (by omega),decide_eq_false fun z=>hj (hL j z).1];rfl
  have z0:y^^^xl (L.map (crM S))=0:=by
   refine hB8 fun j=>?_
   rw[hCv];by_cases q:isLd S j
   ·obtain⟨s,hs,rfl⟩:=q;have ls:s.log2<m:=by
     have:=h.self hs;rcases hCp s.log2 m with z | z
     ·exact z
     ·rw[tb_hi (hm s hs) z]at this;cases this
    rw[<-dot_only (m:=m) (s:=s) ls (h.self hs) fun j hj ne=>?_]
    ·exact dz s hs
    ·by_cases q:isLd S j
     ·obtain⟨t,ht,rfl⟩:=q;rw[h.ne hs ht (fun w=>ne (by rw[w]))];simp
     ·rw[non j q];rfl
   ·exact non j q
  have:y=xl (L.map (crM S)):=by
   have q:=qB9 y (xl (L.map (crM S)));rw[z0,hD1]at q;exact q.symm
  rw[this];exact sp
end My
namespace My
open PySem
theorem add_xor:∀ (n a b:Nat),a<n->a+b=(a^^^b)+2*(a&&&b)
 | 0,_,_,h=>absurd h (Nat.not_lt_zero _)
 | n+1,a,b,h=>by
  by_cases a0:a=0
  ·subst a0;simp
  have ih:=add_xor n (a / 2) (b / 2) (by omega);have d1:(a^^^b) / 2=a / 2^^^b / 2:=Nat.xor_div_two;have d2:(a&&&b) / 2=a / 2&&&b / 2:=Nat.and_div_two;have b1:(a^^^b).testBit 0=(a.testBit 0 ^^ b.testBit 0):=hAx ..;have b2:(a&&&b).testBit 0=(a.testBit 0 && b.testBit 0):=hCq ..;rw[hAt,hAt,hAt]at b1 b2;rw[<-d1,<-d2]at ih;generalize a^^^b=X at b1 ih ⊢;generalize a&&&b=Y at b2 ih ⊢;rcases hBc a with p | p <;> rcases hBc b with q | q <;> rw[p,q]at b1 b2 <;> simp at b1 b2 <;> omega
theorem qCk (a b:Nat):Builtin.bitAnd (a:Int) (b:Int)=((a&&&b:Nat):Int):=by
 unfold Builtin.bitAnd;rw[decide_eq_true (Int.natCast_nonneg a),decide_eq_true (Int.natCast_nonneg b)];simp
theorem qCj (a b:Nat):Builtin.bitXor (a:Int) (b:Int)=((a^^^b:Nat):Int):=by
 have e:=add_xor (a+1) a b (hAv a);have h:Builtin.bitXor (a:Int) (b:Int)=(a:Int)+b - 2*Builtin.bitAnd a b:=by
  have x:∀ x y:Int,Builtin.bitNot (Builtin.bitNot x)=x:=fun x y=>by unfold Builtin.bitNot;omega
  unfold Builtin.bitXor Builtin.bitOr;have na:¬(0:Int)<=Builtin.bitNot (a:Int):=by unfold Builtin.bitNot;omega
  have nb:¬(0:Int)<=Builtin.bitNot (b:Int):=by unfold Builtin.bitNot;omega
  have o:Builtin.bitAnd (Builtin.bitNot (a:Int)) (Builtin.bitNot (b:Int))=Builtin.bitNot ((a ||| b:Nat):Int):=by
   unfold Builtin.bitAnd;rw[decide_eq_false na,decide_eq_false nb];show Builtin.bitNot _=_;rw[x a 0,x b 0];simp
  rw[o,x _ 0,qCk];have e2:(a ||| b)+(a&&&b)=a+b:=by
   have:=add_or (a+1) a b (hAv a);omega
  omega
 rw[h,qCk];omega
where
 add_or:∀ (n a b:Nat),a<n->(a ||| b)+(a&&&b)=a+b
 | 0,_,_,h=>absurd h (Nat.not_lt_zero _)
 | n+1,a,b,h=>by
  by_cases a0:a=0
  ·subst a0;simp
  have ih:=add_or n (a / 2) (b / 2) (by omega);have d1:(a ||| b) / 2=a / 2 ||| b / 2:=Nat.or_div_two
  have d2:(a&&&b) / 2=a / 2&&&b / 2:=Nat.and_div_two;have b1:(a ||| b).testBit 0=(a.testBit 0 || b.testBit 0):=Nat.testBit_or ..;have b2:(a&&&b).testBit 0=(a.testBit 0 && b.testBit 0):=hCq ..;rw[hAt,hAt,hAt]at b1 b2;rw[<-d1,<-d2]at ih;generalize a ||| b=X at b1 ih ⊢
  generalize a&&&b=Y at b2 ih ⊢;rcases hBc a with p | p <;> rcases hBc b with q | q <;> rw[p,q]at b1 b2 <;> simp at b1 b2 <;> omega
theorem low_ex:∀ (n f:Nat),f<n->f≠0->∃ i,f.testBit i=true/\∀ j,j<i->f.testBit j=false
 | 0,_,h,_=>absurd h (Nat.not_lt_zero _)
 | n+1,f,h,nz=>by
  rcases hBc f with p | p
  ·obtain⟨i,h1,h2⟩:=low_ex n (f / 2) (by omega) (by omega);refine⟨i+1,by rw[hBx];exact h1,fun j hj=>?_⟩;cases j with
   | zero=>rw[hAt,p];rfl
   | succ j=>rw[hBx];exact h2 j (by omega)
  ·exact⟨0,by rw[hAt,p];rfl,fun j hj=>absurd hj (Nat.not_lt_zero _)⟩
noncomputable def lo (f:Nat):Nat:=Classical.epsilon fun i=>f.testBit i=true/\∀ j,j<i->f.testBit j=false
theorem lo_spec {f:Nat} (h:f≠0):f.testBit (lo f)=true/\∀ j,j<lo f->f.testBit j=false :=
 Classical.epsilon_spec (low_ex (f+1) f (hAv _) h)
theorem pred_bit:∀ (i f:Nat),f.testBit i=true->(∀ j,j<i->f.testBit j=false)->∀ j,(f - 1).testBit j=(decide (j<i) || (decide (i<j) && f.testBit j))
 | 0,f,h1,_,j=>by
  rw[hAt]at h1;have p:=of_decide_eq_true h1;cases j with
  | zero=>rw[hAt];simp;omega
  | succ j=>rw[hBx,hBx,show(f - 1) / 2=f / 2 by omega];simp
 | i+1,f,h1,h2,j=>by
  have z:=h2 0 (by omega);rw[hAt]at z;have p:=of_decide_eq_false z;rw[hBx]at h1;have nz:f / 2≠0:=fun w=>by rw[w]at h1;simp at h1
  cases j with
  | zero=>rw[hAt];simp;omega
  | succ j =>
   rw[hBx,hBx,show(f - 1) / 2=f / 2 - 1 by omega,pred_bit i (f / 2) h1 (fun k hk=>by have:=h2 (k+1) (by omega);rwa [hBx]at this) j];simp
theorem low_bit {f:Nat} (nz:f≠0):Builtin.bitAnd (f:Int) (-(f:Int))=((2^lo f:Nat):Int):=by
 obtain⟨h1,h2⟩:=lo_spec nz;have ev:Builtin.bitAnd (f:Int) (-(f:Int))=(f:Int) - ((f&&&(f - 1):Nat):Int):=by
  unfold Builtin.bitAnd;rw[decide_eq_true (Int.natCast_nonneg _),decide_eq_false (by omega:¬(0:Int)<=-(f:Int))];show(f:Int) - ((((f:Int).toNat)&&&(Builtin.bitNot (-(f:Int))).toNat:Nat):Int)=_;rw[show(Builtin.bitNot (-(f:Int))).toNat=f - 1 by unfold Builtin.bitNot;omega,hB3]
 rw[ev];have pb:=pred_bit (lo f) f h1 h2;have e:f=2^lo f+(f&&&(f - 1)):=by
  rw[qFw _ _ (by rw[hCq,pb];simp)];refine hB8 fun j=>?_
  rw[hAx,hBs,hCq,pb j];rcases Nat.lt_trichotomy j (lo f) with z | z | z
  ·have:¬lo f=j:=by omega
   rw[h2 j z];simp[this]
  ·subst z;rw[h1];simp
  ·have n1:¬lo f=j:=by omega
   simp[z,n1];exact fun h=>.inr h
 omega
theorem qFv (x p:Nat):x&&&2^p≠0↔x.testBit p=true:=by
 constructor
 ·intro ne;cases q:x.testBit p with
  | true=>rfl
  | false =>
   refine absurd (hB8 fun j=>?_) ne;rw[hCq,hBs,hCv];by_cases e:p=j
   ·subst e;rw[q];rfl
   ·simp[e]
 ·intro q z;have:=congrArg (fun x:Nat=>x.testBit p) z;simp[hCq,q]at this
def rv (m x:Nat):Nat:=((((List.range m).filter fun i=>x.testBit i).map fun i=>m - 1 - i).map fun l=>2^l).sum
theorem qB0 (m x j:Nat):(rv m x).testBit j=(decide (j<m) && x.testBit (m - 1 - j)):=by
 have nd:(((List.range m).filter fun i=>x.testBit i).map fun i=>m - 1 - i).Nodup:=by
  have h:((List.range m).filter fun i=>x.testBit i).Pairwise fun a b=>m - 1 - a≠m - 1 - b:=by
   have:(List.range m).Pairwise fun a b=>a≠b:=List.nodup_range
   refine hBi (fun {a b} ha hb ne=>?_) (this.sublist hCy);have a1:=hAn.mp (hAq.mp ha).1;have b1:=hAn.mp (hAq.mp hb).1;omega
  rw[List.Nodup,hBf];exact h
 unfold rv;rw[qDi _ nd];by_cases hj:j<m
 ·rw[decide_eq_true hj,hBn];cases q:x.testBit (m - 1 - j) with
  | true=>exact decide_eq_true (hA3.mpr ⟨m - 1 - j,hAq.mpr ⟨hAn.mpr (by omega),q⟩,by omega⟩)
  | false =>
   refine decide_eq_false fun z=>?_
   obtain⟨i,hi,e⟩:=hA3.mp z;obtain⟨h1,h2⟩:=hAq.mp hi;have:=hAn.mp h1;rw[show m - 1 - j=i by omega,h2]at q;cases q
 ·rw[decide_eq_false hj,Bool.false_and];refine decide_eq_false fun z=>?_
  obtain⟨i,hi,e⟩:=hA3.mp z;have:=hAn.mp (hAq.mp hi).1;omega
theorem qFz (m x:Nat):rv m x<2^m:=hBu _ fun i hi=>by rw[qB0,decide_eq_false (by omega)];rfl
theorem rv_xor (m x y:Nat):rv m (x^^^y)=rv m x^^^rv m y:=hB8 fun j=>by
 rw[hAx,qB0,qB0,qB0,hAx];cases decide (j<m) <;> simp
theorem qFy {m x:Nat} (h:x<2^m):rv m (rv m x)=x:=hB8 fun j=>by
 rw[qB0,qB0];by_cases hj:j<m
 ·rw[decide_eq_true hj,decide_eq_true (by omega),show m - 1 - (m - 1 - j)=j by omega];rfl
 ·rw[decide_eq_false hj,tb_hi h (Nat.le_of_not_lt hj)];rfl
theorem qFc (m:Nat):rv m 0=0:=hB8 fun j=>by rw[qB0];simp
theorem rv_ne {m x:Nat} (h:x<2^m) (nz:x≠0):rv m x≠0:=fun z=>nz (by rw[<-qFy h,z,qFc])
theorem lo_lt {m x:Nat} (h:x<2^m) (nz:x≠0):lo x<m:=by
 rcases hCp (lo x) m with z | z
 ·exact z
 ·have:=(lo_spec nz).1;rw[tb_hi h z]at this;cases this
theorem qCm {m x:Nat} (h:x<2^m) (nz:x≠0):(rv m x).log2=m - 1 - lo x:=by
 obtain⟨h1,h2⟩:=lo_spec nz;have l:=lo_lt h nz;refine log2_of ?_ (hBu _ fun i hi=>?_)
 ·rw[qB0,decide_eq_true (by omega),show m - 1 - (m - 1 - lo x)=lo x by omega,h1];rfl
 ·rw[qB0];by_cases q:i<m
  ·rw[h2 (m - 1 - i) (by omega)];simp
  ·rw[decide_eq_false q];rfl
noncomputable def rdL (x s:Nat):Nat:=if x.testBit (lo s)=true then x^^^s else x
theorem rv_rdL {m x s:Nat} (hs:s<2^m) (nz:s≠0):rv m (rdL x s)=rd1 (rv m x) (rv m s):=by
 have l:=lo_lt hs nz;unfold rdL rd1;have b:(rv m x).testBit (rv m s).log2=x.testBit (lo s):=by
  rw[qCm hs nz,qB0,decide_eq_true (by omega),show m - 1 - (m - 1 - lo s)=lo s by omega];rfl
 rw[b];split
 ·exact rv_xor m x s
 ·rfl
theorem rdL_lt {m x s:Nat} (hx:x<2^m) (hs:s<2^m):rdL x s<2^m:=by
 unfold rdL;split
 ·exact hC7 hx hs
 ·exact hx
noncomputable def redL1 (k:List Nat) (x:Nat):Nat:=k.foldl rdL x
def Gm (m:Nat) (k:List Nat):Prop:=∀ s∈k,s<2^m/\s≠0
theorem redL1_rv {m:Nat}:∀ {k:List Nat} {x:Nat},Gm m k->x<2^m->redL1 k x<2^m/\rv m (redL1 k x)=red1 (k.map (rv m)) (rv m x)
 | [],x,_,hx=>⟨hx,rfl⟩
 | s :: k,x,h,hx=>by
  obtain⟨h1,h2⟩:=h s hA9;have ih:=redL1_rv (x:=rdL x s) (fun t ht=>h t (hA7 _ ht)) (rdL_lt hx h1);refine⟨ih.1,?_⟩;show rv m (redL1 k (rdL x s))=red1 (k.map (rv m)) (rd1 (rv m x) (rv m s));rw[ih.2,rv_rdL h1 h2]
noncomputable def redLS (k:List Nat) (x:Nat):List Nat:=if redL1 k x=0 then k else k.map (fun s=>rdL s (redL1 k x))++[redL1 k x]
noncomputable def redL (xs:List Nat):List Nat:=xs.foldl redLS []
theorem qFe (xs:List Nat) (x:Nat):redL (xs++[x])=redLS (redL xs) x:=by unfold redL;rw[hCs];rfl
theorem qC5 {m:Nat} (xs:List Nat):(∀ x∈xs,x<2^m)->Gm m (redL xs)/\(redL xs).map (rv m)=red (xs.map (rv m)):=by
 refine snocN (P:=fun xs=>(∀ x∈xs,x<2^m)->Gm m (redL xs)/\(redL xs).map (rv m)=red (xs.map (rv m))) (fun _=>⟨fun s hs=>(by cases hs),rfl⟩) (fun l t ih h=>?_) xs;obtain⟨g,e⟩:=ih fun x hx=>h x (hAz _ hx)
 have ht:=h t (by simp);obtain⟨l1,l2⟩:=redL1_rv g ht;have sp:∀ s∈redL l,rv m s≠0:=fun s hs=>rv_ne (g s hs).1 (g s hs).2
 rw[hA4,hCl,qDv,qFe,<-e];unfold redLS redS;rw[<-l2];by_cases z:redL1 (redL l) t=0
 ·rw[if_pos z,z,qFc,if_pos rfl];exact⟨g,rfl⟩
 ·have z':=rv_ne l1 z;rw[if_neg z,if_neg z'];have rr:=qEm (l.map (rv m));rw[<-e]at rr;refine⟨fun s hs=>?_,?_⟩
  ·rcases hAr.mp hs with w | w
   ·obtain⟨u,hu,rfl⟩:=hA3.mp w;refine⟨rdL_lt (g u hu).1 l1,fun q=>?_⟩;have q2:=rv_rdL (x:=u) l1 z;rw[q,qFc]at q2;have ld:=qDw (x:=rv m t) rr (rv m u) (hC3 hu);rw[<-l2]at ld;exact(rd1_log2 (sp u hu) z' ld).2 q2.symm
   ·rw[hAk]at w;rw[w];exact⟨l1,z⟩
  ·rw[hA4,hCl,hAs,hAs];congr 1;refine hBb fun s hs=>?_
   exact rv_rdL l1 z
end My
namespace My
open PySem
def bd (V:Nat->Nat):Nat->Nat->Nat
 | 0,_=>0
 | m+1,y=>bd V m y^^^(if y.testBit m=true then V m else 0)
abbrev Ech (k:List (Nat×Nat)):Prop:=k.Pairwise fun a b=>b.1.testBit (lo a.1)=false
structure EIv (V:Nat->Nat) (m j:Nat) (K:List (Nat×Nat)) (F:List Nat):Prop where
 k1:∀ f∈K,f.1≠0/\f.1=bd V m f.2
 kl:∀ f∈K,f.2<2^j
 k2:Ech K
 f1:∀ y∈F,y<2^j/\bd V m y=0
 cov:∀ y,y<2^j->Spn (F++K.map (·.2)) y
 len:F.length+K.length=j
 fsh:Fsh F
end My
namespace L2
open PySem PySem.Spec PyProof.Rows
section
variable {X:Cx}
theorem ints_of:∀ {us:List Value},qA5 (ns.map V.int) us->∃ xs:List (Int×Tok),us=xs.map (fun p=>Value.int p.1 p.2)/\xs.map (·.1)=ns:=by
 induction ns with
 | nil=>intro us r;cases r;exact⟨[],rfl,rfl⟩
 | cons a l ih =>
  intro us r;cases r with
  | cons r rr =>
   obtain⟨t,rfl⟩:=r;obtain⟨xs,rfl,rfl⟩:=ih rr;exact⟨(a,t) :: xs,rfl,rfl⟩
theorem call_sumI (hc:X.calm=true):qCr X (.builtin "sum") (fun xs H Q=>∃ (p:Addr) (ns:List Int),xs=[.ref p]/\SqL X.K H p (ns.map V.int)/\Q (.int ns.sum) H):=by
 intro pins s σ H xs us Q I r h;obtain⟨p,ns,rfl,hq,q⟩:=h;obtain⟨u,rfl,rx⟩:=qC3 r;cases rx;obtain⟨its,rv,pl,hz⟩:=I.list hq;obtain⟨ys,rfl,rfl⟩:=ints_of rv;have e:(ys.map (fun p=>Value.int p.1 p.2)).toArray=intItems ys.toArray:=by unfold intItems;simp
 have pl':=pl.isList;rw[e]at pl';refine sum_intListG (I.ok.hd hc) pl' fun h' tk t' hk=>⟨.int _,H,I.kept (t':=tk) hk,⟨t',rfl⟩,?_⟩
 rw[preSum_eq,hA8 (by simp)];exact q
theorem qDp:∀ {us:List Value},qA5 (ns.map V.int) us->IntsAre us ns:=by
 induction ns with
 | nil=>intro us r;cases r;exact .nil
 | cons a l ih =>
  intro us r;cases r with
  | cons r rr =>
   obtain⟨t,rfl⟩:=r;exact .cons a t (ih rr)
theorem qGh:∀ {us:List Value},IntsAre us ns->qA5 (ns.map V.int) us:=by
 induction ns with
 | nil=>intro us r;cases r;exact .nil
 | cons a l ih =>
  intro us r;cases r with
  | cons _ _ r=>exact .cons ⟨_,rfl⟩ (ih r)
def tSortRev (K:PySem.W.Frag) (t:TA):TE:=fun σ H Q=>t σ H fun vs H1=>∃ (p:Addr) (ns:List Int),vs=[.ref p]/\SqL K H1 p (ns.map V.int)/\ns.length<64/\∀ (r:Addr) (ns':List Int),H1 r=none->ns'.Perm ns->Ordered true ns'->Q (.ref r) (upd H1 r (.lst (ns'.map V.int)))
theorem pe_sortRev (hg:Gl X "sorted") (hm:X.mg "sorted" = none) (ha:PA X [e] t)
  (he:backTo pos (starEach [e] X.env)=(false,eval e X.env) :: backTo pos (starEach [] X.env):=by rfl)
  (hplain:(backTo pos (starEach [e] X.env)).any (·.1)=false:=by rfl):PE X (.Call (.Name "sorted" p) [e] [⟨some "reverse",.Constant (.bool true) j cp,kp⟩] pos) (tSortRev X.K t):=by
 intro pins s σ H Q I h;refine wpAny_Call_Name_kw (qD6 I hg hm (by decide +kernel:bootBuiltins "sorted" = some (.builtin "sorted")) ?_ (by decide) (by decide));refine PyProof.Rows.callWith_kw (thn (ha pos pins s σ H _ I h) fun us s1 ⟨vs,H1,I1,r1,q1⟩=>?_) he hplain;obtain⟨a,ns,rfl,hq,h64,q⟩:=q1;obtain⟨u,rfl,rx⟩:=qC3 r1;cases rx;refine PyProof.Rows.kws_cons (Constant_bool (PyProof.Rows.kws_nil ?_));obtain⟨its,rv,pl,hz⟩:=I1.list hq;have hl:=rv.length;rw[hA1]at hl;refine sorted_ints_rev (b:=true) pl.isList (qDp rv) (by omega) fun out ns' h1 h2 h3=>?_
 obtain⟨e,he⟩:=sortedAll_at s1.heap its out;have nz:H1 (s1.heap.objs.size+1)=none:=I1.hok.fresh (hB5 _);refine⟨.ref (s1.heap.objs.size+1),_,I1.laid (t':=s1.toks) (a:=s1.heap.objs.size+1) (o:=.lst (ns'.map V.int)) (fun b o eb=>sortedAll_old eb) (hB5 _) ?_,rfl,q _ ns' nz h2 h3⟩;refine⟨?_,out.toList,e,qGh h1,by simpa using he⟩;rw[hA1,h2.length_eq];exact hB2 (qAi (by omega))
def rBits:V->List V->Hp->VK->Prop:=fun x vs H Q=>∃ i:Int,x = .int i/\vs=[]/\Q (.int (Builtin.Int.intBits i:Nat)) H
theorem mt_bits:MtR X "int.bit_length" rBits:=by
 intro pins s σ H x vs v us Q I rx rv h;obtain⟨i,rfl,rfl,q⟩:=h;obtain⟨t,rfl⟩:=rx;have hus:=rv.zero;subst hus;exact call_int_bit_length ⟨.int _,H,I.tok _,⟨_,rfl⟩,q⟩
end
end L2
namespace L2
open PySem PySem.Spec PyProof.Rows
section
variable {X:Cx}
def iEnum (K:PySem.W.Frag) (ta:TA):TI:=fun σ H R=>ta σ H fun vs H1=>∃ (a:Addr) (xs:List V),vs=[.ref a]/\SqL K H1 a xs/\R (Itp xs.length (fun H=>SqL K H a xs) (fun i=>[.int (i:Nat),xs.getD i .non])) H1
theorem boot_enum:bootBuiltins "enumerate" = some (.type "enumerate"):=by decide +kernel
theorem pi_enum (hg:Gl X "enumerate") (hm:X.mg "enumerate" = none) (ha:PA X [a] ta) (hs:starEach [a] X.env=[(false,eval a X.env)]:=by rfl) :
  PI X (.Tuple elts ct tpos) (.Call (.Name "enumerate" p) [a] [] pos) (iEnum X.K ta):=by
 intro pins s σ H R I h;refine Call_ (qD6 I hg hm boot_enum (hBz (thn (ha pos pins s σ H _ I h) fun us s1 ⟨vs,H1,I1,r1,q1⟩=>?_) (by rw[hs];rfl) (by rfl)));obtain⟨l,xs,e,hx,q⟩:=q1;subst e;obtain⟨u,rfl,rx⟩:=qC3 r1;cases rx;obtain⟨it1,rv1,pl1,hz1⟩:=I1.list hx;have b1:l<s1.heap.objs.size:=by obtain⟨o,n,e,_⟩:=pl1;exact Heap.lt_size e
 refine call_enumerate_list pl1.isList fun h1 z1 z2 z3 z7=>?_
 refine wpAny_pyIter_enum z1 ?_;have hfp:∀ b∈[s1.heap.objs.size+1,s1.heap.objs.size],s1.heap.objs.size<=b:=fun b hb=>by
  simp only[hAc,hB6,or_false]at hb;rcases hb with rfl | rfl
  ·exact hCi _ _
  ·exact hA5 _
 refine⟨s1.heap.objs.size+1,[s1.heap.objs.size+1,s1.heap.objs.size],
  fun i h=>(∃ old,IsEnum h (s1.heap.objs.size+1) s1.heap.objs.size i old)/\h.IsListIter s1.heap.objs.size l i,
  _,H1,rfl,I1.kept (t':=s1.toks) z7,
  qF4 (s1.heap.objs.size+1) _ [s1.heap.objs.size+1,s1.heap.objs.size,l] [s1.heap.objs.size+1,s1.heap.objs.size] _ _ _ _ (by simp) (fun b hb=>hb) (fun i h st b hb=>?_) (fun i h h' st k=>?_) (fun i=>by show 2<=sizeLine;decide) ?_ (fun A i s' Q E st hQ=>by
   obtain⟨⟨old,he⟩,_⟩:=st;exact wpAny_pyIter_enum he hQ),
  ⟨⟨_,z1⟩,z2⟩,fun b hb=>I1.fpOk (hfp b hb) (I1.hok.fresh (hfp b hb)),q⟩
 ·obtain⟨⟨old,a1⟩,⟨o4,a4,c4,d4⟩⟩:=st;simp only[hAc,hB6,or_false]at hb;rcases hb with rfl | rfl
  ·exact⟨_,a1,fun v z=>by cases z⟩
  ·exact⟨_,a4,fun v z=>by rw[d4]at z;cases z⟩
 ·obtain⟨⟨old,a1⟩,a4⟩:=st;exact⟨⟨old,k _ (by simp) _ a1⟩,a4.at fun o e=>k _ (by simp) o e⟩
 ·intro X' hP hw hK hc pins' s' σ' H' I' hL;rw[<-hK]at hL;obtain⟨jt1,sv1,ql1,_⟩:=I'.list hL;have m1:=sv1.length;have ne1:l≠s1.heap.objs.size:=hAp b1;have Wz:=WalksT.enumerateD (A:=X'.A) (Draws.list (prog:=X.prog) (w:=X.w) (A:=X'.A.in1) (I'.ok.hd hc) s1.heap.objs.size l ne1 jt1.toArray) (s1.heap.objs.size+1) (Nat.succ_ne_self _) (fun z=>by
   simp only[hAc,hB6,or_false]at z;rcases z with z | z
   ·exact Nat.succ_ne_self _ z
   ·exact absurd b1 (by rw[<-z];exact Nat.not_lt_of_le (hB5 _))) (by simp)
  rw[show jt1.toArray.size=xs.length by show jt1.length=_;rw[m1]]at Wz;refine⟨_,_,_,Wz,fun i st=>?_,fun i h st=>?_,fun i vals pv=>?_⟩
  ·exact⟨st.1,st.2,ql1.isList⟩
  ·exact⟨st.1,st.2.1⟩
  ·obtain⟨t,x,e1,rfl⟩:=pv;have e1:jt1[i]?=some x:=by simpa using e1
   have c1:i<xs.length:=by rw[m1];exact(hAo.mp e1).1
   obtain⟨u,d1,d2⟩:=sv1.get (hA2 c1);rw[e1]at d1;cases d1;show qA5 [.int (i:Nat),xs.getD i .non] [.int i t,x];rw[hAb,hA2 c1];exact .cons ⟨t,rfl⟩ (.cons d2 .nil)
end
end L2
namespace My
open PySem L2
abbrev iV (n:Nat):V:=.int (n:Int)
def LsN (H:Hp) (a:Addr) (ms:List Nat):Prop:=H a=some (.lst (ms.map iV))
theorem qB8:bootBuiltins "min" = some (.builtin "min"):=by decide +kernel
theorem boot_sum':bootBuiltins "sum" = some (.builtin "sum"):=by decide +kernel
theorem str_get {as:List Str} {i:Nat} {x:V} (e:(as.map V.str)[i]?=some x):∃ a,x = .str a/\as[i]?=some a:=by
 rw[hAd]at e;cases ha:as[i]? with
 | none=>rw[ha]at e;cases e
 | some a=>rw[ha]at e;exact⟨a,(hAa e).symm,rfl⟩
theorem ref_get {as:List Addr} {i:Nat} {x:V} (e:(as.map V.ref)[i]?=some x):∃ a,x = .ref a/\as[i]?=some a:=by
 rw[hAd]at e;cases ha:as[i]? with
 | none=>rw[ha]at e;cases e
 | some a=>rw[ha]at e;exact⟨a,(hAa e).symm,rfl⟩
theorem qCi {ms:List Nat} {i:Nat} {x:V} (e:(ms.map iV)[i]?=some x):∃ n,x=iV n/\ms[i]?=some n:=by
 rw[hAd]at e;cases ha:ms[i]? with
 | none=>rw[ha]at e;cases e
 | some a=>rw[ha]at e;exact⟨a,(hAa e).symm,rfl⟩
theorem qDo (ms:List Nat):ms.map iV=(ms.map fun n:Nat=>(n:Int)).map V.int:=by rw[hAs];rfl
def qBe (names row:List Str):Nat:=names.foldl (fun m n=>2*m+(if n∈row then 1 else 0)) 0
theorem qEf (names row:List Str) (n:Str):qBe (names++[n]) row=2*qBe names row+(if n∈row then 1 else 0):=by unfold qBe;rw[hCs];rfl
theorem qFl (row:List Str) (names:List Str):∀ j,(qBe names row).testBit j=(decide (j<names.length) && decide (∃ n,names[names.length - 1 - j]?=some n/\n∈row)):=by
 refine snoc_ind (P:=fun names=>∀ j,(qBe names row).testBit j=(decide (j<names.length) && decide (∃ n,names[names.length - 1 - j]?=some n/\n∈row))) (fun j=>by simp[qBe]) (fun l n ih j=>?_) names;rw[qEf,hAf];show _=(decide (j<l.length+1) && decide (∃ m,(l++[n])[l.length+1 - 1 - j]?=some m/\m∈row));cases j with
 | zero =>
  rw[hAt,decide_eq_true (by omega:0<l.length+1),hBn];refine decide_eq_decide.mpr ?_;rw[show l.length+1 - 1 - 0=l.length by omega,hC2 (hA5 _)];simp;by_cases h:n∈row
  ·simp[h]
  ·simp[h]
 | succ j =>
  rw[hBx,show(2*qBe l row+(if n∈row then 1 else 0)) / 2=qBe l row by split <;> omega,ih j];by_cases hj:j<l.length
  ·rw[decide_eq_true hj,decide_eq_true (by omega:j+1<l.length+1),show l.length+1 - 1 - (j+1)=l.length - 1 - j by omega,List.getElem?_append_left (by omega)]
  ·rw[decide_eq_false hj,decide_eq_false (by omega:¬j+1<l.length+1)];rfl
theorem maskF_lt (names row:List Str):qBe names row<2^names.length:=hBu _ fun i hi=>by rw[qFl,decide_eq_false (by omega)];rfl
def spMask:Sp:=fun vs H Q _=>∃ (pn pr:Addr) (names row:List Str),vs=[.ref pn,.ref pr]/\LsS H pn names/\LsS H pr row/\Q (iV (qBe names row)) H
def rowM (names:List Str) (x:Nat):List Str:=(List.range names.length).filterMap fun i=>if x.testBit (names.length - 1 - i)=true then names[i]? else none
def spRowOf:Sp:=fun vs H Q _=>∃ (pn:Addr) (names:List Str) (x:Nat),vs=[.ref pn,iV x]/\LsS H pn names/\names.length<=12/\∀ r H',Ext H H'->H r=none->LsS H' r (rowM names x)->Q (.ref r) H'
theorem shr_one (x k:Nat):Builtin.bitAnd ((x:Int) / 2^k) 1=if x.testBit k=true then 1 else 0:=by
 have e:(x:Int) / 2^k=((x / 2^k:Nat):Int):=by rw[Int.natCast_ediv,Int.natCast_pow];rfl
 have e1:(1:Int)=((1:Nat):Int):=rfl;rw[e];show Builtin.bitAnd _ ((1:Nat):Int)=_;rw[qCk,Nat.and_one_is_mod,Nat.testBit_eq_decide_div_mod_eq];rcases hBc (x / 2^k) with h | h <;> rw[h] <;> rfl
def spLess:Sp:=fun vs H Q _=>∃ (x:Nat) (p:Addr) (k:List Nat),vs=[iV x,.ref p]/\LsN H p k/\(∀ s∈k,s≠0)/\Q (iV (red1 k x)) H
theorem min_int (x:Nat) {s:Nat} (hs:s≠0):(if Builtin.bitXor (x:Int) (s:Int)<(x:Int) then Builtin.bitXor (x:Int) (s:Int) else (x:Int))=((rd1 x s:Nat):Int):=by
 rw[qCj,<-min_rd1 x hs];by_cases h:x^^^s<x
 ·rw[if_pos h,if_pos (by omega)]
 ·rw[if_neg h,if_neg (by omega)]
def spRedu:Sp:=fun vs H Q _=>∃ (p:Addr) (ms:List Nat),vs=[.ref p]/\LsN H p ms/\ms.length<=24/\∀ (r:Addr) (M:List Nat) (H':Hp),Ext H H'->H r=none->LsN H' r M->M.Perm (red ms)->M.Pairwise (fun a b=>b<=a)->Q (.ref r) H'
def spLead:Sp:=fun vs H Q _=>∃ x:Nat,vs=[iV x]/\x≠0/\x<2^24/\Q (iV (2^x.log2)) H
theorem redS_len (k:List Nat) (x:Nat):(redS k x).length<=k.length+1:=by
 unfold redS;split
 ·omega
 ·rw[hAf,hA1];exact hA5 _
theorem red_le (xs:List Nat):(red xs).length<=xs.length:=by
 refine snocN (P:=fun xs=>(red xs).length<=xs.length) (hA5 _) (fun l t ih=>?_) xs;rw[qDv,hAf];have:=redS_len (red l) t;show _<=l.length+1;omega
section
variable {P:Program} {w:World} {K:PySem.W.Frag} {mg:Str->Option Value} {base:Heap} {f f1 f2:Addr} {fd fd1 fd2:FuncData}
abbrev maN:List Str:=["names","row","mask","name"]
theorem scMask:FnScope maN ["names","row"] (qAd sMask):=⟨rfl,rfl,rfl,by decide +kernel,rfl,by decide +kernel,by decide +kernel⟩
theorem ok_mask (F:Fun K "mask_of" "mask_of" sMask f fd):FnOk P w K mg base CX0 1 f fd ["names","row"] spMask:=by
 refine F.ok scMask (fun vs H Q E h=>?_) (fun cdv A outer s H vs Q E hr h=>?_)
 ·obtain⟨pn,pr,names,row,rfl,_⟩:=h;rfl
 obtain⟨pn,pr,names,row,rfl,hn,hw,q⟩:=h;refine⟨_,qAc (qAm (i:=2) scMask.nd rfl (Or.inl rfl) qAe)
  (qAc (qBw PassesOwn.never rfl (qA4 (pv 0)) (qAl (i:=3) scMask.nd rfl (Or.inl rfl))
   (qAf (qAm (i:=2) scMask.nd rfl (Or.inl rfl) (qAt qB6 (qAt qC1 qAe (pv 2)) (pe_ifExp (qAp op_in_seq (pv 3) (pv 1) (by with_unfolding_all rfl)) qAe qAe)))))
  (qAf (qAs (pv 2)))),?_⟩
 refine⟨_,rfl,pn,rfl,⟨_,SqL.of hn⟩,?_⟩;refine qCz (xs:=names.map V.str) (fun i σ H'=>H'=H/\∃ x3:Option V,σ=[some (.ref pn),some (.ref pr),some (iV (qBe (names.take i) row)),x3]) ⟨rfl,none,rfl⟩ (fun i σ H' _ h=>by rw[h.1];exact SqL.of hn) ?_ ?_
 ·rintro i x σ H' hx ⟨rfl,x3,rfl⟩;obtain⟨y,rfl,hy⟩:=str_get hx;refine⟨_,rfl,_,_,rfl,rfl,.inl ⟨by decide,by decide⟩,_,rfl,_,rfl,pr,_,rfl,.inl (SqL.of hw),rfl,flat_strs _,_,rfl,?_⟩;rw[if_neg (by decide),inV_str];refine qCb (fun c=>?_) (fun c=>?_)
  ·have c':y∈row:=by simpa using c
   refine⟨_,_,rfl,rfl,rfl,some (.str y),?_⟩;rw[show iV (qBe (names.take (i+1)) row)=V.int (2*((qBe (names.take i) row:Nat):Int)+1) by rw[qAq hy,qEf,if_pos c'];rfl];rfl
  ·have c':¬y∈row:=by simpa using c
   refine⟨_,_,rfl,rfl,rfl,some (.str y),?_⟩;rw[show iV (qBe (names.take (i+1)) row)=V.int (2*((qBe (names.take i) row:Nat):Int)+0) by rw[qAq hy,qEf,if_neg c'];rfl];rfl
 ·rintro σ H' ⟨rfl,x3,rfl⟩;rw[hA1,hA8 (hA5 _)];exact⟨_,rfl,q⟩
theorem scRowOf:FnScope ["names","mask","last"] ["names","mask"] (qAd qFa):=⟨rfl,rfl,rfl,by decide +kernel,rfl,by decide +kernel,by decide +kernel⟩
abbrev roN:List Str:=["at","name","mask","last"]
theorem ok_rowOf (F:Fun K "row_of" "row_of" qFa f fd) (ml:mg "len" = none) (me:mg "enumerate" = none):FnOk P w K mg base CX0 1 f fd ["names","mask"] spRowOf:=by
 refine F.ok scRowOf (fun vs H Q E h=>?_) (fun cdv A outer s H vs Q E hr h=>?_)
 ·obtain⟨pn,names,x,rfl,_⟩:=h;rfl
 obtain⟨pn,names,x,rfl,hn,ln,q⟩:=h;refine⟨_,qAc (qAm (i:=2) scRowOf.nd rfl (Or.inr rfl) (qAt qD1 (qAg qAk rfl ml hAl (qAa (pv 0) qAb)) qAe))
  (qAf (qAs (qCp (N:=["names","mask","last"]) (sc:=qAd qFa) (N':=roN) (sub:=[none,none,some 1,some 2]) rfl rfl (CmpOk.of (by decide +kernel)) rfl (pi_enum rfl me (qAa (pv 0) qAb))
   (fun C s H fp=>⟨(show PG _ _ (gTup K 2 _) from qDz rfl (qA1 (qAl (i:=0) (by show roN.Nodup;decide) rfl (Or.inl rfl)) (qA1 (qAl (i:=1) (by show roN.Nodup;decide) rfl (Or.inl rfl)) qCy))),
    qFg (qAp qCa (qAt qEo (qAt op_shr (pv 2) (qAt qD1 (pv 3) (pv 0))) qAe) qAe (qAu _)),pv 1⟩)))),?_⟩
 refine⟨_,rfl,pn,_,rfl,.inl (SqL.of hn),_,_,rfl,rfl,?_⟩;refine⟨_,rfl,pn,_,rfl,SqL.of hn,?_⟩;rw[hA1];refine turns_tup (fun i ys H'=>Ext H H'/\ys=((List.range i).filterMap fun i=>if x.testBit (names.length - 1 - i)=true then names[i]? else none).map V.str) ⟨Ext.refl _,rfl⟩ (fun i ys H' _ p=>SqL.of (p.1 _ _ hn)) ?_ ?_
 ·rintro i ys H' T hi ⟨e,rfl⟩ hT;have gd:(names.map V.str).getD i .non = .str names[i]:=by rw[hAb,hAd,hA2 hi];rfl
  have e2:=e.trans (Ext.new hT (.tup [V.int (i:Nat),(names.map V.str).getD i .non]));refine⟨T,_,rfl,SqT.of upd_same,rfl,_,_,rfl,_,_,rfl,rfl,?_⟩;refine⟨Sle.set _ (Sle.set _ (Sle.refl _) (fun u z=>by cases z)) (fun u z=>by cases z),?_⟩;have k:(((names.length:Nat):Int) - 1 - (i:Nat))=((names.length - 1 - i:Nat):Int):=by omega
  refine⟨_,rfl,_,rfl,_,rfl,_,_,rfl,rfl,_,_,rfl,rfl,(by show(0:Int)<=_;omega),_,_,rfl,rfl,rfl,_,rfl,?_⟩;have fm:((List.range (i+1)).filterMap fun i=>if x.testBit (names.length - 1 - i)=true then names[i]? else none)=((List.range i).filterMap fun i=>if x.testBit (names.length - 1 - i)=true then names[i]? else none)++(if x.testBit (names.length - 1 - i)=true then [names[i]] else []):=by
   rw[hC6,hC5];congr 1;by_cases b:x.testBit (names.length - 1 - i)=true
   ·simp[b,hA2 hi]
   ·simp[b]
  have sz:=hCe (fun i=>if x.testBit (names.length - 1 - i)=true then names[i]? else none) (List.range i);rw[hB4]at sz;have key:(decide (V.int (Builtin.bitAnd ((x:Int) / 2^(((names.length:Nat):Int) - 1 - (i:Nat)).toNat) 1)=V.int 1)=true)↔x.testBit (names.length - 1 - i)=true:=by
   rw[decide_eq_true_iff,V.int.injEq,k,hB3,shr_one];by_cases b:x.testBit (names.length - 1 - i)=true
   ·simp[b]
   ·simp[b]
  refine qCb (fun c=>?_) (fun c=>?_)
  ·have b:=key.mp c;refine⟨_,rfl,by rw[hA1];exact qAi (by omega),nxt hi ⟨e2,?_⟩⟩;rw[fm,if_pos b,hA4,gd];rfl
  ·have b:¬x.testBit (names.length - 1 - i)=true:=fun z=>c (key.mpr z)
   refine nxt hi ⟨e2,?_⟩;rw[fm,if_neg b,hBq]
 ·rintro ys H' ⟨e,rfl⟩ r hr';exact q r _ (e.trans (Ext.new hr' _)) (e.none hr') upd_same
theorem scLess:FnScope ["mask","kept","step"] ["mask","kept"] (qAd sLess):=⟨rfl,rfl,rfl,by decide +kernel,rfl,by decide +kernel,by decide +kernel⟩
theorem ok_less (F:Fun K "lessened" "lessened" sLess f fd) (mmi:mg "min" = none):FnOk P w K mg base CX0 1 f fd ["mask","kept"] spLess:=by
 refine F.ok scLess (fun vs H Q E h=>?_) (fun cdv A outer s H vs Q E hr h=>?_)
 ·obtain⟨x,p,k,rfl,_⟩:=h;rfl
 obtain⟨x,p,k,rfl,hk,nz,q⟩:=h;refine⟨_,qAc (qBw PassesOwn.never rfl (qA4 (pv 1)) (qAl (i:=2) scLess.nd rfl (Or.inl rfl))
   (qAf (qAm (i:=0) scLess.nd rfl (Or.inl rfl) (qAg (qCt rfl) rfl mmi qB8 (qAa (pv 0) (qAa (qAt qEn (pv 0) (pv 2)) qAb))))))
  (qAf (qAs (pv 0))),?_⟩
 refine⟨_,rfl,p,rfl,⟨_,SqL.of hk⟩,?_⟩;refine qCz (xs:=k.map iV) (fun i σ H'=>H'=H/\∃ x2:Option V,σ=[some (iV (red1 (k.take i) x)),some (.ref p),x2]) ⟨rfl,none,rfl⟩ (fun i σ H' _ h=>by rw[h.1];exact SqL.of hk) ?_ ?_
 ·rintro i v σ H' hx ⟨rfl,x2,rfl⟩;obtain⟨s,rfl,hs⟩:=qCi hx;refine⟨_,rfl,_,rfl,_,rfl,_,_,rfl,rfl,_,_,rfl,rfl,some (iV s),?_⟩;rw[min_int _ (nz s (hAj hs)),show red1 (k.take (i+1)) x=rd1 (red1 (k.take i) x) s by rw[qAq hs];unfold red1;rw[hCs];rfl];rfl
 ·rintro σ H' ⟨rfl,x2,rfl⟩;rw[hA1,hA8 (hA5 _)];exact⟨_,rfl,q⟩
theorem scRedu:FnScope ["masks","kept","mask","fresh"] ["masks"] (qAd sRedu):=⟨rfl,rfl,rfl,by decide +kernel,rfl,by decide +kernel,by decide +kernel⟩
theorem ok_redu (F:Fun K "reduced" "reduced" sRedu f fd) (G:Cl P w K mg base CX0 1 f1 fd1 ["mask","kept"] spLess "lessened") (mmi:mg "min" = none) (mso:mg "sorted" = none):FnOk P w K mg base CX0 2 f fd ["masks"] spRedu:=by
 refine F.ok scRedu (fun vs H Q E h=>?_) (fun cdv A outer s H vs Q E hr h=>?_)
 ·obtain⟨p,ms,rfl,_⟩:=h;rfl
 obtain⟨p,ms,rfl,hp,lm,q⟩:=h;refine⟨_,qAc (qAm (i:=1) scRedu.nd rfl (Or.inl rfl) (qBl qAb))
  (qAc (qBw PassesOwn.never rfl (qA4 (pv 0)) (qAl (i:=2) scRedu.nd rfl (Or.inl rfl))
   (qAc (qAm (i:=3) scRedu.nd rfl (Or.inr rfl) (qAv G hr rfl .nil qAw (qAa (pv 2) (qAa (pv 1) qAb))))
   (qAf (qBd (qAp qD2 (pv 3) qAe (qAu _))
    (qAf (qAm (i:=1) scRedu.nd rfl (Or.inl rfl) (qAt op_cat (qCp (N:=["masks","kept","mask","fresh"]) (sc:=qAd sRedu) (N':=["step","fresh"]) (sub:=[none,some 3]) rfl rfl (CmpOk.of (by decide +kernel)) rfl (qA4 (pv 1))
     (fun C s H fp=>⟨qAl (i:=0) (by show(["step","fresh"]:List Str).Nodup;decide) rfl (Or.inl rfl),qA3,qAg (qCt rfl) rfl mmi qB8 (qAa (pv 0) (qAa (qAt qEn (pv 0) (pv 1)) qAb))⟩)) (qBl (qAa (pv 3) qAb)))))
    qAx))))
  (qAf (qAs (pe_sortRev rfl mso (qAa (pv 1) qAb))))),?_⟩
 refine⟨hAw _,fun ke ke0=>?_⟩;have X0:=Ext.new ke0 (.lst []);refine⟨_,rfl,p,rfl,⟨_,SqL.of (X0 _ _ hp)⟩,?_⟩;refine qCz (xs:=ms.map iV) (fun i σ H'=>∃ (ke:Addr) (x2 x3:Option V),σ=[some (.ref p),some (.ref ke),x2,x3]/\Ext H H'/\LsN H' ke (red (ms.take i))) ⟨ke,none,none,rfl,X0,upd_same⟩ (fun i σ H' _ h=>by obtain⟨_,_,_,_,e,_⟩:=h;exact SqL.of (e _ _ hp)) ?_ ?_
 ·rintro i v σ H' hx ⟨ke,x2,x3,rfl,e,hk⟩;obtain⟨m,rfl,hm⟩:=qCi hx;have hi:i<ms.length:=qBc hm;have rr:=qEm (ms.take i);have lr:=red_le (ms.take i);rw[hAi]at lr;refine⟨_,rfl,_,rfl,m,ke,_,rfl,hk,rr.nz,?_⟩;have sn:red (ms.take (i+1))=redS (red (ms.take i)) m:=by rw[qAq hm,qDv]
  refine⟨_,rfl,rfl,_,rfl,?_⟩;refine qCb (fun c=>?_) (fun c=>?_)
  ·have c':red1 (red (ms.take i)) m≠0:=fun z=>by rw[z]at c;simp at c
   refine⟨_,rfl,ke,rfl,⟨_,SqL.of hk⟩,?_⟩;refine qA2 (xs:=(red (ms.take i)).map iV) (fun j ys H2=>H2=H'/\ys=(((red (ms.take i)).take j).map fun s=>rd1 s (red1 (red (ms.take i)) m)).map iV) ⟨rfl,rfl⟩ (fun j ys H2 _ h=>by rw[h.1];exact SqL.of hk) ?_ ?_
   ·rintro j x ys H2 hx2 ⟨rfl,rfl⟩;obtain⟨s,rfl,hs⟩:=qCi hx2;have hj:=qBc hs;refine⟨Sle.set _ (Sle.refl _) (fun u z=>by cases z),iteT (B:=False) ⟨_,rfl,_,rfl,_,rfl,_,_,rfl,rfl,_,_,rfl,?_,nxt (qBc hx2) ⟨rfl,?_⟩⟩⟩
    ·rw[hA1,hA1,hAi];exact qAi (by omega)
    ·rw[min_int _ c',qAq hs,hA4,hA4];rfl
   ·rintro ys H2 ⟨rfl,rfl⟩ l hl;rw[hA1,hA8 (hA5 _)];have n1:=Ext.new hl (.lst (((red (ms.take i)).map fun s=>rd1 s (red1 (red (ms.take i)) m)).map iV));refine⟨_,rfl,(by show 1<=sizeLine;decide),fun l2 hl2=>?_⟩;have n2:=Ext.new hl2 (.lst [iV (red1 (red (ms.take i)) m)]);refine⟨l,l2,_,_,rfl,rfl,n2 _ _ upd_same,upd_same,?_,fun l3 hl3=>?_⟩
    ·rw[hA1,hA1];show _+1<=sizeLine;exact hB2 (qAi (by omega))
    ·refine⟨l3,_,_,rfl,((e.trans n1).trans n2).trans (Ext.new hl3 _),?_⟩;rw[sn];unfold redS LsN;rw[if_neg c',upd_same,hA4];rfl
  ·have c':red1 (red (ms.take i)) m=0:=by
    have:(red1 (red (ms.take i)) m:Int)=0:=by simpa using c
    omega
   refine⟨ke,_,_,rfl,e,?_⟩;rw[sn];unfold redS;rw[if_pos c'];exact hk
 ·rintro σ H' ⟨ke,x2,x3,rfl,e,hk⟩;rw[hA1,hA8 (hA5 _)]at hk;have lr:=red_le ms;refine⟨_,rfl,ke,(red ms).map (fun n:Nat=>(n:Int)),rfl,by rw[<-qDo];exact SqL.of hk,by rw[hA1];omega,fun r ns hr' pm od=>?_⟩;have od':ns.Pairwise fun a b=>a >= b:=od
  obtain⟨M,rfl⟩:∃ M:List Nat,ns=M.map (fun n:Nat=>(n:Int)):=by
   refine⟨ns.map Int.toNat,?_⟩;rw[hAs];refine(List.map_id _).symm.trans (hBb fun a ha=>?_);obtain⟨n,_,rfl⟩:=hA3.mp (pm.mem_iff.mp ha);simp
  have pm':M.Perm (red ms):=by
   have:=pm.map Int.toNat;rw[hAs,hAs]at this;have idn:(Int.toNat∘fun n:Nat=>(n:Int))=id:=by funext n;simp
   rw[idn,List.map_id,List.map_id]at this;exact this
  refine q r M _ (e.trans (Ext.new hr' _)) (e.none hr') (by unfold LsN;rw[upd_same,qDo]) pm' ?_;rw[hBf]at od';exact List.Pairwise.imp (fun {a b} h=>by omega) od'
theorem scLead:FnScope ["mask"] ["mask"] (qAd sLead):=⟨rfl,rfl,rfl,by decide +kernel,rfl,by decide +kernel,by decide +kernel⟩
theorem ok_lead (F:Fun K "lead_of" "lead_of" sLead f fd):FnOk P w K mg base CX0 1 f fd ["mask"] spLead:=by
 refine F.ok scLead (fun vs H Q E h=>?_) (fun cdv A outer s H vs Q E hr h=>?_)
 ·obtain⟨x,rfl,_⟩:=h;rfl
 obtain⟨x,rfl,nz,lt,q⟩:=h;refine⟨_,qAf (qAs (qAt qGe qAe (qAt qD1 (pe_bm0 PySem.F.plainAttrs_int PySem.F.slot_int_bit_length PySem.F.type_int_bit_length mt_bits (pv 0)) qAe))),?_⟩;have l24:x.log2<24:=(Nat.log2_lt nz).mpr lt;have ib:Builtin.Int.intBits (x:Int)=x.log2+1:=by
  unfold Builtin.Int.intBits;rw[if_neg (by simpa using nz)];simp
 refine⟨_,rfl,rfl,x,rfl,rfl,_,_,rfl,rfl,_,_,rfl,rfl,?_⟩;rw[ib];have e:((x.log2+1:Nat):Int) - 1=(x.log2:Nat):=by omega
 rw[e];refine⟨⟨by omega,by omega,by decide⟩,?_⟩;dsimp only;rw[hB3,Int.one_mul];have p2:((2:Int)^x.log2)=((2^x.log2:Nat):Int):=by rw[Int.natCast_pow];rfl
 rw[p2];exact q
end
end My
namespace My
open PySem L2
theorem RR.perm {a b:List Nat} (h:RR a) (p:b.Perm a):RR b:=⟨fun s hs=>h.nz s (p.mem_iff.mp hs),(p.pairwise_iff (fun {x y} z=>⟨z.2,z.1⟩)).mpr h.ap⟩
theorem sum_cast:∀ l:List Nat,(l.map fun n:Nat=>(n:Int)).sum=((l.sum:Nat):Int)
 | []=>rfl
 | a :: l=>by rw[hAu,List.sum_cons,List.sum_cons,sum_cast l];omega
theorem shl_nat (p:Nat):(1:Int)*2^((p:Int)).toNat=((2^p:Nat):Int):=by
 rw[hB3,Int.one_mul,Int.natCast_pow];rfl
def spCrM:Sp:=fun vs H Q _=>∃ (p:Addr) (S:List Nat) (m:Nat),vs=[.ref p,iV m]/\LsN H p S/\RR S/\(∀ s∈S,s<2^m)/\m<=12/\S.length<=24/\∀ r H',Ext H H'->H r=none->LsN H' r (crAll S m)->Q (.ref r) H'
def qDq (H:Hp) (T:Addr) (names:List Str) (rows:List (List Str)):Prop:=∃ a b,H T=some (.tup [.ref a,.ref b])/\LsS H a names/\qGq H b rows
def TabF (H0 H:Hp) (T:Addr) (names:List Str) (rows:List (List Str)):Prop:=∃ a b,H T=some (.tup [.ref a,.ref b])/\LsS H a names/\H0 a=none/\RowsY H0 H b rows/\H0 b=none
theorem qDq.ext {H H':Hp} {T:Addr} {names:List Str} {rows:List (List Str)} (h:qDq H T names rows) (e:Ext H H'):qDq H' T names rows:=by
 obtain⟨a,b,h1,h2,h3⟩:=h;exact⟨a,b,e _ _ h1,e _ _ h2,h3.ext e⟩
theorem TabF.tin {H0 H:Hp} {T:Addr} {names:List Str} {rows:List (List Str)} (h:TabF H0 H T names rows):qDq H T names rows:=by
 obtain⟨a,b,h1,h2,h3,h4,h5⟩:=h;exact⟨a,b,h1,h2,h4.rows⟩
theorem TabF.down {H0 H1 H:Hp} {T:Addr} {names:List Str} {rows:List (List Str)} (h:TabF H1 H T names rows) (e:Ext H0 H1):TabF H0 H T names rows:=by
 obtain⟨a,b,h1,h2,h3,⟨as,h4,h6⟩,h5⟩:=h;exact⟨a,b,h1,h2,e.none h3,⟨as,h4,Paired.mapP h6 fun a r z=>⟨z.1,e.none z.2.1,z.2.2⟩⟩,e.none h5⟩
def spTabF:Sp:=fun vs H Q _=>∃ (pn pm:Addr) (names:List Str) (ms:List Nat),vs=[.ref pn,.ref pm]/\LsS H pn names/\names.length<=12/\LsN H pm ms/\ms.length<=24/\∀ (T:Addr) (M:List Nat) (H':Hp),Ext H H'->H T=none->TabF H H' T names (M.map (rowM names))->M.Perm (red ms)->M.Pairwise (fun a b=>b<=a)->Q (.ref T) H'
def spStepM:Sp:=fun vs H Q _=>∃ (T:Addr) (names:List Str) (rows:List (List Str)),vs=[.ref T]/\qDq H T names rows/\rows.length<=24/\∀ (r:Addr) (M:List Nat) (H':Hp),Ext H H'->H r=none->LsN H' r M->M.Perm (red (rows.map (qBe names)))->M.Pairwise (fun a b=>b<=a)->Q (.ref r) H'
def spCross:Sp:=fun vs H Q _=>∃ (T:Addr) (names:List Str) (rows:List (List Str)),vs=[.ref T]/\qDq H T names rows/\names.length<=12/\rows.length<=24/\∀ (T':Addr) (S M:List Nat) (H':Hp),Ext H H'->H T'=none->TabF H H' T' names (M.map (rowM names))->S.Perm (red (rows.map (qBe names)))->M.Perm (red (crAll S names.length))->M.Pairwise (fun a b=>b<=a)->Q (.ref T') H'
def spTies:Sp:=fun vs H Q _=>∃ (p:Addr) (net:List Tr),vs=[.ref p]/\qDf H p net/\net.length<=20/\∀ r H',Ext H H'->H r=none->LsS H' r (net.map (·.1))->Q (.ref r) H'
def metF (net:List Tr) (x:Str):List Str:=(net.filter fun t=>decide (t.2.1=x) != decide (t.2.2=x)).map (·.1)
def spMet:Sp:=fun vs H Q _=>∃ (p:Addr) (net:List Tr) (x:Str),vs=[.ref p,.str x]/\qDf H p net/\net.length<=12/\∀ r H',Ext H H'->H r=none->LsS H' r (metF net x)->Q (.ref r) H'
def spTable:Sp:=fun vs H Q _=>∃ (p:Addr) (net:List Tr),vs=[.ref p]/\qDf H p net/\net.length<=12/\∀ (T:Addr) (ps:List Str) (S M:List Nat) (H':Hp),Ext H H'->H T=none->TabF H H' T (net.map (·.1)) (M.map (rowM (net.map (·.1))))->PtsOk net ps->qE2 ps->S.Perm (red (ps.map fun x=>qBe (net.map (·.1)) (metF net x)))->M.Perm (red (crAll S net.length))->M.Pairwise (fun a b=>b<=a)->Q (.ref T) H'
section
variable {P:Program} {w:World} {K:PySem.W.Frag} {mg:Str->Option Value} {base:Heap} {f f1 f2 f3 f4:Addr} {fd fd1 fd2 fd3 fd4:FuncData}
abbrev crN:List Str:=["steps","width","leads","told","place","bit"]
theorem scCrM:FnScope crN ["steps","width"] (qAd sCrM):=⟨rfl,rfl,rfl,by decide +kernel,rfl,by decide +kernel,by decide +kernel⟩
theorem ok_crM (F:Fun K "crossed_masks" "crossed_masks" sCrM f fd) (G:Cl P w K mg base CX0 1 f1 fd1 ["mask"] spLead "lead_of") (msu:mg "sum" = none) (mr:mg "range" = none):FnOk P w K mg base CX0 2 f fd ["steps","width"] spCrM:=by
 refine F.ok scCrM (fun vs H Q E h=>?_) (fun cdv A outer s H vs Q E hr h=>?_)
 ·obtain⟨p,S,m,rfl,_⟩:=h;rfl
 obtain⟨p,S,m,rfl,hp,rr,lt,m12,lS,q⟩:=h;refine⟨_,qAc (qAm (i:=2) scCrM.nd rfl (Or.inl rfl) (qAg (call_sumI rfl) rfl msu boot_sum' (qAa (qCp (N:=crN) (sc:=qAd sCrM) (N':=["step"]) (sub:=[none]) rfl rfl (CmpOk.of (by decide +kernel)) rfl (qA4 (pv 0))
   (fun C s H fp=>⟨qAl (i:=0) (by show(["step"]:List Str).Nodup;decide) rfl (Or.inl rfl),qA3,qAv G hr rfl .nil qAw (qAa (pv 0) qAb)⟩)) qAb)))
  (qAc (qAm (i:=3) scCrM.nd rfl (Or.inl rfl) (qBl qAb))
  (qAc (qBw PassesOwn.never rfl (qBa rfl mr (qAa (pv 1) qAb)) (qAl (i:=4) scCrM.nd rfl (Or.inl rfl))
   (qAc (qAm (i:=5) scCrM.nd rfl (Or.inr rfl) (qAt qGe qAe (pv 4)))
   (qAf (qBd (qAp qCa (qAt qEo (pv 2) (pv 5)) qAe (qAu _))
    (qAf (qCo (qFj hB1 hBj hBk qB7 (pv 3) (qAa
     (qAt qB6 (pv 5) (qAg (call_sumI rfl) rfl msu boot_sum' (qAa (qCp (N:=crN) (sc:=qAd sCrM) (N':=["step","bit"]) (sub:=[none,some 5]) rfl rfl (CmpOk.of (by decide +kernel)) rfl (qA4 (pv 0))
      (fun C s H fp=>⟨qAl (i:=0) (by show(["step","bit"]:List Str).Nodup;decide) rfl (Or.inl rfl),qFg (qAp qD2 (qAt qEo (pv 0) (pv 1)) qAe (qAu _)),qAv G hr rfl .nil qAw (qAa (pv 0) qAb)⟩)) qAb))) qAb))))
    qAx))))
  (qAf (qAs (pv 3))))),?_⟩
 have l24:∀ s∈S,s<2^24:=fun s hs=>hAh (lt s hs) (hC1 (by decide) (by omega))
 refine⟨_,rfl,p,rfl,⟨_,SqL.of hp⟩,?_⟩;refine qA2 (xs:=S.map iV) (fun j ys H2=>H2=H/\ys=((S.take j).map fun s:Nat=>2^s.log2).map iV) ⟨rfl,rfl⟩ (fun j ys H2 _ h=>by rw[h.1];exact SqL.of hp) ?_ ?_
 ·rintro j v ys H2 hx ⟨rfl,rfl⟩;obtain⟨s,rfl,hs⟩:=qCi hx;have hj:=qBc hs;have sm:=hAj hs;refine⟨Sle.set _ (Sle.refl _) (fun u z=>by cases z),iteT (B:=False) ⟨_,rfl,s,rfl,rr.nz s sm,l24 s sm,?_,nxt (qBc hx) ⟨rfl,?_⟩⟩⟩
  ·rw[hA1,hA1,hAi];exact qAi (by omega)
  ·rw[qAq hs,hA4,hA4];rfl
 rintro ys H2 ⟨rfl,rfl⟩ l1 hl1;rw[hA1,hA8 (hA5 _)];have n1:=Ext.new hl1 (.lst ((S.map fun s:Nat=>2^s.log2).map iV));refine⟨l1,(S.map fun s:Nat=>2^s.log2).map (fun n:Nat=>(n:Int)),rfl,SqL.of (by rw[upd_same,qDo]),?_⟩;rw[sum_cast];refine⟨hAw _,fun to to1=>?_⟩;have to0:=n1.none to1;have n2:=n1.trans (Ext.new to1 (.lst []));refine⟨_,rfl,(m:Int),rfl,by omega,by omega,?_⟩;refine qBh (lo:=0) (n:=((m:Int)).toNat) (fun i σ H'=>∃ (x4 x5:Option V),σ=[some (.ref p),some (iV m),some (iV (S.map fun s:Nat=>2^s.log2).sum),some (.ref to),x4,x5]/\Ext H2 H'/\LsN H' to (((List.range i).filter fun p=>!decide (isLd S p)).map (crM S))) ⟨none,none,rfl,n2,upd_same⟩ ?_ ?_
 ·rintro i σ H' hi ⟨x4,x5,rfl,e,ht⟩;have hi':i<m:=by omega
  refine⟨_,rfl,_,_,rfl,rfl,⟨by omega,by omega,by decide⟩,?_⟩;have bv:(fun i j:Int=>V.int (i*2^j.toNat)) 1 (0+(i:Int))=iV (2^i):=by
   show V.int (1*2^(0+(i:Int)).toNat)=_;rw[show(0+(i:Int))=(i:Nat) by omega,shl_nat]
  rw[bv];have sn:((List.range (i+1)).filter fun p=>!decide (isLd S p)).map (crM S)=((List.range i).filter fun p=>!decide (isLd S p)).map (crM S)++(if isLd S i then [] else [crM S i]):=by
   rw[hC6,hBo,hA4];congr 1;by_cases b:isLd S i
   ·simp[b]
   ·simp[b]
  have lb:=leads_bit rr i;refine⟨_,rfl,_,rfl,_,_,rfl,rfl,rfl,_,rfl,?_⟩;refine qCb (fun c=>?_) (fun c=>?_)
  ·have nl:¬isLd S i:=fun z=>by
    rw[decide_eq_true z]at lb;have ne:=(qFv _ i).mpr lb;have:Builtin.bitAnd (((S.map fun s:Nat=>2^s.log2).sum:Nat):Int) ((2^i:Nat):Int)=0:=by simpa using c
    rw[qCk]at this;omega
   refine⟨_,rfl,.inl ⟨rfl,_,SqL.of ht⟩,_,rfl,?_⟩;refine⟨_,rfl,p,rfl,⟨_,SqL.of (e _ _ hp)⟩,?_⟩;refine qA2 (xs:=S.map iV) (fun j ys H3=>H3=H'/\ys=(((S.take j).filter fun s:Nat=>s.testBit i).map fun s:Nat=>2^s.log2).map iV) ⟨rfl,rfl⟩ (fun j ys H3 _ h=>by rw[h.1];exact SqL.of (e _ _ hp)) ?_ ?_
   ·rintro j v ys H3 hx ⟨rfl,rfl⟩;obtain⟨s,rfl,hs⟩:=qCi hx;have hj:=qBc hs;have sm:=hAj hs;refine⟨Sle.set _ (Sle.refl _) (fun u z=>by cases z),_,rfl,_,rfl,_,_,rfl,rfl,rfl,_,rfl,?_⟩;have key:((!decide (V.int (Builtin.bitAnd (s:Int) ((2^i:Nat):Int))=V.int 0))=true)↔s.testBit i=true:=by
     rw[<-qFv s i,qCk];simp
    refine qCb (fun c3=>?_) (fun c3=>?_)
    ·have b:=key.mp c3;refine⟨_,rfl,s,rfl,rr.nz s sm,l24 s sm,?_,nxt (qBc hx) ⟨rfl,?_⟩⟩
     ·have:=hBy (fun s:Nat=>s.testBit i) (S.take j);rw[hAi]at this;rw[hA1,hA1];exact qAi (by omega)
     ·rw[qAq hs,hBo,hA4,hA4];simp[b]
    ·have b:¬s.testBit i=true:=fun z=>c3 (key.mpr z)
     refine nxt (qBc hx) ⟨rfl,?_⟩;rw[qAq hs,hBo];simp[b]
   ·rintro ys H3 ⟨rfl,rfl⟩ l2 hl2;rw[hA1,hA8 (hA5 _)];have n3:=Ext.new hl2 (.lst (((S.filter fun s:Nat=>s.testBit i).map fun s:Nat=>2^s.log2).map iV));refine⟨l2,((S.filter fun s:Nat=>s.testBit i).map fun s:Nat=>2^s.log2).map (fun n:Nat=>(n:Int)),rfl,SqL.of (by rw[upd_same,qDo]),?_⟩;rw[sum_cast];refine⟨_,_,rfl,rfl,to,_,_,rfl,rfl,n3 _ _ ht,?_,?_⟩
    ·have:=hBy (fun p=>!decide (isLd S p)) (List.range i);rw[hB4]at this;rw[hA1,hA1];exact qAi (by omega)
    ·refine⟨_,_,rfl,(e.trans n3).over to0 _,?_⟩;rw[sn,if_neg nl];unfold LsN;rw[upd_same,hA4];rfl
  ·have il:isLd S i:=Classical.byContradiction fun z=>by
    rw[decide_eq_false z]at lb;refine c ?_;have:(S.map fun s:Nat=>2^s.log2).sum&&&2^i=0:=Classical.byContradiction fun y=>by
     have:=(qFv _ i).mp y;rw[lb]at this;cases this
    show decide (V.int (Builtin.bitAnd (((S.map fun s:Nat=>2^s.log2).sum:Nat):Int) ((2^i:Nat):Int))=V.int 0)=true;rw[qCk,this];rfl
   refine⟨_,_,rfl,e,?_⟩;rw[sn,if_pos il,hBq];exact ht
 ·rintro σ H' ⟨x4,x5,rfl,e,ht⟩;rw[hB3]at ht;exact⟨_,rfl,q to _ e to0 ht⟩
theorem scTabF:FnScope ["names","masks"] ["names","masks"] (qAd sTabF):=⟨rfl,rfl,rfl,by decide +kernel,rfl,by decide +kernel,by decide +kernel⟩
theorem ok_tabF (F:Fun K "table_from" "table_from" sTabF f fd) (G1:Cl P w K mg base CX0 1 f1 fd1 ["names","mask"] spRowOf "row_of")
  (G2:Cl P w K mg base CX0 2 f2 fd2 ["masks"] spRedu "reduced") (mL:mg "list" = none):FnOk P w K mg base CX0 3 f fd ["names","masks"] spTabF:=by
 refine F.ok scTabF (fun vs H Q E h=>?_) (fun cdv A outer s H vs Q E hr h=>?_)
 ·obtain⟨pn,pm,names,ms,rfl,_⟩:=h;rfl
 obtain⟨pn,pm,names,ms,rfl,hn,ln,hm,lm,q⟩:=h;have hr1:=hr.mono (j:=1) (by decide);refine⟨_,qAf (qAs (qBk (qAa (qBf qBr rfl mL qBj (qAa (pv 0) qAb)) (qAa
  (qCp (N:=["names","masks"]) (sc:=qAd sTabF) (N':=["mask","names"]) (sub:=[none,some 0]) rfl rfl (CmpOk.of (by decide +kernel)) rfl (qA4 (qAv G2 hr rfl .nil qAw (qAa (pv 1) qAb)))
   (fun C s H fp=>⟨qAl (i:=0) (by show(["mask","names"]:List Str).Nodup;decide) rfl (Or.inl rfl),qA3,qAv G1 hr1 rfl .nil qAw (qAa (pv 1) (qAa (pv 0) qAb))⟩)) qAb)))),?_⟩
 refine⟨_,rfl,pn,_,rfl,.inl (SqL.of hn),fun l1 hl1=>?_⟩;have n1:=Ext.new hl1 (.lst (names.map V.str));refine⟨_,rfl,pm,ms,rfl,n1 _ _ hm,lm,fun r M H1 e1 r0 hM pM dM=>?_⟩;have E1:=n1.trans e1;have lM:M.length<=24:=by rw[pM.length_eq];exact hB7 (red_le ms) lm
 refine⟨r,rfl,⟨_,SqL.of hM⟩,?_⟩;refine qA2 (xs:=M.map iV) (fun j ys H2=>Ext H1 H2/\∃ as,ys=as.map V.ref/\Paired (fun a r=>LsS H2 a r/\H a=none) as ((M.take j).map (rowM names))) ⟨Ext.refl _,[],rfl,.nil⟩ (fun j ys H2 _ h=>SqL.of (h.1 _ _ hM)) ?_ ?_
 ·rintro j v ys H2 hx ⟨e2,as,rfl,pr⟩;obtain⟨x,rfl,hx'⟩:=qCi hx;have hj:=qBc hx';have la:as.length=_:=pr.length;rw[hA1,hAi]at la;refine⟨Sle.set _ (Sle.refl _) (fun u z=>by cases z),iteT (B:=False) ⟨_,rfl,_,rfl,pn,names,x,rfl,(E1.trans e2) _ _ hn,ln,fun r3 H3 e3 r30 h3=>⟨?_,nxt (qBc hx) ⟨e2.trans e3,as++[r3],by rw[hA4];rfl,?_⟩⟩⟩⟩
  ·rw[hA1];exact qAi (by omega)
  ·rw[qAq hx',hA4];exact Paired.snoc (Paired.mapP pr fun a t z=>⟨e3 _ _ z.1,z.2⟩) ⟨h3,(E1.trans e2).none r30⟩
 ·rintro ys H2 ⟨e2,as,rfl,pr⟩ b hb;rw[hA1,hA8 (hA5 _)]at pr;have E2:=E1.trans e2;have Xb:=Ext.new hb (.lst (as.map V.ref));refine⟨(by show 2<=sizeLine;decide),fun T hT=>?_⟩;have XT:=Xb.trans (Ext.new hT (.tup [V.ref l1,V.ref b]));refine q T M _ (E2.trans XT) ((E2.trans Xb).none hT) ⟨l1,b,upd_same,XT _ _ (e2 _ _ (e1 _ _ upd_same)),hl1,⟨as,(Ext.new hT _) _ _ upd_same,Paired.mapP pr fun a t z=>⟨XT _ _ z.1,z.2,qAj z.1 hb⟩⟩,E2.none hb⟩ pM dM
theorem scStepM:FnScope ["table","names","rows"] ["table"] (qAd qE9):=⟨rfl,rfl,rfl,by decide +kernel,rfl,by decide +kernel,by decide +kernel⟩
theorem ok_stepM (F:Fun K "step_masks" "step_masks" qE9 f fd) (G1:Cl P w K mg base CX0 1 f1 fd1 ["names","row"] spMask "mask_of")
  (G2:Cl P w K mg base CX0 2 f2 fd2 ["masks"] spRedu "reduced"):FnOk P w K mg base CX0 3 f fd ["table"] spStepM:=by
 refine F.ok scStepM (fun vs H Q E h=>?_) (fun cdv A outer s H vs Q E hr h=>?_)
 ·obtain⟨T,names,rows,rfl,_⟩:=h;rfl
 obtain⟨T,names,rows,rfl,⟨a,b,hT,ha,⟨as,hb,pr⟩⟩,lr,q⟩:=h;have hr1:=hr.mono (j:=1) (by decide);refine⟨_,qAc (qDy (pv 0) (qDz rfl (qA1 (qAl (i:=1) scStepM.nd rfl (Or.inr rfl)) (qA1 (qAl (i:=2) scStepM.nd rfl (Or.inl rfl)) qCy))))
  (qAf (qAs (qAv G2 hr rfl .nil qAw (qAa (qCp (N:=["table","names","rows"]) (sc:=qAd qE9) (N':=["row","names"]) (sub:=[none,some 1]) rfl rfl (CmpOk.of (by decide +kernel)) rfl (qA4 (pv 2))
   (fun C s H fp=>⟨qAl (i:=0) (by show(["row","names"]:List Str).Nodup;decide) rfl (Or.inl rfl),qA3,qAv G1 hr1 rfl .nil qAw (qAa (pv 1) (qAa (pv 0) qAb))⟩)) qAb)))),?_⟩
 have la:as.length=rows.length:=pr.length;refine⟨_,rfl,T,_,rfl,SqT.of hT,rfl,_,_,rfl,_,_,rfl,rfl,?_⟩;refine⟨_,rfl,b,rfl,⟨_,SqL.of hb⟩,?_⟩;refine qA2 (xs:=as.map V.ref) (fun j ys H2=>H2=H/\ys=((rows.take j).map (qBe names)).map iV) ⟨rfl,rfl⟩ (fun j ys H2 _ h=>by rw[h.1];exact SqL.of hb) ?_ ?_
 ·rintro j v ys H2 hx ⟨rfl,rfl⟩;obtain⟨c,rfl,hc⟩:=ref_get hx;obtain⟨rw1,hrw,hc1⟩:=qA6 pr hc;have hj:=qBc hrw;refine⟨Sle.set _ (Sle.refl _) (fun u z=>by cases z),iteT (B:=False) ⟨_,rfl,_,rfl,a,c,names,rw1,rfl,ha,hc1,?_,nxt (qBc hx) ⟨rfl,?_⟩⟩⟩
  ·rw[hA1,hA1,hAi];exact qAi (by omega)
  ·rw[qAq hrw,hA4,hA4];rfl
 ·rintro ys H2 ⟨rfl,rfl⟩ l hl;rw[hA1,la,hA8 (hA5 _)];have n1:=Ext.new hl (.lst ((rows.map (qBe names)).map iV));refine⟨l,_,rfl,upd_same,by rw[hA1];exact lr,fun r M H1 e1 r0 hM pM dM=>?_⟩;exact q r M H1 (n1.trans e1) (n1.none r0) hM pM dM
theorem scCross:FnScope ["table","names"] ["table"] (qAd qGa):=⟨rfl,rfl,rfl,by decide +kernel,rfl,by decide +kernel,by decide +kernel⟩
theorem ok_cross (F:Fun K "crossed" "crossed" qGa f fd) (G1:Cl P w K mg base CX0 3 f1 fd1 ["names","masks"] spTabF "table_from")
  (G2:Cl P w K mg base CX0 2 f2 fd2 ["steps","width"] spCrM "crossed_masks")
  (G3:Cl P w K mg base CX0 3 f3 fd3 ["table"] spStepM "step_masks") (ml:mg "len" = none):FnOk P w K mg base CX0 4 f fd ["table"] spCross:=by
 refine F.ok scCross (fun vs H Q E h=>?_) (fun cdv A outer s H vs Q E hr h=>?_)
 ·obtain⟨T,names,rows,rfl,_⟩:=h;rfl
 obtain⟨T,names,rows,rfl,ht,ln,lr,q⟩:=h;have hr2:=hr.mono (j:=2) (by decide);refine⟨_,qAc (qAm (i:=1) scCross.nd rfl (Or.inl rfl) (qA0 qBg (pv 0) qAe (fun _ _=>rfl)))
  (qAf (qAs (qAv G1 hr rfl .nil qAw (qAa (pv 1) (qAa (qAv G2 hr2 rfl .nil qAw (qAa (qAv G3 hr rfl .nil qAw (qAa (pv 0) qAb)) (qAa (qAg qAk rfl ml hAl (qAa (pv 1) qAb)) qAb))) qAb))))),?_⟩
 obtain⟨a,b,hT,ha,hb⟩:=id ht;refine⟨_,rfl,T,_,_,_,rfl,rfl,SqT.of hT,(by exact qAr (j:=0) rfl),?_⟩;refine⟨_,rfl,_,rfl,T,names,rows,rfl,ht,lr,fun r S H1 e1 r0 hS pS dS=>?_⟩;have rrS:RR S:=(qEm _).perm pS;have ltS:∀ s∈S,s<2^names.length:=fun s hs=>red_lt (fun x hx=>by
  obtain⟨rw1,_,rfl⟩:=hA3.mp hx;exact maskF_lt names rw1) s (pS.mem_iff.mp hs)
 have lS:S.length<=24:=by
  have:=red_le (rows.map (qBe names));rw[hA1]at this;rw[pS.length_eq];omega
 refine⟨_,rfl,a,_,rfl,.inl (SqL.of (e1 _ _ ha)),r,S,names.length,(by rw[hA1];rfl),hS,rrS,ltS,ln,lS,fun r2 H2 e2 r20 h2=>?_⟩;have lc:(crAll S names.length).length<=24:=by
  unfold crAll;rw[hA1];have:=hBy (fun p=>!decide (isLd S p)) (List.range names.length);rw[hB4]at this;omega
 have E2:=e1.trans e2;refine⟨a,r2,names,_,rfl,E2 _ _ ha,ln,h2,lc,fun T' M H3 e3 t0 tf pM dM=>?_⟩;exact q T' S M H3 (E2.trans e3) (E2.none t0) (tf.down E2) pS pM dM
end
end My
namespace My
open PySem L2
def ixF (ps:List Str) (x:Str):Nat:=ps.findIdx fun y=>decide (y=x)
theorem ixF_at {ps:List Str} {x:Str} (h:x∈ps):ps[ixF ps x]?=some x/\(∀ k,k<ixF ps x->ps[k]?≠some x)/\ixF ps x<ps.length:=by
 have lt:ixF ps x<ps.length:=List.findIdx_lt_length_of_exists ⟨x,h,by simp⟩;have at_:ps[ixF ps x]=x:=by
  have:=List.findIdx_getElem (w:=lt);exact of_decide_eq_true this
 refine⟨by rw[hA2 lt,at_],fun k hk e=>?_,lt⟩;have:=List.not_of_lt_findIdx hk;have kl:k<ps.length:=Nat.lt_trans hk lt;rw[hA2 kl]at e;have e':=hAa e;simp[e']at this
def vT (ps:List Str) (t:Tr):Nat:=2^ixF ps t.2.1^^^2^ixF ps t.2.2
def vF (net:List Tr) (ps:List Str) (i:Nat):Nat:=match net[i]? with | some t=>vT ps t | none=>0
end My
namespace My
open PySem L2
theorem redL1_snoc (k:List Nat) (s x:Nat):redL1 (k++[s]) x=rdL (redL1 k x) s:=by unfold redL1;rw[hCs];rfl
theorem redL_le (xs:List Nat):(redL xs).length<=xs.length:=by
 refine snocN (P:=fun xs=>(redL xs).length<=xs.length) (hA5 _) (fun l t ih=>?_) xs;rw[qFe,hAf];unfold redLS;split
 ·exact hB7 ih (hCi _ _)
 ·rw[hAf,hA1];exact Nat.add_le_add_right ih _
def qDh (H:Hp) (p:Addr) (K:List (Nat×Nat)):Prop:=∃ as:List Addr,H p=some (.lst (as.map V.ref))/\Paired (fun a f=>H a=some (.tup [iV f.1,iV f.2])) as K
def qCw (names:List Str) (x:Nat):List Str:=(List.range names.length).filterMap fun i=>if x.testBit i=true then names[i]? else none
def spLRow:Sp:=fun vs H Q _=>∃ (pn:Addr) (names:List Str) (x:Nat),vs=[.ref pn,iV x]/\LsS H pn names/\names.length<=12/\∀ r H',Ext H H'->H r=none->LsS H' r (qCw names x)->Q (.ref r) H'
end My
namespace My
open PySem L2
end My
namespace My
open PySem L2
abbrev nmS (net:List Tr):List Str:=net.map fun t=>t.1
theorem fm_congr {α β:Type} {f g:α->Option β}:∀ {l:List α},(∀ i∈l,f i=g i)->l.filterMap f=l.filterMap g
 | [],_=>rfl
 | a :: l,h=>by rw[hB0,hB0,h a hA9,fm_congr fun i hi=>h i (hA7 _ hi)]
def atX (x:Str) (t:Tr):Bool:=decide (t.2.1=x) ^^ decide (t.2.2=x)
theorem qE4 {m:Nat} {F:List Nat} (hF:∀ x∈F,x<2^m) (z:Nat):Spn (F.map (rv m)) z↔z<2^m/\Spn F (rv m z):=by
 constructor
 ·intro h;refine⟨Spn.lt (fun x hx=>?_) h,?_⟩
  ·obtain⟨y,_,rfl⟩:=hA3.mp hx;exact qFz m y
  ·induction h with
   | zero=>rw[qFc];exact .zero
   | add hm _ ih =>
    obtain⟨y,hy,rfl⟩:=hA3.mp hm;rw[rv_xor,qFy (hF y hy)];exact .add hy ih
 ·rintro⟨hz,h⟩;rw[<-qFy hz];generalize rv m z=y at h
  induction h with
  | zero=>rw[qFc];exact .zero
  | add hm _ ih=>rw[rv_xor];exact .add (hC3 hm) ih
theorem rowL_rv {names:List Str} (x:Nat):rowM names (rv names.length x)=qCw names x:=by
 unfold rowM qCw;have:∀ i∈List.range names.length,(if (rv names.length x).testBit (names.length - 1 - i)=true then names[i]? else none)=(if x.testBit i=true then names[i]? else none):=fun i hi=>by
  have hi':=hAn.mp hi;rw[qB0,decide_eq_true (by omega),hBn,show names.length - 1 - (names.length - 1 - i)=i by omega]
 exact fm_congr this
theorem rowM_head {names:List Str} {z:Nat} (nz:z≠0) (lt:z<2^names.length):∃ n rest,rowM names z=n :: rest/\names[names.length - 1 - z.log2]?=some n:=by
 have l:z.log2<names.length:=(Nat.log2_lt nz).mpr lt;have hi:names.length - 1 - z.log2<names.length:=by omega
 have sp:List.range names.length=List.range (names.length - 1 - z.log2)++((names.length - 1 - z.log2) :: (List.range z.log2).map fun k=>names.length - 1 - z.log2+1+k):=by
  have e:names.length=(names.length - 1 - z.log2)+(1+z.log2):=by omega
  conv=>lhs;rw[e]
  rw[List.range_add];congr 1;rw[Nat.add_comm 1 z.log2,List.range_succ_eq_map,hAu,hAs];congr 1;refine hBb fun k _=>?_
  show _+(k+1)=_;omega
 refine⟨names[names.length - 1 - z.log2],((List.range z.log2).map fun k=>names.length - 1 - z.log2+1+k).filterMap fun i=>if z.testBit (names.length - 1 - i)=true then names[i]? else none,?_,hA2 hi⟩;unfold rowM;rw[sp,hC5,hB0];have z1:(List.range (names.length - 1 - z.log2)).filterMap (fun i=>if z.testBit (names.length - 1 - i)=true then names[i]? else none)=[]:=by
  rw[List.filterMap_eq_nil_iff];intro i hi';have:=hAn.mp hi';rw[tb_above (by omega)];rfl
 rw[z1,show names.length - 1 - (names.length - 1 - z.log2)=z.log2 by omega,hCu nz,if_pos rfl,hA2 hi];rfl
theorem rise_get {l:List Str} (h:qE2 l) {i j:Nat} {a b:Str} (hij:i<j) (ha:l[i]?=some a) (hb:l[j]?=some b):sLtB a b=true:=by
 obtain⟨hi,rfl⟩:=hAo.mp ha;obtain⟨hj,rfl⟩:=hAo.mp hb;exact(List.pairwise_iff_getElem.mp h) i j hi hj hij
theorem rows_srt {names:List Str} (rn:qE2 names) {M:List Nat} (rr:RR M) (lt:∀ z∈M,z<2^names.length) (d:M.Pairwise fun a b=>b<=a):Srt (M.map (rowM names)):=by
 rw[Srt,hBf];have nd:=rr.nd;refine hBi (fun {a b} ha hb r=>?_) (List.Pairwise.and d nd);obtain⟨le,ne⟩:=r;obtain⟨n1,r1,e1,g1⟩:=rowM_head (rr.nz a ha) (lt a ha);obtain⟨n2,r2,e2,g2⟩:=rowM_head (rr.nz b hb) (lt b hb);have ll:b.log2<a.log2:=by
  have l1:b.log2<=a.log2:=by
   rcases hCp a.log2 b.log2 with q | q
   ·have h1:a<2^b.log2:=hAh hC9 (hC1 (by decide) q);have h2:=Nat.log2_self_le (rr.nz b hb);omega
   ·exact q
  rcases hCp b.log2 a.log2 with q | q
  ·exact q
  ·have e:a.log2=b.log2:=by omega
   have h1:=rr.ne ha hb ne;rw[<-e,rr.self ha]at h1;cases h1
 have la:a.log2<names.length:=(Nat.log2_lt (rr.nz a ha)).mpr (lt a ha);have s:=rise_get rn (by omega) g1 g2;rw[e1,e2];unfold ltL;have n12:¬n2=n1:=fun z=>by rw[z,sLtB_irr]at s;cases s
 rw[if_neg n12];cases q:sLtB n2 n1 with
 | false=>rfl
 | true=>have:=qEc s q;rw[sLtB_irr]at this;cases this
structure Made (net:List Tr) (ps ps':List Str) (S M:List Nat) (K:List (Nat×Nat)) (F:List Nat):Prop where
 rs:qE2 (nmS net)
 pk:PtsOk net ps
 pk':PtsOk net ps'
 pS:S.Perm (red (ps.map fun x=>qBe (nmS net) (metF net x)))
 pM:M.Perm (red (crAll S net.length))
 dM:M.Pairwise fun a b=>b<=a
 ei:EIv (vF net ps') net.length net.length K F
 kw:K.length=(woodF net).length
theorem riseNd {l:List Str} (h:qE2 l):l.Nodup:=List.Pairwise.imp (fun {a b} z e=>by rw[e,sLtB_irr]at z;cases z) h
end My
namespace My
open PySem L2
theorem eqv_rows':∀ a b:List (List Str),PyData.eqvAll (a.map qEd) (b.map qEd)=decide (a=b)
 | [],[]=>rfl
 | [],_ :: _=>rfl
 | _ :: _,[]=>rfl
 | x :: a,y :: b=>by
  show(PyData.eqv (qEd x) (qEd y) && PyData.eqvAll (a.map qEd) (b.map qEd))=_;rw[eqv_rows' a b,eqv_row];by_cases e:x=y
  ·subst e;simp
  ·simp[e]
theorem eqv_rows (a b:List (List Str)):PyData.eqv (rowsD a) (rowsD b)=decide (a=b):=eqv_rows' a b
theorem lay_rows:∀ {F:List (List Str)},(∀ r∈F,SOk r)->PyData.canLayAll0 (F.map qEd)=true/\PyData.depthAll (F.map qEd)<=1
 | [],_=>⟨rfl,by decide⟩
 | x :: r,h=>by
  obtain⟨h1,h2⟩:=lay_rows (F:=r) fun y hy=>h y (hA7 _ hy)
  obtain⟨h3,h4⟩:=qE0 (h x hA9);refine⟨?_,?_⟩
  ·show(PyData.canLayAll0 (x.map .str) && PyData.canLayAll0 (r.map qEd))=true;rw[h1,h3];rfl
  ·show max (PyData.depthAll (x.map .str)+1) (PyData.depthAll (r.map qEd))<=1;rw[h4];omega
theorem qE6 {F:List (List Str)} (h:∀ r∈F,SOk r):SeqAt.shaped (rowsD F)=true:=by
 obtain⟨h3,h4⟩:=lay_rows h;show(PyData.canLayAll0 (F.map qEd) && decide (PyData.depthAll (F.map qEd)+1<=64))=true;rw[h3,decide_eq_true (by omega)];rfl
theorem dr_rows' {K:PySem.W.Frag} {H:Hp}:∀ {as:List Addr} {F:List (List Str)},Paired (LsS H) as F->DRs K H (as.map V.ref) (F.map qEd)
 | _,_,.nil=>.nil
 | _,_,.cons h t=>.cons (qGo h) (dr_rows' t)
theorem dr_rows {K:PySem.W.Frag} {H:Hp} {p:Addr} {F:List (List Str)} (h:qGq H p F):DR K H (.ref p) (rowsD F):=by
 obtain⟨as,h1,h2⟩:=h;exact .lst (SqL.of h1) (dr_rows' h2)
def tabD (names:List Str) (rows:List (List Str)):PyData:=.tuple [qEd names,rowsD rows]
theorem eqv_tab (names:List Str) (rows:List (List Str)):PyData.eqv (tabD names rows) (tabD names rows)=true:=by
 show(PyData.eqv (qEd names) (qEd names) && (PyData.eqv (rowsD rows) (rowsD rows) && true))=true;rw[eqv_row,eqv_rows,decide_eq_true rfl,decide_eq_true rfl];rfl
theorem qF8 {names:List Str} {rows:List (List Str)} (h1:SOk names) (h2:∀ r∈rows,SOk r):SeqAt.shaped (tabD names rows)=true:=by
 obtain⟨a1,a2⟩:=qE0 h1;obtain⟨b1,b2⟩:=lay_rows h2;show((PyData.canLayAll0 (names.map .str) && (PyData.canLayAll0 (rows.map qEd) && true)) && decide (max (PyData.depthAll (names.map .str)+1) (max (PyData.depthAll (rows.map qEd)+1) 0)+1<=64))=true;rw[a1,b1,a2,decide_eq_true (by omega)];rfl
theorem dr_tab {K:PySem.W.Frag} {H:Hp} {T:Addr} {names:List Str} {rows:List (List Str)} (h:qDq H T names rows):DR K H (.ref T) (tabD names rows):=by
 obtain⟨a,b,h1,h2,h3⟩:=h;exact .tup (SqT.of h1) (.cons (qGo h2) (.cons (dr_rows h3) .nil))
end My
namespace My
open PySem L2
theorem idx_one {names:List Str} (nd:names.Nodup) {i j:Nat} {n:Str} (hi:names[i]?=some n) (hj:names[j]?=some n):i=j :=
 (List.getElem?_inj (hAo.mp hi).1 nd).mp (hi.trans hj.symm)
structure Tb (net:List Tr) (ps:List Str) (S M:List Nat):Prop where
 rs:qE2 (nmS net)
 pk:PtsOk net ps
 pS:S.Perm (red (ps.map fun x=>qBe (nmS net) (metF net x)))
 pM:M.Perm (red (crAll S net.length))
 dM:M.Pairwise fun a b=>b<=a
theorem desc_uniq:∀ {a b:List Nat},a.Pairwise (fun x y=>y<=x)->b.Pairwise (fun x y=>y<=x)->a.Perm b->a=b
 | [],b,_,_,p=>(List.nil_perm.mp p).symm▸rfl
 | x :: a,[],_,_,p=>by have:=p.length_eq;simp at this
 | x :: a,y :: b,ha,hb,p=>by
  obtain⟨a1,a2⟩:=hBm.mp ha;obtain⟨b1,b2⟩:=hBm.mp hb;have e:x=y:=by
   rcases hAc.mp (p.mem_iff.mp hA9) with z | z
   ·exact z
   ·rcases hAc.mp (p.mem_iff.mpr hA9) with w' | w'
    ·exact w'.symm
    ·have h1:=b1 x z;have h2:=a1 y w';omega
  subst e;rw[desc_uniq a2 b2 ((List.perm_cons _).mp p)]
end My
namespace My
open PySem L2
def kap (p:Tr) (e:Str):Str:=if e=p.2.2 then p.2.1 else e
structure CnR (p t t':Tr):Prop where
 nm:t'.1=t.1
 at_:∀ x,atX x t'=(decide (kap p t.2.1=x) ^^ decide (kap p t.2.2=x))
end My
namespace My
open PySem L2
section
variable {P:Program} {w:World} {K:PySem.W.Frag} {mg:Str->Option Value} {base:Heap} {f f1 f2 f3 f4 f5:Addr} {fd fd1 fd2 fd3 fd4 fd5:FuncData}
theorem turns_ints {ms:List Nat} {Q:List V->Hp->Prop} {H1:Hp} {σ0:St} {g:TG} {tt:TT} {te:TE} {p:Addr} (pr:Nat->Bool) (h:Nat->Nat) (hp:LsN H1 p ms) (ln:ms.length<=24)
  (hs:∀ z∈ms,∀ (C:V->Hp->Prop) (B:Hp->Prop),(pr z=true->C (iV (h z)) H1)->(pr z=false->B H1)->g (iV z) σ0 H1 fun σ2 H2=>Sle σ0 σ2/\tt σ2 H2 fun b H3=>if b=true then te σ2 H3 C else B H3)
  (hd:Q (((ms.filter pr).map h).map iV) H1):qCu (Itl K p) σ0 g tt te Q H1:=by
 refine qA2 (xs:=ms.map iV) (fun j ys H2=>H2=H1/\ys=(((ms.take j).filter pr).map h).map iV) ⟨rfl,rfl⟩ (fun j ys H2 _ h=>by rw[h.1];exact SqL.of hp) ?_ ?_
 ·rintro j x ys H2 hx ⟨rfl,rfl⟩;obtain⟨z,rfl,hz⟩:=qCi hx;have hj:=qBc hz;have sz:=hBy pr (ms.take j);rw[hAi]at sz;refine hs z (hAj hz) _ _ (fun b=>⟨?_,nxt (qBc hx) ⟨rfl,?_⟩⟩) (fun b=>nxt (qBc hx) ⟨rfl,?_⟩)
  ·rw[hA1,hA1];exact qAi (by omega)
  ·rw[qAq hz,hBo,hA4,hA4];simp[b]
  ·rw[qAq hz,hBo];simp[b]
 ·rintro ys H2 ⟨rfl,rfl⟩;rw[hA1,hA8 (hA5 _)];exact hd
end
end My
namespace L2
open PySem PySem.Spec PyProof.Rows
end L2
namespace My
open PySem L2
end My
namespace My
open PySem L2
def maskL (names row:List Str):Nat:=(row.map fun n=>2^ixF names n).sum
theorem ix_get {names:List Str} (nd:names.Nodup) {i:Nat} {n:Str} (h:names[i]?=some n):ixF names n=i:=idx_one nd (ixF_at (hAj h)).1 h
theorem qEz {names:List Str} {z:Nat} {n:Str}:n∈qCw names z↔∃ i,i<names.length/\names[i]?=some n/\z.testBit i=true:=by
 unfold qCw;rw[hCa];constructor
 ·rintro⟨i,hi,e⟩;split at e
  ·rename_i b;exact⟨i,hAn.mp hi,e,b⟩
  ·cases e
 ·rintro⟨i,hi,e,b⟩;exact⟨i,hAn.mpr hi,by rw[if_pos b];exact e⟩
theorem rowL_nd {names:List Str} (nd:names.Nodup) (x:Nat):(qCw names x).Nodup:=by
 rw[<-rowL_rv];have:(rowM names (rv names.length x)).Nodup:=by
  unfold rowM;have h:∀ l:List Nat,l.Nodup->(l.filterMap fun i=>if (rv names.length x).testBit (names.length - 1 - i)=true then names[i]? else none).Nodup:=fun l=>by
   induction l with
   | nil=>intro _;exact List.nodup_nil
   | cons a l ih =>
    intro hn;obtain⟨h1,h2⟩:=hBh.mp hn;rw[hB0];split
    ·exact ih h2
    ·rename_i b e;refine hBh.mpr ⟨fun m=>?_,ih h2⟩;obtain⟨c,hc,ec⟩:=hCa.mp m;split at e
     ·split at ec
      ·have:=idx_one nd e ec;subst this;exact h1 hc
      ·cases ec
     ·cases e
  exact h _ List.nodup_range
 exact this
theorem maskL_bit {names:List Str} (nd:names.Nodup) {row:List Str} (rn:row.Nodup) (sub:∀ n∈row,n∈names) (j:Nat):(maskL names row).testBit j=decide (∃ n∈row,ixF names n=j):=by
 unfold maskL;have e:(row.map fun n=>2^ixF names n)=(row.map (ixF names)).map fun l=>2^l:=by rw[hAs];rfl
 have nd2:(row.map (ixF names)).Nodup:=by
  rw[List.Nodup,hBf];refine hBi (fun {a b} ha hb ne q=>ne ?_) rn;have h1:=(ixF_at (sub a ha)).1;have h2:=(ixF_at (sub b hb)).1;rw[q,h2]at h1;exact(hAa h1).symm
 rw[e,qDi _ nd2];refine decide_eq_decide.mpr ?_;rw[hA3]
theorem maskL_rv {names:List Str} (nd:names.Nodup) {row:List Str} (rn:row.Nodup) (sub:∀ n∈row,n∈names):maskL names row<2^names.length/\rv names.length (maskL names row)=qBe names row:=by
 refine⟨hBu _ fun i hi=>?_,hB8 fun j=>?_⟩
 ·rw[maskL_bit nd rn sub];refine decide_eq_false ?_;rintro⟨n,hn,e⟩;have:=(ixF_at (sub n hn)).2.2;omega
 ·rw[qB0,qFl,maskL_bit nd rn sub];by_cases hj:j<names.length
  ·rw[decide_eq_true hj,hBn,hBn];refine decide_eq_decide.mpr ⟨fun ⟨n,hn,e⟩=>⟨n,by rw[<-e];exact(ixF_at (sub n hn)).1,hn⟩,fun ⟨n,h1,h2⟩=>⟨n,h2,ix_get nd h1⟩⟩
  ·rw[decide_eq_false hj];rfl
theorem qB2 {m:Nat} {F:List Nat} (hF:∀ x∈F,x<2^m) {z:Nat} (hz:z<2^m):Spn (F.map (rv m)) (rv m z)↔Spn F z:=by
 rw[qE4 hF,qFy hz];exact⟨fun h=>h.2,fun h=>⟨qFz _ _,h⟩⟩
structure TabOk (names:List Str) (rows:List (List Str)):Prop where
 rn:qE2 names
 ok:SOk names
 ln:names.length<=12
 lr:rows.length<=16
 rw:∀ r∈rows,∃ x,r=qCw names x
section
variable {names:List Str} {rows:List (List Str)}
theorem told_rows {rest:List Str} (rn:qE2 rest) {xs M W:List Nat} {rows':List (List Str)} (pM:M.Perm (red xs)) (dM:M.Pairwise fun a b=>b<=a) (xl:∀ x∈xs,x<2^rest.length) (wl:∀ x∈W,x<2^rest.length) (sp:∀ y,Spn xs y↔Spn (W.map (rv rest.length)) y)
  (s:Srt rows') (p:rows'.Perm ((redL W).map (qCw rest))):rows'=M.map (rowM rest):=by
 have rrM:RR M:=(qEm _).perm pM;have ltM:∀ z∈M,z<2^rest.length:=fun z hz=>red_lt xl z (pM.mem_iff.mp hz)
 refine srt_uniq s (rows_srt rn rrM ltM dM) (p.trans ?_);obtain⟨_,e⟩:=qC5 (m:=rest.length) W wl;have r1:=qEm xs;have r2:=qEm (W.map (rv rest.length));have sp':∀ y,Spn (red xs) y↔Spn (red (W.map (rv rest.length))) y:=fun y=>by rw[qDl,qDl,sp]
 have pp:M.Perm ((redL W).map (rv rest.length)):=by
  rw[e];exact pM.trans ((List.perm_ext_iff_of_nodup r1.nd r2.nd).mpr fun z=>⟨rr_uniq r1 r2 sp' z,rr_uniq r2 r1 (fun y=>(sp' y).symm) z⟩)
 have q:=(pp.map (rowM rest)).symm;rw[hAs]at q;have e2:(redL W).map (rowM rest∘rv rest.length)=(redL W).map (qCw rest):=hBb fun x _=>rowL_rv x
 rw[e2]at q;exact q
end
end My
namespace L2
open PySem PySem.Spec PyProof.Rows
section
variable {X:Cx}
def rInsert:V->List V->Hp->VK->Prop:=fun x vs H Q=>∃ (l:Addr) (xs:List V) (i:Nat) (y:V),x = .ref l/\vs=[.int (i:Int),y]/\H l=some (.lst xs)/\i<=xs.length/\xs.length<1000/\Q .non (upd H l (.lst (xs.take i++y :: xs.drop i)))
theorem qA5.takeL:∀ {xs:List V} {us:List Value} (i:Nat),qA5 xs us->qA5 (xs.take i) (us.take i)
 | _,_,0,_=>.nil
 | _,_,_+1,.nil=>.nil
 | _,_,i+1,.cons r t=>.cons r (qA5.takeL i t)
theorem qA5.dropL:∀ {xs:List V} {us:List Value} (i:Nat),qA5 xs us->qA5 (xs.drop i) (us.drop i)
 | _,_,0,h=>h
 | _,_,_+1,.nil=>.nil
 | _,_,i+1,.cons _ t=>qA5.dropL i t
theorem mt_insert:MtM X "list.insert" rInsert:=by
 intro pins s σ H x vs v us Q I rx rv h;obtain⟨l,xs,i,y,rfl,rfl,hH,hi,hz,q⟩:=h;cases rx;obtain⟨u,w',rfl,r1,r2⟩:=vals2 rv;obtain⟨t,rfl⟩:=r1;obtain⟨z,its,n,r,hl,e⟩:=I.lstM hH;have fi:¬(!Builtin.List.listFitsIndex (i:Int))=true:=by
  rw[fitsIndex_both (by omega) (by omega)];exact hAm
 have zz:its.toArray.size<=sizeLine:=by rw[hAe,<-hl];exact z
 obtain⟨k,hk⟩:∃ k:Int,k=(i:Int):=⟨_,rfl⟩;rw[<-hk]at fi ⊢;have M:=AutoListH.list_insert_list_int_val_1 l its.toArray n k t w' fi zz;refine call_meets F.slot_list_insert ⟨_,e,rfl⟩ F.entry_list_insert (F.args_list_insert_3 _ _ _) M ⟨e,?_⟩;refine⟨.non,_,I.lset (its':=its.take i++w' :: its.drop i) hH e ?_ (qA5.append (qA5.takeL i r) (.cons r2 (qA5.dropL i r))) ?_,rfl,q⟩
 ·have k':(if k<0 then (k+((its.toArray.size:Nat):Int)).toNat else min k.toNat its.toArray.size)=i:=by
   rw[hk,if_neg (by omega),hB3,hAe];omega
  dsimp only;rw[k'];apply Array.ext';simp;rw[hA8 (by rw[hCh];exact hA5 _)]
 ·rw[hAf,hBd,hAi,hCh];exact hB2 (qAi (by omega))
end
end L2
namespace My
open PySem L2
theorem cut_to (xs:List V) (p:Nat):cutV xs none (some (p:Int))=xs.take p:=by
 unfold cutV;rw[HT.sIx_nat,HT.sIx_none,List.drop_zero,Nat.sub_zero];rcases Nat.le_total p xs.length with h | h
 ·rw[Nat.min_eq_left h]
 ·rw[Nat.min_eq_right h,hA8 (hA5 _),hA8 h]
def spLCop:Sp:=fun vs H Q _=>∃ (T:Addr) (names:List Str) (rows:List (List Str)),vs=[.ref T]/\qDq H T names rows/\rows.length<=24/\∀ T' H',Ext H H'->H T'=none->qDq H' T' names rows->Q (.ref T') H'
def rLst (K:PySem.W.Frag):List V->Hp->VK->Prop:=fun xs H Q=>∃ p ys,xs=[.ref p]/\(SqL K H p ys\/SqT K H p ys)/\∀ l,H l=none->Q (.ref l) (upd H l (.lst ys))
section
variable {P:Program} {w:World} {K:PySem.W.Frag} {mg:Str->Option Value} {base:Heap} {f f1 f2 f3 f4 f5:Addr} {fd fd1 fd2 fd3 fd4 fd5:FuncData}
theorem scLCop:FnScope ["_law_table_here"] ["_law_table_here"] (qAd sLCop):=⟨rfl,rfl,rfl,by decide +kernel,rfl,by decide +kernel,by decide +kernel⟩
theorem ok_lcop (F:Fun K "_law_copy" "_law_copy" sLCop f fd) (mL:mg "list" = none):FnOk P w K mg base CX0 1 f fd ["_law_table_here"] spLCop:=by
 refine F.ok scLCop (fun vs H Q E h=>?_) (fun cdv A outer s H vs Q E hr h=>?_)
 ·obtain⟨T,names,rows,rfl,_⟩:=h;rfl
 obtain⟨T,names,rows,rfl,ti,lr,q⟩:=h;refine⟨_,qAf (qAs (qBk (qAa (qBf qBr rfl mL qBj (qAa (qA0 qBg (pv 0) qAe (fun _ _=>rfl)) qAb))
  (qAa (qCp (N:=["_law_table_here"]) (sc:=qAd sLCop) (N':=["_law_row_here"]) (sub:=[none]) rfl rfl (CmpOk.of (by decide +kernel)) rfl (qA4 (qA0 qBg (pv 0) qAe (fun _ _=>rfl)))
   (fun C s H fp=>⟨qAl (i:=0) (by show(["_law_row_here"]:List Str).Nodup;decide) rfl (Or.inl rfl),qA3,qBf (show qCr _ (.type "list") (rLst K) from qBr) rfl mL qBj (qAa (pv 0) qAb)⟩)) qAb)))),?_⟩
 obtain⟨tA,tB,hT,htA,⟨cs,htB,pcs⟩⟩:=id ti;have lcs:cs.length=rows.length:=pcs.length;refine⟨_,rfl,T,_,_,_,rfl,rfl,SqT.of hT,(by exact qAr (j:=0) rfl),tA,_,rfl,.inl (SqL.of htA),fun l1 hl1=>?_⟩;have N0:=Ext.new hl1 (.lst (names.map V.str));refine⟨_,rfl,T,_,_,_,rfl,rfl,SqT.of (N0 _ _ hT),(by exact qAr (j:=1) rfl),tB,rfl,⟨_,SqL.of (N0 _ _ htB)⟩,?_⟩;refine qA2 (xs:=cs.map V.ref) (fun j ys Hd=>Ext (upd H l1 (.lst (names.map V.str))) Hd/\∃ ds,ys=ds.map V.ref/\Paired (LsS Hd) ds (rows.take j)) ⟨Ext.refl _,[],rfl,.nil⟩ (fun j ys Hd _ h=>SqL.of (h.1 _ _ (N0 _ _ htB))) ?_ ?_
 ·rintro j v ys Hd hx ⟨ed,ds,rfl,pd⟩;obtain⟨c,rfl,hc⟩:=ref_get hx;obtain⟨rw1,hrw,hc1⟩:=qA6 pcs hc;have hj:=qBc hrw;have ld:ds.length=_:=pd.length;rw[hAi]at ld;refine⟨Sle.set _ (Sle.refl _) (fun u z=>by cases z),iteT (B:=False) ⟨_,rfl,c,_,rfl,.inl (SqL.of (ed _ _ (N0 _ _ hc1))),fun l hl=>⟨?_,nxt (qBc hx) ⟨ed.trans (Ext.new hl _),ds++[l],by rw[hA4];rfl,?_⟩⟩⟩⟩
  ·rw[hA1];exact qAi (by omega)
  ·rw[qAq hrw];exact Paired.snoc (Paired.mapP pd fun a t z=>(Ext.new hl _) _ _ z) upd_same
 rintro ys Hd ⟨ed,ds,rfl,pd⟩ bb hbb;rw[hA1,lcs,hA8 (hA5 _)]at pd;have XB:=Ext.new hbb (.lst (ds.map V.ref));refine⟨(by show 2<=sizeLine;decide),fun TT hTT=>?_⟩;have XT:=Ext.new hTT (.tup [V.ref l1,V.ref bb]);have NE:=N0.trans (ed.trans (XB.trans XT));exact q TT _ NE (((N0.trans ed).trans XB).none hTT) ⟨l1,bb,upd_same,(ed.trans (XB.trans XT)) _ _ upd_same,⟨ds,XT _ _ upd_same,Paired.mapP pd fun a t z=>(XB.trans XT) _ _ z⟩⟩
end
end My
namespace L2
open PySem PySem.Spec PyProof.Rows PySem.SeqAt PySem.MeetsSeq
end L2
namespace L2
open PySem PySem.Spec PyProof.Rows
section
variable {X:Cx} {k:Nat} {f:Addr} {fd:FuncData} {ps:List Str} {sp:Sp} {E:XK}
theorem run_fn2 (F:FnOk X.prog X.w X.K X.mg X.base CX0 k f fd ps sp) (hr:Room (k+2) X.A) (hb:Binds X.K fd ps [])
  (I:Inv X pins σ H s) (r:qA5 vs us) (h:sp vs H Q E):wpAny (model X.prog X.w) X.A.in1.in1 (call (.ref f) us) (EP X pins σ Q) E' s:=by
 have hl:(us++[]).length=ps.length:=by rw[hBq,<-r.length];exact F.len _ _ _ _ h
 have hb':=hb s us I.kIn hl;rw[hBq]at hb';refine wpAny_call (codeAny_mono (F.run X.A.in1.in1 X.stack s H ⟨us,[]⟩ us vs Q E (Room.in1 (Room.in1 hr)) I.env0.in1.in1 hb' r h) fun r s' hq=>?_);cases r with
 | error e=>exact False.elim hq
 | ok fl =>
  cases fl with
  | ret u=>exact I.after hq
  | next=>exact False.elim hq
  | brk=>exact False.elim hq
  | cont=>exact False.elim hq
structure Aw (X:Cx) (pins:List (Addr×Obj)) (a:Addr):Prop where
 loc:a≠X.env.locals
 ab:X.s₀.heap.objs.size<=a
 cel:∀ x c,X.env.cells.lookup x=some c->c≠a
 pin:∀ p∈X.pn++pins,p.1≠a
 fs:a∉X.fs
theorem Inv.aw (I:Inv X pins σ H s) (h:s.heap.objs.size<=a):Aw X pins a:=by
 refine⟨hCz (hAh I.lt h),hB7 I.sz h,fun x c e=>?_,fun p hp=>?_,I.nofs h⟩
 ·obtain⟨v,o,ho,_⟩:=I.cell x c e;exact hAp (hAh (Heap.lt_size ho) h)
 ·exact hAp (hAh (Heap.lt_size (I.pin p hp).1) h)
theorem Inv.adoptL (I:Inv X pins σ H s) (w:Aw X pins a) (hn:H a=none) (hv:qA5 ys its) (hz:ys.length<=sizeLine)
  (e:s.heap.get? a=some { cls:=.type "list",data:=.seq its.toArray n }):Inv X pins σ (upd H a (.lst ys)) s:=by
 refine⟨I.ok,I.os,I.bare,⟨I.base.keep,I.base.slot,fun b o q n' hx=>?_,I.base.there,fun b xs q=>?_,fun b o u q=>?_,fun b ps q=>?_⟩,I.loc,I.cell,?_,fun x c q=>?_,fun p hp=>?_,fun b u q=>?_,I.len⟩
 ·rw[qAh (hAp (hAh (Heap.lt_size q) w.ab))];exact I.base.free b o q n' hx
 ·have:=I.base.tups b xs q;rw[qAh (qAj this hn)];exact this
 ·have:=I.base.frzs b o u q;rw[qAh (qAj this hn)];exact this
 ·obtain⟨m,this⟩:=I.base.tbls b ps q;exact⟨m,by rw[qAh (qAj this hn)];exact this⟩
 ·rw[qAh (Ne.symm w.loc)];exact I.free
 ·rw[qAh (w.cel x c q)];exact I.freeC x c q
 ·obtain⟨h1,h2,h3⟩:=I.pin p hp;exact⟨h1,by rw[qAh (w.pin p hp)];exact h2,h3⟩
 ·by_cases hb:b=a
  ·subst hb;rw[upd_same]at q;cases q;exact⟨hz,its,n,hv,e⟩
  ·rw[qAh hb]at q;exact(I.hok b u q).stay (fun c v _ r=>r) (fun c r=>by rw[qAh (qAj r hn)];exact r) fun c xs r=>by rw[qAh (qAj r hn)];exact r
theorem Inv.repinL (f:Array Value->Array Value) (I:Inv X pins σ H s) (w:Aw X pins a) (hn:H a=none) (e:s.heap.get? a=some (seqObj "list" its n)) :
  ∃ n',Inv X pins σ H { s with heap:=s.heap.update a (Obj.mapSeq f) }/\(s.heap.update a (Obj.mapSeq f)).get? a=some (seqObj "list" (f its) n'):=by
 obtain⟨c,hc⟩:∃ c,(s.heap.update a (Obj.mapSeq f)).get? a=some (seqObj "list" (f its) c):=⟨_,get?_update_seq e f⟩;refine⟨c,?_,hc⟩;exact I.turned (t':=s.toks) (it:=a) (fun b o hb q=>(Heap.get?_update_other s.heap _ (Ne.symm hb)).trans q) hn w.loc (.inr w.ab) w.cel w.pin
theorem Inv.pinL (I:Inv X pins σ H s) (w:Aw X pins a) (hn:H a=none) (e:s.heap.get? a=some (seqObj "list" its n)) :
  Inv X ((a,seqObj "list" its n) :: pins) σ H s:=I.pins_of fun p hp=>by
 rcases hAc.mp hp with rfl | hp
 ·exact⟨e,hn,w.loc,w.fs,fun v q=>by cases q⟩
 ·exact I.pin p (hA6 _ hp)
theorem Inv.unpin (I:Inv X (q :: pins) σ H s):Inv X pins σ H s:=I.pins_of fun p hp=>I.pin p (hA6 _ (hA7 _ hp))
theorem Aw.cons {pins:List (Addr×Obj)} {a b:Addr} {o:Obj} (w:Aw X pins a) (h:b≠a):Aw X ((b,o) :: pins) a:=⟨w.loc,w.ab,w.cel,fun p hp=>by
 rcases hAr.mp hp with q | q
 ·exact w.pin p (hAz _ q)
 ·rcases hAc.mp q with rfl | q
  ·exact h
  ·exact w.pin p (hA6 _ q),w.fs⟩
theorem sk_end
  (I:Inv X ((kS,seqObj "list" keys.toArray en) :: (a,seqObj "list" #[] e1) :: pins) σ H s) (hk:kS≠a) (Hk:H kS=none) (Ha:H a=none) (wa:Aw X pins a) (wk:Aw X pins kS)
  (hz:IntsAre keys kz) (hv:IntsAre vs ns) (hg:kz=ns.map g) (h64:ns.length<64)
  (h:∀ (s':Shared) (ns':List Int),ns'.Perm ns->ns'.Pairwise (fun x y=>g x<=g y)->Inv X pins σ (upd H a (.lst (ns'.map V.int))) s'->P (.done (.ret .none)) s') :
  wpAny (model X.prog X.w) A (ksk_end a false vs.toArray e1 (.ref kS) keys.toArray) P E' s:=by
 have lv:=hv.length;have lk:=hz.length;have lg:kz.length=ns.length:=by rw[hg,hA1]
 have hsz:keys.toArray.size=vs.length:=by rw[hAe];omega
 have hzs:(keys.toArray.zip vs.toArray).size=vs.length:=by rw[Array.size_zip,hsz,hAe,Nat.min_self]
 have hz':IntsAre keys.toArray.toList kz:=by simpa using hz
 have ok:s.heap.get? kS=some (seqObj "list" keys.toArray en):=(I.pin (kS,_) (hA6 _ (.head _))).1;have fin:∀ st:SortSt,(arrOf st).Perm (keys.toArray.zip vs.toArray)->SortedTo (arrOf st) (arrOf st).size->failedOf st=none->wpAny (model X.prog X.w) A (ksk_tail a false e1 (.ref kS) st) P E' s:=by
  intro st hp hs hf;have hsz2:(arrOf st).size=vs.length:=by rw[hp.size_eq,hzs]
  obtain⟨ps,h1,h2,h3⟩:=ksk_out (b:=false) hz' hp hs;obtain⟨n1,I1,_⟩:=Inv.repinL (fun _=>(#[]:Array Value)) I.unpin (wk.cons (Ne.symm hk)) Hk ok;have oa1:(s.heap.update kS (Obj.mapSeq fun _=>(#[]:Array Value))).get? a=some (seqObj "list" #[] e1):=(I1.pin (a,_) (hA6 _ (.head _))).1;obtain⟨n2,I2,oa2⟩:=Inv.repinL (s:={ s with heap:=s.heap.update kS (Obj.mapSeq fun _=>(#[]:Array Value)) }) (fun _=>(arrOf st).map (·.2)) I1.unpin wa Ha oa1;unfold ksk_tail;try dsimp only
  refine wpAny_bind (listUpdate_at ok rfl ?_ (by rw[hsz,sizeLine_eq];omega) (hAw _));refine wpAny_bind (wpAny_letGo ?_);refine wpAny_bind (seqEpoch_at oa1 rfl ?_);refine wpAny_bind (listUpdate_at oa1 rfl ?_ (hAw _) (by simp only[Bool.false_eq_true,if_false,Array.size_map];rw[hsz2,sizeLine_eq];omega));rw[hf];simp only[bne_self_eq_false,Bool.false_eq_true,if_false];have hrel:∀ p,p∈kz.zip vs->p.1=g (numOf p.2)/\p.2∈vs:=by
   rw[hg,<-hv.nums,hAs,List.zip_map_left];intro p hp;obtain⟨⟨u,v⟩,hq,rfl⟩:=hA3.mp hp;have h1:u=v/\u∈vs:=mem_zip_self hq;refine⟨?_,?_⟩
   ·show g (numOf u)=g (numOf v);rw[h1.1]
   ·show v∈vs;rw[<-h1.1];exact h1.2
  have hI:IntsAre (ps.map Prod.snd) ((ps.map Prod.snd).map numOf):=intsAre_map _ fun v hv'=>by
   obtain⟨p,hp',rfl⟩:=hA3.mp hv';exact hv.all _ (hrel p (h1.mem_iff.mp hp')).2
  have hP:((ps.map Prod.snd).map numOf).Perm ns:=by
   have h1':=(h1.map Prod.snd).map numOf;rw[List.map_snd_zip (by omega),hv.nums]at h1';exact h1'
  have hO:((ps.map Prod.snd).map numOf).Pairwise (fun x y=>g x<=g y):=by
   rw[hBf,hBf];refine h3.imp_of_mem fun {p q} hp' hq' hr=>?_
   have hr':p.1<=q.1:=hr;rw[(hrel p (h1.mem_iff.mp hp')).1,(hrel q (h1.mem_iff.mp hq')).1]at hr';exact hr'
  rw[<-h2]at hI hP hO;simp only[Bool.false_eq_true,if_false]at hI hP hO;refine wpAny_pure (h _ _ hP hO ?_);exact I2.adoptL (its:=((arrOf st).map (·.2)).toList) (n:=n2) wa Ha (qGh hI) (by rw[hA1,hP.length_eq,sizeLine_eq];omega) (by rw[Array.toArray_toList];exact oa2)
 unfold ksk_end;try dsimp only
 simp only[Bool.false_eq_true,if_false];by_cases h2:vs.toArray.size<2
 ·rw[if_pos h2,if_pos h2];refine wpAny_bind (wpAny_pure ?_);rw[StateT.run_pure];refine wpAny_bind (wpAny_pure ?_);try dsimp only
  refine fin (SortSt.mk' general' (keys.toArray.zip vs.toArray) #[] 7 none) (Array.Perm.refl _) ?_ rfl;intro i j hij hj;have hj2:j<(keys.toArray.zip vs.toArray).size:=hj;rw[hzs]at hj2;rw[hAe]at h2;have:i=j:=by omega
  subst this;exact Int.le_refl _
 ·rw[if_neg h2,if_neg h2];rw[hAe]at h2;rw[ksk_kind hz' (by rw[hsz];omega)];refine wpAny_bind (wpAny_pure ?_);refine wpAny_bind (wpAny_mono (wpS_sortRuns (a₀:=keys.toArray.zip vs.toArray) (st:=SortSt.mk' oneType' (keys.toArray.zip vs.toArray) #[] 7 none)
   (Q:=fun _ st'=>(arrOf st').Perm (keys.toArray.zip vs.toArray)/\failedOf st'=none/\SortedTo (arrOf st') (keys.toArray.zip vs.toArray).size)
   (ksk_intKeys hz') ⟨Array.Perm.refl _,rfl,rfl,rfl⟩ (by rw[hzs];omega) (by rw[hzs];omega) fun st' a1 a2 a3=>⟨a1,a2,a3⟩) ?_ fun _ _ e=>e)
  rintro⟨⟨⟩,st'⟩ s' ⟨rfl,hp,hf,hs⟩;try dsimp only
  exact fin _ hp (by rw[hp.size_eq];exact hs) hf
def tSortKey (K:PySem.W.Frag) (sp:Sp) (E:XK) (g:Int->Int) (t:TA):TE:=fun σ H Q=>t σ H fun vs H1=>∃ (p:Addr) (ns:List Int),vs=[.ref p]/\SqL K H1 p (ns.map V.int)/\ns.length<64 /\
 (∀ n∈ns,∀ H (Q:VK),Q (.int (g n)) H->sp [.int n] H Q E)/\∀ (r:Addr) (ns':List Int),H1 r=none->ns'.Perm ns->ns'.Pairwise (fun x y=>g x<=g y)->Q (.ref r) (upd H1 r (.lst (ns'.map V.int)))
theorem pe_sortKey (F:FnOk X.prog X.w X.K X.mg X.base CX0 k f fd ps sp) (hr:Room (k+2) X.A) (hb:Binds X.K fd ps []) (hg:Gl X "sorted") (hm:X.mg "sorted" = none) (hgx:Gl X x) (hmx:X.mg x=some (.ref f)) (ha:PA X [e] t)
  (hdb:(x == ("__debug__" : Str))=false:=by decide)
  (he:backTo pos (starEach [e] X.env)=(false,eval e X.env) :: backTo pos (starEach [] X.env):=by rfl)
  (hplain:(backTo pos (starEach [e] X.env)).any (·.1)=false:=by rfl):PE X (.Call (.Name "sorted" p) [e] [⟨some "key",.Name x cp,kp⟩] pos) (tSortKey X.K sp E g t):=by
 intro pins s σ H Q I h;refine wpAny_Call_Name_kw (qD6 I hg hm (by decide +kernel:bootBuiltins "sorted" = some (.builtin "sorted")) ?_ (by decide) (by decide));refine PyProof.Rows.callWith_kw (thn (ha pos pins s σ H _ I h) fun us s1 ⟨vs,H1,I1,r1,q1⟩=>?_) he hplain;obtain⟨l,ns,rfl,hq,h64,hf,q⟩:=q1;obtain⟨u,rfl,rx⟩:=qC3 r1;cases rx;refine PyProof.Rows.kws_cons (ld_glob I1 hgx hmx (PyProof.Rows.kws_nil ?_) hdb);show wpAny _ _ (call (.builtin "sorted") [.ref l] [(Str.ofString "key",.ref f)]) _ _ _;obtain⟨its,rv,pl,hz⟩:=I1.list hq;have hi:=qDp rv;have hl:=hi.length;refine call_function_entry_kw kind_sorted plain_sorted entry_sorted (ksk_s1 _ _) ?_;unfold Builtin.«sorted»;refine wpAny_bind (m:=checkCount "sorted" 1 1 _) (wpAny_pure ?_);refine wpAny_bind (collect_list pl.isList ?_ (by rw[sizeLine_eq];omega));refine wpAny_bind (wpAny_newList ?_ (by rw[sizeLine_eq];omega));have hsz:((s1.heap.push (seqObj "list" #[] 0)).update s1.heap.objs.size (Obj.mapSeq (·++its.toArray))).objs.size=s1.heap.objs.size+1:=by
  rw[Heap.size_update,size_push']
 have keep:∀ b o,s1.heap.get? b=some o->((s1.heap.push (seqObj "list" #[] 0)).update s1.heap.objs.size (Obj.mapSeq (·++its.toArray))).get? b=some o:=fun b o q=>by
  have hlt:b<s1.heap.objs.size:=Heap.lt_size q;rw[Heap.get?_update_ne _ _ _ _ (hAp hlt),Heap.get?_push_ne _ _ _ (hAp hlt)];exact q
 have hoL:(((s1.heap.push (seqObj "list" #[] 0)).update s1.heap.objs.size (Obj.mapSeq (·++its.toArray))).push (seqObj "list" its.toArray 0)).get? (s1.heap.objs.size+1)=some (seqObj "list" its.toArray 0):=by
  rw[<-hsz];exact Heap.get?_push_size _ rfl
 have I2:Inv X pins σ H1 { s1 with heap:=((s1.heap.push (seqObj "list" #[] 0)).update s1.heap.objs.size (Obj.mapSeq (·++its.toArray))).push (seqObj "list" its.toArray 0) } :=
  I1.kept (t':=s1.toks) fun b o q=>Heap.get?_push_of_some _ (keep b o q)
 show wpAny _ _ _ _ _ { s1 with heap:=((s1.heap.push (seqObj "list" #[] 0)).update s1.heap.objs.size (Obj.mapSeq (·++its.toArray))).push (seqObj "list" its.toArray 0) };rw[hsz];have nA:H1 (s1.heap.objs.size+1)=none:=I1.hok.fresh (hB5 _);have wA:Aw X pins (s1.heap.objs.size+1):=I1.aw (hB5 _);generalize s1.heap.objs.size+1=a at hoL nA wA;generalize hS:({ s1 with heap:=((s1.heap.push (seqObj "list" #[] 0)).update s1.heap.objs.size (Obj.mapSeq (·++its.toArray))).push (seqObj "list" its.toArray 0) }:Shared)=s2 at I2;have ho2:s2.heap.get? a=some (seqObj "list" its.toArray 0):=by rw[<-hS];exact hoL
 clear hoL hS;refine wpAny_bind (wpAny_holding (wpAny_call_entry_kw slot_list_sort ⟨_,ho2,rfl⟩ entry_list_sort ?body (ksk_l1 _ _)));show wpAny (model X.prog X.w) X.A.in1.in1 (Builtin.«list.sort» ⟨[.ref a],[(Str.ofString "key",.ref f)]⟩) _ _ _;rw[ksk_t1];unfold ksk_tree;have hi0:its.length<64:=by omega
 refine wpAny_bind (listItems_at ho2 rfl ?_);refine wpAny_bind (listUpdate_at ho2 rfl ?_ (by rw[hAe,sizeLine_eq];omega) (hAw _));obtain⟨e1,I3,ho3⟩:=I2.repinL (fun _=>#[]) wA nA ho2;refine wpAny_bind (seqEpoch_at ho3 rfl ?_);refine wpAny_bind (wpAny_newTuple ?_ (by show its.length<=_;rw[sizeLine_eq];omega));refine wpAny_bind (wpAny_newList ?_ (hAw _));refine wpAny_holding ?_;have I4:Inv X pins σ H1 { s2 with heap:=((s2.heap.update a (Obj.mapSeq fun _=>(#[]:Array Value))).push (seqObj "tuple" its.toArray 0)) }:=I3.kept (t':=s2.toks) fun b o q=>Heap.get?_push_of_some _ q
 have nK:=I4.fresh;have wK:=I4.aw (hA5 _);have ho4:((s2.heap.update a (Obj.mapSeq fun _=>(#[]:Array Value))).push (seqObj "tuple" its.toArray 0)).get? a=some (seqObj "list" #[] e1):=Heap.get?_push_of_some _ ho3;have nka:((s2.heap.update a (Obj.mapSeq fun _=>(#[]:Array Value))).push (seqObj "tuple" its.toArray 0)).objs.size≠a:=hCz (Heap.lt_size ho4);have I5:Inv X pins σ H1 { s2 with heap:=((s2.heap.update a (Obj.mapSeq fun _=>(#[]:Array Value))).push (seqObj "tuple" its.toArray 0)).push (seqObj "list" #[] 0) }:=I4.kept (t':=s2.toks) fun b o q=>Heap.get?_push_of_some _ q
 have ho5:(((s2.heap.update a (Obj.mapSeq fun _=>(#[]:Array Value))).push (seqObj "tuple" its.toArray 0)).push (seqObj "list" #[] 0)).get? a=some (seqObj "list" #[] e1):=Heap.get?_push_of_some _ ho4;have hk5:(((s2.heap.update a (Obj.mapSeq fun _=>(#[]:Array Value))).push (seqObj "tuple" its.toArray 0)).push (seqObj "list" #[] 0)).get? ((s2.heap.update a (Obj.mapSeq fun _=>(#[]:Array Value))).push (seqObj "tuple" its.toArray 0)).objs.size=some (seqObj "list" #[] 0):=Heap.get?_push_size _ rfl;show wpAny _ _ (ksk_rest a (.ref f) false its.toArray e1 (.ref ((s2.heap.update a (Obj.mapSeq fun _=>(#[]:Array Value))).push (seqObj "tuple" its.toArray 0)).objs.size)) _ _ { s2 with heap:=((s2.heap.update a (Obj.mapSeq fun _=>(#[]:Array Value))).push (seqObj "tuple" its.toArray 0)).push (seqObj "list" #[] 0) }
 change H1 ((s2.heap.update a (Obj.mapSeq fun _=>(#[]:Array Value))).push (seqObj "tuple" its.toArray 0)).objs.size=none at nK
 change Aw X pins ((s2.heap.update a (Obj.mapSeq fun _=>(#[]:Array Value))).push (seqObj "tuple" its.toArray 0)).objs.size at wK
 have I6:=(I5.pinL wA nA ho5).pinL (wK.cons (Ne.symm nka)) nK hk5;generalize ((s2.heap.update a (Obj.mapSeq fun _=>(#[]:Array Value))).push (seqObj "tuple" its.toArray 0)).objs.size=kS at nK wK nka I6 ⊢;generalize ({ s2 with heap:=((s2.heap.update a (Obj.mapSeq fun _=>(#[]:Array Value))).push (seqObj "tuple" its.toArray 0)).push (seqObj "list" #[] 0) }:Shared)=s6 at I6 ⊢;unfold ksk_rest;refine wpAny_bind (wpAny_rule ?_)
 first
  | rw[List.forIn_toArray]
  | (rw[<-Array.forIn_toList];simp only[List.toList_toArray])
  | rw[<-Array.forIn_toList]
 refine wpAny_bind (ksk_fold (fun i s'=>∃ (kA:List Value) (e:Nat),Inv X ((kS,seqObj "list" kA.toArray e) :: (a,seqObj "list" #[] e1) :: pins) σ H1 s'/\IntsAre kA ((ns.map g).take i)) its 0 s6 ⟨[],0,I6,by simpa using IntsAre.nil⟩ ?step ?done)
 case step =>
  rintro j x s' hx ⟨kA,e,I',hk⟩;simp only[Nat.zero_add]at hk ⊢;have hj:j<its.length:=(hAo.mp hx).1;have hjn:j<ns.length:=by omega
  obtain⟨t,ht⟩:=hi.get j ns[j] (hA2 hjn);rw[hx]at ht;cases ht;have hz:kA.length<=its.length:=by
   have h1:=hk.length;rw[hAi,hA1]at h1;omega
  refine wpAny_bind (wpAny_attempt (wpAny_mono (run_fn2 (E:=E) (vs:=[.int ns[j]]) (Q:=fun v H=>v = .int (g ns[j])/\H=H1) F hr hb I' (.cons ⟨t,rfl⟩ .nil) (hf ns[j] (hBg hjn) H1 _ ⟨rfl,rfl⟩)) (fun v s'' he=>?_) fun _ _ (hF:False)=>hF.elim));obtain⟨w,H',I8,rw',rfl,e8⟩:=he;rw[e8]at I8;obtain⟨t2,rfl⟩:=rw';try dsimp only
  have ok2:s''.heap.get? kS=some (seqObj "list" kA.toArray e):=(I8.pin (kS,_) (hA6 _ (.head _))).1;obtain⟨n3,I3,ok3⟩:=I8.unpin.repinL (·.push (.int (g ns[j]) t2)) (wK.cons (Ne.symm nka)) nK ok2;have ek:(ns.map g).take (j+1)=(ns.map g).take j++[g ns[j]]:=by rw[List.take_add_one,hAd,hA2 hjn];simp
  refine wpAny_bind (listUpdate_at ok2 rfl ?_ (by rw[hAe,sizeLine_eq];omega) (hB7 (Nat.le_of_eq (Array.size_push ..)) (by rw[hAe,sizeLine_eq];omega)));have ea:kA.toArray.push (Value.int (g ns[j]) t2)=(kA++[Value.int (g ns[j]) t2]).toArray:=by simp
  rw[ea]at ok3;exact wpAny_pure ⟨rfl,kA++[.int (g ns[j]) t2],n3,I3.pinL (wK.cons (Ne.symm nka)) nK ok3,by rw[ek];exact ksk_snoc hk⟩
 case done =>
  rintro s' ⟨kA,e,I',hk⟩;have hk':IntsAre kA (ns.map g):=by
   have e3:(ns.map g).take (0+its.length)=ns.map g:=hA8 (by rw[hA1];omega);rw[e3]at hk;exact hk
  have ok2:s'.heap.get? kS=some (seqObj "list" kA.toArray e):=(I'.pin (kS,_) (hA6 _ (.head _))).1;try dsimp only
  refine wpAny_bind (listItems_at ok2 rfl ?_);refine sk_end (g:=g) I' nka nK nA wA wK hk' hi rfl h64 fun s7 ns' hp ho I7=>⟨_,rfl,?_⟩
  exact wpAny_pure ⟨_,rfl,⟨.ref a,_,I7,rfl,q a ns' nA hp ho⟩⟩
end
end L2
namespace L2
open PySem PySem.Spec PyProof.Rows
def SetI (P:Program) (w:World) (a:Addr) (n:Nat):HO:=.ext fun h=>∃ S,h.SetOf (intKind P w) a S n
section
variable {X:Cx}
theorem call_setI (hc:X.calm=true):qCr X (.type "set") (fun xs H Q=>∃ (p:Addr) (ns:List Int),xs=[.ref p]/\SqL X.K H p (ns.map V.int)/\ns.length<1000/\∀ (r:Addr) (n:Nat),H r=none->n<=ns.length->Q (.ref r) (upd H r (SetI X.prog X.w r n))):=by
 intro pins s σ H xs us Q I r h;obtain⟨p,ns,rfl,hq,hl,q⟩:=h;obtain⟨u,rfl,rx⟩:=qC3 r;cases rx;obtain⟨its,rv,pl,hz⟩:=I.list hq;have hi:=qDp rv;have hlen:=hi.length;refine call_set_list (I.ok.hd hc) pl.isList (by simpa using hi) (by have:scanBound=4096:=rfl;simp;omega) fun h' tk hS hk=>?_
 have hle:=firstMet_length_le (fun i=>ns.getD i 0) its.toArray.size;have hle2:(firstMet (fun i=>ns.getD i 0) its.toArray.size).length<=ns.length:=by rw[hAe]at hle ⊢;omega
 refine⟨.ref s.heap.objs.size,_,I.laid (t':=tk) (a:=s.heap.objs.size) (o:=SetI X.prog X.w s.heap.objs.size _) (fun b o e=>hk b o (Heap.lt_size e) e) (hA5 _) ⟨⟨_,hS⟩,?_,fun h1 h2 z k=>?_⟩,rfl,q _ _ (I.hok.fresh (hA5 _)) hle2⟩
 ·obtain⟨o,es,ep,t,ho,_⟩:=hS;exact⟨_,ho⟩
 ·obtain⟨S,o,es,ep,t,ho,rest⟩:=z;exact⟨S,o,es,ep,t,k o ho,rest⟩
theorem call_lenSI:qCr X (.builtin "len") (fun xs H Q=>∃ (p:Addr) (n:Nat),xs=[.ref p]/\H p=some (SetI X.prog X.w p n)/\n<1000/\Q (.int (n:Nat)) H):=by
 intro pins s σ H xs us Q I r h;obtain⟨p,n,rfl,hp,hn,q⟩:=h;obtain⟨u,rfl,rx⟩:=qC3 r;cases rx;obtain⟨⟨S,hS⟩,_⟩:=I.hok p _ hp;obtain⟨o,ho,hso⟩:=hS.objOf;obtain⟨hex,es,ep,t,hd,_,_,hn',hf⟩:=hso;subst hn';exact call_len_set ho hex hd hf (by omega) ⟨.int _,H,I.tok _,⟨_,rfl⟩,q⟩
end
end L2
namespace My
open PySem L2
def spPurse (K:PySem.W.Frag):Sp:=fun vs H Q _=>∃ (a:Addr) (ns:List Int) (k:Int),vs=[.ref a,.int k]/\SqL K H a (ns.map V.int)/\0<=k/\k<=1000/\∀ v r,H r=none->Q (.ref r) (upd H r (.lst [.int v]))
def qE5:Sp:=fun vs H Q _=>∃ (d:Addr) (n m:Int),vs=[.ref d,.int m]/\H d=some (.lst [.int n])/\0<m/\m<1073741824/\∀ q r,0<=r->r<m->Q (.int r) (upd H d (.lst [.int q]))
section
variable {P:Program} {w:World} {K:PySem.W.Frag} {mg:Str->Option Value} {base:Heap} {f f1:Addr} {fd fd1:FuncData}
theorem scTake:FnScope ["_law_draw","_law_many","_law_digit"] ["_law_draw","_law_many"] (qAd sTake):=⟨rfl,rfl,rfl,by decide +kernel,rfl,by decide +kernel,by decide +kernel⟩
theorem ok_take (F:Fun K "_law_take" "_law_take" sTake f fd):FnOk P w K mg base CX0 1 f fd ["_law_draw","_law_many"] qE5:=by
 refine F.ok scTake (fun vs H Q E h=>?_) (fun cdv A outer s H vs Q E hr h=>?_)
 ·obtain⟨a,ns,k,rfl,_⟩:=h;rfl
 obtain⟨d,n,m,rfl,hd,h1,h2,q⟩:=h;refine⟨_,qAc (qAm (i:=2) scTake.nd rfl (Or.inl rfl) (qAt qDg (qA0 qAz (pv 0) qAe (fun _ _=>rfl)) (pv 1)))
  (qAc (qDy (qAt op_fdiv (qA0 qAz (pv 0) qAe (fun _ _=>rfl)) (pv 1)) (qFi (pv 0) qAe qCv)) (qAf (qAs (pv 2)))),?_⟩
 refine⟨_,rfl,d,_,_,_,rfl,rfl,SqL.of hd,rfl,_,rfl,_,_,rfl,rfl,h1,?_⟩;refine⟨_,rfl,d,_,_,_,rfl,rfl,SqL.of hd,rfl,_,rfl,_,_,rfl,rfl,⟨h1,h2⟩,?_⟩;refine⟨_,rfl,d,_,_,_,rfl,rfl,hd,rfl,?_⟩;exact⟨_,rfl,q (n / m) (n % m) (Int.emod_nonneg _ (by omega)) (Int.emod_lt_of_pos _ h1)⟩
end
end My
namespace My
open PySem L2
section
variable {P:Program} {w:World} {K:PySem.W.Frag} {mg:Str->Option Value} {base:Heap} {f f1:Addr} {fd fd1:FuncData}
theorem qDj:FnScope ["_law_script","_law_at","_law_cell","_law_come","_law_k","_law_one","_law_mixed"] ["_law_script","_law_at"] (qAd qF9):=⟨rfl,rfl,rfl,by decide +kernel,rfl,by decide +kernel,by decide +kernel⟩
theorem ok_purse (F:Fun K "_law_purse" "_law_purse" qF9 f fd) (G:Cl P w K mg base CX0 1 f1 fd1 ["_law_script","_law_k"] (spCell K) "_law_cell_at") (mr:mg "range" = none) :
  FnOk P w K mg base CX0 2 f fd ["_law_script","_law_at"] (spPurse K):=by
 refine F.ok qDj (fun vs H Q E h=>?_) (fun cdv A outer s H vs Q E hr h=>?_)
 ·obtain⟨a,ns,k,rfl,_⟩:=h;rfl
 obtain⟨a,ns,k,rfl,hS,h0,h1,q⟩:=h;refine⟨_,qAc (qAm (i:=2) qDj.nd rfl (Or.inl rfl) (qAv G hr rfl .nil qAw (qAa (pv 0) (qAa (pv 1) qAb))))
  (qAc (qBd (qAp op_ge (pv 2) (qAt op_pow qAe qAe) (qAu _)) (qAf (qAs (qBl (qAa (pv 2) qAb)))) qAx)
  (qAc (qAm (i:=3) qDj.nd rfl (Or.inl rfl) qAe)
  (qAc (qBw PassesOwn.never rfl (qBa rfl mr (qAa qAe qAb)) (qAl (i:=4) qDj.nd rfl (Or.inl rfl))
   (qAc (qAm (i:=5) qDj.nd rfl (Or.inl rfl) (qAt qB6 (qAt qB6 (qAt qB6 (qAt qDg (qAv G hr rfl .nil qAw (qAa (pv 0) (qAa (qAt qB6 (pv 1) (qAt qDg (pv 4) qAe)) qAb))) (qAt op_pow qAe qAe)) qAe)
     (qAt qC1 (qAt qC1 qAe (pv 4)) (pv 4))) (qAt qC1 qAe (pv 1))))
   (qAc (qAm (i:=6) qDj.nd rfl (Or.inl rfl) (qAt qDg (qAt qC1 (pv 5) qAe) qAe))
   (qAf (qAm (i:=3) qDj.nd rfl (Or.inl rfl) (qAt qB6 (qAt qC1 (pv 3) qAe) (qAt qDg (qAt qB6 (qAt qDg (qAt qC1 (pv 6) (pv 6)) qAe) (qAt op_fdiv (pv 5) qAe)) qAe)))))))
  (qAf (qAs (qBl (qAa (pv 3) qAb))))))),?_⟩
 refine⟨_,rfl,_,rfl,a,ns,k,rfl,hS,h0,fun v=>?_⟩;refine⟨_,rfl,_,_,rfl,rfl,⟨by decide,by decide,by decide⟩,_,_,rfl,rfl,_,rfl,?_⟩;refine qCb (fun c=>?_) (fun c=>?_)
 ·exact⟨_,rfl,(by show 1<=sizeLine;decide),fun r hr'=>q v r hr'⟩
 refine⟨60,rfl,by decide,by decide,qBh (lo:=0) (n:=60) (fun i σ H'=>H'=H/\∃ (c:Int) (x y z:Option V),σ=[some (.ref a),some (.int k),some (.int v),some (.int c),x,y,z]) ⟨rfl,0,none,none,none,rfl⟩ ?_ ?_⟩
 ·rintro i σ H' hi ⟨rfl,c0,x,y,z,rfl⟩;refine⟨_,rfl,_,rfl,_,rfl,_,_,rfl,rfl,(by show(0:Int)<_;decide),_,_,rfl,rfl,a,ns,_,rfl,hS,?_,fun u=>?_⟩
  ·have:=Int.emod_nonneg ((0:Int)+(i:Int)) (show(9:Int)≠0 by decide);omega
  refine⟨_,_,rfl,rfl,⟨by decide,by decide,by decide⟩,_,_,rfl,rfl,(by show(0:Int)<_;decide),_,_,rfl,rfl,?_⟩;refine⟨_,rfl,_,_,rfl,rfl,.inl ⟨by decide,by decide⟩,_,rfl,_,_,rfl,rfl,.inr ⟨by omega,by omega⟩,_,_,rfl,rfl,?_⟩;refine⟨_,rfl,_,_,rfl,rfl,.inl ⟨by decide,by decide⟩,_,_,rfl,rfl,?_⟩;refine⟨_,rfl,_,_,rfl,rfl,.inr ⟨by decide,by decide⟩,_,_,rfl,rfl,(by show(0:Int)<_;decide),?_⟩;refine⟨_,rfl,_,_,rfl,rfl,.inr ⟨by decide,by decide⟩,_,rfl,_,rfl,_,_,rfl,rfl,?_,_,_,rfl,rfl,(by show(0:Int)<_;decide),_,rfl,_,_,rfl,rfl,⟨by decide,by decide⟩,_,_,rfl,rfl,_,_,rfl,rfl,(by show(0:Int)<_;decide),_,_,rfl,rfl,?_⟩
  ·refine .inl ⟨?_,?_⟩
   ·exact Int.lt_of_lt_of_le (by decide) (Int.emod_nonneg _ (by decide))
   ·exact Int.lt_of_lt_of_le (Int.emod_lt_of_pos _ (by decide)) (by decide)
  ·exact⟨rfl,_,_,_,_,rfl⟩
 ·rintro σ H' ⟨rfl,c0,x,y,z,rfl⟩;exact⟨_,rfl,(by show 1<=sizeLine;decide),fun r hr'=>q c0 r hr'⟩
def spSays:Sp:=fun vs H Q _=>∃ (p r:Bool),vs=[.bl p,.bl r]/\Q (.bl (decide (V.bl p=V.bl r))) H
theorem scSays:FnScope ["_law_found","_law_due_here"] ["_law_found","_law_due_here"] (qAd sSays):=⟨rfl,rfl,rfl,by decide +kernel,rfl,by decide +kernel,by decide +kernel⟩
theorem ok_says (F:Fun K "_law_says" "_law_says" sSays f fd) (mi:mg "isinstance" = none) (mb:mg "bool" = none):FnOk P w K mg base CX0 1 f fd ["_law_found","_law_due_here"] spSays:=by
 refine F.ok scSays (fun vs H Q E h=>?_) (fun cdv A outer s H vs Q E hr h=>?_)
 ·obtain⟨a,ns,rfl,_⟩:=h;rfl
 obtain⟨p,r,rfl,q⟩:=h;refine⟨_,qAf (qAs (pe_and (qAg qA8 rfl mi qA9 (qAa (pv 0) (qAa (qCq (v:=.ty "bool") rfl mb boot_bool' rfl) qAb))) (pe_one (qBm qCa (pv 0) (pv 1) (qAu _))))),?_⟩;refine⟨_,rfl,_,_,_,true,rfl,.bl p,qBo _ _,true,rfl,?_⟩;refine iteT ?_;exact⟨_,rfl,_,rfl,rfl,q⟩
end
end My
namespace My
open PySem L2
theorem foldl_rep {c:Nat}:∀ (n:Nat) (acc:Array Nat),((List.replicate n #[c]).foldl (·++·) acc).toList=acc.toList++List.replicate n c
 | 0,acc=>by simp
 | n+1,acc=>by
  rw[hCw,List.foldl_cons,foldl_rep n];simp[hCw]
theorem qEy {c:Nat} {n:Int} (h:0<=n):(Txt.mul ⟨#[c]⟩ n).cps.toList=List.replicate n.toNat c:=by
 unfold Txt.mul;by_cases h1:n<1
 ·rw[if_pos h1,show n.toNat=0 by omega];rfl
 ·rw[if_neg h1];by_cases h2:n=1
  ·subst h2;rfl
  ·have e:(n == 1 || (⟨#[c]⟩:Str).length == 0)=false:=by
    rw[Bool.or_eq_false_iff];exact⟨by simpa using h2,rfl⟩
   rw[if_neg (by rw[e];decide)];exact foldl_rep n.toNat #[]
theorem qFk {c:Nat} {n:Int} (hn:0<=n):(Txt.mul ⟨#[c]⟩ n).length=n.toNat:=by
 have:=congrArg List.length (qEy (c:=c) hn);rw[hC4]at this;exact this
theorem strExt {x y:Str} (h:x.cps.toList=y.cps.toList):x=y:=by
 cases x;cases y;congr 1
 simpa using h
def nmA (a b:Str) (first:Nat) (k:Nat):Str:=a++⟨#[sgC ((first+7*k) % 36)]⟩++b
theorem nmA_inj {a b:Str} {first i j:Nat} (hi:i<12) (hj:j<12) (e:nmA a b first i=nmA a b first j):i=j:=by
 have e1:=congrArg (fun x:Str=>x.cps.toList) e;simp only[nmA,Str.cps_append,hCg,List.append_assoc]at e1;have e2:=List.append_cancel_left e1;have e3:sgC ((first+7*i) % 36)=sgC ((first+7*j) % 36):=by
  have:=congrArg List.head? e2
  simpa using this
 have e4:=sgC_inj (hCj _ (by decide)) (hCj _ (by decide)) e3;omega
def nmB (first:Nat) (k:Nat):Str:=if k<6 then Txt.mul ⟨#[sgC first]⟩ (1+(k:Int)) else Txt.mul ⟨#[sgC first]⟩ ((k:Int) - 6)++⟨#[sgC ((first+1) % 36)]⟩
theorem nmB_list {first k:Nat}:(nmB first k).cps.toList=if k<6 then List.replicate (1+k) (sgC first) else List.replicate (k - 6) (sgC first)++[sgC ((first+1) % 36)]:=by
 unfold nmB;split
 ·rw[qEy (by omega),show(1+(k:Int)).toNat=1+k by omega]
 ·rw[Str.cps_append,hCg,qEy (by omega),show((k:Int) - 6).toNat=k - 6 by omega]
theorem nmB_inj {first i j:Nat} (hf:first<36) (e:nmB first i=nmB first j):i=j:=by
 have e1:=congrArg (fun x:Str=>x.cps.toList) e;simp only[nmB_list]at e1;have ne:sgC first≠sgC ((first+1) % 36):=fun z=>by
  have:=sgC_inj hf (hCj _ (by decide)) z;omega
 by_cases hi:i<6
 ·by_cases hj:j<6
  ·rw[if_pos hi,if_pos hj]at e1;have:=congrArg List.length e1;rw[hC4,hC4]at this;omega
  ·rw[if_pos hi,if_neg hj]at e1;exfalso;have hm:sgC ((first+1) % 36)∈List.replicate (1+i) (sgC first):=by rw[e1];simp
   exact ne (List.mem_replicate.mp hm).2.symm
 ·by_cases hj:j<6
  ·rw[if_neg hi,if_pos hj]at e1;exfalso;have hm:sgC ((first+1) % 36)∈List.replicate (1+j) (sgC first):=by rw[<-e1];simp
   exact ne (List.mem_replicate.mp hm).2.symm
  ·rw[if_neg hi,if_neg hj]at e1;have:=congrArg List.length e1;rw[hAf,hAf,hC4,hC4]at this;simp at this;omega
theorem nodup_map {α:Type} {g:Nat->α} {n:Nat} (h:∀ i j,i<n->j<n->g i=g j->i=j):((List.range n).map g).Nodup:=by
 rw[List.Nodup,hBf];refine hBi ?_ (List.nodup_range (n:=n));intro a b ha hb ne e;exact ne (h a b (hAn.mp ha) (hAn.mp hb) e)
theorem qD9 {σ0:St} {g:TG} {te:TE} {Q:List V->Hp->Prop} {H1:Hp} {lo:Int} {n:Nat} (fv:Nat->V) (hz:n<=1000)
  (hs:∀ i,i<n->∀ C:V->Hp->Prop,C (fv i) H1->g (.int (lo+i)) σ0 H1 fun σ2 H2=>Sle σ0 σ2/\te σ2 H2 (fun v H4=>C v H4))
  (hd:Q ((List.range n).map fv) H1):qCu (Itr lo n) σ0 g tNoTest te Q H1:=by
 refine qE3 (lo:=lo) (n:=n) (fun i ys H=>H=H1/\ys=(List.range i).map fv) ⟨rfl,rfl⟩ ?_ ?_
 ·rintro i ys H hi ⟨rfl,rfl⟩;exact hs i hi (fun v H4=>((List.range i).map fv).length<sizeLine/\Nxt n i (fun i ys H'=>H'=H/\ys=(List.range i).map fv) ((List.range i).map fv++[v]) H4)
   ⟨by rw[hA1,hB4];exact qAi (by omega),nxt hi ⟨rfl,by rw[hC6,hA4];rfl⟩⟩
 ·rintro ys H ⟨rfl,rfl⟩;exact hd
end My
namespace My
open PySem L2
def Sgd (s:Str):Prop:=∀ c∈s.cps.toList,c∈sg.cps.toList
theorem sgC_mem {i:Nat} (hi:i<36):sgC i∈sg.cps.toList:=by
 have hi':i<sg.cps.toList.length:=by rw[sg_len];exact hi
 unfold sgC;rw[hAb,hA2 hi'];exact hBg hi'
theorem Sgd.sm {s:Str} (h:Sgd s):Sm s:=fun c hc=>sg_small c (h c hc)
theorem Sgd.app {x y:Str} (h:Sgd x) (h':Sgd y):Sgd (x++y):=fun c hc=>by
 rw[Str.cps_append,hCg,hAr]at hc;exact hc.elim (h c) (h' c)
theorem Sgd.one {i:Nat} (hi:i<36):Sgd ⟨#[sgC i]⟩:=fun d hd=>by
 have:d=sgC i:=by simpa using hd
 rw[this];exact sgC_mem hi
theorem Sgd.nil:Sgd "":=fun c hc=>by
 have:c∈([]:List Nat):=hc;cases this
theorem Sgd.slice {x:Str} (h:Sgd x) (l u:Option Int):Sgd (Txt.slice x l u):=fun c hc=>by
 unfold Txt.slice at hc;split at hc
 ·exact h c hc
 ·simp only[hCa]at hc;obtain⟨i,_,hi⟩:=hc;exact h c (by simpa using Array.mem_of_getElem? hi)
theorem Sgd.mul {i:Nat} {n:Int} (hi:i<36) (hn:0<=n):Sgd (Txt.mul ⟨#[sgC i]⟩ n):=fun d hd=>by
 rw[qEy hn]at hd;rw[(List.mem_replicate.mp hd).2];exact sgC_mem hi
def qDb (s:Str):Prop:=Sgd s/\1<=s.length/\s.length<=6
theorem slice_to_le {x:Str} {j:Int} (h0:0<=j) (h1:j<=x.length):(Txt.slice x none (some j)).length<=j.toNat:=by
 have e:Txt.slice x none (some j)=_:=PySem.StrLaws.sliceText_to (x:=x) (j:=j) ⟨h0,h1⟩;rw[e];show(List.toArray _).size<=_;rw[hAe,hAi];omega
theorem slice_from_le {x:Str} {j:Int} (h0:0<=j) (h1:j<=x.length):(Txt.slice x (some j) none).length<=x.length - j.toNat:=by
 have e:Txt.slice x (some j) none=_:=PySem.StrLaws.sliceText_from (x:=x) (i:=j) ⟨h0,h1⟩;rw[e];show(List.toArray _).size<=_;rw[hAe,hAi,hCh];have:x.cps.toList.length=x.length:=rfl;omega
theorem nmA_named {word:Str} {spot:Int} {first k:Nat} (hw:Sgd word) (h0:0<=spot) (h1:spot<word.length) (h6:word.length<=6):qDb (nmA (Txt.slice word none (some spot)) (Txt.slice word (some (spot+1)) none) first k):=by
 have a:=slice_to_le (x:=word) (j:=spot) h0 (by omega);have b:=slice_from_le (x:=word) (j:=spot+1) (by omega) (by omega);have c:(⟨#[sgC ((first+7*k) % 36)]⟩:Str).length=1:=rfl;refine⟨((hw.slice _ _).app (Sgd.one (hCj _ (by decide)))).app (hw.slice _ _),?_,?_⟩
 ·unfold nmA;rw[Str.length_append,Str.length_append,c];omega
 ·unfold nmA;rw[Str.length_append,Str.length_append,c];omega
theorem nmB_named {first k:Nat} (hf:first<36) (hk:k<12):qDb (nmB first k):=by
 unfold nmB;split
 ·refine⟨Sgd.mul hf (by omega),?_,?_⟩
  ·rw[qFk (by omega)];omega
  ·rw[qFk (by omega)];omega
 ·have c:(⟨#[sgC ((first+1) % 36)]⟩:Str).length=1:=rfl;refine⟨(Sgd.mul hf (by omega)).app (Sgd.one (hCj _ (by decide))),?_,?_⟩
  ·rw[Str.length_append,qFk (by omega),c];omega
  ·rw[Str.length_append,qFk (by omega),c];omega
end My
namespace My
open PySem L2
def spNames:Sp:=fun vs H Q _=>∃ (d:Addr) (n m:Int),vs=[.ref d,.int m]/\H d=some (.lst [.int n])/\0<=m/\m<=12 /\
 ∀ (r:Addr) (ns:List Str) (q:Int) (H':Hp),Ext (upd H d (.lst [.int q])) H'->H r=none->LsS H' r ns->ns.length=m.toNat->ns.Nodup->PyProof.Rows.sortedS ns=true->SOk ns->(∀ s∈ns,qDb s)->Q (.ref r) H'
section
variable {P:Program} {w:World} {K:PySem.W.Frag} {mg:Str->Option Value} {base:Heap} {f f1:Addr} {fd fd1:FuncData}
theorem qB3:FnScope ["_law_draw","_law_many","_law_signs","_law_size","_law_spot","_law_word","_law_k","_law_first","_law_found","_law_one","_law_other"] ["_law_draw","_law_many"] (qAd qDu):=⟨rfl,rfl,rfl,by decide +kernel,rfl,by decide +kernel,by decide +kernel⟩
theorem ok_names (F:Fun K "_law_names" "_law_names" qDu f fd) (G:Cl P w K mg base CX0 1 f1 fd1 ["_law_draw","_law_many"] qE5 "_law_take") (mr:mg "range" = none) (mm:mg "min" = none) (ms:mg "sorted" = none) :
  FnOk P w K mg base CX0 2 f fd ["_law_draw","_law_many"] spNames:=by
 refine F.ok qB3 (fun vs H Q E h=>?_) (fun cdv A outer s H vs Q E hr h=>?_)
 ·obtain⟨a,ns,k,rfl,_⟩:=h;rfl
 obtain⟨d,n,m,rfl,hd,m0,m1,q⟩:=h;refine⟨_,qAc (qAm (i:=2) qB3.nd rfl (Or.inr rfl) qBx)
  (qAc (qAm (i:=3) qB3.nd rfl (Or.inl rfl) (qAt qB6 qAe (qAv G hr rfl .nil qAw (qAa (pv 0) (qAa qAe qAb)))))
  (qAc (qAm (i:=4) qB3.nd rfl (Or.inr rfl) (qAv G hr rfl .nil qAw (qAa (pv 0) (qAa (pv 3) qAb))))
  (qAc (qAm (i:=5) qB3.nd rfl (Or.inr rfl) qBx)
  (qAc (qBw PassesOwn.never rfl (qBa rfl mr (qAa (pv 3) qAb)) (qAl (i:=6) qB3.nd rfl (Or.inl rfl))
   (qAf (qAm (i:=5) qB3.nd rfl (Or.inr rfl) (qAt qB4 (pv 5) (qA0 qGl (pv 2) (qAv G hr rfl .nil qAw (qAa (pv 0) (qAa qAe qAb))) (fun _ _=>rfl))))))
  (qAc (qAm (i:=7) qB3.nd rfl (Or.inr rfl) (qAv G hr rfl .nil qAw (qAa (pv 0) (qAa qAe qAb))))
  (qAc (ps_lc (i:=8) (N:=["_law_draw","_law_many","_law_signs","_law_size","_law_spot","_law_word","_law_k","_law_first","_law_found","_law_one","_law_other"]) (sc:=qAd qDu) (N':=["_law_k","_law_first","_law_signs","_law_spot","_law_word"]) (sub:=[none,some 7,some 2,some 4,some 5])
    rfl rfl (CmpOk.of (by decide +kernel)) rfl (qBa rfl mr (qAa (pv 1) qAb))
    (fun C s H fp=>⟨qAl (i:=0) (by show(["_law_k","_law_first","_law_signs","_law_spot","_law_word"]:List Str).Nodup;decide) rfl (Or.inl rfl),qA3,
     qAt qB4 (qAt qB4 (qEw sl_str (pv 4) po_none (po_some (pv 3))) (qA0 qGl (pv 2) (qAt qDg (qAt qB6 (pv 1) (qAt qC1 qAe (pv 0))) qAe) (fun _ _=>rfl))) (qEw sl_str (pv 4) (po_some (qAt qB6 (pv 3) qAe)) po_none)⟩)
    qB3.nd rfl (Or.inl rfl))
  (qAc (qBd (qAp qCa (qAv G hr rfl .nil qAw (qAa (pv 0) (qAa qAe qAb))) qAe (qAu _))
   (qAc (qAm (i:=9) qB3.nd rfl (Or.inr rfl) (qA0 qGl (pv 2) (pv 7) (fun _ _=>rfl)))
   (qAc (qAm (i:=10) qB3.nd rfl (Or.inr rfl) (qA0 qGl (pv 2) (qAt qDg (qAt qB6 (pv 7) qAe) qAe) (fun _ _=>rfl)))
   (qAc (ps_lc (i:=8) (N:=["_law_draw","_law_many","_law_signs","_law_size","_law_spot","_law_word","_law_k","_law_first","_law_found","_law_one","_law_other"]) (sc:=qAd qDu) (N':=["_law_k","_law_one"]) (sub:=[none,some 9])
    rfl rfl (CmpOk.of (by decide +kernel)) rfl (qBa rfl mr (qAa (qAg (qCt rfl) rfl mm qB8 (qAa (pv 1) (qAa qAe qAb))) qAb))
    (fun C s H fp=>⟨qAl (i:=0) (by show(["_law_k","_law_one"]:List Str).Nodup;decide) rfl (Or.inl rfl),qA3,qAt qGf (pv 1) (qAt qB6 qAe (pv 0))⟩)
    qB3.nd rfl (Or.inl rfl))
   (qAf (qAm (i:=8) qB3.nd rfl (Or.inl rfl) (qAt op_cat (pv 8)
    (qCp (N:=["_law_draw","_law_many","_law_signs","_law_size","_law_spot","_law_word","_law_k","_law_first","_law_found","_law_one","_law_other"]) (sc:=qAd qDu) (N':=["_law_k","_law_one","_law_other"]) (sub:=[none,some 9,some 10])
     rfl rfl (CmpOk.of (by decide +kernel)) rfl (pi_range2 rfl mr (qAa qAe (qAa (pv 1) qAb)))
     (fun C s H fp=>⟨qAl (i:=0) (by show(["_law_k","_law_one","_law_other"]:List Str).Nodup;decide) rfl (Or.inl rfl),qA3,qAt qB4 (qAt qGf (pv 1) (qAt qD1 (pv 0) qAe)) (pv 2)⟩)))))))) qAx)
  (qAf (qAs (qAg call_sortedS rfl ms qEq (qAa (pv 8) qAb))))))))))),?_⟩
 refine⟨_,rfl,d,n,6,rfl,hd,by decide,by decide,fun q1 z1 z1a z1b=>?_⟩;refine⟨_,_,rfl,rfl,?_⟩;refine⟨_,rfl,_,rfl,d,q1,1+z1,rfl,upd_same,by omega,by omega,fun q2 spot spa spb=>?_⟩;rw[qCl];refine⟨_,rfl,1+z1,rfl,by omega,by omega,qBh (lo:=0) (n:=(1+z1).toNat) (fun i σ H'=>∃ (q:Int) (word:Str) (x:Option V),σ=[some (.ref d),some (.int m),some (.str sg),some (.int (1+z1)),some (.int spot),some (.str word),x,none,none,none,none]/\H'=upd H d (.lst [.int q])/\word.length=i/\Sgd word)
  ⟨q2,"",none,rfl,rfl,rfl,Sgd.nil⟩ ?_ ?_⟩
 ·rintro i σ H' hi ⟨q3,word,x,rfl,rfl,hw,sm⟩;refine⟨_,rfl,_,rfl,_,rfl,d,q3,36,rfl,upd_same,by decide,by decide,fun q4 z4 z4a z4b=>?_⟩;rw[qCl];refine⟨sg,z4,sgC z4.toNat,rfl,rfl,by decide +kernel,sg_at z4a z4b,word,⟨#[sgC z4.toNat]⟩,rfl,rfl,?_,?_⟩
  ·show word.length+1<=sizeLine;exact hB2 (qAi (by omega))
  ·refine⟨q4,_,_,rfl,rfl,?_,sm.app (Sgd.one (by omega))⟩;rw[Str.length_append];show word.length+1=i+1;omega
 ·rintro σ H' ⟨q3,word,x,rfl,rfl,hw,sm⟩;have hw':word.length<=100:=by omega
  refine⟨_,rfl,d,q3,36,rfl,upd_same,by decide,by decide,fun q4 first fa fb=>?_⟩;rw[qCl];refine⟨_,rfl,m,rfl,by omega,by omega,?_⟩;refine qD9 (fun k=>.str (nmA (Txt.slice word none (some spot)) (Txt.slice word (some (spot+1)) none) first.toNat k)) (by omega) ?_ ?_
  ·intro k hk C hC;have wl:word.length<=sizeLine:=hB2 (qAi (by omega));have l1:=Txt.slice_le word none (some spot);have l2:=Txt.slice_le word (some (spot+1)) none;have ei:(first+7*(0+(k:Int))) % 36=(((first.toNat+7*k) % 36:Nat):Int):=by rw[Int.natCast_emod,Int.natCast_add,Int.natCast_mul,hCx fa,Int.zero_add];rfl
   refine⟨Sle.set _ (Sle.refl _) (fun u z=>by cases z),_,rfl,_,rfl,_,rfl,word,rfl,wl,_,rfl,_,rfl,_,rfl,_,_,rfl,rfl,.inl ⟨by decide,by decide⟩,_,_,rfl,rfl,_,_,rfl,rfl,(by show(0:Int)<_;decide),sg,_,sgC ((first.toNat+7*k) % 36),rfl,rfl,by decide +kernel,?_,_,_,rfl,rfl,?_,?_⟩
   ·rw[ei];exact sg_at (by omega) (by omega)
   ·show _+1<=sizeLine;exact hB2 (qAi (by omega))
   refine⟨_,rfl,_,rfl,_,_,rfl,rfl,_,rfl,word,rfl,wl,_,_,rfl,rfl,?_,hC⟩;rw[Str.length_append];show _+1+_<=sizeLine;exact hB2 (qAi (by omega))
  ·intro r1 hr1;have fn36:first.toNat<36:=by omega
   have fin:∀ (p:Addr) (nm:Nat->Str) (H2:Hp) (q0:Int),Ext (upd H d (.lst [.int q0])) H2->LsS H2 p ((List.range m.toNat).map nm)->(∀ i j,i<m.toNat->j<m.toNat->nm i=nm j->i=j)->(∀ i,i<m.toNat->qDb (nm i)) ->
     ∃ p' ss,[V.ref p]=[V.ref p']/\SqL K H2 p' (ss.map V.str)/\ss.length<64/\∀ r ss',H2 r=none->ss'.Perm ss->PyProof.Rows.sortedS ss'=true->Q (.ref r) (upd H2 r (.lst (ss'.map V.str))):=by
    intro p nm H2 q0 e2 hp inj sm2;refine⟨p,(List.range m.toNat).map nm,rfl,SqL.of hp,?_,fun r ss hr2 perm srt=>?_⟩
    ·rw[hA1,hB4];omega
    have hrH:H r=none:=by
     have z:=e2.none hr2;by_cases e:r=d
     ·rw[e,upd_same]at z;cases z
     ·rw[qAh e]at z;exact z
    refine q r ss q0 _ (e2.trans (Ext.new hr2 _)) hrH upd_same ?_ (perm.nodup_iff.mpr (nodup_map inj)) srt ?_ ?_
    ·rw[perm.length_eq,hA1,hB4]
    ·intro x hx;obtain⟨i,hi,rfl⟩:=hA3.mp (perm.mem_iff.mp hx);exact(sm2 i (hAn.mp hi)).1.sm.ok
    ·intro x hx;obtain⟨i,hi,rfl⟩:=hA3.mp (perm.mem_iff.mp hx);exact sm2 i (hAn.mp hi)
   have dr1:d≠r1:=fun e=>by rw[<-e,upd_same]at hr1;cases hr1
   have g1:∀ q0,Ext (upd H d (.lst [.int q0])) (upd (upd (upd H d (.lst [.int q4])) r1 (.lst ((List.range m.toNat).map fun k=>V.str (nmA (Txt.slice word none (some spot)) (Txt.slice word (some (spot+1)) none) first.toNat k)))) d (.lst [.int q0])):=fun q0 b o hb=>by
    by_cases e:b=d
    ·subst e;rw[upd_same]at hb ⊢;exact hb
    ·rw[qAh e]at hb ⊢;have nb:b≠r1:=fun z=>by
      rw[z]at hb;rw[qAh (Ne.symm dr1)]at hr1;rw[hr1]at hb;cases hb
     rw[qAh nb,qAh e];exact hb
   refine⟨_,rfl,d,q4,3,rfl,by rw[qAh dr1];exact upd_same,by decide,by decide,fun q5 z5 z5a z5b=>⟨rfl,_,rfl,?_⟩⟩;refine qCb (fun _=>?_) (fun _=>?_)
   ·refine⟨_,rfl,_,rfl,sg,first,sgC first.toNat,rfl,rfl,by decide +kernel,sg_at fa fb,?_⟩;have eo:(first+1) % 36=(((first.toNat+1) % 36:Nat):Int):=by rw[Int.natCast_emod,Int.natCast_add,hCx fa];rfl
    refine⟨_,rfl,_,rfl,_,_,rfl,rfl,_,_,rfl,rfl,(by show(0:Int)<_;decide),sg,_,sgC ((first.toNat+1) % 36),rfl,rfl,by decide +kernel,(by rw[eo];exact sg_at (by omega) (by omega)),?_⟩;have c1:sgC first.toNat<128:=sgC_small fn36
    have c2:sgC ((first.toNat+1) % 36)<128:=sgC_small (hCj _ (by decide));have mn0:0<=(if (6:Int)<m then 6 else m):=by split <;> omega
    have mn6:(if (6:Int)<m then 6 else m)<=6:=by split <;> omega
    refine⟨_,rfl,m,6,rfl,_,rfl,by omega,by omega,?_⟩;refine qD9 (fun k=>.str (nmB first.toNat k)) (by omega) ?_ ?_
    ·intro k hk C hC;have ek:nmB first.toNat k=Txt.mul ⟨#[sgC first.toNat]⟩ (1+(0+(k:Int))):=by
      unfold nmB;rw[if_pos (by omega),Int.zero_add]
     rw[ek]at hC;exact⟨Sle.set _ (Sle.refl _) (fun u z=>by cases z),_,rfl,_,rfl,_,_,rfl,rfl,_,_,rfl,rfl,(by show 1<=100;decide),by omega,by omega,hC⟩
    ·intro r2 hr2;refine⟨_,rfl,_,rfl,6,m,rfl,⟨by omega,by omega,by omega,by omega⟩,?_⟩;refine qD9 (fun k=>.str (nmB first.toNat (6+k))) (by omega) ?_ ?_
     ·intro k hk C hC;have ek:nmB first.toNat (6+k)=Txt.mul ⟨#[sgC first.toNat]⟩ (6+(k:Int) - 6)++⟨#[sgC ((first.toNat+1) % 36)]⟩:=by
       unfold nmB;rw[if_neg (by omega),show(((6+k:Nat):Int))=6+(k:Int) by omega]
      rw[ek]at hC;refine⟨Sle.set _ (Sle.refl _) (fun u z=>by cases z),_,rfl,_,rfl,_,_,rfl,rfl,_,_,rfl,rfl,(by show 1<=100;decide),by omega,by omega,_,rfl,_,_,rfl,rfl,?_,hC⟩;rw[qFk (by omega)];show _+1<=sizeLine;exact hB2 (qAi (by omega))
     ·intro r3 hr3;have n23:r2≠r3:=fun e=>by rw[<-e,upd_same]at hr3;cases hr3
      refine⟨r2,r3,_,_,rfl,rfl,(by rw[qAh n23];exact upd_same),upd_same,?_,fun p hp=>?_⟩
      ·rw[hA1,hA1,hB4,hB4];exact hB2 (qAi (by omega))
      refine⟨_,rfl,fin p (nmB first.toNat) _ q5 ?_ ?_ (fun i j _ _ e=>nmB_inj fn36 e) ?_⟩
      ·exact(g1 q5).trans ((Ext.new hr2 _).trans ((Ext.new hr3 _).trans (Ext.new hp _)))
      ·unfold LsS;rw[upd_same];have em:(List.range m.toNat).map (fun k=>V.str (nmB first.toNat k))=(List.range (if (6:Int)<m then 6 else m).toNat).map (fun k=>V.str (nmB first.toNat k))++(List.range (m - 6).toNat).map (fun k=>V.str (nmB first.toNat (6+k))):=by
        by_cases h6:(6:Int)<m
        ·rw[if_pos h6,show m.toNat=6+(m - 6).toNat by omega,List.range_add,hA4,hAs];rfl
        ·rw[if_neg h6,show(m - 6).toNat=0 by omega];simp
       rw[hAs,<-em];rfl
      ·intro i hi;exact nmB_named fn36 (by omega)
   ·refine⟨_,rfl,fin r1 (nmA (Txt.slice word none (some spot)) (Txt.slice word (some (spot+1)) none) first.toNat) _ q5 (g1 q5) ?_ (fun i j hi hj e=>nmA_inj (by omega) (by omega) e) ?_⟩
    ·unfold LsS;rw[qAh (Ne.symm dr1),upd_same,hAs];rfl
    ·intro i _;exact nmA_named sm spa (by omega) (by omega)
end
end My
namespace My
open PySem L2
theorem tri:∀ a b:List Nat,a<b\/a=b\/b<a
 | [],[]=>.inr (.inl rfl)
 | [],_ :: _=>.inl (List.nil_lt_cons _ _)
 | _ :: _,[]=>.inr (.inr (List.nil_lt_cons _ _))
 | x :: a,y :: b=>by
  rcases Nat.lt_trichotomy x y with h | h | h
  ·exact .inl (hBr.mpr (.inl h))
  ·subst h;rcases tri a b with h | h | h
   ·exact .inl (hBr.mpr (.inr ⟨rfl,h⟩))
   ·exact .inr (.inl (by rw[h]))
   ·exact .inr (.inr (hBr.mpr (.inr ⟨rfl,h⟩)))
  ·exact .inr (.inr (hBr.mpr (.inl h)))
end My
namespace My
open PySem L2
theorem qFt:bootBuiltins "int" = some (.type "int"):=by decide +kernel
def ldI (n:Int):Int:=Builtin.bitAnd n (-n)
theorem qEh {s:Nat} (nz:s≠0):ldI (s:Int)=((2^lo s:Nat):Int):=low_bit nz
def spLd:Sp:=fun vs H Q _=>∃ n:Int,vs=[.int n]/\Q (.int (ldI n)) H
def spLSt:Sp:=fun vs H Q _=>∃ (p:Addr) (ms:List Nat) (m:Nat),vs=[.ref p]/\LsN H p ms/\ms.length<=40/\m<=16/\(∀ x∈ms,x<2^m)/\∀ (r:Addr) (S:List Nat) (H':Hp),Ext H H'->H r=none->LsN H' r S->S.Perm (redL ms)->S.Pairwise (fun a b=>lo a<=lo b)->Q (.ref r) H'
section
variable {P:Program} {w:World} {K:PySem.W.Frag} {mg:Str->Option Value} {base:Heap} {f f1 f2:Addr} {fd fd1 fd2:FuncData}
theorem scLd:FnScope ["_law_mask"] ["_law_mask"] (qAd sLLd):=⟨rfl,rfl,rfl,by decide +kernel,rfl,by decide +kernel,by decide +kernel⟩
theorem ok_ld (F:Fun K "_law_lead" "_law_lead" sLLd f fd):FnOk P w K mg base CX0 1 f fd ["_law_mask"] spLd:=by
 refine F.ok scLd (fun vs H Q E h=>?_) (fun cdv A outer s H vs Q E hr h=>?_)
 ·obtain⟨n,rfl,_⟩:=h;rfl
 obtain⟨n,rfl,q⟩:=h;exact⟨_,qAf (qAs (qAt qEo (pv 0) (pe_un un_neg (pv 0)))),_,rfl,_,rfl,_,rfl,_,_,rfl,rfl,q⟩
abbrev stN:List Str:=["_law_masks","_law_found","_law_mask","_law_step","_law_lead_here"]
abbrev stC:List Str:=["_law_step","_law_mask","_law_lead_here"]
theorem scLSt:FnScope stN ["_law_masks"] (qAd sLSt):=⟨rfl,rfl,rfl,by decide +kernel,rfl,by decide +kernel,by decide +kernel⟩
theorem ok_lst (F:Fun K "_law_steps" "_law_steps" sLSt f fd) (G:Cl P w K mg base CX0 1 f1 fd1 ["_law_mask"] spLd "_law_lead") (mi:mg "int" = none) (mso:mg "sorted" = none) :
  FnOk P w K mg base CX0 4 f fd ["_law_masks"] spLSt:=by
 refine F.ok scLSt (fun vs H Q E h=>?_) (fun cdv A outer s H vs Q E hr h=>?_)
 ·obtain⟨p,ms,m,rfl,_⟩:=h;rfl
 obtain⟨p,ms,m,rfl,hp,lm,m16,lt,q⟩:=h;have hr1:=hr.mono (j:=1) (by decide);refine⟨_,qAc (qAm (i:=1) scLSt.nd rfl (Or.inl rfl) (qBl qAb))
  (qAc (qBw PassesOwn.never rfl (qA4 (pv 0)) (qAl (i:=2) scLSt.nd rfl (Or.inr rfl))
   (qAc (qBw PassesOwn.never rfl (qA4 (pv 1)) (qAl (i:=3) scLSt.nd rfl (Or.inl rfl))
    (qAf (qBd (qAp qD2 (qAt qEo (pv 2) (qAv G hr1 rfl .nil qAw (qAa (pv 3) qAb))) qAe (qAu _)) (qAf (qAm (i:=2) scLSt.nd rfl (Or.inr rfl) (qAt qEn (pv 2) (pv 3)))) qAx)))
   (qAf (qBd (qAp qD2 (pv 2) qAe (qAu _))
    (qAc (qAm (i:=4) scLSt.nd rfl (Or.inr rfl) (qAv G hr1 rfl .nil qAw (qAa (pv 2) qAb)))
    (qAf (qAm (i:=1) scLSt.nd rfl (Or.inl rfl) (qAt op_cat (qCp (N:=stN) (sc:=qAd sLSt) (N':=stC) (sub:=[none,some 2,some 4]) rfl rfl (CmpOk.of (by decide +kernel)) rfl (qA4 (pv 1))
     (fun C s H fp=>⟨qAl (i:=0) (by show stC.Nodup;decide) rfl (Or.inl rfl),qA3,qAt qEn (pv 0) (qAt qC1 (pv 1) (qBf qFs rfl mi qFt (qAa (qBm qD2 (qAt qEo (pv 0) (pv 2)) qAe (qAu _)) qAb)))⟩)) (qBl (qAa (pv 2) qAb))))))
    qAx))))
  (qAf (qAs (pe_sortKey (E:=E0) (g:=ldI) G.g hr G.b rfl mso rfl G.m (qAa (pv 1) qAb))))),?_⟩
 refine⟨hAw _,fun ro ro0=>?_⟩;have X0:=Ext.new ro0 (.lst []);refine⟨_,rfl,p,rfl,⟨_,SqL.of (X0 _ _ hp)⟩,?_⟩;refine qCz (xs:=ms.map iV) (fun i σ H'=>∃ (ro:Addr) (x2 x3 x4:Option V),σ=[some (.ref p),some (.ref ro),x2,x3,x4]/\Ext H H'/\H ro=none/\LsN H' ro (redL (ms.take i))) ⟨ro,none,none,none,rfl,X0,ro0,upd_same⟩ (fun i σ H' _ h=>by obtain⟨_,_,_,_,_,e,_⟩:=h;exact SqL.of (e _ _ hp)) ?_ ?_
 ·rintro i v σ H' hx ⟨ro,x2,x3,x4,rfl,e,ro0,hk⟩;obtain⟨n,rfl,hn⟩:=qCi hx;have hi:i<ms.length:=qBc hn;have nl:=lt n (hAj hn);obtain⟨gm,_⟩:=qC5 (m:=m) (ms.take i) fun x hx=>lt x (List.mem_of_mem_take hx)
  have lr:=redL_le (ms.take i);rw[hAi]at lr;have sn:redL (ms.take (i+1))=redLS (redL (ms.take i)) n:=by rw[qAq hn,qFe]
  refine⟨_,rfl,ro,rfl,⟨_,SqL.of hk⟩,?_⟩;refine qCz (xs:=(redL (ms.take i)).map iV) (fun j σ H2=>H2=H'/\∃ x3:Option V,σ=[some (.ref p),some (.ref ro),some (iV (redL1 ((redL (ms.take i)).take j) n)),x3,x4]) ⟨rfl,x3,rfl⟩ (fun j σ H2 _ h=>by rw[h.1];exact SqL.of hk) ?_ ?_
  ·rintro j v σ H2 hx2 ⟨rfl,x3,rfl⟩;obtain⟨s,rfl,hs⟩:=qCi hx2;have snz:=(gm s (hAj hs)).2;have st:redL1 ((redL (ms.take i)).take (j+1)) n=rdL (redL1 ((redL (ms.take i)).take j) n) s:=by rw[qAq hs,redL1_snoc]
   refine⟨_,rfl,_,rfl,_,rfl,_,_,rfl,rfl,rfl,_,rfl,?_⟩;have ap:=qFv (redL1 ((redL (ms.take i)).take j) n) (lo s);have key:((!decide (V.int (Builtin.bitAnd ((redL1 ((redL (ms.take i)).take j) n:Nat):Int) (ldI (s:Int)))=V.int 0))=true)↔(redL1 ((redL (ms.take i)).take j) n).testBit (lo s)=true:=by
    rw[qEh snz,qCk,<-ap];simp
   refine qCb (fun c=>?_) (fun c=>?_)
   ·refine⟨_,rfl,_,rfl,_,_,rfl,rfl,rfl,some (iV s),?_⟩;rw[st,show rdL (redL1 ((redL (ms.take i)).take j) n) s=redL1 ((redL (ms.take i)).take j) n^^^s from if_pos (key.mp c),show iV (redL1 ((redL (ms.take i)).take j) n^^^s)=V.int (Builtin.bitXor ((redL1 ((redL (ms.take i)).take j) n:Nat):Int) (s:Int)) by rw[qCj]];rfl
   ·refine⟨rfl,some (iV s),?_⟩;rw[st,show rdL (redL1 ((redL (ms.take i)).take j) n) s=redL1 ((redL (ms.take i)).take j) n from if_neg fun z=>c (key.mpr z)];rfl
  ·rintro σ H2 ⟨rfl,x3,rfl⟩;rw[hA1,hA8 (hA5 _)];refine⟨_,rfl,rfl,_,rfl,?_⟩;refine qCb (fun c=>?_) (fun c=>?_)
   ·have nz:redL1 (redL (ms.take i)) n≠0:=fun z=>by rw[z]at c;simp at c
    have lb:=qEh nz;have nlt:=(redL1_rv gm nl).1;have pw:2^m<=2^16:=hC1 (by decide) m16;refine⟨_,rfl,_,rfl,?_⟩;refine⟨_,rfl,ro,rfl,⟨_,SqL.of hk⟩,?_⟩;refine qA2 (xs:=(redL (ms.take i)).map iV) (fun j ys H3=>H3=H2/\ys=(((redL (ms.take i)).take j).map fun s=>rdL s (redL1 (redL (ms.take i)) n)).map iV) ⟨rfl,rfl⟩ (fun j ys H3 _ h=>by rw[h.1];exact SqL.of hk) ?_ ?_
    ·rintro j v ys H3 hx3 ⟨rfl,rfl⟩;obtain⟨s,rfl,hs⟩:=qCi hx3;have hj:=qBc hs;have sz:((((redL (ms.take i)).take j).map fun s=>rdL s (redL1 (redL (ms.take i)) n)).map iV).length<sizeLine:=by
      rw[hA1,hA1,hAi];exact qAi (by omega)
     have ap:=qFv s (lo (redL1 (redL (ms.take i)) n));have key:((!decide (V.int (Builtin.bitAnd (s:Int) (ldI ((redL1 (redL (ms.take i)) n:Nat):Int)))=V.int 0))=true)↔s.testBit (lo (redL1 (redL (ms.take i)) n))=true:=by
      rw[lb,qCk,<-ap];simp
     refine⟨Sle.set _ (Sle.refl _) (fun u z=>by cases z),iteT (B:=False) ?_⟩;refine⟨_,rfl,_,rfl,_,rfl,_,rfl,_,_,rfl,rfl,rfl,.inr ⟨_,rfl,_,_,rfl,rfl,.inl ⟨by omega,by omega⟩,_,_,rfl,rfl,sz,nxt (qBc hx3) ⟨rfl,?_⟩⟩⟩;rw[qAq hs,hA4,hA4,hCl,hCl];congr 2;show V.int (Builtin.bitXor _ _)=V.int _;by_cases c3:s.testBit (lo (redL1 (redL (ms.take i)) n))=true
     ·rw[if_pos (key.mpr c3),Int.mul_one,qCj,show rdL s (redL1 (redL (ms.take i)) n)=s^^^redL1 (redL (ms.take i)) n from if_pos c3]
     ·rw[if_neg (fun z=>c3 (key.mp z)),Int.mul_zero,show rdL s (redL1 (redL (ms.take i)) n)=s from if_neg c3,show(0:Int)=((0:Nat):Int) from rfl,qCj,Nat.xor_zero]
    ·rintro ys H3 ⟨rfl,rfl⟩ l1 hl1;rw[hA1,hA8 (hA5 _)];have n1:=Ext.new hl1 (.lst (((redL (ms.take i)).map fun s=>rdL s (redL1 (redL (ms.take i)) n)).map iV));refine⟨_,rfl,(by show 1<=sizeLine;decide),fun l2 hl2=>?_⟩;have n2:=Ext.new hl2 (.lst [iV (redL1 (redL (ms.take i)) n)]);refine⟨l1,l2,_,_,rfl,rfl,n2 _ _ upd_same,upd_same,?_,fun l3 hl3=>?_⟩
     ·rw[hA1,hA1];show _+1<=sizeLine;exact hB2 (qAi (by omega))
     ·refine⟨l3,_,_,_,rfl,((e.trans n1).trans n2).trans (Ext.new hl3 _),((e.trans n1).trans n2).none hl3,?_⟩;rw[sn];unfold redLS LsN;rw[if_neg nz,upd_same,hA4];rfl
   ·have z:redL1 (redL (ms.take i)) n=0:=by
     have:(redL1 (redL (ms.take i)) n:Int)=0:=by simpa using c
     omega
    refine⟨ro,_,_,_,rfl,e,ro0,?_⟩;rw[sn];unfold redLS;rw[if_pos z];exact hk
 ·rintro σ H' ⟨ro,x2,x3,x4,rfl,e,ro0,hk⟩;rw[hA1,hA8 (hA5 _)]at hk;have lr:=redL_le ms;obtain⟨gm,_⟩:=qC5 (m:=m) ms lt;refine⟨_,rfl,ro,(redL ms).map (fun n:Nat=>(n:Int)),rfl,by rw[<-qDo];exact SqL.of hk,by rw[hA1];omega,fun n hn H2 Q2 q2=>⟨n,rfl,q2⟩,fun r ns hr' pm od=>?_⟩;obtain⟨M,rfl⟩:∃ M:List Nat,ns=M.map (fun n:Nat=>(n:Int)):=by
   refine⟨ns.map Int.toNat,?_⟩;rw[hAs];refine(List.map_id _).symm.trans (hBb fun a ha=>?_);obtain⟨n,_,rfl⟩:=hA3.mp (pm.mem_iff.mp ha);simp
  have pm':M.Perm (redL ms):=by
   have:=pm.map Int.toNat;rw[hAs,hAs]at this;have idn:(Int.toNat∘fun n:Nat=>(n:Int))=id:=by funext n;simp
   rw[idn,List.map_id,List.map_id]at this;exact this
  refine q r M _ (e.trans (Ext.new hr' _)) (e.none hr') (by unfold LsN;rw[upd_same,qDo]) pm' ?_;rw[hBf]at od;refine hBi (fun {a b} ha hb h=>?_) od;rw[qEh (gm a (pm'.mem_iff.mp ha)).2,qEh (gm b (pm'.mem_iff.mp hb)).2]at h;exact(Nat.pow_le_pow_iff_right (a:=2) (by decide)).mp (by exact_mod_cast h)
end
end My
namespace My
open PySem L2
def Stp (m:Nat) (S:List Nat):Prop:=∃ xs:List Nat,(∀ x∈xs,x<2^m)/\S.Perm (redL xs)/\S.Pairwise (fun a b=>lo a<=lo b)
section
variable {m:Nat} {S:List Nat}
theorem Stp.gm (h:Stp m S):Gm m S:=by
 obtain⟨xs,lt,p,_⟩:=h;obtain⟨g,_⟩:=qC5 (m:=m) xs lt;exact fun s hs=>g s (p.mem_iff.mp hs)
theorem Stp.rr (h:Stp m S):RR (S.map (rv m)):=by
 obtain⟨xs,lt,p,_⟩:=h;obtain⟨_,e⟩:=qC5 (m:=m) xs lt;have:=p.map (rv m);rw[e]at this;exact(qEm _).perm this
theorem lo_nd (g:Gm m S) (h:RR (S.map (rv m))):(S.map lo).Nodup:=by
 have nd:=ld_nd h;rw[hAs]at nd;refine(hBf.mpr ?_);refine hBi (fun {a b} ha hb hne e=>hne ?_) (hBf.mp nd);show(rv m a).log2=(rv m b).log2;rw[qCm (g a ha).1 (g a ha).2,qCm (g b hb).1 (g b hb).2,e]
theorem Stp.nd (h:Stp m S):(S.map lo).Nodup:=lo_nd h.gm h.rr
theorem Stp.lt (h:Stp m S):∀ s∈S,s<2^m:=fun s hs=>(h.gm s hs).1
end
theorem pows_lt {L:List Nat} {m:Nat} (nd:L.Nodup) (h:∀ l∈L,l<m):(L.map fun l=>2^l).sum<2^m:=hBu _ fun i hi=>by
 rw[qDi L nd,decide_eq_false fun z=>by have:=h i z;omega]
noncomputable def crLM (S:List Nat) (p:Nat):Nat:=2^p+((S.filter fun s:Nat=>s.testBit p).map fun s:Nat=>2^lo s).sum
noncomputable def crLA (S:List Nat) (m:Nat):List Nat:=((List.range m).filter fun p=>!decide (p∈S.map lo)).map (crLM S)
theorem crLM_sum (S:List Nat) (p:Nat):crLM S p=((p :: (S.filter fun s:Nat=>s.testBit p).map lo).map fun l=>2^l).sum:=by
 unfold crLM;rw[hAu,List.sum_cons,hAs];rfl
theorem crL_nd {S:List Nat} {p:Nat} (nd:(S.map lo).Nodup) (np:p∉S.map lo):(p :: (S.filter fun s:Nat=>s.testBit p).map lo).Nodup:=by
 have sub:((S.filter fun s:Nat=>s.testBit p).map lo).Sublist (S.map lo):=(hCy).map lo;exact hBh.mpr ⟨fun z=>np (sub.subset z),nd.sublist sub⟩
theorem crLM_lt {S:List Nat} {m p:Nat} (g:Gm m S) (nd:(S.map lo).Nodup) (np:p∉S.map lo) (hp:p<m):crLM S p<2^m:=by
 rw[crLM_sum];refine pows_lt (crL_nd nd np) fun l hl=>?_
 rcases hAc.mp hl with rfl | hl
 ·exact hp
 ·obtain⟨s,hs,rfl⟩:=hA3.mp hl;have:=g s (hAq.mp hs).1;exact lo_lt this.1 this.2
theorem crLA_lt {S:List Nat} {m:Nat} (g:Gm m S) (nd:(S.map lo).Nodup):∀ x∈crLA S m,x<2^m:=fun x hx=>by
 obtain⟨p,hp,rfl⟩:=hA3.mp hx;obtain⟨h1,h2⟩:=hAq.mp hp;exact crLM_lt g nd (by simpa using h2) (hAn.mp h1)
theorem crLA_len (S:List Nat) (m:Nat):(crLA S m).length<=m:=by
 unfold crLA;rw[hA1];have:=hBy (fun p=>!decide (p∈S.map lo)) (List.range m);rw[hB4]at this;exact this
def spLCr:Sp:=fun vs H Q _=>∃ (p:Addr) (S:List Nat) (m:Nat),vs=[.ref p,iV m]/\LsN H p S/\S.length<=24/\m<=12/\Gm m S/\(S.map lo).Nodup/\∀ (r:Addr) (R:List Nat) (H':Hp),Ext H H'->H r=none->LsN H' r R->R.Perm (redL (crLA S m))->R.Pairwise (fun a b=>lo a<=lo b)->Q (.ref r) H'
theorem inV_iv (x:Nat):∀ l:List Nat,inV (iV x) (l.map iV)=decide (x∈l)
 | []=>rfl
 | y :: l=>by
  have ih:=inV_iv x l;unfold inV at ih ⊢;rw[hAu,hCr,ih];by_cases e:x=y
  ·subst e;simp[eqV]
  ·have:¬((y:Int)=(x:Int)):=fun z=>e (by omega)
   simp[eqV,e,this]
theorem flat_iv:∀ l:List Nat,(l.map iV).all qF0=true
 | []=>rfl
 | _ :: l=>by rw[hAu,List.all_cons,flat_iv l];rfl
section
variable {P:Program} {w:World} {K:PySem.W.Frag} {mg:Str->Option Value} {base:Heap} {f f1 f2:Addr} {fd fd1 fd2:FuncData}
abbrev crsN:List Str:=["_law_base","_law_many","_law_tops","_law_found","_law_k","_law_mask","_law_step"]
theorem scLCr:FnScope crsN ["_law_base","_law_many"] (qAd sLCr):=⟨rfl,rfl,rfl,by decide +kernel,rfl,by decide +kernel,by decide +kernel⟩
theorem ok_lcr (F:Fun K "_law_crossed" "_law_crossed" sLCr f fd) (G:Cl P w K mg base CX0 1 f1 fd1 ["_law_mask"] spLd "_law_lead")
  (G2:Cl P w K mg base CX0 4 f2 fd2 ["_law_masks"] spLSt "_law_steps") (mr:mg "range" = none) :
  FnOk P w K mg base CX0 5 f fd ["_law_base","_law_many"] spLCr:=by
 refine F.ok scLCr (fun vs H Q E h=>?_) (fun cdv A outer s H vs Q E hr h=>?_)
 ·obtain⟨p,S,m,rfl,_⟩:=h;rfl
 obtain⟨p,S,m,rfl,hp,lS,m12,gm,nd,q⟩:=h;have hr1:=hr.mono (j:=1) (by decide);refine⟨_,qAc (ps_lc (i:=2) (N:=crsN) (sc:=qAd sLCr) (N':=["_law_step"]) (sub:=[none]) rfl rfl (CmpOk.of (by decide +kernel)) rfl (qA4 (pv 0))
   (fun C s H fp=>⟨qAl (i:=0) (by show(["_law_step"]:List Str).Nodup;decide) rfl (Or.inl rfl),qA3,qAv G hr1 rfl .nil qAw (qAa (pv 0) qAb)⟩) scLCr.nd rfl (Or.inl rfl))
  (qAc (qAm (i:=3) scLCr.nd rfl (Or.inl rfl) (qBl qAb))
  (qAc (qBw PassesOwn.never rfl (qBa rfl mr (qAa (pv 1) qAb)) (qAl (i:=4) scLCr.nd rfl (Or.inl rfl))
   (qAf (qBd (qAp op_notIn_seq (qAt qGe qAe (pv 4)) (pv 2) (by with_unfolding_all rfl))
    (qAc (qAm (i:=5) scLCr.nd rfl (Or.inl rfl) (qAt qGe qAe (pv 4)))
    (qAc (qBw PassesOwn.never rfl (qA4 (pv 0)) (qAl (i:=6) scLCr.nd rfl (Or.inl rfl))
     (qAf (qBd (qAp qCa (qAt qEo (qAt op_shr (pv 6) (pv 4)) qAe) qAe (qAu _))
      (qAf (qAm (i:=5) scLCr.nd rfl (Or.inl rfl) (qAt qB6 (pv 5) (qAv G hr1 rfl .nil qAw (qAa (pv 6) qAb))))) qAx)))
    (qAf (qCo (qFj hB1 hBj hBk qB7 (pv 3) (qAa (pv 5) qAb))))))
    qAx)))
  (qAf (qAs (qAv G2 hr rfl .nil qAw (qAa (pv 3) qAb)))))),?_⟩
 refine⟨_,rfl,p,rfl,⟨_,SqL.of hp⟩,?_⟩;refine turns_ints (fun _=>true) (fun z=>2^lo z) hp lS (fun z hz C B c b=>⟨Sle.set _ (Sle.refl _) (fun u z=>by cases z),?_⟩) ?_
 ·refine iteT (B:=B H) ⟨_,rfl,_,rfl,?_⟩;have:=c rfl;rw[show iV (2^lo z)=V.int (ldI (z:Int)) by rw[qEh (gm z hz).2]]at this;exact this
 intro l1 hl1;have hfl:((S.filter fun _=>true).map fun z=>2^lo z)=S.map fun z=>2^lo z:=by rw[List.filter_eq_self.mpr (fun _ _=>rfl)]
 rw[hfl];have n1:=Ext.new hl1 (.lst ((S.map fun z=>2^lo z).map iV));refine⟨hAw _,fun fo fo1=>?_⟩;have fo0:=n1.none fo1;have n2:=n1.trans (Ext.new fo1 (.lst []));have h1:LsN (upd H l1 (.lst ((S.map fun z=>2^lo z).map iV))) l1 (S.map fun z=>2^lo z):=upd_same;have h2:=(Ext.new fo1 (.lst [])) _ _ h1;have lfo:l1≠fo:=qAj h1 fo1;have hfo2:LsN (upd (upd H l1 (.lst ((S.map fun z=>2^lo z).map iV))) fo (.lst [])) fo []:=upd_same;revert n2 h2 hfo2;generalize upd (upd H l1 (.lst ((S.map fun z=>2^lo z).map iV))) fo (.lst [])=H2;intro n2 h2 hfo2;refine⟨_,rfl,(m:Int),rfl,by omega,by omega,?_⟩;refine qBh (lo:=0) (n:=((m:Int)).toNat) (fun i σ H'=>∃ (x4 x5 x6:Option V),σ=[some (.ref p),some (iV m),some (.ref l1),some (.ref fo),x4,x5,x6]/\Ext H H'/\LsN H' l1 (S.map fun z=>2^lo z)/\LsN H' fo (crLA S i)) ⟨none,none,none,rfl,n2,h2,hfo2⟩ ?_ ?_
 ·rintro i σ H' hi ⟨x4,x5,x6,rfl,e,ht,hf⟩;have hi':i<m:=by omega
  have ci:(0+(i:Int))=((i:Nat):Int):=by omega
  have sn:crLA S (i+1)=crLA S i++(if i∈S.map lo then [] else [crLM S i]):=by
   unfold crLA;rw[hC6,hBo,hA4];congr 1;by_cases c:i∈S.map lo
   ·rw[List.filter_cons_of_neg (by rw[decide_eq_true c];decide),if_pos c];rfl
   ·rw[List.filter_cons_of_pos (by rw[decide_eq_false c];rfl),if_neg c];rfl
  rw[ci];refine⟨_,rfl,_,_,rfl,rfl,⟨by omega,by omega,by decide⟩,_,rfl,l1,_,rfl,.inl (SqL.of ht),rfl,flat_iv _,_,rfl,?_⟩;have key:inV (V.int (1*2^((i:Nat):Int).toNat)) ((S.map fun z=>2^lo z).map iV)=decide (i∈S.map lo):=by
   rw[shl_nat,inV_iv];refine decide_eq_decide.mpr ⟨fun z=>?_,fun z=>?_⟩
   ·obtain⟨s,hs,e⟩:=hA3.mp z;exact hA3.mpr ⟨s,hs,(Nat.pow_right_inj (a:=2) (by decide)).mp e⟩
   ·obtain⟨s,hs,e⟩:=hA3.mp z;exact hA3.mpr ⟨s,hs,by rw[e]⟩
  rw[if_pos rfl];show if (!inV (V.int (1*2^((i:Nat):Int).toNat)) ((S.map fun z=>2^lo z).map iV))=true then _ else _
  rw[key];refine qCb (fun c=>?_) (fun c=>?_)
  ·have c':i∉S.map lo:=by simpa using c
   refine⟨_,rfl,_,_,rfl,rfl,⟨by omega,by omega,by decide⟩,?_⟩;refine⟨_,rfl,p,rfl,⟨_,SqL.of (e _ _ hp)⟩,?_⟩;refine qCz (xs:=S.map iV) (fun j σ H3=>H3=H'/\∃ x6:Option V,σ=[some (.ref p),some (iV m),some (.ref l1),some (.ref fo),some (iV i),some (iV (crLM (S.take j) i)),x6]) ⟨rfl,x6,?_⟩ (fun j σ H3 _ h=>by rw[h.1];exact SqL.of (e _ _ hp)) ?_ ?_
   ·rw[show crLM (S.take 0) i=2^i by simp[crLM],show iV (2^i)=V.int (1*2^((i:Nat):Int).toNat) by rw[shl_nat]];rfl
   ·rintro j v σ H3 hx2 ⟨rfl,x6,rfl⟩;obtain⟨s,rfl,hs⟩:=qCi hx2;have st:crLM (S.take (j+1)) i=crLM (S.take j) i+(if s.testBit i=true then 2^lo s else 0):=by
     unfold crLM;rw[qAq hs,hBo,hA4,List.sum_append];by_cases c:s.testBit i=true
     ·simp[c,Nat.add_assoc]
     ·simp[c]
    refine⟨_,rfl,_,rfl,_,_,rfl,rfl,(by show(0:Int)<=_;omega),_,_,rfl,rfl,rfl,_,rfl,?_⟩;have key2:(decide (V.int (Builtin.bitAnd ((s:Int) / 2^((i:Nat):Int).toNat) 1)=V.int 1)=true)↔s.testBit i=true:=by
     rw[decide_eq_true_iff,V.int.injEq,hB3,shr_one];by_cases b:s.testBit i=true
     ·simp[b]
     ·simp[b]
    refine qCb (fun c2=>?_) (fun c2=>?_)
    ·refine⟨_,rfl,_,rfl,_,rfl,_,_,rfl,rfl,rfl,some (iV s),?_⟩;rw[st,if_pos (key2.mp c2),show iV (crLM (S.take j) i+2^lo s)=V.int (((crLM (S.take j) i:Nat):Int)+ldI (s:Int)) by rw[qEh (gm s (hAj hs)).2,<-Int.natCast_add]];rfl
    ·refine⟨rfl,some (iV s),?_⟩;rw[st,if_neg fun z=>c2 (key2.mpr z),Nat.add_zero];rfl
   ·rintro σ H3 ⟨rfl,x6,rfl⟩;rw[hA1,hA8 (hA5 _)];have:=crLA_len S i;refine⟨_,rfl,.inl ⟨rfl,_,SqL.of hf⟩,_,rfl,fo,_,_,rfl,rfl,hf,by rw[hA1];exact qAi (by omega),?_⟩;refine⟨_,_,_,rfl,e.over fo0 _,?_,?_⟩
    ·unfold LsN;rw[qAh lfo];exact ht
    ·unfold LsN;rw[upd_same,sn,if_neg c',hA4];rfl
  ·have c':i∈S.map lo:=by simpa using c
   refine⟨_,_,_,rfl,e,ht,?_⟩;rw[sn,if_pos c',hBq];exact hf
 ·rintro σ H' ⟨x4,x5,x6,rfl,e,ht,hf⟩;rw[hB3]at hf;have:=crLA_len S m;exact⟨_,rfl,fo,crLA S m,m,rfl,hf,by omega,by omega,crLA_lt gm nd,fun r R H3 e3 r0 hR pR oR=>q r R H3 (e.trans e3) (e.none r0) hR pR oR⟩
end
end My
namespace My
open PySem L2
def tCutE (t:TS):TS:=fun D σ H=>∃ Pm:St->Hp->Prop,t { D with nx:=Pm } σ H/\∀ σ' H',Pm σ' H'->D.nx σ' H'
theorem qA7 {X:Cx} {st:Stmt} {t:TS} (h:PS X st t):PS X st (tCutE t):=by
 intro pins s σ H D I hw;obtain⟨Pm,h1,h2⟩:=hw;refine thn (h pins s σ H { D with nx:=Pm } I h1) fun fl s' q=>?_
 cases fl with
 | next=>obtain⟨σ',H',I',q⟩:=q;exact⟨σ',H',I',h2 σ' H' q⟩
 | brk=>exact q
 | cont=>exact q
 | ret _=>exact q
theorem boot_set7:bootBuiltins "set" = some (.type "set"):=by decide +kernel
theorem qC9:bootBuiltins "max" = some (.builtin "max"):=by decide +kernel
def Dr (d:Addr) (H H':Hp):Prop:=(∃ q:Int,H' d=some (.lst [.int q]))/\∀ b o,b≠d->H b=some o->H' b=some o
section
variable {d:Addr} {H H1 H2:Hp}
theorem Dr.refl {n:Int} (h:H d=some (.lst [.int n])):Dr d H H:=⟨⟨n,h⟩,fun _ _ _ q=>q⟩
theorem Dr.ext (h:Dr d H H1) (e:Ext H1 H2):Dr d H H2:=⟨let ⟨q,z⟩:=h.1;⟨q,e _ _ z⟩,fun b o n q=>e _ _ (h.2 b o n q)⟩
theorem Dr.trans (h:Dr d H H1) (e:Dr d H1 H2):Dr d H H2:=⟨e.1,fun b o n q=>e.2 b o n (h.2 b o n q)⟩
theorem Dr.take (h:Dr d H H1) (q:Int):Dr d H (upd H1 d (.lst [.int q])):=⟨⟨q,upd_same⟩,fun b o n z=>by rw[qAh n];exact h.2 b o n z⟩
theorem Dr.of_upd {q:Int} (e:Ext (upd H d (.lst [.int q])) H1):Dr d H H1:=⟨⟨q,e _ _ upd_same⟩,fun b o n z=>e _ _ (by rw[qAh n];exact z)⟩
theorem Dr.ne (h:Dr d H H1) {r:Addr} (hr:H1 r=Option.none):r≠d:=fun e=>by
 obtain⟨q,z⟩:=h.1;rw[e,z]at hr;cases hr
theorem Dr.none (h:Dr d H H1) {r:Addr} (hr:H1 r=Option.none):H r=Option.none:=by
 cases q:H r with
 | none=>rfl
 | some o=>rw[h.2 r o (h.ne hr) q]at hr;cases hr
theorem Dr.over (h:Dr d H H1) {r:Addr} (hr:H r=Option.none) (n:r≠d) (o:HO):Dr d H (upd H1 r o):=⟨let ⟨q,z⟩:=h.1;⟨q,by rw[qAh (Ne.symm n)];exact z⟩,fun b u nb z=>by rw[qAh (qAj z hr)];exact h.2 b u nb z⟩
theorem Dr.new (h:Dr d H H1) {r:Addr} (hr:H1 r=Option.none) (o:HO):Dr d H (upd H1 r o):=h.over (h.none hr) (h.ne hr) o
end
theorem qEv {d r:Addr} {H:Hp} {n:Int} (hd:H d=some (.lst [.int n])) (hr:H r=none):r≠d:=fun e=>by rw[e,hd]at hr;cases hr
theorem kept_dr {d:Addr} {H H':Hp} {p:Addr} {ts:List (Nat×Nat)} {n:Int} (hd:H d=some (.lst [.int n])) (np:p≠d) (h:qDh H p ts) (e:Dr d H H'):qDh H' p ts:=by
 obtain⟨as,h1,h2⟩:=h;exact⟨as,e.2 _ _ np h1,Paired.mapP h2 fun a t z=>e.2 _ _ (fun x=>by rw[x,hd]at z;cases z) z⟩
theorem kept_upd {H:Hp} {p r:Addr} {ts:List (Nat×Nat)} {o:HO} {xs:List V} (hr:H r=none\/H r=some (.lst xs)) (np:p≠r) (h:qDh H p ts):qDh (upd H r o) p ts:=by
 obtain⟨as,h1,h2⟩:=h;refine⟨as,by rw[qAh np];exact h1,Paired.mapP h2 fun a t z=>?_⟩;rw[qAh]
 ·exact z
 ·intro x;rcases hr with q | q <;> rw[x,q]at z <;> cases z
def spTi:Sp:=fun vs H Q _=>∃ (d:Addr) (n:Int) (m:Nat),vs=[.ref d,iV m]/\H d=some (.lst [.int n])/\m<=12/\∀ (r:Addr) (ts:List (Nat×Nat)) (H':Hp),Dr d H H'->H r=none->qDh H' r ts->ts.length<=m->(∀ t∈ts,t.1<36/\t.2<36)->Q (.ref r) H'
structure TiS (d:Addr) (H H':Hp) (r h:Addr) (hs:List Nat) (ts:List (Nat×Nat)):Prop where
 dr:Dr d H H'
 r0:H r=none
 h0:H h=none
 rd:r≠d
 hd:h≠d
 rh:r≠h
 hh:LsN H' h hs
 kt:qDh H' r ts
theorem TiS.ext {d:Addr} {H H' H2:Hp} {r h:Addr} {hs:List Nat} {ts:List (Nat×Nat)} (x:TiS d H H' r h hs ts) (e:Ext H' H2):TiS d H H2 r h hs ts:=by
 obtain⟨as,h1,h2⟩:=x.kt;exact⟨x.dr.ext e,x.r0,x.h0,x.rd,x.hd,x.rh,e _ _ x.hh,as,e _ _ h1,Paired.mapP h2 fun a t z=>e _ _ z⟩
theorem TiS.take {d:Addr} {H H':Hp} {r h:Addr} {hs:List Nat} {ts:List (Nat×Nat)} (x:TiS d H H' r h hs ts) (q:Int):TiS d H (upd H' d (.lst [.int q])) r h hs ts:=by
 obtain⟨q0,z⟩:=x.dr.1;exact⟨x.dr.take q,x.r0,x.h0,x.rd,x.hd,x.rh,by unfold LsN;rw[qAh x.hd];exact x.hh,kept_upd (.inr z) x.rd x.kt⟩
theorem TiS.heaps {d:Addr} {H H':Hp} {r h:Addr} {hs hs':List Nat} {ts:List (Nat×Nat)} (x:TiS d H H' r h hs ts):TiS d H (upd H' h (.lst (hs'.map iV))) r h hs' ts :=
 ⟨x.dr.over x.h0 x.hd _,x.r0,x.h0,x.rd,x.hd,x.rh,upd_same,kept_upd (.inr x.hh) x.rh x.kt⟩
theorem at_iv {ms:List Nat} {i:Nat} (h:i<ms.length):atI (ms.map iV) ((i:Nat):Int)=some (iV ms[i]):=qAr (by rw[hAd,hA2 h];rfl)
section
variable {P:Program} {w:World} {K:PySem.W.Frag} {mg:Str->Option Value} {base:Heap} {f f1 f2:Addr} {fd fd1 fd2:FuncData}
abbrev tiL:List Str:=["_law_draw","_law_many","_law_ties_here","_law_heaps","_law_step","_law_way","_law_one","_law_other","_law_deep","_law_joins","_law_low","_law_high"]
theorem scTi:FnScope tiL ["_law_draw","_law_many"] (qAd sLTi):=⟨rfl,rfl,rfl,by decide +kernel,rfl,by decide +kernel,by decide +kernel⟩
theorem or_if {tA tB':TT} {t u:TS} {D:Ends} {σ:St} {H:Hp} (hA:∀ Q:Bool->Hp->Prop,(∀ c,Q c H)->tA σ H Q) (hB:∀ Q:Bool->Hp->Prop,(∀ c,Q c H)->tB' σ H Q) (ht:t D σ H) (hu:u D σ H):tIfS (tOr tA tB') t u D σ H :=
 hA _ fun c=>by
  cases c
  ·exact qEp (hB _ fun c=>qCb (fun _=>ht) (fun _=>hu))
  ·exact iteT (iteT ht)
theorem ok_ti (F:Fun K "_law_ties" "_law_ties" sLTi f fd) (G:Cl P w K mg base CX0 1 f1 fd1 ["_law_draw","_law_many"] qE5 "_law_take")
  (mr:mg "range" = none) (ml:mg "len" = none) (mst:mg "set" = none) (mmi:mg "min" = none) (mma:mg "max" = none) (mi:mg "int" = none) :
  FnOk P w K mg base CX0 2 f fd ["_law_draw","_law_many"] spTi:=by
 refine F.ok scTi (fun vs H Q E h=>?_) (fun cdv A outer s H vs Q E hr h=>?_)
 ·obtain⟨p,S,m,rfl,_⟩:=h;rfl
 obtain⟨d,n,m,rfl,hd,m12,q⟩:=h;refine⟨_,qAc (qAm (i:=2) scTi.nd rfl (Or.inl rfl) (qBl qAb))
  (qAc (qAm (i:=3) scTi.nd rfl (Or.inl rfl) (qBl (qAa qAe qAb)))
  (qAc (qBw PassesOwn.never rfl (qBa rfl mr (qAa (pv 1) qAb)) (qAl (i:=4) scTi.nd rfl (Or.inl rfl))
   (qAc (qAm (i:=5) scTi.nd rfl (Or.inl rfl) (qAv G hr rfl .nil qAw (qAa (pv 0) (qAa qAe qAb))))
   (qAc (qAm (i:=6) scTi.nd rfl (Or.inl rfl) (qAv G hr rfl .nil qAw (qAa (pv 0) (qAa (qAg qAk rfl ml hAl (qAa (pv 3) qAb)) qAb))))
   (qAc (qAm (i:=7) scTi.nd rfl (Or.inl rfl) (qAv G hr rfl .nil qAw (qAa (pv 0) (qAa (qAg qAk rfl ml hAl (qAa (pv 3) qAb)) qAb))))
   (qAc (qA7 (qAm (i:=8) scTi.nd rfl (Or.inl rfl) (qAt qD1 (qAg qAk rfl ml hAl (qAa (pv 3) qAb)) (qAg call_lenSI rfl ml hAl (qAa (qBf (call_setI rfl) rfl mst boot_set7 (qAa (pv 3) qAb)) qAb)))))
   (qAc (qA7 (qBd (PW.pt (qCx (qAp qCa (pv 5) qAe (qAu _)) (qCh (PW.pt (pw_and (qAp qCa (pv 5) qAe (qAu _)) (pw_and1 (qAp op_lt (pv 8) qAe (qAu _))))))))
    (qAc (qCo (qFj hB1 hBj hBk qB7 (pv 3) (qAa (qAg qAk rfl ml hAl (qAa (pv 3) qAb)) qAb)))
    (qAf (qAm (i:=7) scTi.nd rfl (Or.inl rfl) (qAt qD1 (qAg qAk rfl ml hAl (qAa (pv 3) qAb)) qAe)))) qAx))
   (qAc (qA7 (qBd (qAp qCa (pv 5) qAe (qAu _)) (qAf (qAm (i:=6) scTi.nd rfl (Or.inl rfl) (qAv G hr rfl .nil qAw (qAa (pv 0) (qAa (qAg qAk rfl ml hAl (qAa (pv 3) qAb)) qAb))))) qAx))
   (qAc (qAm (i:=9) scTi.nd rfl (Or.inl rfl) (qBm qD2 (qA0 qAz (pv 3) (pv 6) (fun _ _=>rfl)) (qA0 qAz (pv 3) (pv 7) (fun _ _=>rfl)) (qAu _)))
   (qAf (qBd (PW.pt (qCx (PW.pt (pw_and (qBv (pv 9)) (pw_and1 (qAp op_lt (pv 8) qAe (qAu _))))) (qCh (PW.pt (pw_and (qB1 (qBv (pv 9))) (pw_and1 (qAp op_lt (qAt qD1 (qAg qAk rfl ml hAl (qAa (pv 2) qAb)) (pv 8)) qAe (qAu _))))))))
    (qAc (qCo (qFj hB1 hBj hBk qB7 (pv 2) (qAa (qBk (qAa (qAg (qCt rfl) rfl mmi qB8 (qAa (pv 6) (qAa (pv 7) qAb))) (qAa (qAg (qFr rfl) rfl mma qC9 (qAa (pv 6) (qAa (pv 7) qAb))) qAb))) qAb)))
    (qAc (qAm (i:=10) scTi.nd rfl (Or.inr rfl) (qAg (qCt rfl) rfl mmi qB8 (qAa (qA0 qAz (pv 3) (pv 6) (fun _ _=>rfl)) (qAa (qA0 qAz (pv 3) (pv 7) (fun _ _=>rfl)) qAb))))
    (qAc (qAm (i:=11) scTi.nd rfl (Or.inr rfl) (qAg (qFr rfl) rfl mma qC9 (qAa (qA0 qAz (pv 3) (pv 6) (fun _ _=>rfl)) (qAa (qA0 qAz (pv 3) (pv 7) (fun _ _=>rfl)) qAb))))
    (qAf (ps_lc (i:=3) (N:=tiL) (sc:=qAd sLTi) (N':=["_law_heap","_law_low","_law_high"]) (sub:=[none,some 10,some 11]) rfl rfl (CmpOk.of (by decide +kernel)) rfl (qA4 (pv 3))
     (fun C s H fp=>⟨qAl (i:=0) (by show(["_law_heap","_law_low","_law_high"]:List Str).Nodup;decide) rfl (Or.inl rfl),qA3,qA0 (show IxR _ (rIxL K) from qAz) (qBl (qAa (pv 0) (qAa (pv 1) qAb))) (qBf qFs rfl mi qFt (qAa (qBm qCa (pv 0) (pv 2) (qAu _)) qAb)) (fun _ _=>rfl)⟩) scTi.nd rfl (Or.inl rfl))))))
    qAx))))))))))
  (qAf (qAs (pv 2))))),?_⟩
 refine⟨hAw _,fun r r0=>?_⟩;refine⟨(by show 1<=sizeLine;decide),fun h h1=>?_⟩;have d1:=(Dr.refl hd).new r0 (.lst []);have d2:=d1.new h1 (.lst [.int 0]);have rh:r≠h:=fun e=>by rw[<-e,upd_same]at h1;cases h1
 have T0:TiS d H (upd (upd H r (.lst [])) h (.lst [.int 0])) r h [0] []:=⟨d2,r0,d1.none h1,qEv hd r0,d1.ne h1,rh,upd_same,[],by rw[qAh rh];exact upd_same,.nil⟩;refine⟨_,rfl,(m:Int),rfl,by omega,by omega,?_⟩;refine qBh (lo:=0) (n:=((m:Int)).toNat) (fun i σ H'=>∃ (h:Addr) (hs:List Nat) (ts:List (Nat×Nat)) (x4 x5 x6 x7 x8 x9 x10 x11:Option V),σ=[some (.ref d),some (iV m),some (.ref r),some (.ref h),x4,x5,x6,x7,x8,x9,x10,x11]/\TiS d H H' r h hs ts/\0<hs.length/\hs.length<=i+1/\ts.length<=i/\∀ t∈ts,t.1<36/\t.2<36) ⟨h,[0],[],none,none,none,none,none,none,none,none,rfl,T0,by decide,by decide,by decide,fun t ht=>by cases ht⟩ ?_ ?_
 ·rintro i σ H' hi ⟨h,hs,ts,x4,x5,x6,x7,x8,x9,x10,x11,rfl,T,l0,lh,lt,t36⟩;rw[show(0+(i:Int))=((i:Nat):Int) by omega];obtain⟨q0,z0⟩:=T.dr.1;refine⟨_,rfl,d,q0,4,rfl,z0,by decide,by decide,fun q1 way wa wb=>?_⟩;have T1:=T.take q1;refine⟨_,rfl,_,rfl,h,_,rfl,.inl (SqL.of T1.hh),d,q1,_,rfl,upd_same,by rw[hA1];omega,by rw[hA1];omega,fun q2 one oa ob=>?_⟩;rw[qCl];rw[hA1]at ob;have T2:=T.take q2;refine⟨_,rfl,_,rfl,h,_,rfl,.inl (SqL.of T2.hh),d,q2,_,rfl,upd_same,by rw[hA1];omega,by rw[hA1];omega,fun q3 oth ta tb=>?_⟩;rw[qCl];rw[hA1]at tb;have T3:=T.take q3;obtain⟨one,rfl⟩:=hB9 oa;obtain⟨oth,rfl⟩:=hB9 ta;refine⟨fun σ' H2=>∃ deep:Int,σ'=[some (.ref d),some (iV m),some (.ref r),some (.ref h),some (iV i),some (.int way),some (iV one),some (iV oth),some (.int deep),x9,x10,x11]/\TiS d H H2 r h hs ts,?_,?_⟩
  ·refine⟨_,rfl,h,_,rfl,.inl (SqL.of T3.hh),?_⟩;refine⟨_,rfl,h,hs.map fun n:Nat=>(n:Int),rfl,by rw[<-qDo];exact SqL.of T3.hh,by rw[hA1];omega,fun a k a0 hk=>?_⟩;rw[hA1]at hk;exact⟨a,k,rfl,upd_same,by omega,_,_,rfl,rfl,_,rfl,T3.ext (Ext.new a0 _)⟩
  rintro _ H2 ⟨deep,rfl,U⟩;clear T1 T2 T3 T;refine⟨fun σ' H3=>∃ (hs2:List Nat) (oth2:Nat),σ'=[some (.ref d),some (iV m),some (.ref r),some (.ref h),some (iV i),some (.int way),some (iV one),some (iV oth2),some (.int deep),x9,x10,x11]/\TiS d H H3 r h hs2 ts/\0<hs2.length/\hs2.length<=i+2/\one<hs2.length/\oth2<hs2.length,?_,?_⟩
  ·have sz:(hs.map iV).length<sizeLine:=by rw[hA1];exact qAi (by omega)
   have Un:=U.heaps (hs':=hs++[hs.length]);have e2:(((hs++[hs.length]).map iV).length:Int) - 1=((hs.length:Nat):Int):=by rw[hA1,hAf];show((hs.length+1:Nat):Int) - 1=_;omega
   have e1:hs.map iV++[V.int ((hs.map iV).length:Nat)]=(hs++[hs.length]).map iV:=by rw[hA4,hA1];rfl
   refine⟨_,rfl,rfl,_,rfl,qCb (fun c1=>?_) (fun c1=>⟨_,rfl,rfl,_,rfl,qCb (fun c2=>⟨_,rfl,_,_,rfl,rfl,_,rfl,?_⟩) (fun c2=>?_)⟩)⟩
   ·exact iteT (by
    refine⟨_,rfl,.inl ⟨rfl,_,SqL.of U.hh⟩,_,rfl,h,_,rfl,.inl (SqL.of U.hh),h,_,_,rfl,rfl,U.hh,sz,?_⟩;rw[e1];refine⟨_,rfl,h,_,rfl,.inl (SqL.of Un.hh),_,_,rfl,rfl,hs++[hs.length],hs.length,?_,Un,by rw[hAf];exact Nat.succ_pos _,by rw[hAf];show _+1<=_;omega,by rw[hAf];show _<_+1;omega,by rw[hAf];show _<_+1;omega⟩;rw[show iV hs.length=V.int ((((hs++[hs.length]).map iV).length:Int) - 1) by rw[e2]];rfl)
   ·refine qCb (fun c3=>?_) (fun c3=>⟨hs,oth,rfl,U,l0,by omega,by omega,by omega⟩);exact(by
    refine⟨_,rfl,.inl ⟨rfl,_,SqL.of U.hh⟩,_,rfl,h,_,rfl,.inl (SqL.of U.hh),h,_,_,rfl,rfl,U.hh,sz,?_⟩;rw[e1];refine⟨_,rfl,h,_,rfl,.inl (SqL.of Un.hh),_,_,rfl,rfl,hs++[hs.length],hs.length,?_,Un,by rw[hAf];exact Nat.succ_pos _,by rw[hAf];show _+1<=_;omega,by rw[hAf];show _<_+1;omega,by rw[hAf];show _<_+1;omega⟩;rw[show iV hs.length=V.int ((((hs++[hs.length]).map iV).length:Int) - 1) by rw[e2]];rfl)
   ·exact qEp ⟨hs,oth,rfl,U,l0,by omega,by omega,by omega⟩
  rintro _ H3 ⟨hs2,oth2,rfl,U3,l20,l2,o1,o2⟩;refine⟨fun σ' H4=>∃ one2:Nat,σ'=[some (.ref d),some (iV m),some (.ref r),some (.ref h),some (iV i),some (.int way),some (iV one2),some (iV oth2),some (.int deep),x9,x10,x11]/\TiS d H H4 r h hs2 ts/\one2<hs2.length,?_,?_⟩
  ·refine⟨_,rfl,rfl,_,rfl,qCb (fun c1=>?_) (fun c1=>⟨one,rfl,U3,o1⟩)⟩;obtain⟨q5,z5⟩:=U3.dr.1;refine⟨_,rfl,_,rfl,h,_,rfl,.inl (SqL.of U3.hh),d,q5,_,rfl,z5,by rw[hA1];omega,by rw[hA1];omega,fun q6 one2 oa2 ob2=>?_⟩;rw[hA1]at ob2;obtain⟨one2,rfl⟩:=hB9 oa2;exact⟨one2,rfl,U3.take q6,by omega⟩
  rintro _ H4 ⟨one2,rfl,U4,o12⟩;refine⟨_,rfl,_,rfl,h,_,_,_,rfl,rfl,SqL.of U4.hh,at_iv o12,_,rfl,_,rfl,h,_,_,_,rfl,rfl,SqL.of U4.hh,at_iv o2,rfl,?_⟩;generalize (!decide (iV hs2[one2]=iV hs2[oth2]))=jb;have pairN:∀ a b:Nat,(∃ c:Nat,(if (b:Int)<(a:Int) then (b:Int) else (a:Int))=(c:Int)/\(c=a\/c=b))/\∃ c:Nat,(if (b:Int) > (a:Int) then (b:Int) else (a:Int))=(c:Int)/\(c=a\/c=b):=fun a b=>⟨by split <;> first | exact⟨_,rfl,.inl rfl⟩ | exact⟨_,rfl,.inr rfl⟩,by split <;> first | exact⟨_,rfl,.inl rfl⟩ | exact⟨_,rfl,.inr rfl⟩⟩
  obtain⟨⟨lo1,elo1,blo1⟩,hi1,ehi1,bhi1⟩:=pairN one2 oth2;obtain⟨⟨lo2,elo2,_⟩,hi2,ehi2,_⟩:=pairN hs2[one2] hs2[oth2];have lts:ts.length<1000:=by omega
  obtain⟨as,hr1,pr⟩:=U4.kt;have las:=pr.length;dsimp only[gName];refine or_if (fun Q hQ=>?_) (fun Q hQ=>?_) ?_ ?_
  ·refine⟨_,rfl,jb,rfl,?_⟩;cases jb
   ·exact qEp (hQ _)
   ·exact iteT ⟨_,rfl,_,_,rfl,rfl,_,rfl,hQ _⟩
  ·refine⟨_,rfl,jb,rfl,?_⟩;cases jb
   ·exact iteT (B:=Q false H4) ⟨_,rfl,r,_,rfl,.inl (SqL.of hr1),_,rfl,_,_,rfl,rfl,_,_,rfl,rfl,_,rfl,hQ _⟩
   ·exact qEp (hQ _)
  ·refine⟨_,rfl,.inl ⟨rfl,_,SqL.of hr1⟩,_,rfl,_,rfl,_,_,rfl,_,rfl,_,rfl,_,_,rfl,(by show 2<=sizeLine;decide),fun p p0=>?_⟩;rw[elo1,ehi1];have V1:=U4.ext (Ext.new p0 (.tup [iV lo1,iV hi1]));have rp:r≠p:=qAj hr1 p0;have hr2:upd H4 p (.tup [iV lo1,iV hi1]) r=some (.lst (as.map V.ref)):=by rw[qAh rp];exact hr1
   refine⟨r,_,_,rfl,rfl,hr2,by rw[hA1,las];exact qAi (by omega),?_⟩;have V2:TiS d H (upd (upd H4 p (.tup [iV lo1,iV hi1])) r (.lst (as.map V.ref++[V.ref p]))) r h hs2 (ts++[(lo1,hi1)]):=by
    refine⟨V1.dr.over V1.r0 V1.rd _,V1.r0,V1.h0,V1.rd,V1.hd,V1.rh,by unfold LsN;rw[qAh (Ne.symm V1.rh)];exact V1.hh,as++[p],by rw[upd_same,hA4];rfl,Paired.snoc (Paired.mapP pr fun a t z=>?_) ?_⟩
    ·have ar:a≠r:=fun e=>by rw[e,hr1]at z;cases z
     rw[qAh ar,qAh (qAj z p0)];exact z
    ·rw[qAh (Ne.symm rp),upd_same]
   refine⟨_,rfl,_,rfl,h,_,_,_,rfl,rfl,SqL.of V2.hh,at_iv o12,_,rfl,_,rfl,h,_,_,_,rfl,rfl,SqL.of V2.hh,at_iv o2,_,_,rfl,?_⟩;refine⟨_,rfl,_,rfl,h,_,_,_,rfl,rfl,SqL.of V2.hh,at_iv o12,_,rfl,_,rfl,h,_,_,_,rfl,rfl,SqL.of V2.hh,at_iv o2,_,_,rfl,?_⟩;rw[elo2,ehi2];refine⟨_,rfl,h,rfl,⟨_,SqL.of V2.hh⟩,?_⟩;refine qA2 (xs:=hs2.map iV) (fun j ys H5=>Ext (upd (upd H4 p (.tup [iV lo1,iV hi1])) r (.lst (as.map V.ref++[V.ref p]))) H5/\∃ ns:List Nat,ys=ns.map iV/\ns.length=j) ⟨Ext.refl _,[],rfl,rfl⟩ (fun j ys H5 _ z=>SqL.of (z.1 _ _ V2.hh)) ?_ ?_
   ·rintro j v ys H5 hx ⟨e5,ns,rfl,ln⟩;obtain⟨x,rfl,hx'⟩:=qCi hx;have hj:=qBc hx';have sz:(ns.map iV).length<sizeLine:=by rw[hA1];exact qAi (by omega)
    refine⟨Sle.set _ (Sle.refl _) (fun u z=>by cases z),iteT (B:=False) ⟨_,rfl,_,rfl,(by show 2<=sizeLine;decide),fun l hl=>?_⟩⟩;have n5:=Ext.new hl (.lst [iV x,iV lo2]);refine⟨_,rfl,_,rfl,rfl,.inr ⟨_,rfl,?_⟩⟩;by_cases c:iV x=iV hi2
    ·rw[decide_eq_true c,if_pos rfl];exact⟨l,_,_,iV lo2,rfl,rfl,SqL.of upd_same,rfl,sz,nxt (qBc hx) ⟨e5.trans n5,ns++[lo2],by rw[hA4];rfl,by rw[hAf,ln];rfl⟩⟩
    ·rw[decide_eq_false c,if_neg (by decide)];exact⟨l,_,_,iV x,rfl,rfl,SqL.of upd_same,rfl,sz,nxt (qBc hx) ⟨e5.trans n5,ns++[x],by rw[hA4];rfl,by rw[hAf,ln];rfl⟩⟩
   ·rintro ys H5 ⟨e5,ns,rfl,ln⟩ l hl;rw[hA1]at ln;have V5:=V2.ext e5;have V6:=V5.ext (Ext.new hl (.lst (ns.map iV)));have rl:r≠l:=fun e=>by
     obtain⟨as5,h5,_⟩:=V5.kt;rw[<-e,h5]at hl;cases hl
    exact⟨l,ns,_,_,_,_,_,_,_,_,_,rfl,⟨V6.dr,V6.r0,V5.dr.none hl,V6.rd,V5.dr.ne hl,rl,upd_same,V6.kt⟩,by omega,by omega,by rw[hAf];show _+1<=_;omega,fun t ht=>by
     rcases hAr.mp ht with z | z
     ·exact t36 t z
     ·rw[hAk.mp z];have b36:hs2.length<36:=by omega
      exact⟨by show lo1<36;rcases blo1 with rfl | rfl <;> omega,by show hi1<36;rcases bhi1 with rfl | rfl <;> omega⟩⟩
  ·exact⟨h,hs2,ts,_,_,_,_,_,_,_,_,rfl,U4,l20,by omega,by omega,t36⟩
 ·rintro σ H' ⟨h,hs,ts,x4,x5,x6,x7,x8,x9,x10,x11,rfl,T,l0,lh,lt,t36⟩;exact⟨_,rfl,q r ts H' T.dr T.r0 T.kt (by omega) t36⟩
end
end My
namespace My
open PySem L2
def KeptK (H:Hp) (p:Addr) (ts:List (Key×Key)):Prop:=∃ as:List Addr,H p=some (.lst (as.map V.ref))/\Paired (fun a t=>H a=some (.tup [kV t.1,kV t.2])) as ts
def HomK (t:Key×Key):Prop:=(∃ i j,t=(Sum.inl i,Sum.inl j))\/∃ a b,t=(Sum.inr a,Sum.inr b)
def atK (k:Key) (t:Key×Key):Bool:=decide (t.1=k) ^^ decide (t.2=k)
def stF (k:Key):Nat->List (Key×Key)->Nat
 | _,[]=>0
 | i,t :: r=>(if atK k t=true then 2^i else 0)^^^stF k (i+1) r
def stK (ts:List (Key×Key)) (k:Key):Nat:=stF k 0 ts
theorem stF_snoc (k:Key) (t:Key×Key):∀ (l:List (Key×Key)) (i:Nat),stF k i (l++[t])=stF k i l^^^(if atK k t=true then 2^(i+l.length) else 0)
 | [],i=>by show(if atK k t=true then 2^i else 0)^^^0=0^^^_;rw[Nat.xor_zero,hD1];rfl
 | u :: l,i=>by
  show(if atK k u=true then 2^i else 0)^^^stF k (i+1) (l++[t])=((if atK k u=true then 2^i else 0)^^^stF k (i+1) l)^^^_;rw[stF_snoc k t l (i+1),Nat.xor_assoc,hBd,show i+1+l.length=i+(l.length+1) by omega]
theorem stK_snoc (k:Key) (t:Key×Key) (l:List (Key×Key)):stK (l++[t]) k=stK l k^^^(if atK k t=true then 2^l.length else 0):=by
 unfold stK;rw[stF_snoc,Nat.zero_add]
theorem stF_lt (k:Key):∀ (l:List (Key×Key)) (i:Nat),stF k i l<2^(i+l.length)
 | [],i=>Nat.pow_pos (by decide)
 | t :: l,i=>by
  have ih:=stF_lt k l (i+1);rw[show i+1+l.length=i+(t :: l).length by rw[hBd];omega]at ih;refine hC7 ?_ ih;split
  ·exact Nat.pow_lt_pow_right (by decide) (by rw[hBd];omega)
  ·exact Nat.pow_pos (by decide)
theorem stK_lt (ts:List (Key×Key)) (k:Key):stK ts k<2^ts.length:=by
 have:=stF_lt k ts 0
 rwa [Nat.zero_add]at this
theorem atK_loop {k:Key} {t:Key×Key} (e:t.1=t.2):atK k t=false:=by unfold atK;rw[e];simp
theorem put_len (kvs:List (Key×V)) (k:Key) (v:V):(putK kvs k v).length<=kvs.length+1:=by
 unfold putK;split
 ·rw[hA1];omega
 ·rw[hAf];exact hA5 _
def DS (ts:List (Key×Key)) (kvs:List (Key×V)):Prop:=∀ k,(valV kvs k).getD (.int 0)=iV (stK ts k)
theorem kV_eq {a b:Key} (h:HomK (a,b)):(kV a=kV b)↔a=b:=by
 rcases h with ⟨i,j,e⟩ | ⟨x,y,e⟩ <;> cases e <;> simp[kV]
theorem DS.put {ts:List (Key×Key)} {kvs:List (Key×V)} (h:DS ts kvs) {t:Key×Key} (ne:¬t.1=t.2):DS (ts++[t]) (putK (putK kvs t.1 (iV (stK ts t.1^^^2^ts.length))) t.2 (iV (stK ts t.2^^^2^ts.length))):=fun k=>by
 rw[valV_put,valV_put,stK_snoc];have h':=h k;unfold atK;by_cases e2:k=t.2
 ·subst e2;rw[if_pos rfl,decide_eq_false ne,decide_eq_true rfl];rfl
 ·rw[if_neg e2];by_cases e1:k=t.1
  ·subst e1;rw[if_pos rfl,decide_eq_true rfl,decide_eq_false fun z=>e2 z.symm];rfl
  ·rw[if_neg e1,decide_eq_false fun z=>e1 z.symm,decide_eq_false fun z=>e2 z.symm,h'];simp
theorem DS.loop {ts:List (Key×Key)} {kvs:List (Key×V)} (h:DS ts kvs) {t:Key×Key} (e:t.1=t.2):DS (ts++[t]) kvs:=fun k=>by
 rw[stK_snoc,atK_loop e,h k];simp
def spStM:Sp:=fun vs H Q _=>∃ (p:Addr) (ts:List (Key×Key)),vs=[.ref p]/\KeptK H p ts/\(∀ t∈ts,HomK t)/\ts.length<=12/\∀ (r:Addr) (ks:List Key) (H':Hp),Ext H H'->H r=none->LsN H' r (ks.map (stK ts))->ks.length<=2*ts.length->(∀ k,stK ts k≠0->k∈ks)->Q (.ref r) H'
section
variable {P:Program} {w:World} {K:PySem.W.Frag} {mg:Str->Option Value} {base:Heap} {f f1 f2 f3:Addr} {fd fd1 fd2 fd3:FuncData}
abbrev smN:List Str:=["_law_ties_here","_law_around","_law_k","_law_one","_law_other"]
theorem scStM:FnScope smN ["_law_ties_here"] (qAd sStM):=⟨rfl,rfl,rfl,by decide +kernel,rfl,by decide +kernel,by decide +kernel⟩
theorem ok_stM (F:Fun K "_law_star_masks" "_law_star_masks" sStM f fd) (me:mg "enumerate" = none):FnOk P w K mg base CX0 1 f fd ["_law_ties_here"] spStM:=by
 refine F.ok scStM (fun vs H Q E h=>?_) (fun cdv A outer s H vs Q E hr h=>?_)
 ·obtain⟨p,ts,rfl,_⟩:=h;rfl
 obtain⟨p,ts,rfl,⟨as,hp,pr⟩,hom,lt,q⟩:=h;have las:=pr.length;refine⟨_,qAc (qAm (i:=1) scStM.nd rfl (Or.inr rfl) pe_dnewK)
  (qAc (qBw PassesOwn.never rfl (pi_enum rfl me (qAa (pv 0) qAb)) (qDz rfl (qA1 (qAl (i:=2) scStM.nd rfl (Or.inl rfl)) (qA1 (qDz rfl (qA1 (qAl (i:=3) scStM.nd rfl (Or.inl rfl)) (qA1 (qAl (i:=4) scStM.nd rfl (Or.inl rfl)) qCy))) qCy)))
   (qAf (qBd (qAp qD2 (pv 3) (pv 4) (qAu _))
    (qAc (ps_dput (hu_of hr) (pv 1) (pv 3) (qAt qEn (pe_dget2 (hu_of hr) (pv 1) (pv 3) qAe ⟨rfl,rfl,rfl,rfl⟩) (qAt qGe qAe (pv 2))) rfl)
    (qAf (ps_dput (hu_of hr) (pv 1) (pv 4) (qAt qEn (pe_dget2 (hu_of hr) (pv 1) (pv 4) qAe ⟨rfl,rfl,rfl,rfl⟩) (qAt qGe qAe (pv 2))) rfl)))
    qAx)))
  (qAf (qAs (qCp (N:=smN) (sc:=qAd sStM) (N':=["_law_point","_law_around"]) (sub:=[none,some 1]) rfl rfl (CmpOk.of (by decide +kernel)) rfl (pi_keys (pv 1))
   (fun C s H fp=>⟨qAl (i:=0) (by show(["_law_point","_law_around"]:List Str).Nodup;decide) rfl (Or.inl rfl),qA3,pe_dget (hu_of hr) (pv 1) (pv 0) (fun _ _=>rfl)⟩))))),?_⟩
 intro d hd;have n0:=Ext.new hd (.dK []);refine⟨_,rfl,p,_,rfl,SqL.of (n0 _ _ hp),?_⟩;rw[hA1];refine for_pairs (fun i σ H'=>∃ (x2 x3 x4:Option V) (kvs:List (Key×V)),σ=[some (.ref p),some (.ref d),x2,x3,x4]/\Ext H H'/\H' d=some (.dK kvs)/\DS (ts.take i) kvs/\kvs.length<=2*i) ⟨none,none,none,[],rfl,n0,upd_same,(fun k=>rfl),by decide⟩ (fun i σ H' _ z=>by obtain⟨_,_,_,_,_,e,_⟩:=z;exact SqL.of (e _ _ hp)) ?_ ?_
 ·rintro i σ H' T hi ⟨x2,x3,x4,kvs,rfl,e,hD,dm,lk⟩ hT;have hi':i<ts.length:=by omega
  obtain⟨t,ht,hat⟩:=qA6 pr (hA2 hi);have ho:=hom t (hAj ht);have gd:(as.map V.ref).getD i .non = .ref as[i]:=by rw[hAb,hAd,hA2 hi];rfl
  have nT:=Ext.new hT (.tup [V.int (i:Nat),(as.map V.ref).getD i .non]);have e2:=e.trans nT;have tk:=qAq ht;have tl:(ts.take i).length=i:=by rw[hAi];omega
  refine⟨T,_,rfl,SqT.of upd_same,rfl,_,_,rfl,_,_,rfl,as[i],_,gd,SqT.of (e2 _ _ hat),rfl,_,_,rfl,_,_,rfl,rfl,rfl,?_⟩;have hD2:=nT _ _ hD;revert e2 hD2;generalize upd H' T (.tup [V.int (i:Nat),(as.map V.ref).getD i .non])=H2;intro e2 hD2;refine⟨_,rfl,_,rfl,?_,_,rfl,?_⟩
  ·rcases ho with ⟨_,_,rfl⟩ | ⟨_,_,rfl⟩ <;> rfl
  refine qCb (fun c=>?_) (fun c=>?_)
  ·have ne:¬t.1=t.2:=fun z=>by rw[z]at c;simp at c
   have ex:=dm t.1;have l1:=put_len kvs t.1 (iV (stK (ts.take i) t.1^^^2^i));have ev:∀ x:Nat,(fun i j:Int=>V.int (Builtin.bitXor i j)) ((x:Nat):Int) (1*2^((i:Nat):Int).toNat)=iV (x^^^2^i):=fun x=>by
    show V.int (Builtin.bitXor _ _)=V.int _;rw[shl_nat,qCj]
   refine⟨_,rfl,d,rfl,.inl ⟨kvs,.inl hD2⟩,_,rfl,_,DGet.k (k:=t.1) hD2,_,rfl,_,_,rfl,rfl,⟨by omega,by omega,by decide⟩,_,_,ex,rfl,_,rfl,_,rfl,d,_,rfl,DPut.k (k:=t.1) hD2 (qAi (by omega)),?_⟩;rw[ev];have hD3:upd H2 d (.dK (putK kvs t.1 (iV (stK (ts.take i) t.1^^^2^i)))) d=some (.dK (putK kvs t.1 (iV (stK (ts.take i) t.1^^^2^i)))):=upd_same;have e3:=e2.over hd (.dK (putK kvs t.1 (iV (stK (ts.take i) t.1^^^2^i))));have ey:(valV (putK kvs t.1 (iV (stK (ts.take i) t.1^^^2^i))) t.2).getD (.int 0)=iV (stK (ts.take i) t.2):=by
    rw[valV_put,if_neg fun z=>ne z.symm];exact dm t.2
   have dm2:=dm.put ne;rw[tl,<-tk]at dm2;revert hD3 e3 dm2 l1 ey;generalize putK kvs t.1 (iV (stK (ts.take i) t.1^^^2^i))=kv1;intro l1 hD3 e3 ey dm2;revert hD3 e3;generalize upd H2 d (.dK kv1)=H3;intro hD3 e3;have l2:=put_len kv1 t.2 (iV (stK (ts.take i) t.2^^^2^i));refine⟨_,rfl,d,rfl,.inl ⟨kv1,.inl hD3⟩,_,rfl,_,DGet.k (k:=t.2) hD3,_,rfl,_,_,rfl,rfl,⟨by omega,by omega,by decide⟩,_,_,ey,rfl,_,rfl,_,rfl,d,_,rfl,DPut.k (k:=t.2) hD3 (qAi (by omega)),?_⟩;rw[ev];exact⟨_,_,_,_,rfl,e3.over hd _,upd_same,dm2,by omega⟩
  ·have eq:t.1=t.2:=(kV_eq ho).mp (by simpa using c);exact⟨_,_,_,kvs,rfl,e2,hD2,by rw[tk];exact dm.loop eq,by omega⟩
 ·rintro σ H' ⟨x2,x3,x4,kvs,rfl,e,hD,dm,lk⟩;rw[las]at lk;rw[las,hA8 (hA5 _)]at dm;refine⟨_,rfl,d,kvs,rfl,hD,fun o=>?_⟩;have nd:upd H' d (.frz o (.dK kvs)) d=some (.frz o (.dK kvs)):=upd_same;have e9:=e.over hd (.frz o (.dK kvs));revert nd e9;generalize upd H' d (.frz o (.dK kvs))=H9;intro nd e9;have vl:∀ p∈kvs,valV kvs p.1=some (iV (stK ts p.1)):=fun p hp=>by
   have:=dm p.1;cases e:valV kvs p.1 with
   | none=>exact absurd (hA3.mpr ⟨p,hp,rfl⟩) (valV_not e)
   | some v=>rw[e]at this;exact congrArg some this
  refine turns_keys (fun i ys H2=>H2=H9/\ys=(((kvs.take i).map (·.1)).map (stK ts)).map iV) ⟨rfl,rfl⟩ (fun i ys H2 _ h=>by rw[h.1];exact nd) ?_ ?_
  ·rintro i pr' ys H2 hpr ⟨rfl,rfl⟩;have hi:i<kvs.length:=qBc hpr;have hv:=vl pr' (hAj hpr);refine⟨Sle.set _ (Sle.refl _) (fun u z=>by cases z),iteT (B:=False) ⟨_,rfl,_,rfl,d,_,rfl,.inl ⟨kvs,pr'.1,.inr ⟨o,nd⟩,rfl,hv.symm⟩,?_,nxt hi ⟨rfl,?_⟩⟩⟩
   ·rw[hA1,hA1,hA1,hAi];exact qAi (by omega)
   ·rw[qAq hpr,hA4,hA4,hA4];rfl
  ·rintro ys H2 ⟨rfl,rfl⟩ l hl;rw[hA8 (hA5 _)];refine q l (kvs.map fun x:Key×V=>x.1) _ (e9.trans (Ext.new hl _)) (e9.none hl) upd_same (by rw[hA1];omega) fun k hk=>?_
   have:=dm k;cases e:valV kvs k with
   | none =>
    rw[e]at this;have:(0:Int)=((stK ts k:Nat):Int):=by
     have z:V.int 0=V.int ((stK ts k:Nat):Int):=this;cases z'':stK ts k with
     | zero=>rfl
     | succ n=>rw[z'']at z;cases z
    omega
   | some v=>exact valV_in e
end
end My
namespace My
open PySem L2
theorem Stp.len {m:Nat} {S:List Nat} (h:Stp m S):S.length<=m:=by
 have:=List.Nodup.length_le_of_subset (l₂:=List.range m) h.nd fun l hl=>by
  obtain⟨s,hs,rfl⟩:=hA3.mp hl;exact hAn.mpr (lo_lt (h.gm s hs).1 (h.gm s hs).2)
 rw[hA1,hB4]at this;exact this
def intD (ms:List Nat):PyData:=.list (ms.map fun n:Nat=>.int (n:Int))
theorem drs_iv {K:PySem.W.Frag} {H:Hp}:∀ ms:List Nat,DRs K H (ms.map iV) (ms.map fun n:Nat=>.int (n:Int))
 | []=>.nil
 | n :: ms=>.cons (.int _) (drs_iv ms)
theorem dr_iv {K:PySem.W.Frag} {H:Hp} {p:Addr} {ms:List Nat} (h:LsN H p ms):DR K H (.ref p) (intD ms):=.lst (SqL.of h) (drs_iv ms)
theorem lay_iv:∀ ms:List Nat,PyData.canLayAll0 (ms.map fun n:Nat=>.int (n:Int))=true/\PyData.depthAll (ms.map fun n:Nat=>.int (n:Int))=0
 | []=>⟨rfl,rfl⟩
 | n :: ms=>by
  obtain⟨h1,h2⟩:=lay_iv ms;refine⟨?_,?_⟩
  ·show(true && PyData.canLayAll0 (ms.map fun n:Nat=>.int (n:Int)))=true;rw[h1];rfl
  ·show max 0 (PyData.depthAll (ms.map fun n:Nat=>.int (n:Int)))=0;rw[h2];rfl
theorem qDt (ms:List Nat):SeqAt.shaped (intD ms)=true:=by
 obtain⟨h1,h2⟩:=lay_iv ms;show(PyData.canLayAll0 (ms.map fun n:Nat=>.int (n:Int)) && decide (PyData.depthAll (ms.map fun n:Nat=>.int (n:Int))+1<=64))=true;rw[h1,h2];rfl
theorem eqv_nil (ms:List Nat):PyData.eqv (intD ms) (intD [])=decide (ms=[]):=by
 cases ms with
 | nil=>rfl
 | cons a l=>rfl
theorem ixN_nat {n j:Nat} (h:j<n):ixN n ((j:Nat):Int)=some j:=by
 unfold ixN;rw[if_pos (by omega),if_pos (by omega)];simp
structure MoS (d:Addr) (H H':Hp) (b:Addr) (B:List Nat) (m l:Nat):Prop where
 dr:Dr d H H'
 bd:b≠d
 hb:LsN H' b B
 len:B.length<=l
 lt:∀ x∈B,x<2^m
theorem qFo {α:Type}:∀ (l:List α) (i:Nat) (x:α),l[i]?=some x->([x]++l.eraseIdx i).Perm l
 | [],i,x,h=>by simp at h
 | a :: l,0,x,h=>by
  have:a=x:=by simpa using h
  subst this;exact hCt _
 | a :: l,i+1,x,h=>by
  have ih:=qFo l i x (by simpa using h);show(x :: a :: l.eraseIdx i).Perm (a :: l);exact(List.Perm.swap _ _ _).trans (List.Perm.cons _ ih)
end My
namespace My
open PySem L2
theorem qEu {a b:List Nat} (h1:∀ x∈a,Spn b x) (h2:∀ x∈b,Spn a x) (y:Nat):Spn a y↔Spn b y:=⟨Spn.mono h1,Spn.mono h2⟩
theorem spn_snoc {ms:List Nat} {x:Nat} (h:Spn ms x) (y:Nat):Spn (ms++[x]) y↔Spn ms y:=qEu (fun z hz=>by
 rcases hAr.mp hz with h' | h'
 ·exact .mem h'
 ·rw[hAk.mp h'];exact h) (fun z hz=>.mem (hAz _ hz)) y
theorem spn_set {ms:List Nat} {i j:Nat} (hi:i<ms.length) (hj:j<ms.length) (ne:i≠j) (y:Nat):Spn (ms.set i (ms[i]^^^ms[j])) y↔Spn ms y:=qEu (fun z hz=>by
 rcases List.mem_or_eq_of_mem_set hz with h | h
 ·exact .mem h
 ·rw[h];exact(Spn.mem (hBg hi)).xor (.mem (hBg hj))) (fun z hz=>by
 obtain⟨k,hk,rfl⟩:=List.getElem_of_mem hz;have m1:ms[i]^^^ms[j]∈ms.set i (ms[i]^^^ms[j]):=by
  have:=hBg (l:=ms.set i (ms[i]^^^ms[j])) (n:=i) (by rw[hCm];exact hi)
  rwa [List.getElem_set_self]at this
 have m2:∀ k (hk:k<ms.length),k≠i->ms[k]∈ms.set i (ms[i]^^^ms[j]):=fun k hk nk=>by
  have:=hBg (l:=ms.set i (ms[i]^^^ms[j])) (n:=k) (by rw[hCm];exact hk)
  rwa [List.getElem_set_ne (Ne.symm nk)]at this
 by_cases e:k=i
 ·subst e;have:=(Spn.mem m1).xor (.mem (m2 j hj (Ne.symm ne)))
  rwa [qB9]at this
 ·exact .mem (m2 k hk e)) y
theorem qDs {a b:List Nat} (p:a.Perm b) (y:Nat):Spn a y↔Spn b y:=qEu (fun z hz=>.mem (p.mem_iff.mp hz)) (fun z hz=>.mem (p.mem_iff.mpr hz)) y
def spTab:Sp:=fun vs H Q _=>∃ (d:Addr) (n:Int) (m:Nat) (p:Addr) (S:List Nat),vs=[.ref d,iV m,.ref p]/\H d=some (.lst [.int n])/\p≠d/\LsN H p S/\S.length<=12/\m<=12/\(∀ x∈S,x<2^m) /\
 ∀ (T:Addr) (names:List Str) (ms:List Nat) (H':Hp),Dr d H H'->H T=none->qDq H' T names (ms.map (qCw names))->names.length=m->qE2 names->SOk names->(∀ s∈names,qDb s)->ms.length<=16->(∀ x∈ms,x<2^m)->(∀ y,Spn ms y↔Spn S y)->Q (.ref T) H'
structure TaS (d na mk:Addr) (H H':Hp) (names:List Str) (S ms:List Nat) (m:Nat):Prop where
 dr:Dr d H H'
 md:mk≠d
 m0:H mk=none
 nd:na≠d
 nm:na≠mk
 hn:LsS H' na names
 hm:LsN H' mk ms
 lt:∀ x∈ms,x<2^m
 sp:∀ y,Spn ms y↔Spn S y
section
variable {d na mk:Addr} {H H1 H2:Hp} {names:List Str} {S ms ms':List Nat} {m:Nat}
theorem TaS.ext (x:TaS d na mk H H1 names S ms m) (e:Ext H1 H2):TaS d na mk H H2 names S ms m:=⟨x.dr.ext e,x.md,x.m0,x.nd,x.nm,e _ _ x.hn,e _ _ x.hm,x.lt,x.sp⟩
theorem TaS.take (x:TaS d na mk H H1 names S ms m) (q:Int):TaS d na mk H (upd H1 d (.lst [.int q])) names S ms m:=⟨x.dr.take q,x.md,x.m0,x.nd,x.nm,by unfold LsS;rw[qAh x.nd];exact x.hn,by unfold LsN;rw[qAh x.md];exact x.hm,x.lt,x.sp⟩
theorem TaS.put (x:TaS d na mk H H1 names S ms m) (lt:∀ y∈ms',y<2^m) (sp:∀ y,Spn ms' y↔Spn ms y):TaS d na mk H (upd H1 mk (.lst (ms'.map iV))) names S ms' m:=⟨x.dr.over x.m0 x.md _,x.md,x.m0,x.nd,x.nm,by unfold LsS;rw[qAh x.nm];exact x.hn,upd_same,lt,fun y=>(sp y).trans (x.sp y)⟩
end
section
variable {P:Program} {w:World} {K:PySem.W.Frag} {mg:Str->Option Value} {base:Heap} {f f1 f2 f3:Addr} {fd fd1 fd2 fd3:FuncData}
theorem scLRw:FnScope ["_law_names_here","_law_mask"] ["_law_names_here","_law_mask"] (qAd sLRow):=⟨rfl,rfl,rfl,by decide +kernel,rfl,by decide +kernel,by decide +kernel⟩
theorem ok_lrw (F:Fun K "_law_row" "_law_row" sLRow f fd) (ml:mg "len" = none) (mr:mg "range" = none):FnOk P w K mg base CX0 1 f fd ["_law_names_here","_law_mask"] spLRow:=by
 refine F.ok scLRw (fun vs H Q E h=>?_) (fun cdv A outer s H vs Q E hr h=>?_)
 ·obtain⟨a,b,_,rfl,_⟩:=h;rfl
 obtain⟨a,ns,x,rfl,ha,h1,q⟩:=h;refine⟨_,qAf (qAs
  (qCp (N:=["_law_names_here","_law_mask"]) (sc:=qAd sLRow) (N':=["_law_k","_law_names_here","_law_mask"]) (sub:=[none,some 0,some 1]) rfl rfl (CmpOk.of (by decide +kernel)) rfl
   (qBa rfl mr (qAa (qAg qAk rfl ml hAl (qAa (pv 0) qAb)) qAb))
   (fun C s H fp=>⟨qAl (i:=0) (by show(["_law_k","_law_names_here","_law_mask"]:List Str).Nodup;decide) rfl (Or.inl rfl),qFg (qAp qCa (qAt qEo (qAt op_shr (pv 2) (pv 0)) qAe) qAe (qAu _)),
    qA0 (show IxR _ (rIxL K) from qAz) (pv 1) (pv 0) (fun _ _=>rfl)⟩))),?_⟩
 refine⟨_,rfl,a,_,rfl,.inl (SqL.of ha),_,rfl,?_,?_,?_⟩
 ·rw[hA1];omega
 ·rw[hA1];omega
 have e0:(((ns.map V.str).length:Nat):Int).toNat=ns.length:=by rw[hA1];omega
 rw[e0];refine qE3 (lo:=0) (n:=ns.length) (fun i ys H'=>H'=H/\ys=((List.range i).filterMap fun i=>if x.testBit i=true then ns[i]? else none).map V.str) ⟨rfl,rfl⟩ ?_ ?_
 ·rintro i ys H' hi ⟨rfl,rfl⟩;rw[show(0+(i:Int))=((i:Nat):Int) by omega];refine⟨Sle.set _ (Sle.refl _) (fun u z=>by cases z),_,rfl,_,rfl,_,_,rfl,rfl,(by show(0:Int)<=_;omega),_,_,rfl,rfl,rfl,_,rfl,?_⟩;have key:(decide (V.int (Builtin.bitAnd ((x:Int) / 2^((i:Nat):Int).toNat) 1)=V.int 1)=true)↔x.testBit i=true:=by
   rw[decide_eq_true_iff,V.int.injEq,hB3,shr_one];by_cases b:x.testBit i=true
   ·simp[b]
   ·simp[b]
  have fm:((List.range (i+1)).filterMap fun i=>if x.testBit i=true then ns[i]? else none)=((List.range i).filterMap fun i=>if x.testBit i=true then ns[i]? else none)++(if x.testBit i=true then [ns[i]] else []):=by
   rw[hC6,hC5];congr 1;by_cases b:x.testBit i=true
   ·simp[b,hA2 hi]
   ·simp[b]
  have sz:=hCe (fun i=>if x.testBit i=true then ns[i]? else none) (List.range i);rw[hB4]at sz;refine qCb (fun c=>?_) (fun c=>?_)
  ·have hv:atI (ns.map V.str) ((i:Nat):Int)=some (.str ns[i]):=qAr (by rw[hAd,hA2 hi] <;> rfl);refine⟨_,rfl,_,rfl,a,_,_,_,rfl,rfl,SqL.of ha,hv,by rw[hA1];exact qAi (by omega),nxt hi ⟨rfl,?_⟩⟩;rw[fm,if_pos (key.mp c),hA4];rfl
  ·refine nxt hi ⟨rfl,?_⟩;rw[fm,if_neg fun z=>c (key.mpr z),hBq]
 ·rintro ys H' ⟨rfl,rfl⟩;exact fun r hr'=>q r _ (Ext.new hr' _) hr' upd_same
abbrev taN:List Str:=["_law_draw","_law_many","_law_base","_law_names_here","_law_masks","_law_k","_law_one","_law_other","_law_extra","_law_sums","_law_mask","_law_rows"]
theorem qEb:FnScope taN ["_law_draw","_law_many","_law_base"] (qAd sTab):=⟨rfl,rfl,rfl,by decide +kernel,rfl,by decide +kernel,by decide +kernel⟩
theorem ok_tab (F:Fun K "_law_table" "_law_table" sTab f fd) (G:Cl P w K mg base CX0 1 f1 fd1 ["_law_draw","_law_many"] qE5 "_law_take")
  (G2:Cl P w K mg base CX0 2 f2 fd2 ["_law_draw","_law_many"] spNames "_law_names")
  (G3:Cl P w K mg base CX0 1 f3 fd3 ["_law_names_here","_law_mask"] spLRow "_law_row")
  (mr:mg "range" = none) (ml:mg "len" = none) (mL:mg "list" = none) (mi:mg "int" = none) :
  FnOk P w K mg base CX0 3 f fd ["_law_draw","_law_many","_law_base"] spTab:=by
 refine F.ok qEb (fun vs H Q E h=>?_) (fun cdv A outer s H vs Q E hr h=>?_)
 ·obtain⟨d,n,m,p,S,rfl,_⟩:=h;rfl
 obtain⟨d,n,m,p,S,rfl,hd,pd,hp,lS,m12,lt,q⟩:=h;have hr1:=hr.mono (j:=1) (by decide);refine⟨_,qAc (qAm (i:=3) qEb.nd rfl (Or.inl rfl) (qAv G2 hr rfl .nil qAw (qAa (pv 0) (qAa (pv 1) qAb))))
  (qAc (qA7 (qAm (i:=4) qEb.nd rfl (Or.inl rfl) (qBf qBr rfl mL qBj (qAa (pv 2) qAb))))
  (qAc (qA7 (qBw PassesOwn.never rfl (qBa rfl mr (qAa (qAt qC1 (qAv G hr1 rfl .nil qAw (qAa (pv 0) (qAa qAe qAb))) (qBf qFs rfl mi qFt (qAa (qBm op_gt (qAg qAk rfl ml hAl (qAa (pv 4) qAb)) qAe (qAu _)) qAb))) qAb)) (qAl (i:=5) qEb.nd rfl (Or.inl rfl))
   (qAc (qAm (i:=6) qEb.nd rfl (Or.inl rfl) (qAv G hr1 rfl .nil qAw (qAa (pv 0) (qAa (qAg qAk rfl ml hAl (qAa (pv 4) qAb)) qAb))))
   (qAc (qAm (i:=7) qEb.nd rfl (Or.inl rfl) (qAt qDg (qAt qB6 (qAt qB6 (pv 6) qAe) (qAv G hr1 rfl .nil qAw (qAa (pv 0) (qAa (qAt qD1 (qAg qAk rfl ml hAl (qAa (pv 4) qAb)) qAe) qAb)))) (qAg qAk rfl ml hAl (qAa (pv 4) qAb))))
   (qAf (qDy (qAt qEn (qA0 qAz (pv 4) (pv 6) (fun _ _=>rfl)) (qA0 qAz (pv 4) (pv 7) (fun _ _=>rfl))) (qFi (pv 4) (pv 6) qCv)))))))
  (qAc (qAm (i:=8) qEb.nd rfl (Or.inl rfl) (qAv G hr1 rfl .nil qAw (qAa (pv 0) (qAa qAe qAb))))
  (qAc (qA7 (qBd (qAp qCa (qAv G hr1 rfl .nil qAw (qAa (pv 0) (qAa qAe qAb))) qAe (qAu _)) (qAf (qAm (i:=8) qEb.nd rfl (Or.inl rfl) (qAt qD1 qAe (qAg qAk rfl ml hAl (qAa (pv 4) qAb))))) qAx))
  (qAc (qA7 (qBw PassesOwn.never rfl (qBa rfl mr (qAa (pv 8) qAb)) (qAl (i:=5) qEb.nd rfl (Or.inl rfl))
   (qAc (qAm (i:=9) qEb.nd rfl (Or.inl rfl) qAe)
   (qAc (qBw PassesOwn.never rfl (qA4 (qEw sl_list (pv 4) po_none (po_some (qAg qAk rfl ml hAl (qAa (pv 2) qAb))))) (qAl (i:=10) qEb.nd rfl (Or.inl rfl))
    (qAf (qAm (i:=9) qEb.nd rfl (Or.inl rfl) (qAt qEn (pv 9) (qAt qC1 (pv 10) (qAv G hr1 rfl .nil qAw (qAa (pv 0) (qAa qAe qAb))))))))
   (qAf (qCo (qFj hB1 hBj hBk qB7 (pv 4) (qAa (pv 9) qAb))))))))
  (qAc (qAm (i:=11) qEb.nd rfl (Or.inl rfl) (qBl qAb))
  (qAc (ps_while PassesOwn.never (qAp (op_neD (qFd hr)) (pv 4) (qBl qAb) (qAu _))
   (qAf (qCo (qFj hB1 hBj hBk qB7 (pv 11) (qAa (qAv G3 hr1 rfl .nil qAw (qAa (pv 3) (qAa (qFj hB1 PySem.F.slot_list_pop PySem.F.type_list_pop mt_popAt (pv 4) (qAa (qAv G hr1 rfl .nil qAw (qAa (pv 0) (qAa (qAg qAk rfl ml hAl (qAa (pv 4) qAb)) qAb))) qAb)) qAb))) qAb)))))
  (qAf (qAs (qBk (qAa (pv 3) (qAa (pv 11) qAb)))))))))))),?_⟩
 refine⟨_,rfl,_,rfl,d,n,(m:Int),rfl,hd,by omega,by omega,fun na names q1 H1 e1 na0 hN lN ndN srt okN nmN=>?_⟩;have D1:Dr d H H1:=Dr.of_upd e1;have nad:na≠d:=qEv hd na0;have lN':names.length=m:=by omega
 have rN:qE2 names:=rise_of srt ndN;have hp1:LsN H1 p S:=D1.2 _ _ pd hp;refine⟨fun σ' H'=>∃ mk,σ'=[some (.ref d),some (iV m),some (.ref p),some (.ref na),some (.ref mk),none,none,none,none,none,none,none]/\TaS d na mk H H' names S S m,?_,?_⟩
 ·refine⟨_,rfl,p,_,rfl,.inl (SqL.of hp1),fun mk hmk=>?_⟩;exact⟨mk,rfl,D1.new hmk _,D1.ne hmk,D1.none hmk,nad,qAj hN hmk,(Ext.new hmk _) _ _ hN,upd_same,lt,fun y=>Iff.rfl⟩
 rintro _ H2 ⟨mk,rfl,T2⟩;have pm:2^m<=2^12:=hC1 (by decide) m12;refine⟨fun σ' H'=>∃ (ms:List Nat) (x5 x6 x7:Option V),σ'=[some (.ref d),some (iV m),some (.ref p),some (.ref na),some (.ref mk),x5,x6,x7,none,none,none,none]/\TaS d na mk H H' names S ms m/\ms.length=S.length,?_,?_⟩
 ·obtain⟨q2,z2⟩:=T2.dr.1;refine⟨_,rfl,d,q2,7,rfl,z2,by decide,by decide,fun q3 t ta tb=>?_⟩;have T3:=T2.take q3;refine⟨_,rfl,mk,_,rfl,.inl (SqL.of T3.hm),_,_,rfl,rfl,.inr ⟨_,rfl,_,_,rfl,rfl,.inl ⟨by omega,by omega⟩,_,rfl,?_,?_,?_⟩⟩
  ·show -(2^62)<=t*_;split <;> omega
  ·show t*_<2^62;split <;> omega
  refine qBh (lo:=0) (fun i σ H'=>∃ (ms:List Nat) (x5 x6 x7:Option V),σ=[some (.ref d),some (iV m),some (.ref p),some (.ref na),some (.ref mk),x5,x6,x7,none,none,none,none]/\TaS d na mk H H' names S ms m/\ms.length=S.length) ⟨S,none,none,none,rfl,T3,rfl⟩ ?_ (fun σ' H' z=>z);rintro i σ H' hi ⟨ms,x5,x6,x7,rfl,T,lm⟩;have l1:1<ms.length:=by
   rw[lm];by_cases c:1<S.length
   ·exact c
   ·exfalso;have cz:decide ((1:Int)<(((S.map iV).length:Nat):Int))=false:=decide_eq_false (by rw[hA1];omega);rw[show(decide ((1:Int)<(((S.map iV).length:Nat):Int)))=false from cz]at hi;simp at hi
  obtain⟨q4,z4⟩:=T.dr.1;refine⟨_,rfl,_,rfl,mk,_,rfl,.inl (SqL.of T.hm),d,q4,_,rfl,z4,by rw[hA1];omega,by rw[hA1];omega,fun q5 one oa ob=>?_⟩;have T5:=T.take q5;rw[hA1]at ob;obtain⟨one,rfl⟩:=hB9 oa;refine⟨_,rfl,_,_,rfl,rfl,_,rfl,_,rfl,mk,_,rfl,.inl (SqL.of T5.hm),_,_,rfl,rfl,d,q5,_,rfl,upd_same,?_,?_,fun q6 u ua ub=>?_⟩
  ·show(0:Int)<(((ms.map iV).length:Nat):Int) - 1;rw[hA1];omega
  ·show(((ms.map iV).length:Nat):Int) - 1<1073741824;rw[hA1];omega
  rw[qCl];have T6:=T.take q6;have ub':u<(ms.length:Int) - 1:=by
   have:=ub
   change u<(((ms.map iV).length:Nat):Int) - 1 at this
   rw[hA1]at this;exact this
  refine⟨_,_,rfl,rfl,_,rfl,mk,_,rfl,.inl (SqL.of T6.hm),_,_,rfl,rfl,?_,?_⟩
  ·show(0:Int)<(((ms.map iV).length:Nat):Int);rw[hA1];omega
  have ml0:(0:Int)<(ms.length:Int):=by omega
  obtain⟨oth,eo⟩:=hB9 (Int.emod_nonneg ((one:Int)+1+u) (Int.ne_of_gt ml0));have ol:oth<ms.length:=by
   have:=Int.emod_lt_of_pos ((one:Int)+1+u) ml0;omega
  have ne:one≠oth:=by
   intro e;subst e;by_cases c:(one:Int)+1+u<ms.length
   ·rw[Int.emod_eq_of_lt (by omega) c]at eo;omega
   ·rw[<-Int.sub_emod_right,Int.emod_eq_of_lt (by omega) (by omega)]at eo;omega
  have eo':((one:Int)+1+u) % (((ms.map iV).length:Nat):Int)=(oth:Int):=by rw[hA1];exact eo
  have o1:one<ms.length:=by omega
  refine⟨_,rfl,_,rfl,mk,_,_,_,rfl,rfl,SqL.of T6.hm,at_iv o1,_,rfl,_,rfl,mk,_,_,_,rfl,rfl,SqL.of T6.hm,(by show atI _ (((one:Int)+1+u) % (((ms.map iV).length:Nat):Int))=_;rw[eo'];exact at_iv ol),_,_,rfl,rfl,_,rfl,_,rfl,mk,_,_,one,rfl,rfl,T6.hm,ixN_nat (by rw[hA1];exact o1),?_⟩;have ev:(ms.map iV).set one (V.int (Builtin.bitXor ((ms[one]:Nat):Int) ((ms[oth]:Nat):Int)))=(ms.set one (ms[one]^^^ms[oth])).map iV:=by rw[List.map_set,qCj]
  refine⟨ms.set one (ms[one]^^^ms[oth]),_,_,_,rfl,?_,by rw[hCm];exact lm⟩;have T7:=T6.put (ms':=ms.set one (ms[one]^^^ms[oth])) (fun y hy=>by
   rcases List.mem_or_eq_of_mem_set hy with h | h
   ·exact T6.lt y h
   ·rw[h];exact hC7 (T6.lt _ (hBg o1)) (T6.lt _ (hBg ol))) (spn_set o1 ol ne)
  rw[<-ev]at T7;exact T7
 rintro _ H3 ⟨ms,x5,x6,x7,rfl,T3,lm⟩;obtain⟨q4,z4⟩:=T3.dr.1;refine⟨_,rfl,d,q4,4,rfl,z4,by decide,by decide,fun q5 ex xa xb=>?_⟩;have T5:=T3.take q5;refine⟨fun σ' H'=>∃ (ex:Int),σ'=[some (.ref d),some (iV m),some (.ref p),some (.ref na),some (.ref mk),x5,x6,x7,some (.int ex),none,none,none]/\TaS d na mk H H' names S ms m/\0<=ex/\ex+ms.length<=16,?_,?_⟩
 ·refine⟨_,rfl,d,q5,8,rfl,upd_same,by decide,by decide,fun q6 z za zb=>⟨rfl,_,rfl,?_⟩⟩;rw[qCl];have T6:=T3.take q6;refine qCb (fun c=>?_) (fun c=>⟨ex,rfl,T6,by omega,by omega⟩);refine⟨_,rfl,mk,_,rfl,.inl (SqL.of T6.hm),_,_,rfl,rfl,16 - (((ms.map iV).length:Nat):Int),rfl,T6,?_,?_⟩
  ·rw[hA1];omega
  ·rw[hA1];omega
 rintro _ H6 ⟨ex,rfl,T6,ex0,ex1⟩;refine⟨fun σ' H'=>∃ (ms:List Nat) (x5 x9 x10:Option V),σ'=[some (.ref d),some (iV m),some (.ref p),some (.ref na),some (.ref mk),x5,x6,x7,some (.int ex),x9,x10,none]/\TaS d na mk H H' names S ms m/\ms.length<=16,?_,?_⟩
 ·refine⟨_,rfl,ex,rfl,by omega,by omega,?_⟩;refine qBh (lo:=0) (n:=ex.toNat) (fun i σ H'=>∃ (ms':List Nat) (x5 x9 x10:Option V),σ=[some (.ref d),some (iV m),some (.ref p),some (.ref na),some (.ref mk),x5,x6,x7,some (.int ex),x9,x10,none]/\TaS d na mk H H' names S ms' m/\ms'.length=ms.length+i) ⟨ms,x5,none,none,rfl,T6,rfl⟩ ?_ ?_
  ·rintro i σ H' hi ⟨ms',y5,x9,x10,rfl,T,lm'⟩;have hpH:LsN H' p S:=T.dr.2 _ _ pd hp;refine⟨_,rfl,_,rfl,p,_,rfl,.inl (SqL.of hpH),_,rfl,mk,_,rfl,SqL.of T.hm,fun l hl=>?_⟩;have cu:cutV (ms'.map iV) none (some (((S.map iV).length:Nat):Int))=(ms'.take S.length).map iV:=by rw[cut_to,hA1,List.map_take]
   rw[cu];have nl:=Ext.new hl (.lst ((ms'.take S.length).map iV));have ld:=T.dr.ne hl;refine⟨l,rfl,⟨_,SqL.of upd_same⟩,?_⟩;refine qCz (xs:=(ms'.take S.length).map iV) (fun j σ H2=>∃ (sm:Nat) (x10:Option V),σ=[some (.ref d),some (iV m),some (.ref p),some (.ref na),some (.ref mk),some (.int (0+(i:Int))),x6,x7,some (.int ex),some (iV sm),x10,none]/\TaS d na mk H H2 names S ms' m/\LsN H2 l (ms'.take S.length)/\Spn ms' sm/\sm<2^m) ⟨0,x10,rfl,T.ext nl,upd_same,.zero,Nat.pow_pos (by decide)⟩ (fun j σ H2 _ z=>by obtain⟨_,_,_,_,h,_⟩:=z;exact SqL.of h) ?_ ?_
   ·rintro j v σ H2 hx ⟨sm,x10,rfl,T2,hl2,sp2,sl2⟩;obtain⟨x,rfl,hx'⟩:=qCi hx;have xm:x∈ms':=List.mem_of_mem_take (hAj hx');have xl:=T2.lt x xm;obtain⟨q7,z7⟩:=T2.dr.1;refine⟨_,rfl,_,rfl,_,rfl,d,q7,2,rfl,z7,by decide,by decide,fun q8 t ta tb=>?_⟩;refine⟨_,_,rfl,rfl,.inl ⟨by omega,by omega⟩,_,_,rfl,rfl,?_⟩;have hl3:LsN (upd H2 d (.lst [.int q8])) l (ms'.take S.length):=by unfold LsN;rw[qAh ld];exact hl2
    by_cases c:t=0
    ·subst c;refine⟨sm,some (iV x),?_,T2.take q8,hl3,sp2,sl2⟩;refine congrArg (fun v=>[some (V.ref d),some (iV m),some (V.ref p),some (V.ref na),some (V.ref mk),some (V.int (0+(i:Int))),x6,x7,some (V.int ex),some v,some (iV x),none]) ?_;show V.int (Builtin.bitXor ((sm:Nat):Int) (((x:Nat):Int)*0))=V.int _;rw[Int.mul_zero,show(0:Int)=((0:Nat):Int) from rfl,qCj,Nat.xor_zero]
    ·have t1:t=1:=by omega
     subst t1;refine⟨sm^^^x,some (iV x),?_,T2.take q8,hl3,sp2.xor (.mem xm),hC7 sl2 xl⟩;refine congrArg (fun v=>[some (V.ref d),some (iV m),some (V.ref p),some (V.ref na),some (V.ref mk),some (V.int (0+(i:Int))),x6,x7,some (V.int ex),some v,some (iV x),none]) ?_;show V.int (Builtin.bitXor ((sm:Nat):Int) (((x:Nat):Int)*1))=V.int _;rw[Int.mul_one,qCj]
   ·rintro σ H2 ⟨sm,x10,rfl,T2,hl2,sp2,sl2⟩;refine⟨_,rfl,.inl ⟨rfl,_,SqL.of T2.hm⟩,_,rfl,mk,_,_,rfl,rfl,T2.hm,by rw[hA1];exact qAi (by omega),ms'++[sm],_,_,_,rfl,?_,by rw[hAf,lm'];rfl⟩;have T9:=T2.put (ms':=ms'++[sm]) (fun y hy=>by
     rcases hAr.mp hy with h | h
     ·exact T2.lt y h
     ·rw[hAk.mp h];exact sl2) (spn_snoc sp2)
    rw[hA4]at T9;exact T9
  ·rintro σ H' ⟨ms',y5,x9,x10,rfl,T,lm'⟩;exact⟨ms',_,_,_,rfl,T,by omega⟩
 rintro _ H7 ⟨ms7,y5,x9,x10,rfl,T7,l7⟩;refine⟨hAw _,fun ro hro=>?_⟩;have nr:=Ext.new hro (.lst []);have T8:=T7.ext nr;have rod:=T7.dr.ne hro;have ro0:=T7.dr.none hro;have rom:mk≠ro:=qAj T7.hm hro;have ron:na≠ro:=qAj T7.hn hro;have R8:upd H7 ro (.lst []) ro=some (.lst []):=upd_same;revert T8 R8;generalize upd H7 ro (.lst [])=H8;intro T8 R8;obtain⟨q8,z8⟩:=T8.dr.1;have ltP:∀ (a b:List Nat),(a++b).Perm ms7->∀ x∈a,x<2^m:=fun a b pm x hx=>T8.lt x (pm.mem_iff.mp (hAz _ hx))
 refine⟨fun k σ H'=>∃ (m1 m2:List Nat),k=m2.length/\σ=[some (.ref d),some (iV m),some (.ref p),some (.ref na),some (.ref mk),y5,x6,x7,some (.int ex),x9,x10,some (.ref ro)]/\Dr d H H'/\LsS H' na names/\LsN H' mk m2/\RowsY H8 H' ro (m1.map (qCw names))/\(m1++m2).Perm ms7/\∀ b,H' b=none->H8 b=none,⟨_,[],ms7,rfl,rfl,T8.dr,T8.hn,T8.hm,⟨[],R8,.nil⟩,hCt _,fun _ z=>z⟩,?_⟩;rintro k σ H' ⟨m1,m2,rfl,rfl,dr,hN',hM',⟨as,hR,pr⟩,pm,tr⟩;have lpm:=pm.length_eq;rw[hAf]at lpm;have las:=pr.length;rw[hA1]at las;refine⟨_,rfl,hAw _,fun e0 he0=>?_⟩;have ne:=Ext.new he0 (.lst []);have drE:=dr.ext ne;have hN2:=ne _ _ hN';have hM2:=ne _ _ hM';have hR2:=ne _ _ hR;have pr2:=Paired.mapP (G:=fun a r=>LsS (upd H' e0 (.lst [])) a r/\H8 a=none/\a≠ro) pr fun a r z=>⟨ne _ _ z.1,z.2⟩
 have hE':LsN (upd H' e0 (.lst [])) e0 []:=upd_same;have trE:∀ b,upd H' e0 (.lst []) b=none->H8 b=none:=fun b z=>tr b (ne.none z)
 revert drE hN2 hM2 hR2 pr2 hE' trE;generalize upd H' e0 (.lst [])=H1;intro drE hN2 hM2 hR2 pr2 hE' trE;refine⟨intD m2,intD [],dr_iv hM2,dr_iv hE',qDt _,qDt _,_,rfl,?_⟩;rw[if_pos rfl,eqv_nil];refine qCb (fun c=>?_) (fun c=>?_)
 ·have s0:0<m2.length:=by
   cases m2 with
   | nil=>exact absurd c (by decide)
   | cons a r=>exact Nat.succ_pos _
  refine⟨fun σ' H2=>∃ k',k'<m2.length/\∃ (m1 m2:List Nat),k'=m2.length/\σ'=[some (.ref d),some (iV m),some (.ref p),some (.ref na),some (.ref mk),y5,x6,x7,some (.int ex),x9,x10,some (.ref ro)]/\Dr d H H2/\LsS H2 na names/\LsN H2 mk m2/\RowsY H8 H2 ro (m1.map (qCw names))/\(m1++m2).Perm ms7/\∀ b,H2 b=none->H8 b=none,fun σ' H2 z=>z,?_⟩;obtain⟨q0,z0⟩:=drE.1;refine⟨_,rfl,.inl ⟨rfl,_,SqL.of hR2⟩,_,rfl,_,rfl,.inl ⟨rfl,_,SqL.of hM2⟩,_,rfl,_,rfl,mk,_,rfl,.inl (SqL.of hM2),d,q0,_,rfl,z0,by rw[hA1];omega,by rw[hA1];omega,fun q1 j ja jb=>?_⟩;rw[hA1]at jb;obtain⟨j,rfl⟩:=hB9 ja;have jl:j<m2.length:=by omega
  have hx:=hA2 jl;have sq:seqIndex? (j:Int) (m2.map iV).length=some j:=by
   have:=PySem.StrLaws.seqIndex_nonneg (i:=(j:Int)) (n:=(m2.map iV).length) (by omega) (by rw[hA1];omega);rw[hB3]at this;exact this
  refine⟨mk,m2.map iV,(j:Int),j,iV m2[j],rfl,rfl,by rw[qAh T8.md];exact hM2,by omega,by omega,sq,by rw[hAd,hx];rfl,?_⟩;have em:(m2.map iV).eraseIdx j=(m2.eraseIdx j).map iV:=by rw[List.eraseIdx_eq_take_drop_succ,List.eraseIdx_eq_take_drop_succ,hA4,List.map_take,List.map_drop]
  rw[em];have dr4:=(drE.take q1).over T8.m0 T8.md (.lst ((m2.eraseIdx j).map iV));have hN4:LsS (upd (upd H1 d (.lst [.int q1])) mk (.lst ((m2.eraseIdx j).map iV))) na names:=by unfold LsS;rw[qAh T8.nm,qAh T8.nd];exact hN2
  have hM4:LsN (upd (upd H1 d (.lst [.int q1])) mk (.lst ((m2.eraseIdx j).map iV))) mk (m2.eraseIdx j):=upd_same;have hR4:upd (upd H1 d (.lst [.int q1])) mk (.lst ((m2.eraseIdx j).map iV)) ro=some (.lst (as.map V.ref)):=by rw[qAh (Ne.symm rom),qAh rod];exact hR2
  have pr4:Paired (fun a r=>LsS (upd (upd H1 d (.lst [.int q1])) mk (.lst ((m2.eraseIdx j).map iV))) a r/\H8 a=none/\a≠ro) as (m1.map (qCw names)):=Paired.mapP pr2 fun a r z=>⟨by
   have ad:a≠d:=fun e=>by rw[e,z8]at z;exact absurd z.2.1 (by simp)
   have am:a≠mk:=fun e=>by rw[e,T8.hm]at z;exact absurd z.2.1 (by simp)
   unfold LsS;rw[qAh am,qAh ad];exact z.1,z.2⟩
  have tr4:∀ b,upd (upd H1 d (.lst [.int q1])) mk (.lst ((m2.eraseIdx j).map iV)) b=none->H8 b=none:=fun b z=>trE b (by
   have nm:b≠mk:=fun e=>by rw[e,upd_same]at z;cases z
   rw[qAh nm]at z;have nd:b≠d:=fun e=>by rw[e,upd_same]at z;cases z
   rw[qAh nd]at z;exact z)
  revert dr4 hN4 hM4 hR4 pr4 tr4;generalize upd (upd H1 d (.lst [.int q1])) mk (.lst ((m2.eraseIdx j).map iV))=H4;intro dr4 hN4 hM4 hR4 pr4 tr4;refine⟨na,names,m2[j],rfl,hN4,by omega,fun r5 H5 e5 r50 hr5=>?_⟩;have le:(m2.eraseIdx j).length=m2.length - 1:=List.length_eraseIdx_of_lt jl;have r5r:r5≠ro:=fun e=>by rw[e,hR4]at r50;cases r50
  have f8:H8 r5=none:=tr4 r5 r50;refine⟨ro,as.map V.ref,.ref r5,rfl,rfl,e5 _ _ hR4,by rw[hA1,las];exact qAi (by omega),?_⟩;refine⟨_,by omega,m1++[m2[j]],m2.eraseIdx j,rfl,rfl,(dr4.ext e5).over ro0 rod _,by unfold LsS;rw[qAh ron];exact e5 _ _ hN4,by unfold LsN;rw[qAh rom];exact e5 _ _ hM4,⟨as++[r5],by rw[upd_same,hA4];rfl,?_⟩,?_,fun b z=>tr4 b (by
   have nr:b≠ro:=fun e=>by rw[e,upd_same]at z;cases z
   rw[qAh nr]at z;exact e5.none z)⟩
  ·rw[hA4];refine Paired.snoc (Paired.mapP pr4 fun a r z=>⟨by unfold LsS;rw[qAh z.2.2];exact e5 _ _ z.1,z.2⟩) ⟨by unfold LsS;rw[qAh r5r];exact hr5,f8,r5r⟩
  ·refine List.Perm.trans ?_ pm;rw[List.append_assoc];exact List.Perm.append_left m1 (qFo m2 j _ hx)
 ·have sn:m2=[]:=by
   cases m2 with
   | nil=>rfl
   | cons a r=>exact absurd rfl c
  subst sn;rw[hBq]at pm;refine⟨_,rfl,_,rfl,(by show 2<=sizeLine;decide),fun T hT=>?_⟩;have nT:=Ext.new hT (.tup [.ref na,.ref ro]);refine q T names m1 _ (drE.ext nT) (drE.none hT) ⟨na,ro,upd_same,nT _ _ hN2,as,nT _ _ hR2,Paired.mapP pr2 fun a r z=>nT _ _ z.1⟩ lN' rN okN nmN ?_ (ltP m1 [] (by rw[hBq];exact pm)) fun y=>(qDs pm y).trans (T8.sp y)
  rw[pm.length_eq];exact l7
end
end My
namespace L2
open PySem PySem.Spec PyProof.Rows
theorem fmc:∀ {l:List α},(∀ i∈l,f i=g i)->l.filterMap f=l.filterMap g
 | [],_=>rfl
 | a :: l,h=>by rw[hB0,hB0,h a hA9,fmc fun i hi=>h i (hA7 _ hi)]
theorem slicePick_rev (its:List Value):slicePick its.toArray none none (some (-1))=its.reverse.toArray:=by
 unfold slicePick;have h1:sliceBounds none none (some (-1)) its.toArray.size=((its.length:Int) - 1,-1,-1):=by
  unfold sliceBounds;simp
 rw[h1];have h2:sliceRange ((its.length:Int) - 1) (-1) (-1)=(List.range its.length).map fun k=>its.length - 1 - k:=by
  unfold sliceRange;have hc:(if (-1:Int) > 0 then (if (its.length:Int) - 1 < -1 then (-1 - ((its.length:Int) - 1) + -1 - 1) / -1 else 0) else (if (its.length:Int) - 1 > -1 then ((its.length:Int) - 1 - -1 - -1 - 1) / (- -1) else 0)).toNat=its.length:=by
   rw[if_neg (by decide)];by_cases h:(its.length:Int) - 1 > -1
   ·rw[if_pos h];have:((its.length:Int) - 1 - -1 - -1 - 1) / (- -1)=its.length:=by
     rw[show(- -1:Int)=1 by decide,Int.ediv_one];omega
    rw[this];exact hB3 _
   ·rw[if_neg h];omega
  show List.map _ (List.range _)=_;rw[hc];refine hBb fun k hk=>?_
  have:=hAn.mp hk;omega
 show(List.filterMap _ (sliceRange ((its.length:Int) - 1) (-1) (-1))).toArray=_;rw[h2,List.filterMap_map];congr 1;refine List.ext_getElem? fun i=>?_
 have e:(List.range its.length).filterMap ((fun x=>its.toArray[x]?)∘fun k=>its.length - 1 - k)=(List.range its.length).filterMap fun k=>its.reverse[k]?:=by
  refine fmc fun k hk=>?_
  have hk':=hAn.mp hk;show its.toArray[its.length - 1 - k]?=its.reverse[k]?;rw[List.getElem?_toArray,List.getElem?_reverse hk']
 rw[e];have:(List.range its.length).filterMap (fun k=>its.reverse[k]?)=its.reverse:=by
  have g:∀ l:List Value,(List.range l.length).filterMap (fun k=>l[k]?)=l:=by
   intro l
   induction l with
   | nil=>rfl
   | cons a l ih =>
    rw[hBd,List.range_succ_eq_map,hB0,List.filterMap_map];show a :: _=_;congr 1
  have:=g its.reverse;rw[List.length_reverse]at this;exact this
 rw[this]
section
variable {X:Cx} {e st:Expr} {te ts:TE} {p2 pos:Pos}
def tRev (K:PySem.W.Frag) (te ts:TE):TE:=fun σ H Q=>te σ H fun x H1=>ts σ H1 fun y H2=>∃ a xs,x = .ref a/\y = .int (-1)/\SqL K H2 a xs/\∀ p,H2 p=none->Q (.ref p) (upd H2 p (.lst xs.reverse))
theorem vals_rev:∀ {xs:List V} {us:List Value},qA5 xs us->qA5 xs.reverse us.reverse
 | _,_,.nil=>.nil
 | _,_,.cons h t=>by
  rw[hCf,hCf];exact(vals_rev t).append (.cons h .nil)
theorem pe_rev (he:PE X e te) (hs:PE X st ts):PE X (.Subscript e (.Slice none none (some st) p2) pos) (tRev X.K te ts):=by
 intro pins s σ H Q I h;refine Subscript_ (thn (he pins s σ H _ I h) fun v s1 ⟨x,H1,I1,r1,q1⟩=>?_);refine wpAny_Slice ?_;rw[evalPart_none];refine wpAny_pure (wpAny_pure ?_);show wpAny _ _ (eval st X.env) _ _ _;refine thn (hs pins s1 σ H1 _ I1 q1) fun w s2 ⟨y,H2,I2,r2,q2⟩=>?_
 obtain⟨a,xs,rfl,rfl,hx,q⟩:=q2;cases r1;obtain⟨t,rfl⟩:=r2;have I4:Inv X pins σ H2 { s2 with heap:=s2.heap.push { cls:=.type "slice",data:=.fields #[.none,.none,.int (-1) t] } }:=I2.kept (t':=s2.toks) fun b ob q=>Heap.get?_push_of_some _ q
 obtain⟨its,r,ht,hz⟩:=I4.list hx;have hlen:=r.length;have hg:wpAny (model X.prog X.w) X.A (getItem (.ref a) (.ref s2.heap.objs.size)) (EP X pins σ Q) X.xe { s2 with heap:=s2.heap.push { cls:=.type "slice",data:=.fields #[.none,.none,.int (-1) t] } }:=by
  refine wpAny_getItem_list_slice ht.isList (Heap.IsSliceOf.new ..) .none .none (.int (-1) t) (by decide) ?_ (by rw[hAe] <;> omega);rw[slicePick_rev];refine⟨.ref _,_,I4.laid (t':=s2.toks) (o:=.lst xs.reverse) (fun b ob q=>Heap.get?_push_of_some _ q) (hA5 _) ?_,rfl,q _ (I4.hok.fresh (hA5 _))⟩;exact⟨by rw[List.length_reverse];exact hz,_,0,vals_rev r,Heap.get?_push_size _ rfl⟩
 show wpAny (model X.prog X.w) X.A (subscriptTail e (.Slice none none (some st) p2) (.ref a) (.ref s2.heap.objs.size)) (EP X pins σ Q) X.xe { s2 with heap:=s2.heap.push { cls:=.type "slice",data:=.fields #[.none,.none,.int (-1) t] } };exact tail_any (ops:=[.ref a,.ref s2.heap.objs.size]) ht.isList.typeIs slot_list_getitem.lookup hg (by with_unfolding_all rfl)
end
end L2
namespace My
open PySem L2
theorem qEg {names:List Str} (nd:names.Nodup) {x:Nat}:qBe names (qCw names x)=rv names.length x:=hB8 fun j=>by
 rw[qFl,qB0];by_cases hj:j<names.length
 ·rw[decide_eq_true hj,hBn,hBn];have hl:names.length - 1 - j<names.length:=by omega
  cases b:x.testBit (names.length - 1 - j) with
  | true=>exact decide_eq_true ⟨names[names.length - 1 - j],hA2 hl,qEz.mpr ⟨_,hl,hA2 hl,b⟩⟩
  | false =>
   refine decide_eq_false ?_;rintro⟨n,hn,hm⟩;obtain⟨i,hi,hin,hb⟩:=qEz.mp hm;have e:i=names.length - 1 - j:=by
    rw[hA2 hl]at hn;rw[hA2 hi]at hin;have:=(List.getElem_inj nd).mp ((hAa hin).trans (hAa hn).symm);exact this
   rw[e,b]at hb;cases hb
 ·rw[decide_eq_false hj];rfl
theorem Stp.spn {m:Nat} {S:List Nat} (h:Stp m S) {ms:List Nat} (lt:∀ x∈ms,x<2^m) (sp:∀ y,Spn ms y↔Spn S y):∃ xs:List Nat,(∀ x∈xs,x<2^m)/\S.Perm (redL xs)/\∀ y,Spn (ms.map (rv m)) y↔Spn (xs.map (rv m)) y:=by
 obtain⟨xs,xl,p,o⟩:=id h;obtain⟨_,e⟩:=qC5 (m:=m) xs xl;refine⟨xs,xl,p,fun y=>?_⟩;rw[qE4 lt,<-qDl (xs.map (rv m)),<-e,qDs ((p.map (rv m)).symm),qE4 h.lt,sp]
theorem Stp.desc {m:Nat} {S:List Nat} (h:Stp m S):(S.map (rv m)).Pairwise fun a b=>b<=a:=by
 have g:=h.gm;have nd:=h.nd;obtain⟨xs,xl,p,o⟩:=h;rw[hBf];have nd':S.Pairwise fun a b=>lo a≠lo b:=hBf.mp nd
 refine hBi (fun {a b} ha hb z=>?_) (List.pairwise_and_iff.mpr ⟨o,nd'⟩);obtain⟨z1,z2⟩:=z;have la:=lo_lt (g a ha).1 (g a ha).2;have lb:=lo_lt (g b hb).1 (g b hb).2;have na:=rv_ne (g a ha).1 (g a ha).2;have nb:=rv_ne (g b hb).1 (g b hb).2;have e1:=qCm (g a ha).1 (g a ha).2;have e2:=qCm (g b hb).1 (g b hb).2;have h1:2^(rv m a).log2<=rv m a:=Nat.log2_self_le na;have h2:rv m b<2^((rv m b).log2+1):=hC9;have h3:2^((rv m b).log2+1)<=2^(rv m a).log2:=hC1 (by decide) (by omega);omega
theorem qF6 {names:List Str} (rn:qE2 names) {S ms M:List Nat} (h:Stp names.length S) (lt:∀ x∈ms,x<2^names.length) (sp:∀ y,Spn ms y↔Spn S y)
  (pM:M.Perm (red ((ms.map (qCw names)).map (qBe names)))) (dM:M.Pairwise fun a b=>b<=a):M.map (rowM names)=S.map (qCw names):=by
 obtain⟨xs,xl,p,sp'⟩:=h.spn lt sp;have e:(ms.map (qCw names)).map (qBe names)=ms.map (rv names.length):=by
  rw[hAs];exact hBb fun x _=>qEg (riseNd rn)
 rw[e]at pM;refine(told_rows rn pM dM (fun x hx=>?_) xl sp' ?_ (p.map _)).symm
 ·obtain⟨y,_,rfl⟩:=hA3.mp hx;exact qFz _ _
 ·have:=rows_srt rn h.rr (fun z hz=>by obtain⟨y,_,rfl⟩:=hA3.mp hz;exact qFz _ _) h.desc;rw[hAs]at this;rw[show S.map (qCw names)=S.map (rowM names∘rv names.length) from hBb fun x _=>(rowL_rv x).symm];exact this
def spStps:Sp:=fun vs H Q _=>∃ (T:Addr) (names:List Str) (rows:List (List Str)),vs=[.ref T]/\qDq H T names rows/\names.length<=12/\rows.length<=24/\∀ (r:Addr) (M:List Nat) (H':Hp),Ext H H'->H r=none->RowsY H H' r (M.map (rowM names))->M.Perm (red (rows.map (qBe names)))->M.Pairwise (fun a b=>b<=a)->Q (.ref r) H'
section
variable {P:Program} {w:World} {K:PySem.W.Frag} {mg:Str->Option Value} {base:Heap} {f f1 f2 f3:Addr} {fd fd1 fd2 fd3:FuncData}
theorem scStps:FnScope ["table","names"] ["table"] (qAd sStps):=⟨rfl,rfl,rfl,by decide +kernel,rfl,by decide +kernel,by decide +kernel⟩
theorem ok_stps (F:Fun K "steps" "steps" sStps f fd) (G1:Cl P w K mg base CX0 1 f1 fd1 ["names","mask"] spRowOf "row_of")
  (G2:Cl P w K mg base CX0 3 f2 fd2 ["table"] spStepM "step_masks"):FnOk P w K mg base CX0 4 f fd ["table"] spStps:=by
 refine F.ok scStps (fun vs H Q E h=>?_) (fun cdv A outer s H vs Q E hr h=>?_)
 ·obtain⟨T,names,rows,rfl,_⟩:=h;rfl
 obtain⟨T,names,rows,rfl,ti,ln,lr,q⟩:=h;have hr1:=hr.mono (j:=1) (by decide);obtain⟨a,b,hT,ha,hb⟩:=id ti;refine⟨_,qAc (qAm (i:=1) scStps.nd rfl (Or.inr rfl) (qA0 qBg (pv 0) qAe (fun _ _=>rfl)))
  (qAf (qAs (qCp (N:=["table","names"]) (sc:=qAd sStps) (N':=["mask","names"]) (sub:=[none,some 1]) rfl rfl (CmpOk.of (by decide +kernel)) rfl (qA4 (qAv G2 hr rfl .nil qAw (qAa (pv 0) qAb)))
   (fun C s H fp=>⟨qAl (i:=0) (by show(["mask","names"]:List Str).Nodup;decide) rfl (Or.inl rfl),qA3,qAv G1 hr1 rfl .nil qAw (qAa (pv 1) (qAa (pv 0) qAb))⟩)))),?_⟩
 refine⟨_,rfl,T,_,_,_,rfl,rfl,SqT.of hT,(by exact qAr (j:=0) rfl),?_⟩;refine⟨_,rfl,T,names,rows,rfl,ti,lr,fun r M H1 e1 r0 hM pM dM=>?_⟩;have lM:M.length<=24:=by rw[pM.length_eq];exact hB7 (red_le _) (by rw[hA1];exact lr)
 refine⟨r,rfl,⟨_,SqL.of hM⟩,?_⟩;refine qA2 (xs:=M.map iV) (fun j ys H2=>Ext H1 H2/\∃ as,ys=as.map V.ref/\Paired (fun a r=>LsS H2 a r/\H a=none) as ((M.take j).map (rowM names))) ⟨Ext.refl _,[],rfl,.nil⟩ (fun j ys H2 _ h=>SqL.of (h.1 _ _ hM)) ?_ ?_
 ·rintro j v ys H2 hx ⟨e2,as,rfl,pr⟩;obtain⟨x,rfl,hx'⟩:=qCi hx;have hj:=qBc hx';have la:as.length=_:=pr.length;rw[hA1,hAi]at la;refine⟨Sle.set _ (Sle.refl _) (fun u z=>by cases z),iteT (B:=False) ⟨_,rfl,_,rfl,a,names,x,rfl,(e1.trans e2) _ _ ha,ln,fun r3 H3 e3 r30 h3=>⟨?_,nxt (qBc hx) ⟨e2.trans e3,as++[r3],by rw[hA4];rfl,?_⟩⟩⟩⟩
  ·rw[hA1];exact qAi (by omega)
  ·rw[qAq hx',hA4];exact Paired.snoc (Paired.mapP pr fun a t z=>⟨e3 _ _ z.1,z.2⟩) ⟨h3,(e1.trans e2).none r30⟩
 ·rintro ys H2 ⟨e2,as,rfl,pr⟩ l hl;rw[hA1,hA8 (hA5 _)]at pr;have E2:=e1.trans e2;have Xb:=Ext.new hl (.lst (as.map V.ref));exact q l M _ (E2.trans Xb) (E2.none hl) ⟨as,upd_same,Paired.mapP pr fun a t z=>⟨Xb _ _ z.1,z.2,qAj z.1 hl⟩⟩ pM dM
end
end My
namespace My
open PySem L2
theorem qGi {names:List Str} (nd:names.Nodup) {x:Nat} (hx:x<2^names.length):maskL names (qCw names x)=x:=by
 obtain⟨h1,h2⟩:=maskL_rv nd (rowL_nd nd x) (fun n hn=>by obtain⟨i,hi,hin,_⟩:=qEz.mp hn;exact hAj hin);rw[qEg nd]at h2;rw[<-qFy h1,h2,qFy hx]
theorem rowL_inj {names:List Str} (nd:names.Nodup) {x y:Nat} (hx:x<2^names.length) (hy:y<2^names.length) (e:qCw names x=qCw names y):x=y:=by
 rw[<-qGi nd hx,e,qGi nd hy]
theorem rows_inj {names:List Str} (nd:names.Nodup):∀ {a b:List Nat},(∀ x∈a,x<2^names.length)->(∀ x∈b,x<2^names.length)->(a.map (qCw names)=b.map (qCw names)↔a=b)
 | [],[],_,_=>by simp
 | [],_ :: _,_,_=>by simp
 | _ :: _,[],_,_=>by simp
 | x :: a,y :: b,h1,h2=>by
  rw[hAu,hAu,List.cons.injEq,List.cons.injEq,rows_inj nd (fun z hz=>h1 z (hA7 _ hz)) (fun z hz=>h2 z (hA7 _ hz))];exact and_congr_left fun _=>⟨rowL_inj nd (h1 x hA9) (h2 y hA9),fun e=>by rw[e]⟩
theorem sok_rowM {names:List Str} (h:SOk names) (x:Nat):SOk (rowM names x):=fun n hn=>by
 obtain⟨i,_,hi⟩:=hCa.mp hn;split at hi
 ·exact h n (hAj hi)
 ·cases hi
theorem sok_row {names:List Str} (h:SOk names) (x:Nat):SOk (qCw names x):=fun n hn=>by
 obtain⟨i,hi,hin,_⟩:=qEz.mp hn;exact h n (hAj hin)
def spAlk:Sp:=fun vs H Q _=>∃ (T1 T2:Addr) (n1 n2:List Str) (r1 r2:List (List Str)),vs=[.ref T1,.ref T2]/\qDq H T1 n1 r1/\qDq H T2 n2 r2/\n1.length<=12/\n2.length<=12/\r1.length<=24/\r2.length<=24/\SOk n1/\SOk n2 /\
 ∀ (b:Bool) (H':Hp),Ext H H'->(n1≠n2->b=false)->(n1=n2->∃ M1 M2:List Nat,M1.Perm (red (r1.map (qBe n1)))/\M1.Pairwise (fun a b=>b<=a)/\M2.Perm (red (r2.map (qBe n2)))/\M2.Pairwise (fun a b=>b<=a)/\b=decide (M1.map (rowM n1)=M2.map (rowM n2)))->Q (.bl b) H'
section
variable {P:Program} {w:World} {K:PySem.W.Frag} {mg:Str->Option Value} {base:Heap} {f f1 f2 f3:Addr} {fd fd1 fd2 fd3:FuncData}
theorem scAlk:FnScope ["one","other"] ["one","other"] (qAd sAlk):=⟨rfl,rfl,rfl,by decide +kernel,rfl,by decide +kernel,by decide +kernel⟩
theorem ok_alk (F:Fun K "alike" "alike" sAlk f fd) (G:Cl P w K mg base CX0 4 f1 fd1 ["table"] spStps "steps"):FnOk P w K mg base CX0 5 f fd ["one","other"] spAlk:=by
 refine F.ok scAlk (fun vs H Q E h=>?_) (fun cdv A outer s H vs Q E hr h=>?_)
 ·obtain⟨T1,T2,n1,n2,r1,r2,rfl,_⟩:=h;rfl
 obtain⟨T1,T2,n1,n2,r1,r2,rfl,t1,t2,l1,l2,lr1,lr2,ok1,ok2,q⟩:=h;refine⟨_,qAf (qAs (pe_and (qBm (op_eqD (qFd hr)) (qA0 qBg (pv 0) qAe (fun _ _=>rfl)) (qA0 qBg (pv 1) qAe (fun _ _=>rfl)) (qAu _))
  (pe_one (qBm (op_eqD (qFd hr)) (qAv G hr rfl .nil qAw (qAa (pv 0) qAb)) (qAv G hr rfl .nil qAw (qAa (pv 1) qAb)) (qAu _))))),?_⟩
 obtain⟨a1,b1,h1,ha1,_⟩:=id t1;obtain⟨a2,b2,h2,ha2,_⟩:=id t2;refine⟨_,rfl,T1,_,_,_,rfl,rfl,SqT.of h1,(by exact qAr (j:=0) rfl),_,rfl,T2,_,_,_,rfl,rfl,SqT.of h2,(by exact qAr (j:=0) rfl),qEd n1,qEd n2,qGo ha1,qGo ha2,qDd ok1,qDd ok2,_,rfl,?_⟩;rw[if_neg (show ¬(false=true) by decide),eqv_row];refine qCb (fun c=>?_) (fun c=>?_)
 ·have e:n1=n2:=of_decide_eq_true c;refine⟨_,rfl,T1,n1,r1,rfl,t1,l1,lr1,fun p1 M1 H1 e1 _ y1 pM1 dM1=>?_⟩;refine⟨_,rfl,T2,n2,r2,rfl,t2.ext e1,l2,lr2,fun p2 M2 H2 e2 _ y2 pM2 dM2=>?_⟩;have k1:∀ r∈M1.map (rowM n1),SOk r:=fun r hr=>by obtain⟨x,_,rfl⟩:=hA3.mp hr;exact sok_rowM ok1 x
  have k2:∀ r∈M2.map (rowM n2),SOk r:=fun r hr=>by obtain⟨x,_,rfl⟩:=hA3.mp hr;exact sok_rowM ok2 x
  refine⟨_,_,dr_rows (y1.rows.ext e2),dr_rows y2.rows,qE6 k1,qE6 k2,?_⟩;rw[if_neg (show ¬(false=true) by decide),eqv_rows];exact q _ H2 (e1.trans e2) (fun ne=>absurd e ne) fun _=>⟨M1,M2,pM1,dM1,pM2,dM2,rfl⟩
 ·exact q false H (Ext.refl _) (fun _=>rfl) fun e=>absurd (decide_eq_true e) c
end
end My
namespace My
open PySem L2
theorem dot_comm (m x y:Nat):dot m x y=dot m y x:=qBp fun j _=>Bool.and_comm _ _
theorem dot_rv (m x y:Nat):dot m (rv m x) (rv m y)=dot m x y:=by
 unfold dot;rw[<-xsum_rev (fun j=>x.testBit j && y.testBit j) m];refine qBp fun j hj=>?_
 rw[qB0,qB0,decide_eq_true hj,hBn,hBn]
theorem dd {S:List Nat} {m:Nat} (h:RR S) (hm:∀ s∈S,s<2^m) {y:Nat} (hy:y<2^m) (ho:∀ z∈crAll S m,dot m y z=false):Spn S y:=by
 have sp:=red1_spn S S (fun s hs=>hs) y;have lead:=fun s hs=>qDw h (x:=y) s hs
 have lt:red1 S y<2^m:=by
  have:=Spn.lt hm sp;have e:red1 S y=(red1 S y^^^y)^^^y:=(qB9 _ _).symm;rw[e];exact hC7 this hy
 have ort:∀ p,p<m->¬isLd S p->dot m (red1 S y) (crM S p)=false:=fun p hp np=>by
  have e:red1 S y=(red1 S y^^^y)^^^y:=(qB9 _ _).symm;rw[e,qE1,ho _ (hA3.mpr ⟨p,hAq.mpr ⟨hAn.mpr hp,by rw[decide_eq_false np];rfl⟩,rfl⟩),Bool.xor_false];refine spn_dotL (fun s hs=>?_) sp;rw[dot_comm];exact crM_dot h hm hp np s hs
 have z:red1 S y=0:=hB8 fun p=>by
  rw[hCv];by_cases hp:p<m
  ·by_cases np:isLd S p
   ·obtain⟨s,hs,rfl⟩:=np;exact lead s hs
   ·have:=ort p hp np;have bit:(crM S p).testBit p=true:=by
     rw[qFp h np,decide_eq_true rfl,decide_eq_false]
     ·rfl
     ·rintro⟨s,hs,_,e⟩;exact np ⟨s,hs,e⟩
    rw[dot_only hp bit fun j hj nj=>?_]at this
    ·exact this
    ·rw[qFp h np,decide_eq_false (Ne.symm nj),Bool.false_xor];by_cases c:∃ s∈S,s.testBit p=true/\s.log2=j
     ·obtain⟨s,hs,_,rfl⟩:=c;rw[lead s hs];rfl
     ·rw[decide_eq_false c,Bool.and_false]
  ·exact tb_hi lt (Nat.le_of_not_lt hp)
 have:y=red1 S y^^^y:=by rw[z,hD1]
 rw[this];exact sp
section
variable {m:Nat} {S:List Nat}
theorem nld (g:Gm m S) {p:Nat} (hp:p<m):isLd (S.map (rv m)) (m - 1 - p)↔p∈S.map lo:=by
 constructor
 ·rintro⟨s',hs',e⟩;obtain⟨s,hs,rfl⟩:=hA3.mp hs';rw[qCm (g s hs).1 (g s hs).2]at e;have:=lo_lt (g s hs).1 (g s hs).2;exact hA3.mpr ⟨s,hs,by omega⟩
 ·intro z;obtain⟨s,hs,rfl⟩:=hA3.mp z;exact⟨rv m s,hA3.mpr ⟨s,hs,rfl⟩,qCm (g s hs).1 (g s hs).2⟩
theorem crL_rv (h:Stp m S) {p:Nat} (hp:p<m) (np:p∉S.map lo):rv m (crLM S p)=crM (S.map (rv m)) (m - 1 - p):=hB8 fun j=>by
 have g:=h.gm;have np':¬isLd (S.map (rv m)) (m - 1 - p):=fun z=>np ((nld g hp).mp z)
 rw[qFp h.rr np',qB0,crLM_sum,qDi _ (crL_nd h.nd np)];have key:∀ hj:j<m,(m - 1 - j∈(S.filter fun s:Nat=>s.testBit p).map lo)↔∃ s∈S.map (rv m),s.testBit (m - 1 - p)=true/\s.log2=j:=fun hj=>by
  constructor
  ·intro z;obtain⟨s,hs,e⟩:=hA3.mp z;obtain⟨hs,hb⟩:=hAq.mp hs;refine⟨rv m s,hA3.mpr ⟨s,hs,rfl⟩,?_,?_⟩
   ·rw[qB0,decide_eq_true (by omega),show m - 1 - (m - 1 - p)=p by omega];exact hb
   ·rw[qCm (g s hs).1 (g s hs).2];omega
  ·rintro⟨s',hs',hb,e⟩;obtain⟨s,hs,rfl⟩:=hA3.mp hs';rw[qB0,decide_eq_true (by omega),show m - 1 - (m - 1 - p)=p by omega,hBn]at hb;rw[qCm (g s hs).1 (g s hs).2]at e;have:=lo_lt (g s hs).1 (g s hs).2;exact hA3.mpr ⟨s,hAq.mpr ⟨hs,hb⟩,by omega⟩
 by_cases hj:j<m
 ·rw[decide_eq_true hj,hBn];by_cases e:m - 1 - p=j
  ·rw[decide_eq_true e,decide_eq_true (hAc.mpr (.inl (by omega)))];rw[decide_eq_false]
   ·rfl
   ·rintro⟨s',hs',_,e'⟩;exact np' ⟨s',hs',e'.trans e.symm⟩
  ·rw[decide_eq_false e,Bool.false_xor];refine decide_eq_decide.mpr ?_;rw[hAc];constructor
   ·rintro(z | z)
    ·exact absurd (by omega:m - 1 - p=j) e
    ·exact(key hj).mp z
   ·exact fun z=>.inr ((key hj).mpr z)
 ·rw[decide_eq_false hj,Bool.false_and,decide_eq_false (by omega),decide_eq_false]
  ·rfl
  ·rintro⟨s',hs',_,e⟩;obtain⟨s,hs,rfl⟩:=hA3.mp hs';rw[qCm (g s hs).1 (g s hs).2]at e;have:=lo_lt (g s hs).1 (g s hs).2;omega
theorem crL_spn (h:Stp m S) (y:Nat):Spn ((crLA S m).map (rv m)) y↔Spn (crAll (S.map (rv m)) m) y:=qEu (fun z hz=>by
 obtain⟨x,hx,rfl⟩:=hA3.mp hz;obtain⟨p,hp,rfl⟩:=hA3.mp hx;obtain⟨h1,h2⟩:=hAq.mp hp;have hp':=hAn.mp h1;have np:p∉S.map lo:=by simpa using h2
 rw[crL_rv h hp' np];exact .mem (hA3.mpr ⟨m - 1 - p,hAq.mpr ⟨hAn.mpr (by omega),by rw[decide_eq_false fun z=>np ((nld h.gm hp').mp z)];rfl⟩,rfl⟩)) (fun z hz=>by
 obtain⟨q,hq,rfl⟩:=hA3.mp hz;obtain⟨h1,h2⟩:=hAq.mp hq;have hq':=hAn.mp h1;have nq:¬isLd (S.map (rv m)) q:=by simpa using h2
 have eq:q=m - 1 - (m - 1 - q):=by omega
 have np:m - 1 - q∉S.map lo:=fun z=>nq (by rw[eq];exact(nld h.gm (by omega)).mpr z)
 rw[eq,<-crL_rv h (by omega) np];exact .mem (hA3.mpr ⟨_,hA3.mpr ⟨m - 1 - q,hAq.mpr ⟨hAn.mpr (by omega),by rw[decide_eq_false np];rfl⟩,rfl⟩,rfl⟩)) y
structure Crs (m:Nat) (S R:List Nat):Prop where
 st:Stp m R
 i:∀ y,Spn R y↔y<2^m/\∀ s∈S,dot m y s=false
 ii:∀ y,Spn S y↔y<2^m/\∀ s∈R,dot m y s=false
theorem crs (h:Stp m S) {R:List Nat} (p:R.Perm (redL (crLA S m))) (o:R.Pairwise fun a b=>lo a<=lo b):Crs m S R:=by
 have xl:=crLA_lt h.gm h.nd;have st:Stp m R:=⟨_,xl,p,o⟩;obtain⟨_,e⟩:=qC5 (m:=m) (crLA S m) xl;have sl:∀ s∈S.map (rv m),s<2^m:=fun s hs=>by obtain⟨x,_,rfl⟩:=hA3.mp hs;exact qFz _ _
 have base:∀ y,Spn (R.map (rv m)) y↔Spn (crAll (S.map (rv m)) m) y:=fun y=>by
  rw[qDs (p.map (rv m)),e,qDl,crL_spn h]
 have i:∀ y,Spn R y↔y<2^m/\∀ s∈S,dot m y s=false:=fun y=>by
  constructor
  ·intro sy;have yl:=Spn.lt st.lt sy;refine⟨yl,fun s hs=>?_⟩;have:=(cr_spn h.rr sl (rv m y)).mp ((base _).mp ((qB2 st.lt yl).mpr sy));rw[<-dot_rv];exact this.2 _ (hA3.mpr ⟨s,hs,rfl⟩)
  ·rintro⟨yl,ho⟩;refine(qB2 st.lt yl).mp ((base _).mpr ((cr_spn h.rr sl (rv m y)).mpr ⟨qFz _ _,fun s hs=>?_⟩));obtain⟨x,hx,rfl⟩:=hA3.mp hs;rw[dot_rv];exact ho x hx
 refine⟨st,i,fun y=>⟨fun sy=>?_,fun ⟨yl,ho⟩=>?_⟩⟩
 ·refine⟨Spn.lt h.lt sy,fun r hr=>?_⟩;rw[dot_comm];exact qC4 (((i r).mp (.mem hr)).2) sy
 ·refine(qB2 h.lt yl).mp (dd h.rr sl (qFz _ _) fun z hz=>?_);have sz:Spn (R.map (rv m)) z:=(base z).mpr (.mem hz);obtain⟨zl,sz'⟩:=(qE4 st.lt z).mp sz;rw[<-qFy zl,dot_rv];exact qC4 ho sz'
end
theorem cross_told {names:List Str} (rn:qE2 names) {T W S' M:List Nat} (hT:∀ x∈T,x<2^names.length) (hW:Stp names.length W) (pS:S'.Perm (red ((T.map (qCw names)).map (qBe names)))) (pM:M.Perm (red (crAll S' names.length))) (dM:M.Pairwise fun a b=>b<=a)
  (hO:∀ y,Spn W y↔y<2^names.length/\∀ t∈T,dot names.length y t=false):M.map (rowM names)=W.map (qCw names):=by
 have e:(T.map (qCw names)).map (qBe names)=T.map (rv names.length):=by
  rw[hAs];exact hBb fun x _=>qEg (riseNd rn)
 rw[e]at pS;have rS:RR S':=(qEm _).perm pS;have lS:∀ s∈S',s<2^names.length:=fun s hs=>red_lt (fun x hx=>by obtain⟨y,_,rfl⟩:=hA3.mp hx;exact qFz _ _) s (pS.mem_iff.mp hs)
 have spS:∀ y,Spn S' y↔Spn (T.map (rv names.length)) y:=fun y=>by rw[qDs pS,qDl]
 obtain⟨xs,xl,p,sp'⟩:=hW.spn hW.lt fun y=>Iff.rfl
 have xl':∀ x∈crAll S' names.length,x<2^names.length:=fun x hx=>((cr_spn rS lS x).mp (.mem hx)).1
 refine(told_rows rn pM dM xl' xl (fun y=>?_) ?_ (p.map _)).symm
 ·rw[cr_spn rS lS,<-sp' y,qE4 hW.lt,hO];constructor
  ·rintro⟨yl,ho⟩;refine⟨yl,qFz _ _,fun t ht=>?_⟩;rw[<-dot_rv,qFy yl];exact qC4 ho ((spS _).mpr (.mem (hA3.mpr ⟨t,ht,rfl⟩)))
  ·rintro⟨yl,_,ho⟩;refine⟨yl,fun s hs=>?_⟩;refine qC4 (l:=T.map (rv names.length)) (fun t' ht'=>?_) ((spS s).mp (.mem hs));obtain⟨t,ht,rfl⟩:=hA3.mp ht';rw[<-qFy yl,dot_rv];exact ho t ht
 ·have:=rows_srt rn hW.rr (fun z hz=>by obtain⟨y,_,rfl⟩:=hA3.mp hz;exact qFz _ _) hW.desc;rw[hAs]at this;rw[show W.map (qCw names)=W.map (rowM names∘rv names.length) from hBb fun x _=>(rowL_rv x).symm];exact this
end My
namespace L2
open PySem PySem.Spec PyProof.Rows PySem.SeqAt
section
variable {X:Cx}
theorem op_le_str:OpR X (compareOp .LtE) (fun x y H Q=>∃ i j,x = .str i/\y = .str j/\Q (.bl (!decide (j.cps.toList<i.cps.toList))) H):=by
 intro pins s σ H x y v u Q I rx ry h;obtain⟨i,j,rfl,rfl,q⟩:=h;obtain⟨t,rfl⟩:=rx;obtain⟨t',rfl⟩:=ry;exact PySem.P.le_str (fin_bl I q rfl)
end
end L2
namespace My
open PySem L2
theorem nk (K:PySem.W.Frag):PySem.W.kitOne K (.type "NoneType") (.type "str")=some false/\PySem.W.kitOne K (.type "NoneType") (.type "list")=some false:=⟨by kernel_rfl,by kernel_rfl⟩
theorem bk (K:PySem.W.Frag):PySem.W.kitOne K (.type "bool") (.type "str")=some false/\PySem.W.kitOne K (.type "bool") (.type "list")=some false:=⟨by kernel_rfl,by kernel_rfl⟩
theorem ik (K:PySem.W.Frag):PySem.W.kitOne K (.type "int") (.type "str")=some false/\PySem.W.kitOne K (.type "int") (.type "list")=some false:=⟨by kernel_rfl,by kernel_rfl⟩
theorem sk (K:PySem.W.Frag):PySem.W.kitOne K (.type "str") (.type "list")=some false:=by kernel_rfl
theorem lk (K:PySem.W.Frag):PySem.W.kitOne K (.type "list") (.type "str")=some false:=by kernel_rfl
theorem tk (K:PySem.W.Frag):PySem.W.kitOne K (.type "tuple") (.type "str")=some false/\PySem.W.kitOne K (.type "tuple") (.type "list")=some false:=⟨by kernel_rfl,by kernel_rfl⟩
end My
namespace My
open PySem L2
def inB (c:Str):Bool:=!(Builtin.Str.occurrences sg c 0 sg.length 1).isEmpty
def sgn (x:Str) (i:Nat):Str:=⟨#[x.cps.toList.getD i 0]⟩
def sgns (s:Str):List Bool:=(List.range s.cps.size).map fun i=>inB (sgn s i)
def qCe (s:Str):Bool:=decide (1<=s.length) && (decide (s.length<=6) && (sgns s).all id)
def nmV:V->Bool
 | .str s=>qCe s
 | _=>false
def Item (H:Hp) (x:V) (D:PyData):Prop:=(x = .non/\D = .none)\/(∃ b,x = .bl b/\D = .bool b)\/(∃ i,x = .int i/\D = .int i)\/(∃ s:Str,x = .str s/\D = .str s/\s.length<=100/\Sm s) \/
 (∃ (a:Addr) (ss:List Str),x = .ref a/\D = .list (ss.map .str)/\LsS H a ss/\SOk ss/\ss.length<=20/\∀ s∈ss,s.length<=100/\Sm s)\/(∃ (a:Addr) (ss:List Str),x = .ref a/\D = .tuple (ss.map .str)/\H a=some (.tup (ss.map V.str))/\SOk ss/\ss.length<=20)
theorem Item.ext {H H':Hp} {x:V} {D:PyData} (h:Item H x D) (e:Ext H H'):Item H' x D:=by
 rcases h with h | h | h | h | ⟨a,ss,h1,h2,h3,h4⟩ | ⟨a,ss,h1,h2,h3,h4⟩
 ·exact .inl h
 ·exact .inr (.inl h)
 ·exact .inr (.inr (.inl h))
 ·exact .inr (.inr (.inr (.inl h)))
 ·exact .inr (.inr (.inr (.inr (.inl ⟨a,ss,h1,h2,e _ _ h3,h4⟩))))
 ·exact .inr (.inr (.inr (.inr (.inr ⟨a,ss,h1,h2,e _ _ h3,h4⟩))))
theorem Item.ty {K:PySem.W.Frag} {H:Hp} {x:V} {D:PyData} (h:Item H x D):(∃ s:Str,x = .str s/\s.length<=100/\Sm s)\/(nmV x=false/\∃ t,TyOf K H x t/\PySem.W.kitOne K t (.type "str")=some false):=by
 rcases h with ⟨rfl,_⟩ | ⟨b,rfl,_⟩ | ⟨i,rfl,_⟩ | ⟨s,rfl,_,h,hm⟩ | ⟨a,ss,rfl,_,h3,h4⟩ | ⟨a,ss,rfl,_,h3,h4⟩
 ·exact .inr ⟨rfl,_,.non,(nk K).1⟩
 ·exact .inr ⟨rfl,_,.bl b,(bk K).1⟩
 ·exact .inr ⟨rfl,_,.int i,(ik K).1⟩
 ·exact .inl ⟨s,rfl,h,hm⟩
 ·exact .inr ⟨rfl,_,.lst h3,lk K⟩
 ·exact .inr ⟨rfl,_,.tup h3,(tk K).1⟩
def spName:Sp:=fun vs H Q _=>∃ (x:V) (D:PyData),vs=[x]/\Item H x D/\∀ H',Ext H H'->Q (.bl (nmV x)) H'
section
variable {P:Program} {w:World} {K:PySem.W.Frag} {mg:Str->Option Value} {base:Heap} {f f1:Addr} {fd fd1:FuncData}
theorem scName:FnScope ["thing"] ["thing"] (qAd sName):=⟨rfl,rfl,rfl,by decide +kernel,rfl,by decide +kernel,by decide +kernel⟩
theorem ok_name {t1 t2:Tok} (F:Fun K "is_name" "is_name" sName f fd) (ml:mg "len" = none) (mi:mg "isinstance" = none) (ms:mg "str" = none) (ma:mg "all" = none) (mS:mg "SIGNS" = some (.str sg t1)) (mM:mg "MOST_SIGNS" = some (.int 6 t2)):FnOk P w K mg base CX0 1 f fd ["thing"] spName:=by
 refine F.ok scName (fun vs H Q E h=>?_) (fun cdv A outer s H vs Q E hr h=>?_)
 ·obtain⟨x,D,rfl,_⟩:=h;rfl
 obtain⟨x,D,rfl,hI,q⟩:=h;refine⟨_,qAc (qBd (PW.pt (qCx (qB1 (qBv (qAg qA8 rfl mi qA9 (qAa (pv 0) (qAa (qCq (v:=.ty "str") rfl ms boot_str' rfl) qAb)))))
   (qCx (qAp op_lt (qAg qC7 rfl ml hAl (qAa (pv 0) qAb)) qAe (qAu _)) (qCh (qAp op_gt (qAg qC7 rfl ml hAl (qAa (pv 0) qAb)) (pe_glob (v:=.int 6) rfl mM ⟨t2,rfl⟩) (qAu _))))))
   (qAf (qAs qEr)) qAx)
  (qAf (qAs (qAg (qC8 rfl) rfl ma qDa (qAa
   (qCp (N:=["thing"]) (sc:=qAd sName) (N':=["sign"]) (sub:=[none]) rfl rfl (CmpOk.of (by decide +kernel)) rfl (pi_str (pv 0))
    (fun C s H fp=>⟨qAl (i:=0) (by show(["sign"]:List Str).Nodup;decide) rfl (Or.inl rfl),qA3,qBm op_in_str (pv 0) (pe_glob (v:=.str sg) rfl mS ⟨t1,rfl⟩) (by with_unfolding_all rfl)⟩)) qAb)))),?_⟩
 rcases Item.ty (K:=K) hI with ⟨z,rfl,hz,sm⟩ | ⟨hn,t,ty,kt⟩
 ·have wl:z.length<=sizeLine:=hB2 (qAi (by omega));have nf:∀ b:Bool,qCe z=b->∀ H',Ext H H'->Q (.bl b) H':=fun b e H' he=>by subst e;exact q H' he
  refine⟨_,rfl,_,_,_,true,rfl,.str z,qBo _ _,true,rfl,qEp ?_⟩;refine⟨_,rfl,z,rfl,wl,_,_,rfl,rfl,_,rfl,?_⟩;refine qCb (fun c=>?_) (fun c=>?_)
  ·have c':(z.length:Int)<1:=of_decide_eq_true c;refine iteT (nf false ?_ H (Ext.refl _));unfold qCe;rw[decide_eq_false (by omega)];rfl
  have c':¬(z.length:Int)<1:=fun y=>c (decide_eq_true y)
  refine⟨_,rfl,z,rfl,wl,_,_,rfl,rfl,_,rfl,?_⟩;refine qCb (fun d=>?_) (fun d=>?_)
  ·have d':(6:Int)<z.length:=of_decide_eq_true d;refine nf false ?_ H (Ext.refl _);unfold qCe;rw[decide_eq_true (by omega),decide_eq_false (by omega)];rfl
  have d':¬(6:Int)<z.length:=fun y=>d (decide_eq_true y)
  refine⟨_,rfl,z,rfl,?_⟩;refine turns_val (fun i ys H'=>H'=H/\ys=(List.range i).map fun i=>V.bl (inB (sgn z i))) ⟨rfl,rfl⟩ ?_ ?_
  ·rintro i ys H' hi ⟨rfl,rfl⟩;refine⟨Sle.set _ (Sle.refl _) (fun u z=>by cases z),?_⟩;refine iteT (B:=False) ?_;refine⟨_,rfl,_,_,rfl,rfl,?_,nxt hi ⟨rfl,?_⟩⟩
   ·rw[hA1,hB4];exact qAi (by have:z.cps.size=z.length:=rfl;omega)
   ·rw[hC6,hA4];rfl
  ·rintro ys H' ⟨rfl,rfl⟩ r hr';refine⟨r,sgns z,rfl,?_,nf _ ?_ _ (Ext.new hr' _)⟩
   ·refine SqL.of ?_;rw[upd_same];unfold sgns;rw[hAs];rfl
   ·unfold qCe;rw[decide_eq_true (by omega),decide_eq_true (by omega)];rfl
 ·refine⟨_,rfl,_,_,_,false,rfl,ty,kt,false,rfl,iteT (iteT ?_)⟩;have:=q H (Ext.refl _);rw[hn]at this;exact this
end
end My
namespace My
open PySem L2
def ltV:V->V->Bool
 | .str a,.str b=>decide (a.cps.toList<b.cps.toList)
 | _,_=>false
def rowP (xs:List V):Prop:=(∀ i,i<xs.length->nmV (xs.getD i .non)=true)/\∀ i,i+1<xs.length->ltV (xs.getD i .non) (xs.getD (i+1) .non)=true
theorem qDn {x:V} (h:nmV x=true):∃ s:Str,x = .str s:=by
 cases x with
 | str s=>exact⟨s,rfl⟩
 | _=>cases h
theorem getD_mem {xs:List V} {i:Nat} (hi:i<xs.length):xs.getD i .non∈xs:=by
 rw[hAb,hA2 hi];exact hBg hi
theorem cut_one (xs:List V):cutV xs (some 1) none=xs.drop 1:=by
 unfold cutV;have e:HT.sIx xs.length 0 (some 1)=min 1 xs.length:=HT.sIx_nat xs.length 0 1;have e2:HT.sIx xs.length xs.length none=xs.length:=rfl;rw[e,e2];cases xs with
 | nil=>rfl
 | cons x r =>
  rw[show min 1 (x :: r).length=1 by simp];exact hA8 (by simp)
def spIsRow (K:PySem.W.Frag):Sp:=fun vs H Q _=>∃ x:V,vs=[x]/\((∃ (a:Addr) (xs:List V),x = .ref a/\H a=some (.lst xs)/\xs.length<=100/\(∀ y∈xs,∃ D,Item H y D)/\∀ (b:Bool) H',(b=true↔rowP xs)->Ext H H'->Q (.bl b) H') \/
 (∃ t,TyOf K H x t/\PySem.W.kitOne K t (.type "list")=some false/\Q (.bl false) H))
section
variable {P:Program} {w:World} {K:PySem.W.Frag} {mg:Str->Option Value} {base:Heap} {f f1:Addr} {fd fd1:FuncData}
theorem scIsRow:FnScope ["thing"] ["thing"] (qAd qEl):=⟨rfl,rfl,rfl,by decide +kernel,rfl,by decide +kernel,by decide +kernel⟩
theorem ok_isrow (F:Fun K "is_row" "is_row" qEl f fd) (G:Cl P w K mg base CX0 1 f1 fd1 ["thing"] spName "is_name") (mi:mg "isinstance" = none) (mL:mg "list" = none) (ma:mg "all" = none) (mz:mg "zip" = none) :
  FnOk P w K mg base CX0 2 f fd ["thing"] (spIsRow K):=by
 refine F.ok scIsRow (fun vs H Q E h=>?_) (fun cdv A outer s H vs Q E hr h=>?_)
 ·obtain⟨x,rfl,_⟩:=h;rfl
 obtain⟨x,rfl,h⟩:=h;refine⟨_,qAc (qBd (PW.pt (qCx (qB1 (qBv (qAg qA8 rfl mi qA9 (qAa (pv 0) (qAa (qCq (v:=.ty "list") rfl mL qBj rfl) qAb)))))
   (qCh (qB1 (qBv (qAg (qC8 rfl) rfl ma qDa (qAa
    (qCp (N:=["thing"]) (sc:=qAd qEl) (N':=["one"]) (sub:=[none]) rfl rfl (CmpOk.of (by decide +kernel)) rfl (qA4 (pv 0))
     (fun C s H fp=>⟨qAl (i:=0) (by show(["one"]:List Str).Nodup;decide) rfl (Or.inl rfl),qA3,qAv G hr rfl .nil qAw (qAa (pv 0) qAb)⟩)) qAb)))))))
   (qAf (qAs qEr)) qAx)
  (qAf (qAs (qAg (qC8 rfl) rfl ma qDa (qAa
   (qCp (N:=["thing"]) (sc:=qAd qEl) (N':=["one","other"]) (sub:=[none,none]) rfl rfl (CmpOk.of (by decide +kernel)) rfl (pi_zip rfl mz (qAa (pv 0) (qAa (qEw sl_list (pv 0) (po_some qAe) po_none) qAb)))
    (fun C s H fp=>⟨(show PG _ _ (gTup K 2 _) from qDz rfl (qA1 (qAl (i:=0) (by show(["one","other"]:List Str).Nodup;decide) rfl (Or.inl rfl)) (qA1 (qAl (i:=1) (by show(["one","other"]:List Str).Nodup;decide) rfl (Or.inl rfl)) qCy))),qA3,qBm op_lt_str (pv 0) (pv 1) (qAu _)⟩)) qAb)))),?_⟩
 rcases h with ⟨a,xs,rfl,ha,hl,hI,q⟩ | ⟨t,ty,kt,q⟩
 ·refine⟨_,rfl,_,_,_,true,rfl,.lst ha,qBo _ _,true,rfl,qEp ?_⟩;have hz:xs.length<=sizeLine:=hB2 (qAi (by omega));refine⟨_,rfl,a,rfl,⟨_,SqL.of ha⟩,?_⟩;refine turns_ext (xs:=xs) (fun v=>some (V.bl (nmV v))) (SqL.of ha) hz (fun x hx H1 he C hC=>?_) fun H1 he=>?_
  ·obtain⟨D,hD⟩:=hI x hx;refine⟨Sle.set _ (Sle.refl _) (fun u z=>by cases z),iteT (B:=False) ⟨_,rfl,x,D,rfl,hD.ext he,fun H' he'=>hC H' he'⟩⟩
  ·intro r hr1;have e1:xs.filterMap (fun v=>some (V.bl (nmV v)))=(xs.map nmV).map V.bl:=by
    rw[hAs];exact congrFun (List.filterMap_eq_map (f:=V.bl∘nmV)) xs
   rw[e1];refine⟨r,xs.map nmV,rfl,SqL.of upd_same,(xs.map nmV).all id,rfl,?_⟩;have e2:=he.trans (Ext.new hr1 (.lst ((xs.map nmV).map V.bl)));refine qCb (fun c=>?_) (fun c=>?_)
   ·refine q false _ ⟨fun z=>(by cases z),fun z=>?_⟩ e2;have z2:(xs.map nmV).all id=true:=by
     rw[hD0,hBw];intro y hy;obtain⟨i,hi,rfl⟩:=List.mem_iff_getElem.mp hy;have:=z.1 i hi;rw[hAb,hA2 hi]at this;exact this
    rw[z2]at c;cases c
   ·have z2:(xs.map nmV).all id=true:=by
     cases h3:(xs.map nmV).all id with
     | true=>rfl
     | false=>rw[h3]at c;exact absurd rfl c
    have hnm:∀ i,i<xs.length->nmV (xs.getD i .non)=true:=fun i hi=>by
     rw[hD0,hBw]at z2;exact z2 _ (getD_mem hi)
    refine⟨_,rfl,_,rfl,_,rfl,a,xs,rfl,SqL.of (e2 _ _ ha),fun r2 hr2=>?_⟩;rw[cut_one];have e3:=e2.trans (Ext.new hr2 (.lst (xs.drop 1)));refine⟨a,r2,xs,xs.drop 1,rfl,SqL.of (e3 _ _ ha),SqL.of upd_same,?_⟩;have hm:min xs.length (xs.drop 1).length=xs.length - 1:=by rw[hCh];omega
    rw[hm];refine turns_tup (fun i ys H'=>Ext (upd (upd H1 r (.lst ((xs.map nmV).map V.bl))) r2 (.lst (xs.drop 1))) H'/\ys=(List.range i).map fun i=>V.bl (ltV (xs.getD i .non) (xs.getD (i+1) .non))) ⟨Ext.refl _,rfl⟩ (fun i ys H' _ p=>⟨SqL.of (p.1 _ _ (e3 _ _ ha)),SqL.of (p.1 _ _ upd_same)⟩) ?_ ?_
    ·rintro i ys H' T hi ⟨p,rfl⟩ hT;have d1:(xs.drop 1).getD i .non=xs.getD (i+1) .non:=by
      rw[hAb,List.getElem?_drop,hAb,Nat.add_comm]
     obtain⟨s1,h1⟩:=qDn (hnm i (by omega));obtain⟨s2,h2⟩:=qDn (hnm (i+1) (by omega));refine⟨T,_,rfl,SqT.of upd_same,rfl,_,_,rfl,_,_,rfl,rfl,?_⟩;refine⟨Sle.set _ (Sle.set _ (Sle.refl _) (fun u z=>by cases z)) (fun u z=>by cases z),iteT (B:=False) ⟨_,rfl,_,rfl,s1,s2,h1,d1.trans h2,?_,nxt hi ⟨p.trans (Ext.new hT _),?_⟩⟩⟩
     ·rw[hA1,hB4];exact qAi (by omega)
     ·rw[hC6,hA4,hCl,h1,h2];rfl
    ·rintro ys H' ⟨p,rfl⟩ r3 hr3;refine⟨r3,(List.range (xs.length - 1)).map fun i=>ltV (xs.getD i .non) (xs.getD (i+1) .non),rfl,?_,q _ _ ?_ (e3.trans (p.trans (Ext.new hr3 _)))⟩
     ·rw[hAs];exact SqL.of upd_same
     ·rw[hD0,hBw];constructor
      ·intro z;exact⟨hnm,fun i hi=>z i (hAn.mpr (by omega))⟩
      ·intro z i hi;exact z.2 i (by have:=hAn.mp hi;omega)
 ·exact⟨_,rfl,_,_,_,false,rfl,ty,kt,false,rfl,iteT (iteT q)⟩
end
end My
namespace My
open PySem L2
end My
namespace My
open PySem L2
theorem tkN (K:PySem.W.Frag):PySem.W.kitOne K (.type "NoneType") (.type "tuple")=some false:=by kernel_rfl
theorem tkI (K:PySem.W.Frag):PySem.W.kitOne K (.type "int") (.type "tuple")=some false:=by kernel_rfl
theorem tkS (K:PySem.W.Frag):PySem.W.kitOne K (.type "str") (.type "tuple")=some false:=by kernel_rfl
theorem tkL (K:PySem.W.Frag):PySem.W.kitOne K (.type "list") (.type "tuple")=some false:=by kernel_rfl
def NotL (H:Hp) (x:V):Prop:=x = .non\/(∃ b,x = .bl b)\/(∃ i,x = .int i)\/(∃ s:Str,x = .str s)\/∃ (a:Addr) (xs:List V),x = .ref a/\H a=some (.tup xs)
theorem NotL.ext {H H':Hp} {x:V} (h:NotL H x) (e:Ext H H'):NotL H' x:=by
 rcases h with h | h | h | h | ⟨a,xs,h1,h2⟩
 ·exact .inl h
 ·exact .inr (.inl h)
 ·exact .inr (.inr (.inl h))
 ·exact .inr (.inr (.inr (.inl h)))
 ·exact .inr (.inr (.inr (.inr ⟨a,xs,h1,e _ _ h2⟩)))
theorem NotL.ty {H:Hp} {x:V} (K:PySem.W.Frag) (h:NotL H x):∃ t,TyOf K H x t/\PySem.W.kitOne K t (.type "list")=some false:=by
 rcases h with rfl | ⟨b,rfl⟩ | ⟨i,rfl⟩ | ⟨s,rfl⟩ | ⟨a,xs,rfl,h2⟩
 ·exact⟨_,.non,(nk K).2⟩
 ·exact⟨_,.bl b,(bk K).2⟩
 ·exact⟨_,.int i,(ik K).2⟩
 ·exact⟨_,.str s,sk K⟩
 ·exact⟨_,.tup h2,(tk K).2⟩
def NotT (H:Hp) (x:V):Prop:=x = .non\/(∃ i,x = .int i)\/(∃ s:Str,x = .str s)\/∃ (a:Addr) (xs:List V),x = .ref a/\H a=some (.lst xs)
theorem NotT.ext {H H':Hp} {x:V} (h:NotT H x) (e:Ext H H'):NotT H' x:=by
 rcases h with h | h | h | ⟨a,xs,h1,h2⟩
 ·exact .inl h
 ·exact .inr (.inl h)
 ·exact .inr (.inr (.inl h))
 ·exact .inr (.inr (.inr ⟨a,xs,h1,e _ _ h2⟩))
theorem NotT.ty {H:Hp} {x:V} (K:PySem.W.Frag) (h:NotT H x):∃ t,TyOf K H x t/\PySem.W.kitOne K t (.type "tuple")=some false:=by
 rcases h with rfl | ⟨i,rfl⟩ | ⟨s,rfl⟩ | ⟨a,xs,rfl,h2⟩
 ·exact⟨_,.non,tkN K⟩
 ·exact⟨_,.int i,tkI K⟩
 ·exact⟨_,.str s,tkS K⟩
 ·exact⟨_,.lst h2,tkL K⟩
end My
namespace My
open PySem L2
theorem metF_snoc (net:List Tr) (t:Tr) (x:Str):metF (net++[t]) x=metF net x++(if (decide (t.2.1=x) != decide (t.2.2=x))=true then [t.1] else []):=by
 unfold metF;rw[hBo,hA4];congr 1;by_cases b:(decide (t.2.1=x) != decide (t.2.2=x))=true
 ·rw[if_pos b,List.filter_cons,if_pos b];rfl
 ·rw[if_neg b,List.filter_cons,if_neg b];rfl
theorem metF_len (net:List Tr) (x:Str):(metF net x).length<=net.length:=by
 unfold metF;rw[hA1];exact hBy _ _
section
variable {P:Program} {w:World} {K:PySem.W.Frag} {mg:Str->Option Value} {base:Heap} {f f1 f2 f3 f4:Addr} {fd fd1 fd2 fd3 fd4:FuncData}
theorem scTies:FnScope ["net"] ["net"] (qAd sTies):=⟨rfl,rfl,rfl,by decide +kernel,rfl,by decide +kernel,by decide +kernel⟩
abbrev tiN:List Str:=["tie","one","other"]
theorem ok_ties (F:Fun K "ties_of" "ties_of" sTies f fd):FnOk P w K mg base CX0 1 f fd ["net"] spTies:=by
 refine F.ok scTies (fun vs H Q E h=>?_) (fun cdv A outer s H vs Q E hr h=>?_)
 ·obtain⟨p,net,rfl,_⟩:=h;rfl
 obtain⟨p,net,rfl,⟨as,hp,pr⟩,hl,q⟩:=h;refine⟨_,qAf (qAs (qCp (N:=["net"]) (sc:=qAd sTies) (N':=tiN) (sub:=[none,none,none]) rfl rfl (CmpOk.of (by decide +kernel)) rfl (qA4 (pv 0))
  (fun C s H fp=>⟨(show PG _ _ (gTup K 3 _) from qDz rfl (qA1 (qAl (i:=0) (by show tiN.Nodup;decide) rfl (Or.inl rfl)) (qA1 (qAl (i:=1) (by show tiN.Nodup;decide) rfl (Or.inl rfl)) (qA1 (qAl (i:=2) (by show tiN.Nodup;decide) rfl (Or.inl rfl)) qCy)))),qA3,pv 0⟩))),?_⟩
 refine⟨_,rfl,p,rfl,⟨_,SqL.of hp⟩,?_⟩;refine turns_net (fun t=>t.1) hp pr hl (fun a t ha C B c=>?_) (fun r hr'=>q r _ (Ext.new hr' _) hr' upd_same);refine⟨a,_,rfl,SqT.of ha,rfl,_,_,rfl,_,_,rfl,_,_,rfl,rfl,?_⟩;exact⟨Sle.set _ (Sle.set _ (Sle.set _ (Sle.refl _) (fun u z=>by cases z)) (fun u z=>by cases z)) (fun u z=>by cases z),iteT (B:=B H) ⟨_,rfl,c⟩⟩
theorem scMet:FnScope ["net","point"] ["net","point"] (qAd sMet):=⟨rfl,rfl,rfl,by decide +kernel,rfl,by decide +kernel,by decide +kernel⟩
abbrev meN:List Str:=["tie","one","other","point"]
theorem ok_met (F:Fun K "met_once" "met_once" sMet f fd):FnOk P w K mg base CX0 1 f fd ["net","point"] spMet:=by
 refine F.ok scMet (fun vs H Q E h=>?_) (fun cdv A outer s H vs Q E hr h=>?_)
 ·obtain⟨p,net,x,rfl,_⟩:=h;rfl
 obtain⟨p,net,x,rfl,⟨as,hp,pr⟩,hl,q⟩:=h;refine⟨_,qAf (qAs (qCp (N:=["net","point"]) (sc:=qAd sMet) (N':=meN) (sub:=[none,none,none,some 1]) rfl rfl (CmpOk.of (by decide +kernel)) rfl (qA4 (pv 0))
  (fun C s H fp=>⟨(show PG _ _ (gTup K 3 _) from qDz rfl (qA1 (qAl (i:=0) (by show meN.Nodup;decide) rfl (Or.inl rfl)) (qA1 (qAl (i:=1) (by show meN.Nodup;decide) rfl (Or.inl rfl)) (qA1 (qAl (i:=2) (by show meN.Nodup;decide) rfl (Or.inl rfl)) qCy)))),
   qFg (qAp qD2 (qBm qCa (pv 1) (pv 3) (qAu _)) (qBm qCa (pv 2) (pv 3) (qAu _)) (qAu _)),pv 0⟩))),?_⟩
 have lA:as.length=net.length:=pr.length;refine⟨_,rfl,p,rfl,⟨_,SqL.of hp⟩,?_⟩;refine qA2 (xs:=as.map V.ref) (fun j ys H2=>H2=H/\ys=(metF (net.take j) x).map V.str) ⟨rfl,rfl⟩ (fun j ys H2 _ h=>by rw[h.1];exact SqL.of hp) ?_ ?_
 ·rintro j v ys H2 hx ⟨rfl,rfl⟩;obtain⟨a,t,rfl,ht,ha⟩:=net_get pr hx;have hj:=qBc ht;refine⟨a,_,rfl,SqT.of ha,rfl,_,_,rfl,_,_,rfl,_,_,rfl,rfl,?_⟩;refine⟨Sle.set _ (Sle.set _ (Sle.set _ (Sle.refl _) (fun u z=>by cases z)) (fun u z=>by cases z)) (fun u z=>by cases z),?_⟩;refine⟨_,rfl,_,rfl,rfl,_,rfl,_,rfl,rfl,rfl,_,rfl,?_⟩;have key:((!decide (V.bl (decide (V.str t.2.1=V.str x))=V.bl (decide (V.str t.2.2=V.str x))))=true)↔(decide (t.2.1=x) != decide (t.2.2=x))=true:=by
   by_cases a:t.2.1=x <;> by_cases b:t.2.2=x <;> simp[a,b]
  have sz:=metF_len (net.take j) x;rw[hAi]at sz;refine qCb (fun c=>?_) (fun c=>?_)
  ·have b:=key.mp c;refine⟨_,rfl,by rw[hA1];exact qAi (by omega),nxt (qBc hx) ⟨rfl,?_⟩⟩;rw[qAq ht,metF_snoc,if_pos b,hA4];rfl
  ·have b:¬(decide (t.2.1=x) != decide (t.2.2=x))=true:=fun z=>c (key.mpr z)
   refine nxt (qBc hx) ⟨rfl,?_⟩;rw[qAq ht,metF_snoc,if_neg b,hBq]
 ·rintro ys H2 ⟨rfl,rfl⟩ r hr';rw[hA1,lA,hA8 (hA5 _)];exact q r _ (Ext.new hr' _) hr' upd_same
theorem scTable:FnScope ["net"] ["net"] (qAd qE8):=⟨rfl,rfl,rfl,by decide +kernel,rfl,by decide +kernel,by decide +kernel⟩
theorem ok_table (F:Fun K "table_of" "table_of" qE8 f fd) (G1:Cl P w K mg base CX0 4 f1 fd1 ["table"] spCross "crossed")
  (G2:Cl P w K mg base CX0 1 f2 fd2 ["net"] spTies "ties_of")
  (G3:Cl P w K mg base CX0 1 f3 fd3 ["net","point"] spMet "met_once")
  (G4:Cl P w K mg base CX0 1 f4 fd4 ["net"] spPoints "points"):FnOk P w K mg base CX0 5 f fd ["net"] spTable:=by
 refine F.ok scTable (fun vs H Q E h=>?_) (fun cdv A outer s H vs Q E hr h=>?_)
 ·obtain⟨p,net,rfl,_⟩:=h;rfl
 obtain⟨p,net,rfl,nt,hl,q⟩:=h;have hr1:=hr.mono (j:=1) (by decide);refine⟨_,qAf (qAs (qAv G1 hr rfl .nil qAw (qAa (qBk (qAa (qAv G2 hr1 rfl .nil qAw (qAa (pv 0) qAb)) (qAa
  (qCp (N:=["net"]) (sc:=qAd qE8) (N':=["point","net"]) (sub:=[none,some 0]) rfl rfl (CmpOk.of (by decide +kernel)) rfl (qA4 (qAv G4 hr1 rfl .nil qAw (qAa (pv 0) qAb)))
   (fun C s H fp=>⟨qAl (i:=0) (by show(["point","net"]:List Str).Nodup;decide) rfl (Or.inl rfl),qA3,qAv G3 hr1 rfl .nil qAw (qAa (pv 1) (qAa (pv 0) qAb))⟩)) qAb))) qAb))),?_⟩
 refine⟨_,rfl,p,net,rfl,nt,by omega,fun tl H1 e1 tl0 htl=>?_⟩;refine⟨_,rfl,p,net,rfl,nt.ext e1,hl,fun pl ps H2 e2 pl0 hpl pok psr lps=>⟨pl,rfl,⟨_,SqL.of hpl⟩,?_⟩⟩;have E2:=e1.trans e2;refine qA2 (xs:=ps.map V.str) (fun j ys H3=>Ext H2 H3/\∃ as,ys=as.map V.ref/\Paired (LsS H3) as ((ps.take j).map (metF net))) ⟨Ext.refl _,[],rfl,.nil⟩ (fun j ys H3 _ h=>SqL.of (h.1 _ _ hpl)) ?_ ?_
 ·rintro j x ys H3 hx ⟨e3,as,rfl,pr⟩;obtain⟨y,rfl,hy⟩:=str_get hx;have hj:=qBc hy;have la:as.length=_:=pr.length;rw[hA1,hAi]at la;refine⟨Sle.set _ (Sle.refl _) (fun u z=>by cases z),iteT (B:=False) ⟨_,rfl,_,rfl,p,net,y,rfl,nt.ext (E2.trans e3),hl,fun r4 H4 e4 r40 hr4=>⟨?_,nxt (qBc hx) ⟨e3.trans e4,as++[r4],by rw[hA4];rfl,?_⟩⟩⟩⟩
  ·rw[hA1];exact qAi (by omega)
  ·rw[qAq hy,hA4];exact Paired.snoc (Paired.mapP pr fun a t z=>e4 _ _ z) hr4
 ·rintro ys H3 ⟨e3,as,rfl,pr⟩ b hb;rw[hA1,hA8 (hA5 _)]at pr;have Xb:=Ext.new hb (.lst (as.map V.ref));refine⟨(by show 2<=sizeLine;decide),fun T hT=>?_⟩;have XT:=Xb.trans (Ext.new hT (.tup [V.ref tl,V.ref b]));have E3:=(E2.trans e3).trans XT;refine⟨T,net.map (fun t:Tr=>t.1),ps.map (metF net),rfl,⟨tl,b,upd_same,(e2.trans (e3.trans XT)) _ _ htl,⟨as,(Ext.new hT _) _ _ upd_same,Paired.mapP pr fun a t z=>XT _ _ z⟩⟩,by rw[hA1];exact hl,by rw[hA1];exact lps,fun T' S M H4 e4 t0 tf pS pM dM=>?_⟩;rw[hAs]at pS;rw[hA1]at pM;exact q T' ps S M H4 (E3.trans e4) (E3.none t0) (tf.down E3) pok psr pS pM dM
end
end My
namespace My
open PySem L2
def leB (x y:Str):Bool:=!decide (y.cps.toList<x.cps.toList)
section
variable {σ0:St} {g:TG} {tt:TT} {te:TE} {Q:List V->Hp->Prop} {H1:Hp}
theorem turns_tupl {K:PySem.W.Frag} {a:Addr} {xs:List V} (Pv:Nat->List V->Hp->Prop) (h0:Pv 0 [] H1) (hl:∀ i ys H,i<=xs.length->Pv i ys H->SqT K H a xs)
  (hs:∀ i x ys H,xs[i]?=some x->Pv i ys H->g x σ0 H fun σ2 H2=>Sle σ0 σ2/\tt σ2 H2 fun b H3=>if b=true then te σ2 H3 (fun v H4=>ys.length<sizeLine/\Nxt xs.length i Pv (ys++[v]) H4) else Nxt xs.length i Pv ys H3)
  (hd:∀ ys H,Pv xs.length ys H->Q ys H):qCu (Itt K a) σ0 g tt te Q H1:=by
 refine⟨fun i m ys H=>m=xs.length - i/\i<=xs.length/\Pv i ys H,⟨xs.length,by simp,hAw _,h0⟩,?_⟩;rintro i m ys H ⟨rfl,hi,p⟩;have q:=hl i ys H hi p;by_cases hlt:i<xs.length
 ·refine .inr ⟨⟨xs,xs[i],q,by simp[hlt]⟩,fun x H' y=>?_⟩;obtain⟨e,y⟩:=y;subst e;exact hs i x ys _ (y xs q) p
 ·have e:i=xs.length:=by omega
  subst e;exact .inl ⟨⟨xs,q,hA5 _⟩,hd ys H p⟩
theorem qF3 {K:PySem.W.Frag} {a:Addr} {xs:List V} (f:V->Option V) (hS:H1 a=some (.tup xs)) (hz:xs.length<=sizeLine)
  (hs:∀ x∈xs,∀ H,Ext H1 H->∀ C:Option V->Hp->Prop,(∀ H',Ext H H'->C (f x) H')->g x σ0 H fun σ2 H2=>Sle σ0 σ2/\tt σ2 H2 fun b H3=>if b=true then te σ2 H3 (fun v H4=>C (some v) H4) else C none H3)
  (hd:∀ H',Ext H1 H'->Q (xs.filterMap f) H'):qCu (Itt K a) σ0 g tt te Q H1:=by
 refine turns_tupl (xs:=xs) (fun i ys H=>Ext H1 H/\ys=(xs.take i).filterMap f) ⟨Ext.refl _,by simp⟩ (fun i ys H _ h=>SqT.of (h.1 _ _ hS)) ?_ ?_
 ·rintro i x ys H hx ⟨he,rfl⟩;have hi:i<xs.length:=(hAo.mp hx).1;have hm:x∈xs:=hAj hx;have tk:(xs.take (i+1)).filterMap f=(xs.take i).filterMap f++(f x).toList:=by
   rw[List.take_add_one,hx,hC5];cases e:f x <;> simp[e]
  have hl:((xs.take i).filterMap f).length<sizeLine:=by
   have h1:=hCe f (xs.take i);rw[hAi]at h1;omega
  refine hs x hm H he (fun o H4=>match o with | some v=>((xs.take i).filterMap f).length<sizeLine/\Nxt xs.length i _ ((xs.take i).filterMap f++[v]) H4 | none=>Nxt xs.length i _ ((xs.take i).filterMap f) H4) (fun H' he'=>?_);cases e:f x with
  | none=>exact nxt hi ⟨he.trans he',by rw[tk,e];simp⟩
  | some v=>exact⟨hl,nxt hi ⟨he.trans he',by rw[tk,e];simp⟩⟩
 ·rintro ys H ⟨he,rfl⟩;rw[hA8 (hA5 _)];exact hd H he
end
def Prt (H:Hp) (x:V) (o:Option (List V)):Prop:=(∃ (a:Addr) (xs:List V),o=some xs/\x = .ref a/\H a=some (.tup xs)/\xs.length<=10/\∀ y∈xs,∃ D,Item H y D)\/(o=none/\NotT H x)
theorem Prt.ext {H H':Hp} {x:V} {o:Option (List V)} (h:Prt H x o) (e:Ext H H'):Prt H' x o:=by
 rcases h with ⟨a,xs,h1,h2,h3,h4,h5⟩ | ⟨h1,h2⟩
 ·exact .inl ⟨a,xs,h1,h2,e _ _ h3,h4,fun y hy=>by obtain⟨D,hD⟩:=h5 y hy;exact⟨D,hD.ext e⟩⟩
 ·exact .inr ⟨h1,h2.ext e⟩
def TieT (t:Tr):Prop:=qCe t.1=true/\qCe t.2.1=true/\qCe t.2.2=true/\leB t.2.1 t.2.2=true
def TieP (o:Option (List V)):Prop:=∃ t:Tr,o=some (trV t)/\TieT t
theorem trV_inj {t u:Tr} (e:trV t=trV u):t=u:=by
 obtain⟨a,b,c⟩:=t;obtain⟨a',b',c'⟩:=u;have e':[V.str a,V.str b,V.str c]=[V.str a',V.str b',V.str c']:=e;simp only[List.cons.injEq,V.str.injEq,and_true]at e';obtain⟨e1,e2,e3⟩:=e';subst e1 e2 e3;rfl
def spIsTie:Sp:=fun vs H Q _=>∃ (x:V) (o:Option (List V)),vs=[x]/\Prt H x o/\∀ (b:Bool) H',(b=true↔TieP o)->Ext H H'->Q (.bl b) H'
abbrev Nd:=Option (List (Option (List V)))
def Nt (H:Hp) (v:V) (d:Nd):Prop:=(d=none/\NotL H v)\/∃ (a:Addr) (xs:List V) (os:List (Option (List V))),v = .ref a/\H a=some (.lst xs)/\d=some os/\Paired (Prt H) xs os/\xs.length<=20
theorem Nt.ext {H H':Hp} {v:V} {d:Nd} (h:Nt H v d) (e:Ext H H'):Nt H' v d:=by
 rcases h with ⟨h1,h2⟩ | ⟨a,xs,os,h1,h2,h3,h4,h5⟩
 ·exact .inl ⟨h1,h2.ext e⟩
 ·exact .inr ⟨a,xs,os,h1,e _ _ h2,h3,Paired.mapP h4 fun a t z=>z.ext e,h5⟩
def NdOf (net:List Tr):Nd:=some (net.map fun t=>some (trV t))
def FormN (d:Nd):Prop:=∃ net:List Tr,d=NdOf net/\(∀ t∈net,TieT t)/\rowP ((net.map (·.1)).map V.str)
theorem NdOf.inj {a b:List Tr} (e:NdOf a=NdOf b):a=b:=by
 have e':=hAa e;clear e
 induction a generalizing b with
 | nil=>cases b with
  | nil=>rfl
  | cons=>cases e'
 | cons x r ih=>cases b with
  | nil=>cases e'
  | cons y r' =>
   rw[hAu,hAu,List.cons.injEq,Option.some.injEq]at e';rw[trV_inj e'.1,ih e'.2]
theorem item_str {H:Hp} {s:Str} {D:PyData} (h:Item H (.str s) D):s.length<=100/\Sm s:=by
 rcases h with ⟨z,_⟩ | ⟨b,z,_⟩ | ⟨i,z,_⟩ | ⟨u,z,_,h,hm⟩ | ⟨a,ss,z,_⟩ | ⟨a,ss,z,_⟩
 ·cases z
 ·cases z
 ·cases z
 ·cases z;exact⟨h,hm⟩
 ·cases z
 ·cases z
theorem ties_net {H:Hp}:∀ {xs:List V} {os:List (Option (List V))},Paired (Prt H) xs os->(∀ o∈os,TieP o)->∃ (as:List Addr) (net:List Tr),xs=as.map V.ref/\os=net.map (fun t=>some (trV t))/\(∀ t∈net,TieT t/\t.1.length<=100/\Sm t.1)/\Paired (fun a t=>H a=some (.tup (trV t))) as net
 | [],[],_,_=>⟨[],[],rfl,rfl,fun t h=>(by cases h),.nil⟩
 | [],_ :: _,h,_=>by cases h
 | _ :: _,[],h,_=>by cases h
 | x :: xs,o :: os,h,ht=>by
  cases h with
  | cons h1 h2 =>
   obtain⟨as,net,rfl,rfl,tt,pr⟩:=ties_net h2 fun o ho=>ht o (hA7 _ ho)
   obtain⟨t,rfl,tt0⟩:=ht o hA9;rcases h1 with ⟨a,xs,e1,rfl,h3,_,h5⟩ | ⟨e1,_⟩
   ·cases e1;obtain⟨D,hD⟩:=h5 (.str t.1) hA9;refine⟨a :: as,t :: net,rfl,rfl,fun u hu=>?_,.cons h3 pr⟩;rcases hAc.mp hu with rfl | z
    ·exact⟨tt0,item_str hD⟩
    ·exact tt u z
   ·cases e1
theorem rise_row:∀ {ss:List Str},rowP (ss.map V.str)->qE2 ss
 | [],_=>List.Pairwise.nil
 | x :: r,h=>by
  have tl:rowP (r.map V.str):=by
   refine⟨fun i hi=>?_,fun i hi=>?_⟩
   ·have:=h.1 (i+1) (by rw[hAu,hBd];omega);exact this
   ·have:=h.2 (i+1) (by rw[hAu,hBd];omega);exact this
  have ih:=rise_row tl;refine hBm.mpr ⟨fun y hy=>?_,ih⟩;cases r with
  | nil=>cases hy
  | cons z r' =>
   have xz:sLtB x z=true:=h.2 0 (by rw[hAu,hAu,hBd,hBd];omega);rcases hAc.mp hy with rfl | hy
   ·exact xz
   ·exact qEc xz ((hBm.mp ih).1 y hy)
def spForm:Sp:=fun vs H Q _=>∃ (v:V) (d:Nd),vs=[v]/\Nt H v d/\∀ (b:Bool) H',(b=true↔FormN d)->Ext H H'->Q (.bl b) H'
theorem all_nm {xs:List V}:(xs.map nmV).all id=true↔∀ x∈xs,nmV x=true:=by
 rw[hD0,hBw];rfl
theorem len3 {α:Type} {l:List α} (h:l.length=3):∃ a b c,l=[a,b,c]:=match l,h with | [a,b,c],_=>⟨a,b,c,rfl⟩
theorem tieP_nm {xs:List V} (h:TieP (some xs)):xs.length=3/\∀ x∈xs,nmV x=true:=by
 obtain⟨t,e,h1,h2,h3,_⟩:=h;cases e;refine⟨rfl,fun x hx=>?_⟩;simp only[trV,hAc,hB6,or_false]at hx;rcases hx with rfl | rfl | rfl
 ·exact h1
 ·exact h2
 ·exact h3
section
variable {P:Program} {w:World} {K:PySem.W.Frag} {mg:Str->Option Value} {base:Heap} {f f1 f2 f3:Addr} {fd fd1 fd2 fd3:FuncData}
theorem scIsTie:FnScope ["thing"] ["thing"] (qAd qFb):=⟨rfl,rfl,rfl,by decide +kernel,rfl,by decide +kernel,by decide +kernel⟩
theorem ok_istie (F:Fun K "is_tie" "is_tie" qFb f fd) (G:Cl P w K mg base CX0 1 f1 fd1 ["thing"] spName "is_name") (mi:mg "isinstance" = none) (mt:mg "tuple" = none) (ma:mg "all" = none) (ml:mg "len" = none) :
  FnOk P w K mg base CX0 2 f fd ["thing"] spIsTie:=by
 refine F.ok scIsTie (fun vs H Q E h=>?_) (fun cdv A outer s H vs Q E hr h=>?_)
 ·obtain⟨x,o,rfl,_⟩:=h;rfl
 obtain⟨x,o,rfl,hP,q⟩:=h;refine⟨_,qAc (qBd (PW.pt (qCx (qB1 (qBv (qAg qA8 rfl mi qA9 (qAa (pv 0) (qAa (qCq (v:=.ty "tuple") rfl mt qCg rfl) qAb)))))
   (qCx (qAp qD2 (qAg qAk rfl ml hAl (qAa (pv 0) qAb)) qAe (qAu _))
   (qCh (qB1 (qBv (qAg (qC8 rfl) rfl ma qDa (qAa
    (qCp (N:=["thing"]) (sc:=qAd qFb) (N':=["part"]) (sub:=[none]) rfl rfl (CmpOk.of (by decide +kernel)) rfl (pi_tup (pv 0))
     (fun C s H fp=>⟨qAl (i:=0) (by show(["part"]:List Str).Nodup;decide) rfl (Or.inl rfl),qA3,qAv G hr rfl .nil qAw (qAa (pv 0) qAb)⟩)) qAb))))))))
   (qAf (qAs qEr)) qAx)
  (qAf (qAs (qBm op_le_str (qA0 qBg (pv 0) qAe (fun _ _=>rfl)) (qA0 qBg (pv 0) qAe (fun _ _=>rfl)) (qAu _)))),?_⟩
 rcases hP with ⟨a,xs,rfl,rfl,ha,hl,hI⟩ | ⟨rfl,hN⟩
 ·refine⟨_,rfl,_,_,_,true,rfl,.tup ha,qBo _ _,true,rfl,qEp ?_⟩;refine⟨_,rfl,a,_,rfl,.inr (SqT.of ha),rfl,_,rfl,?_⟩;refine qCb (fun c=>?_) (fun c=>?_)
  ·refine iteT (q false H ⟨fun z=>(by cases z),fun z=>?_⟩ (Ext.refl _));have:=(tieP_nm z).1;rw[this]at c;cases c
  have l3:xs.length=3:=by
   have:((xs.length:Nat):Int)=3:=by simpa using c
   omega
  have hz:xs.length<=sizeLine:=hB2 (qAi (by omega));refine⟨_,rfl,a,rfl,⟨_,SqT.of ha⟩,?_⟩;refine qF3 (xs:=xs) (fun v=>some (V.bl (nmV v))) ha hz (fun x hx H1 he C hC=>?_) fun H1 he=>?_
  ·obtain⟨D,hD⟩:=hI x hx;refine⟨Sle.set _ (Sle.refl _) (fun u z=>by cases z),iteT (B:=False) ⟨_,rfl,x,D,rfl,hD.ext he,fun H' he'=>hC H' he'⟩⟩
  ·intro r hr1;have e1:xs.filterMap (fun v=>some (V.bl (nmV v)))=(xs.map nmV).map V.bl:=by
    rw[hAs];exact congrFun (List.filterMap_eq_map (f:=V.bl∘nmV)) xs
   rw[e1];refine⟨r,xs.map nmV,rfl,SqL.of upd_same,(xs.map nmV).all id,rfl,?_⟩;have e2:=he.trans (Ext.new hr1 (.lst ((xs.map nmV).map V.bl)));refine qCb (fun c=>?_) (fun c=>?_)
   ·refine q false _ ⟨fun z=>(by cases z),fun z=>?_⟩ e2;have:=all_nm.mpr (tieP_nm z).2;rw[this]at c;cases c
   ·have z2:(xs.map nmV).all id=true:=by
     cases h3:(xs.map nmV).all id with
     | true=>rfl
     | false=>rw[h3]at c;exact absurd rfl c
    have hnm:=all_nm.mp z2;obtain⟨x,y,z,rfl⟩:=len3 l3;obtain⟨s1,rfl⟩:=qDn (hnm x (by simp));obtain⟨s2,rfl⟩:=qDn (hnm y (by simp));obtain⟨s3,rfl⟩:=qDn (hnm z (by simp));have ha2:=e2 _ _ ha;refine⟨_,rfl,a,_,_,_,rfl,rfl,SqT.of ha2,(by exact qAr (j:=1) rfl),?_⟩;refine⟨_,rfl,a,_,_,_,rfl,rfl,SqT.of ha2,(by exact qAr (j:=2) rfl),s2,s3,rfl,rfl,q _ _ ⟨fun z=>?_,fun z=>?_⟩ e2⟩
    ·exact⟨(s1,s2,s3),rfl,hnm (.str s1) (by simp),hnm (.str s2) (by simp),hnm (.str s3) (by simp),z⟩
    ·obtain⟨t,e,_,_,_,h4⟩:=z;have e':trV (s1,s2,s3)=trV t:=hAa e;cases trV_inj e';exact h4
 ·obtain⟨t,ty,kt⟩:=hN.ty K;exact⟨_,rfl,_,_,_,false,rfl,ty,kt,false,rfl,iteT (iteT (q false H ⟨fun z=>(by cases z),fun ⟨t,e,_⟩=>(by cases e)⟩ (Ext.refl _)))⟩
theorem scForm:FnScope ["thing"] ["thing"] (qAd sForm):=⟨rfl,rfl,rfl,by decide +kernel,rfl,by decide +kernel,by decide +kernel⟩
theorem ok_form (F:Fun K "has_net_form" "has_net_form" sForm f fd) (G1:Cl P w K mg base CX0 2 f1 fd1 ["thing"] spIsTie "is_tie")
  (G2:Cl P w K mg base CX0 2 f2 fd2 ["thing"] (spIsRow K) "is_row")
  (G3:Cl P w K mg base CX0 1 f3 fd3 ["net"] spTies "ties_of") (mi:mg "isinstance" = none) (mL:mg "list" = none) (ma:mg "all" = none) :
  FnOk P w K mg base CX0 3 f fd ["thing"] spForm:=by
 refine F.ok scForm (fun vs H Q E h=>?_) (fun cdv A outer s H vs Q E hr h=>?_)
 ·obtain⟨v,d,rfl,_⟩:=h;rfl
 obtain⟨v,d,rfl,hN,q⟩:=h;have hr1:=hr.mono (j:=1) (by decide);refine⟨_,qAc (qBd (PW.pt (qCx (qB1 (qBv (qAg qA8 rfl mi qA9 (qAa (pv 0) (qAa (qCq (v:=.ty "list") rfl mL qBj rfl) qAb)))))
   (qCh (qB1 (qBv (qAg (qC8 rfl) rfl ma qDa (qAa
    (qCp (N:=["thing"]) (sc:=qAd sForm) (N':=["part"]) (sub:=[none]) rfl rfl (CmpOk.of (by decide +kernel)) rfl (qA4 (pv 0))
     (fun C s H fp=>⟨qAl (i:=0) (by show(["part"]:List Str).Nodup;decide) rfl (Or.inl rfl),qA3,qAv G1 hr rfl .nil qAw (qAa (pv 0) qAb)⟩)) qAb)))))))
   (qAf (qAs qEr)) qAx)
  (qAf (qAs (qAv G2 hr rfl .nil qAw (qAa (qAv G3 hr1 rfl .nil qAw (qAa (pv 0) qAb)) qAb)))),?_⟩
 rcases hN with ⟨rfl,nl⟩ | ⟨a,xs,os,rfl,ha,rfl,pr,hl⟩
 ·obtain⟨t,ty,kt⟩:=nl.ty K;exact⟨_,rfl,_,_,_,false,rfl,ty,kt,false,rfl,iteT (iteT (q false H ⟨fun z=>(by cases z),fun ⟨t,e,_⟩=>(by cases e)⟩ (Ext.refl _)))⟩
 refine⟨_,rfl,_,_,_,true,rfl,.lst ha,qBo _ _,true,rfl,qEp ?_⟩;have lo:xs.length=os.length:=pr.length;refine⟨_,rfl,a,rfl,⟨_,SqL.of ha⟩,?_⟩;refine qA2 (xs:=xs) (fun i ys H1=>Ext H H1/\∃ bs:List Bool,ys=bs.map V.bl/\bs.length=i/\(bs.all id=true↔∀ o∈os.take i,TieP o)) ⟨Ext.refl _,[],rfl,rfl,⟨fun _ o ho=>(by rw[List.take_zero]at ho;cases ho),fun _=>rfl⟩⟩ (fun i ys H1 _ h=>SqL.of (h.1 _ _ ha)) ?_ ?_
 ·rintro i x ys H1 hx ⟨he,bs,rfl,lb,hb⟩;obtain⟨o,ho,hP⟩:=qA6 pr hx;have hi:=qBc hx;refine⟨Sle.set _ (Sle.refl _) (fun u z=>by cases z),iteT (B:=False) ⟨_,rfl,x,o,rfl,hP.ext he,fun b H2 eb e2=>⟨?_,nxt hi ⟨he.trans e2,bs++[b],by rw[hA4];rfl,by rw[hAf,lb];rfl,?_⟩⟩⟩⟩
  ·rw[hA1];exact qAi (by omega)
  ·rw[qAq ho,List.all_append,hBv];constructor
   ·rintro⟨z1,z2⟩ o' ho';rcases hAr.mp ho' with z | z
    ·exact hb.mp z1 o' z
    ·rw[hAk]at z;subst z;exact eb.mp (by simpa using z2)
   ·intro z;exact⟨hb.mpr fun o' ho'=>z o' (hAz _ ho'),by simpa using eb.mpr (z o (hA6 _ (hAk.mpr rfl)))⟩
 ·rintro ys H1 ⟨he,bs,rfl,lb,hb⟩ r hr1;rw[lo,hA8 (hA5 _)]at hb;refine⟨r,bs,rfl,SqL.of upd_same,bs.all id,rfl,?_⟩;have e2:=he.trans (Ext.new hr1 (.lst (bs.map V.bl)));refine qCb (fun c=>?_) (fun c=>?_)
  ·refine q false _ ⟨fun z=>(by cases z),fun ⟨net,e,tt,_⟩=>?_⟩ e2;have e':os=net.map fun t=>some (trV t):=hAa e
   have:bs.all id=true:=hb.mpr fun o ho=>by
    rw[e']at ho;obtain⟨t,ht,rfl⟩:=hA3.mp ho;exact⟨t,rfl,tt t ht⟩
   rw[this]at c;cases c
  ·have z2:bs.all id=true:=by
    cases h3:bs.all id with
    | true=>rfl
    | false=>rw[h3]at c;exact absurd rfl c
   obtain⟨as,net,rfl,rfl,tt,pn⟩:=ties_net pr (hb.mp z2);have ln:as.length=net.length:=pn.length;rw[hA1]at hl;refine⟨_,rfl,a,net,rfl,⟨as,e2 _ _ ha,Paired.mapP pn fun a t z=>e2 _ _ z⟩,by omega,fun r2 H2 e3 r20 hr2=>?_⟩;refine⟨_,rfl,.inl ⟨r2,_,rfl,hr2,by rw[hA1,hA1];omega,fun y hy=>?_,fun b H3 eb e4=>q b H3 (eb.trans ⟨fun z=>?_,fun z=>?_⟩) ((e2.trans e3).trans e4)⟩⟩
   ·obtain⟨n,hn,rfl⟩:=hA3.mp hy;obtain⟨t,ht,rfl⟩:=hA3.mp hn;exact⟨.str t.1,.inr (.inr (.inr (.inl ⟨t.1,rfl,rfl,(tt t ht).2⟩)))⟩
   ·exact⟨net,rfl,fun t ht=>(tt t ht).1,z⟩
   ·obtain⟨net',e,_,z'⟩:=z;cases NdOf.inj e;exact z'
end
end My
namespace My
open PySem L2
theorem eqv_iv:∀ a b:List Nat,PyData.eqv (intD a) (intD b)=decide (a=b)
 | [],[]=>rfl
 | [],_ :: _=>rfl
 | _ :: _,[]=>rfl
 | x :: a,y :: b=>by
  have ih:=eqv_iv a b;show(PyData.eqv (.int (x:Int)) (.int (y:Int)) && PyData.eqv (intD a) (intD b))=_;rw[ih];have e:PyData.eqv (.int (x:Int)) (.int (y:Int))=decide (x=y):=by
   show((x:Int) == (y:Int))=_;by_cases c:x=y
   ·subst c;simp
   ·rw[decide_eq_false c,beq_eq_false_iff_ne];omega
  rw[e];by_cases c:x=y
  ·subst c;simp
  ·simp[c]
theorem stp_self {m:Nat} {S xs:List Nat} (lt:∀ x∈xs,x<2^m) (p:S.Perm (redL xs)) (o:S.Pairwise fun a b=>lo a<=lo b) (y:Nat):Spn xs y↔Spn S y:=by
 have h:Stp m S:=⟨xs,lt,p,o⟩;obtain⟨_,e⟩:=qC5 (m:=m) xs lt;have key:∀ y,Spn (xs.map (rv m)) y↔Spn (S.map (rv m)) y:=fun y=>by rw[<-qDl (xs.map (rv m)),<-e,qDs ((p.map (rv m)).symm)]
 constructor
 ·intro s;have l:=Spn.lt lt s;exact(qB2 h.lt l).mp ((key _).mp ((qB2 lt l).mpr s))
 ·intro s;have l:=Spn.lt h.lt s;exact(qB2 lt l).mp ((key _).mpr ((qB2 h.lt l).mpr s))
theorem told_as {n1 n2:List Str} {S B ms1 ms2:List Nat} (r1:qE2 n1) (r2:qE2 n2) (s1:Stp n1.length S) (s2:Stp n2.length B) (l1:∀ x∈ms1,x<2^n1.length) (l2:∀ x∈ms2,x<2^n2.length) (p1:∀ y,Spn ms1 y↔Spn S y) (p2:∀ y,Spn ms2 y↔Spn B y) {b:Bool}
  (h1:n1≠n2->b=false) (h2:n1=n2->∃ M1 M2:List Nat,M1.Perm (red ((ms1.map (qCw n1)).map (qBe n1)))/\M1.Pairwise (fun a b=>b<=a)/\M2.Perm (red ((ms2.map (qCw n2)).map (qBe n2)))/\M2.Pairwise (fun a b=>b<=a)/\b=decide (M1.map (rowM n1)=M2.map (rowM n2))) :
  b=(decide (n1=n2) && decide (B=S)):=by
 by_cases e:n1=n2
 ·obtain⟨M1,M2,a1,a2,a3,a4,rfl⟩:=h2 e;rw[qF6 r1 s1 l1 p1 a1 a2,qF6 r2 s2 l2 p2 a3 a4,decide_eq_true e,hBn];subst e;refine decide_eq_decide.mpr ?_;rw[rows_inj (riseNd r1) s1.lt s2.lt];exact⟨Eq.symm,Eq.symm⟩
 ·rw[h1 e,decide_eq_false e];rfl
theorem stp_len {m:Nat} {W:List Nat} (h:Stp m W):W.length<=m:=h.len
theorem stp_uniq {m:Nat} {W W':List Nat} (h:Stp m W) (h':Stp m W') (e:∀ y,Spn W y↔Spn W' y):W=W':=by
 have s:∀ y,Spn (W.map (rv m)) y↔Spn (W'.map (rv m)) y:=fun y=>by rw[qE4 h.lt,qE4 h'.lt,e]
 have p:(W.map (rv m)).Perm (W'.map (rv m)):=(List.perm_ext_iff_of_nodup h.rr.nd h'.rr.nd).mpr fun z=>⟨rr_uniq h.rr h'.rr s z,rr_uniq h'.rr h.rr (fun y=>(s y).symm) z⟩
 have e2:=desc_uniq h.desc h'.desc p;have id1:∀ {l:List Nat},(∀ x∈l,x<2^m)->(l.map (rv m)).map (rv m)=l:=fun {l} hl=>by
  rw[hAs];exact(hBb fun x hx=>qFy (hl x hx)).trans (List.map_id l)
 rw[<-id1 h.lt,e2,id1 h'.lt]
theorem srt_ex (l:List Nat):∃ S:List Nat,S.Perm l/\S.Pairwise fun a b=>lo a<=lo b:=by
 refine⟨l.mergeSort (fun a b=>decide (lo a<=lo b)),List.mergeSort_perm _ _,?_⟩;have:=List.pairwise_mergeSort (le:=fun a b=>decide (lo a<=lo b)) (fun a b c h1 h2=>decide_eq_true (hB7 (of_decide_eq_true h1) (of_decide_eq_true h2))) (fun a b=>by
  rcases Nat.le_total (lo a) (lo b) with z | z
  ·rw[decide_eq_true z];rfl
  ·rw[decide_eq_true z,Bool.or_true]) l
 exact this.imp fun h=>of_decide_eq_true h
theorem cross_ex {m:Nat} {T:List Nat} (lt:∀ x∈T,x<2^m):∃ W,Stp m W/\∀ y,Spn W y↔y<2^m/\∀ t∈T,dot m y t=false:=by
 obtain⟨S,pS,oS⟩:=srt_ex (redL T);obtain⟨W,pW,oW⟩:=srt_ex (redL (crLA S m));have c:=crs ⟨T,lt,pS,oS⟩ pW oW;have sp:=stp_self lt pS oS;refine⟨W,c.st,fun y=>(c.i y).trans (and_congr_right fun _=>⟨fun h t ht=>qC4 h ((sp t).mp (.mem ht)),fun h s hs=>qC4 h ((sp s).mpr (.mem hs))⟩)⟩
theorem stp_cross {m:Nat} {T S R:List Nat} (lt:∀ x∈T,x<2^m) (pS:S.Perm (redL T)) (oS:S.Pairwise fun a b=>lo a<=lo b) (pR:R.Perm (redL (crLA S m))) (oR:R.Pairwise fun a b=>lo a<=lo b):Stp m R/\∀ y,Spn R y↔y<2^m/\∀ t∈T,dot m y t=false:=by
 have c:=crs ⟨T,lt,pS,oS⟩ pR oR;have sp:=stp_self lt pS oS;exact⟨c.st,fun y=>(c.i y).trans (and_congr_right fun _=>⟨fun h t ht=>qC4 h ((sp t).mp (.mem ht)),fun h s hs=>qC4 h ((sp s).mpr (.mem hs))⟩)⟩
theorem qC2 {α β:Type} {f g:α->Option β}:∀ {l:List α},(∀ x∈l,f x=g x)->l.filterMap f=l.filterMap g
 | [],_=>rfl
 | x :: l,h=>by
  rw[hB0,hB0,h x hA9,qC2 (l:=l) fun y hy=>h y (hA7 _ hy)]
def prK (net:List Tr):List (Key×Key):=net.map fun t=>(Sum.inr t.2.1,Sum.inr t.2.2)
theorem qDm (net:List Tr):(prK net).length=net.length:=hA1 _
theorem prK_hom (net:List Tr):∀ t∈prK net,HomK t:=fun t ht=>by
 obtain⟨u,_,rfl⟩:=hA3.mp ht;exact .inr ⟨_,_,rfl⟩
theorem qEt {k:Key}:∀ {l:List (Key×Key)},(∀ t∈l,t.1≠k/\t.2≠k)->∀ i,stF k i l=0
 | [],_,_=>rfl
 | t :: l,h,i=>by
  have ih:=qEt (k:=k) (l:=l) (fun u hu=>h u (hA7 _ hu)) (i+1);obtain⟨h1,h2⟩:=h t hA9;show(if atK k t=true then 2^i else 0)^^^stF k (i+1) l=0;rw[ih];unfold atK;rw[decide_eq_false h1,decide_eq_false h2,if_neg (by decide)];rfl
theorem atK_tr (x:Str) (t:Tr):atK (Sum.inr x) (Sum.inr t.2.1,Sum.inr t.2.2)=(decide (t.2.1=x) != decide (t.2.2=x)):=by
 unfold atK;show(decide ((Sum.inr t.2.1:Key)=Sum.inr x) ^^ decide ((Sum.inr t.2.2:Key)=Sum.inr x))=_;rw[key_rr,key_rr]
theorem met_row (x:Str):∀ net:List Tr,metF net x=qCw (nmS net) (stK (prK net) (Sum.inr x)):=by
 refine snoc_ind (P:=fun net=>metF net x=qCw (nmS net) (stK (prK net) (Sum.inr x))) rfl fun l t ih=>?_
 have e1:metF (l++[t]) x=metF l x++(if (decide (t.2.1=x) != decide (t.2.2=x))=true then [t.1] else []):=by
  unfold metF;rw[hBo,hA4];congr 1;rw[List.filter_cons];split <;> rfl
 have e2:prK (l++[t])=prK l++[(Sum.inr t.2.1,Sum.inr t.2.2)]:=hA4;have e3:nmS (l++[t])=nmS l++[t.1]:=hA4;have ln:(nmS l).length=l.length:=hA1 _;have lt:=stK_lt (prK l) (Sum.inr x);rw[qDm]at lt;rw[e1,ih,e2,stK_snoc,atK_tr,qDm,e3];unfold qCw;rw[hAf,List.length_singleton,hC6,hC5,ln];congr 1
 ·refine qC2 fun i hi=>?_
  have hi':=hAn.mp hi;have b:(stK (prK l) (Sum.inr x)^^^(if (decide (t.2.1=x) != decide (t.2.2=x))=true then 2^l.length else 0)).testBit i=(stK (prK l) (Sum.inr x)).testBit i:=by
   rw[hAx];split
   ·rw[hBs,decide_eq_false (by omega),Bool.xor_false]
   ·rw[hCv,Bool.xor_false]
  rw[b,List.getElem?_append_left (by rw[ln];exact hi')]
 ·have b:(stK (prK l) (Sum.inr x)^^^(if (decide (t.2.1=x) != decide (t.2.2=x))=true then 2^l.length else 0)).testBit l.length=(decide (t.2.1=x) != decide (t.2.2=x)):=by
   rw[hAx,Nat.testBit_lt_two_pow lt,Bool.false_xor];split
   ·rename_i z;rw[hBs,decide_eq_true rfl,z]
   ·rename_i z;rw[hCv];simp at z;simp[z]
  have g:(nmS l++[t.1])[l.length]?=some t.1:=by rw[hC2 (by omega),ln,Nat.sub_self];rfl
  rw[hB0,b,g];split <;> rfl
def GoodN (names:List Str) (R:List Nat) (d:Nd):Prop:=∃ net:List Tr,d=NdOf net/\(∀ t∈net,TieT t)/\rowP ((net.map (·.1)).map V.str)/\nmS net=names/\∀ y,Spn R y↔y<2^names.length/\∀ k,dot names.length y (stK (prK net) k)=false
theorem all_k {net:List Tr} {ps:List Str} (hp:∀ x,x∈ps↔isPt net x) (m y:Nat):(∀ t∈ps.map fun x=>stK (prK net) (Sum.inr x),dot m y t=false)↔∀ k,dot m y (stK (prK net) k)=false:=by
 constructor
 ·intro h k;by_cases c:∃ x,k=Sum.inr x/\isPt net x
  ·obtain⟨x,rfl,hx⟩:=c;exact h _ (hA3.mpr ⟨x,(hp x).mpr hx,rfl⟩)
  ·have:stK (prK net) k=0:=qEt (fun t ht=>by
    obtain⟨u,hu,rfl⟩:=hA3.mp ht;exact⟨fun e=>c ⟨u.2.1,e.symm,u,hu,.inl rfl⟩,fun e=>c ⟨u.2.2,e.symm,u,hu,.inr rfl⟩⟩) 0
   rw[this];exact qCs m y
 ·intro h t ht;obtain⟨x,_,rfl⟩:=hA3.mp ht;exact h _
theorem tab_told {net:List Tr} {ps:List Str} {S M:List Nat} (rs:qE2 (nmS net)) (pk:PtsOk net ps) (pS:S.Perm (red (ps.map fun x=>qBe (nmS net) (metF net x)))) (pM:M.Perm (red (crAll S net.length))) (dM:M.Pairwise fun a b=>b<=a) :
  ∃ W,Stp (nmS net).length W/\(∀ y,Spn W y↔y<2^(nmS net).length/\∀ k,dot (nmS net).length y (stK (prK net) k)=false)/\M.map (rowM (nmS net))=W.map (qCw (nmS net)):=by
 have ln:(nmS net).length=net.length:=hA1 _;rw[<-ln]at pM;have lt:∀ x∈ps.map fun x=>stK (prK net) (Sum.inr x),x<2^(nmS net).length:=fun x hx=>by
  obtain⟨y,_,rfl⟩:=hA3.mp hx;have:=stK_lt (prK net) (Sum.inr y);rw[qDm,<-ln]at this;exact this
 obtain⟨W,sW,hW⟩:=cross_ex lt;have e:(ps.map fun x=>qBe (nmS net) (metF net x))=(((ps.map fun x=>stK (prK net) (Sum.inr x)).map (qCw (nmS net))).map (qBe (nmS net))):=by
  rw[hAs,hAs];exact hBb fun x _=>by rw[met_row];rfl
 rw[e]at pS;exact⟨W,sW,fun y=>(hW y).trans (and_congr_right fun _=>all_k pk.2 _ _),cross_told rs lt sW pS pM dM hW⟩
end My
namespace My
open PySem L2
def tNevT:TT:=fun _ _ _=>False
theorem pt_nev {X:Cx} {e:Expr}:PT X e tNevT:=by
 intro pins s σ H Q I h;exact h.elim
def NtS (H:Hp) (v:V) (d:Nd):Prop:=Nt H v d/\(∀ os,d=some os->∀ xs,some xs∈os->∃ s r,xs=V.str s :: r)/\∀ net,d=NdOf net->rowP ((net.map (·.1)).map V.str)->net.length<=12
theorem NtS.ext {H H':Hp} {v:V} {d:Nd} (h:NtS H v d) (e:Ext H H'):NtS H' v d:=⟨h.1.ext e,h.2⟩
def PapAt (H:Hp) (v:V) (o:Option Nd):Prop:=(∃ (a:Addr) (x:V) (d:Nd),v = .ref a/\H a=some (.tup [.str "net",x])/\NtS H x d/\o=some d) \/
 (o=none/\((∃ (a:Addr) (xs:List V),v = .ref a/\H a=some (.lst xs))\/(∃ (a:Addr) (xs:List V),v = .ref a/\H a=some (.tup xs)/\(xs.length=1\/xs.length=3))\/∃ (a:Addr) (x:V),v = .ref a/\H a=some (.tup [.str "small",x])))
theorem PapAt.ext {H H':Hp} {v:V} {o:Option Nd} (h:PapAt H v o) (e:Ext H H'):PapAt H' v o:=by
 rcases h with ⟨a,x,d,h1,h2,h3,h4⟩ | ⟨h1,h2⟩
 ·exact .inl ⟨a,x,d,h1,e _ _ h2,h3.ext e,h4⟩
 ·refine .inr ⟨h1,?_⟩;rcases h2 with ⟨a,xs,h2,h3⟩ | ⟨a,xs,h2,h3,h4⟩ | ⟨a,x,h2,h3⟩
  ·exact .inl ⟨a,xs,h2,e _ _ h3⟩
  ·exact .inr (.inl ⟨a,xs,h2,e _ _ h3,h4⟩)
  ·exact .inr (.inr ⟨a,x,h2,e _ _ h3⟩)
structure TbO (H:Hp) (T:Addr) (names:List Str) (ms R:List Nat):Prop where
 tin:qDq H T names (ms.map (qCw names))
 rise:qE2 names
 ok:SOk names
 ln:names.length<=12
 lm:ms.length<=24
 lt:∀ x∈ms,x<2^names.length
 st:Stp names.length R
 sp:∀ y,Spn ms y↔Spn R y
theorem TbO.ext {H H':Hp} {T:Addr} {names:List Str} {ms R:List Nat} (h:TbO H T names ms R) (e:Ext H H'):TbO H' T names ms R:=⟨h.tin.ext e,h.rise,h.ok,h.ln,h.lm,h.lt,h.st,h.sp⟩
def spIsTu:Sp:=fun vs H Q _=>∃ (a:Addr) (n:Int),vs=[.ref a,.int n]/\((∃ xs,H a=some (.tup xs)/\Q (.bl (decide ((xs.length:Int)=n))) H)\/∃ xs,H a=some (.lst xs)/\Q (.bl false) H)
def spINO:Sp:=fun vs H Q _=>∃ (T:Addr) (v:V) (names:List Str) (ms R:List Nat) (d:Nd),vs=[.ref T,v]/\TbO H T names ms R/\NtS H v d/\∀ (b:Bool) H',(b=true↔GoodN names R d)->Ext H H'->Q (.bl b) H'
def spStan:Sp:=fun vs H Q _=>∃ (T:Addr) (v:V) (names:List Str) (ms R:List Nat) (o:Option Nd),vs=[.ref T,v]/\TbO H T names ms R/\PapAt H v o/\∀ (b:Bool) H',(b=true↔∃ d,o=some d/\GoodN names R d)->Ext H H'->Q (.bl b) H'
section
variable {P:Program} {w:World} {K:PySem.W.Frag} {mg:Str->Option Value} {base:Heap} {f f1 f2 f3:Addr} {fd fd1 fd2 fd3:FuncData}
theorem scIsTu:FnScope ["thing","many"] ["thing","many"] (qAd sIsTu):=⟨rfl,rfl,rfl,by decide +kernel,rfl,by decide +kernel,by decide +kernel⟩
theorem ok_istu (F:Fun K "is_tuple" "is_tuple" sIsTu f fd) (mi:mg "isinstance" = none) (mt:mg "tuple" = none) (ml:mg "len" = none):FnOk P w K mg base CX0 1 f fd ["thing","many"] spIsTu:=by
 refine F.ok scIsTu (fun vs H Q E h=>?_) (fun cdv A outer s H vs Q E hr h=>?_)
 ·obtain⟨a,n,rfl,_⟩:=h;rfl
 obtain⟨a,n,rfl,h⟩:=h;refine⟨_,qAf (qAs (pe_and (qAg qA8 rfl mi qA9 (qAa (pv 0) (qAa (qCq (v:=.ty "tuple") rfl mt qCg rfl) qAb))) (pe_one (qBm qCa (qAg qAk rfl ml hAl (qAa (pv 0) qAb)) (pv 1) (qAu _))))),?_⟩;rcases h with ⟨xs,ha,q⟩ | ⟨xs,ha,q⟩
 ·refine⟨_,rfl,_,_,_,true,rfl,.tup ha,qBo _ _,true,rfl,iteT (B:=Q (.bl false) H) ?_⟩;refine⟨_,rfl,a,_,rfl,.inr (SqT.of ha),_,rfl,rfl,?_⟩;have e:decide (V.int ((xs.length:Nat):Int)=V.int n)=decide ((xs.length:Int)=n):=decide_eq_decide.mpr ⟨fun z=>V.int.inj z,fun z=>by rw[z]⟩;rw[e];exact q
 ·exact⟨_,rfl,_,_,_,false,rfl,.lst ha,tkL K,false,rfl,qEp q⟩
theorem scINO:FnScope ["table","thing"] ["table","thing"] (qAd sINO):=⟨rfl,rfl,rfl,by decide +kernel,rfl,by decide +kernel,by decide +kernel⟩
theorem ok_ino (F:Fun K "is_net_of" "is_net_of" sINO f fd) (G1:Cl P w K mg base CX0 3 f1 fd1 ["thing"] spForm "has_net_form")
  (G2:Cl P w K mg base CX0 5 f2 fd2 ["one","other"] spAlk "alike")
  (G3:Cl P w K mg base CX0 5 f3 fd3 ["net"] spTable "table_of"):FnOk P w K mg base CX0 6 f fd ["table","thing"] spINO:=by
 refine F.ok scINO (fun vs H Q E h=>?_) (fun cdv A outer s H vs Q E hr h=>?_)
 ·obtain⟨T,v,names,ms,R,d,rfl,_⟩:=h;rfl
 obtain⟨T,v,names,ms,R,d,rfl,tb,hN,q⟩:=h;have hr3:=hr.mono (j:=3) (by decide);refine⟨_,qAf (qAs (pe_and (qAv G1 hr3 rfl .nil qAw (qAa (pv 1) qAb)) (pe_one (qAv G2 hr rfl .nil qAw (qAa (qAv G3 hr rfl .nil qAw (qAa (pv 1) qAb)) (qAa (pv 0) qAb)))))),?_⟩;refine⟨_,rfl,v,d,rfl,hN.1,fun b H1 hb e1=>?_⟩;cases b with
 | false =>
  refine⟨false,rfl,qEp (q false H1 ⟨fun z=>(by cases z),fun ⟨net,e,tt,rw',_⟩=>?_⟩ e1)⟩;exact absurd (hb.mpr ⟨net,e,tt,rw'⟩) (by decide)
 | true =>
  refine⟨true,rfl,iteT (B:=Q (.bl false) H1) ?_⟩;obtain⟨net,rfl,tt,rwP⟩:=hb.mp rfl;have l12:=hN.2.2 net rfl rwP;have rs:qE2 (nmS net):=rise_row rwP;have hN1:=hN.1.ext e1;obtain⟨a,as,rfl,nt,ok1⟩:∃ (a:Addr) (as:List Addr),v = .ref a/\qDf H1 a net/\SOk (nmS net):=by
   rcases hN1 with ⟨z,_⟩ | ⟨a,xs,os,z1,z2,z3,z4,z5⟩
   ·cases z
   ·obtain⟨as,net',rfl,e,t2,p2⟩:=ties_net z4 (fun o ho=>by
     rw[<-hAa z3]at ho;obtain⟨t,ht,rfl⟩:=hA3.mp ho;exact⟨t,rfl,tt t ht⟩)
    have e':NdOf net=NdOf net':=by rw[z3,e];rfl
    cases NdOf.inj e';exact⟨a,as,z1,⟨as,z2,p2⟩,fun x hx=>by obtain⟨t,ht,rfl⟩:=hA3.mp hx;exact(t2 t ht).2.2.ok⟩
  refine⟨_,rfl,a,net,rfl,nt,l12,fun T2 ps S M H2 e2 _ tf pk _ pS pM dM=>?_⟩;obtain⟨W,sW,hW,eM⟩:=tab_told rs pk pS pM dM;have ti:qDq H2 T2 (nmS net) (W.map (qCw (nmS net))):=by rw[<-eM];exact tf.tin
  have lnn:(nmS net).length=net.length:=hA1 _;have lW:=stp_len sW;refine⟨_,rfl,T2,T,nmS net,names,_,_,rfl,ti,tb.tin.ext (e1.trans e2),by omega,tb.ln,by rw[hA1];omega,by rw[hA1];exact tb.lm,ok1,tb.ok,fun b H3 e3 h1 h2=>?_⟩;have told:=told_as rs tb.rise sW tb.st sW.lt tb.lt (fun y=>Iff.rfl) tb.sp h1 h2;refine q b H3 ?_ (e1.trans (e2.trans e3));rw[told,hBv,decide_eq_true_iff,decide_eq_true_iff];constructor
  ·rintro⟨e,e'⟩;refine⟨net,rfl,tt,rwP,e,fun y=>?_⟩;rw[e',<-e];exact hW y
  ·rintro⟨net',e,_,_,en,hR⟩;cases NdOf.inj e;have en':nmS net=names:=en;subst en';exact⟨rfl,stp_uniq tb.st sW fun y=>(hR y).trans (hW y).symm⟩
abbrev stanN:List Str:=["table","paper","word","kind","taken","shrunk_ones","told"]
theorem scStan:FnScope stanN ["table","paper"] (qAd sStan):=⟨rfl,rfl,rfl,by decide +kernel,rfl,by decide +kernel,by decide +kernel⟩
theorem ok_stan (F:Fun K "stands" "stands" sStan f fd) (G1:Cl P w K mg base CX0 1 f1 fd1 ["thing","many"] spIsTu "is_tuple")
  (G2:Cl P w K mg base CX0 6 f2 fd2 ["table","thing"] spINO "is_net_of"):FnOk P w K mg base CX0 7 f fd ["table","paper"] spStan:=by
 refine F.ok scStan (fun vs H Q E h=>?_) (fun cdv A outer s H vs Q E hr h=>?_)
 ·obtain⟨T,v,names,ms,R,o,rfl,_⟩:=h;rfl
 obtain⟨T,v,names,ms,R,o,rfl,tb,hP,q⟩:=h;have hr1:=hr.mono (j:=1) (by decide);refine⟨_,qAc (qBd (qBv (qAv G1 hr1 rfl .nil qAw (qAa (pv 1) (qAa qAe qAb)))) (qAf (qAs (pe_and (qBm qCa (qA0 qBg (pv 1) qAe (fun _ _=>rfl)) qBx (qAu _)) (pe_one (qAv G2 hr rfl .nil qAw (qAa (pv 0) (qAa (qA0 qBg (pv 1) qAe (fun _ _=>rfl)) qAb))))))) qAx)
  (qAc (qBd (PW.pt (qCx (qB1 (qBv (qAv G1 hr1 rfl .nil qAw (qAa (pv 1) (qAa qAe qAb))))) (qCh pt_nev))) (qAf (qAs qEr)) qAx)
  pss_never),?_⟩
 have nope:∀ H',Ext H H'->o=none->Q (.bl false) H':=fun H' e e'=>q false H' ⟨fun z=>(by cases z),fun ⟨d,z,_⟩=>(by rw[e']at z;cases z)⟩ e
 rcases hP with ⟨a,x,d,rfl,ha,hN,rfl⟩ | ⟨o0,h2⟩
 ·refine⟨_,rfl,a,2,rfl,.inl ⟨_,ha,true,rfl,iteT ?_⟩⟩;refine⟨_,rfl,a,_,_,_,rfl,rfl,SqT.of ha,(by exact qAr (j:=0) rfl),rfl,_,rfl,?_⟩;rw[decide_eq_true rfl,if_pos rfl];refine⟨_,rfl,_,rfl,a,_,_,_,rfl,rfl,SqT.of ha,(by exact qAr (j:=1) rfl),T,x,names,ms,R,d,rfl,tb,hN,fun b H' hb e=>q b H' ⟨fun z=>⟨d,rfl,hb.mp z⟩,fun ⟨d',z,g⟩=>?_⟩ e⟩;cases z;exact hb.mpr g
 ·rcases h2 with ⟨a,xs,rfl,ha⟩ | ⟨a,xs,rfl,ha,hl⟩ | ⟨a,x,rfl,ha⟩
  ·refine⟨_,rfl,a,2,rfl,.inr ⟨_,ha,false,rfl,qEp ?_⟩⟩;exact⟨_,rfl,a,5,rfl,.inr ⟨_,ha,false,rfl,iteT (nope H (Ext.refl _) o0)⟩⟩
  ·have e2:decide ((xs.length:Int)=2)=false:=decide_eq_false (by omega);have e5:decide ((xs.length:Int)=5)=false:=decide_eq_false (by omega);refine⟨_,rfl,a,2,rfl,.inl ⟨_,ha,_,rfl,?_⟩⟩;rw[e2];refine qEp ?_;refine⟨_,rfl,a,5,rfl,.inl ⟨_,ha,_,rfl,?_⟩⟩;rw[e5];exact iteT (nope H (Ext.refl _) o0)
  ·refine⟨_,rfl,a,2,rfl,.inl ⟨_,ha,true,rfl,iteT ?_⟩⟩;refine⟨_,rfl,a,_,_,_,rfl,rfl,SqT.of ha,(by exact qAr (j:=0) rfl),rfl,_,rfl,?_⟩;rw[decide_eq_false fun z=>absurd (V.str.inj z) (by decide)];exact qEp (nope H (Ext.refl _) o0)
end
end My
namespace L2
open PySem PySem.Spec PyProof.Rows
end L2
namespace L2
open PySem PySem.Spec PyProof.Rows
end L2
namespace L2
open PySem PySem.Spec PyProof.Rows
section
variable {X:Cx} {pins:List (Addr×Obj)} {σ:St} {H:Hp} {s:Shared} {h':Heap}
structure New (X:Cx) (pins:List (Addr×Obj)) (b:Addr):Prop where
 s0:X.s₀.heap.get? b=none
 loc:b≠X.env.locals
 cel:∀ x c,X.env.cells.lookup x=some c->c≠b
 pin:∀ p∈X.pn++pins,p.1≠b
end
end L2
namespace L2
open PySem PySem.Spec PyProof.Rows Builtin Builtin.ObjectAttr Builtin.Getset_descriptor
section
variable {prog:Program} {w:World} {A:Around} {E:Value->Shared->Prop} {s:Shared} {K:PySem.W.Frag} {x D:Addr}
structure XCls (K:PySem.W.Frag) (D:Addr):Prop where
 c:(PySem.W.clsIn K D).isSome=true
 ga:PySem.W.findIn K (.ref D) "__getattribute__" = some (some (.builtin "BaseException.__getattribute__"))
 gt:PySem.W.findIn K (.ref D) "__getattr__" = some none
 cl:PySem.W.findIn K (.ref D) "__class__" = some (some (.builtin "object.__class__"))
 sp:PySem.W.specialIn K (.builtin "object.__class__") "__get__" = some (some (.builtin "getset_descriptor.__get__"))
 tk:PySem.W.takesIn K (.builtin "object.__class__")=some true
 ob:PySem.W.mroIn K D (.type "object")=some true
 be:PySem.W.mroIn K D (.type "BaseException")=some true
end
end L2
namespace L2
open PySem PySem.Spec PyProof.Rows
section
variable {X:Cx}
theorem call_minS (hc:X.calm=true):qCr X (.builtin "min") (fun xs H Q=>∃ (p:Addr) (a b:Str),xs=[.ref p]/\SqL X.K H p [.str a,.str b]/\Q (.str (if b.cps.toList<a.cps.toList then b else a)) H):=by
 intro pins s σ H xs us Q I r h;obtain⟨l,a,b,rfl,hq,q⟩:=h;obtain⟨u,rfl,rx⟩:=qC3 r;cases rx;obtain⟨its,rv,pl,hz⟩:=I.list hq;obtain⟨u1,u2,rfl,⟨t1,rfl⟩,⟨t2,rfl⟩⟩:=vals2 rv;have hlI:l≠s.heap.objs.size:=by
  obtain⟨o,n,e,_⟩:=pl;exact hAp (Heap.lt_size e)
 refine call_min_walk (wpAny_pyIter_list pl.isList ?_);refine⟨s.heap.objs.size,_,_,_,_,_,fun i j=>decide ((([a,b]:List Str).getD i "").cps.toList<(([a,b]:List Str).getD j "").cps.toList),rfl,Walks.list (A:=X.A.in1) (I.ok.hd hc) _ l hlI [Value.str a t1,.str b t2].toArray,⟨⟨_,Heap.get?_push_size _ rfl,rfl,rfl⟩,pl.isList.at fun o e=>Heap.get?_push_of_some _ e⟩,?_,(by show 0<2;decide),?_,fun v h' tk hP hk=>?_⟩
 ·intro c hc';show c<(s.heap.push _).objs.size;rw[Heap.size_push];simp only[hAc,hB6,or_false]at hc';rcases hc' with rfl | rfl
  ·exact hAv _
  ·obtain⟨o,n,e,_⟩:=pl;exact hBe (Heap.lt_size e)
 ·intro i j vi vj s' Q' E' hi hj hq';have pick:∀ {k:Nat} {v:Value},[Value.str a t1,.str b t2].toArray[k]?=some v->∃ t,v = .str (([a,b]:List Str).getD k "") t:=fun {k v} e=>by
   match k,e with
   | 0,e=>cases e;exact⟨t1,rfl⟩
   | 1,e=>cases e;exact⟨t2,rfl⟩
   | k+2,e=>simp at e
  obtain⟨w1,rfl⟩:=pick hi;obtain⟨w2,rfl⟩:=pick hj;exact(show wpAny _ _ (compareOp .Lt _ _) _ _ _ from PySem.P.lt_str hq')
 ·have kp:∀ b o,s.heap.get? b=some o->h'.get? b=some o:=fun b o e=>hk b o (fun hm=>by
   rw[hAk]at hm;exact absurd (hm▸Heap.lt_size e) (hBl _)) (Heap.get?_push_of_some _ e)
  refine⟨.str (if b.cps.toList<a.cps.toList then b else a),H,I.kept (t':=tk) kp,?_,q⟩;have hP':[Value.str a t1,.str b t2].toArray[if decide (b.cps.toList<a.cps.toList)=true then 1 else 0]?=some v:=hP;by_cases e:b.cps.toList<a.cps.toList
  ·rw[if_pos e];rw[if_pos (decide_eq_true e)]at hP';cases hP';exact⟨_,rfl⟩
  ·rw[if_neg e];rw[if_neg (by rw[decide_eq_false e];decide)]at hP';cases hP';exact⟨_,rfl⟩
theorem call_maxS (hc:X.calm=true):qCr X (.builtin "max") (fun xs H Q=>∃ (p:Addr) (a b:Str),xs=[.ref p]/\SqL X.K H p [.str a,.str b]/\Q (.str (if a.cps.toList<b.cps.toList then b else a)) H):=by
 intro pins s σ H xs us Q I r h;obtain⟨l,a,b,rfl,hq,q⟩:=h;obtain⟨u,rfl,rx⟩:=qC3 r;cases rx;obtain⟨its,rv,pl,hz⟩:=I.list hq;obtain⟨u1,u2,rfl,⟨t1,rfl⟩,⟨t2,rfl⟩⟩:=vals2 rv;have hlI:l≠s.heap.objs.size:=by
  obtain⟨o,n,e,_⟩:=pl;exact hAp (Heap.lt_size e)
 refine call_max_walk (wpAny_pyIter_list pl.isList ?_);refine⟨s.heap.objs.size,_,_,_,_,_,fun i j=>decide ((([a,b]:List Str).getD j "").cps.toList<(([a,b]:List Str).getD i "").cps.toList),rfl,Walks.list (A:=X.A.in1) (I.ok.hd hc) _ l hlI [Value.str a t1,.str b t2].toArray,⟨⟨_,Heap.get?_push_size _ rfl,rfl,rfl⟩,pl.isList.at fun o e=>Heap.get?_push_of_some _ e⟩,?_,(by show 0<2;decide),?_,fun v h' tk hP hk=>?_⟩
 ·intro c hc';show c<(s.heap.push _).objs.size;rw[Heap.size_push];simp only[hAc,hB6,or_false]at hc';rcases hc' with rfl | rfl
  ·exact hAv _
  ·obtain⟨o,n,e,_⟩:=pl;exact hBe (Heap.lt_size e)
 ·intro i j vi vj s' Q' E' hi hj hq';have pick:∀ {k:Nat} {v:Value},[Value.str a t1,.str b t2].toArray[k]?=some v->∃ t,v = .str (([a,b]:List Str).getD k "") t:=fun {k v} e=>by
   match k,e with
   | 0,e=>cases e;exact⟨t1,rfl⟩
   | 1,e=>cases e;exact⟨t2,rfl⟩
   | k+2,e=>simp at e
  obtain⟨w1,rfl⟩:=pick hi;obtain⟨w2,rfl⟩:=pick hj;exact(show wpAny _ _ (compareOp .Gt _ _) _ _ _ from PySem.P.gt_str hq')
 ·have kp:∀ b o,s.heap.get? b=some o->h'.get? b=some o:=fun b o e=>hk b o (fun hm=>by
   rw[hAk]at hm;exact absurd (hm▸Heap.lt_size e) (hBl _)) (Heap.get?_push_of_some _ e)
  refine⟨.str (if a.cps.toList<b.cps.toList then b else a),H,I.kept (t':=tk) kp,?_,q⟩;have hP':[Value.str a t1,.str b t2].toArray[if decide (a.cps.toList<b.cps.toList)=true then 1 else 0]?=some v:=hP;by_cases e:a.cps.toList<b.cps.toList
  ·rw[if_pos e];rw[if_pos (decide_eq_true e)]at hP';cases hP';exact⟨_,rfl⟩
  ·rw[if_neg e];rw[if_neg (by rw[decide_eq_false e];decide)]at hP';cases hP';exact⟨_,rfl⟩
end
end L2
namespace L2
open PySem PySem.Spec PyProof.Rows
section
variable {X:Cx}
theorem op_gt_str:OpR X (compareOp .Gt) (fun x y H Q=>∃ i j,x = .str i/\y = .str j/\Q (.bl (decide (j.cps.toList<i.cps.toList))) H):=by
 intro pins s σ H x y v u Q I rx ry h;obtain⟨i,j,rfl,rfl,q⟩:=h;obtain⟨t,rfl⟩:=rx;obtain⟨t',rfl⟩:=ry;exact PySem.P.gt_str (fin_bl I q rfl)
theorem call_min2S (hc:X.calm=true):qCr X (.builtin "min") (fun xs H Q=>∃ a b:Str,xs=[.str a,.str b]/\Q (.str (if b.cps.toList<a.cps.toList then b else a)) H):=by
 intro pins s σ H xs us Q I r h;obtain⟨a,b,rfl,q⟩:=h;obtain⟨u1,u2,rfl,⟨t1,rfl⟩,⟨t2,rfl⟩⟩:=vals2 r;have tu:(s.heap.push { cls:=.type "tuple",data:=.seq #[.str a t1,.str b t2] }).IsTuple s.heap.objs.size [Value.str a t1,.str b t2].toArray:=⟨_,Heap.get?_push_size _ rfl,rfl,0,by simp⟩;have sz:(s.heap.push { cls:=.type "tuple",data:=.seq #[.str a t1,.str b t2] }).objs.size=s.heap.objs.size+1:=Heap.size_push ..;refine call_min_two (wpAny_pyIter_tuple tu ?_);refine⟨_,[_,s.heap.objs.size],[_],_,_,_,fun i j=>decide ((([a,b]:List Str).getD i "").cps.toList<(([a,b]:List Str).getD j "").cps.toList),rfl,Walks.tuple (A:=X.A.in1) (I.ok.hd hc) _ s.heap.objs.size (by rw[sz];exact hAp (hAv _)) [Value.str a t1,.str b t2].toArray,⟨⟨_,Heap.get?_push_size _ rfl,rfl,rfl⟩,tu.push _⟩,?_,(by show 0<2;decide),?_,fun v h' tk hP hk=>?_⟩
 ·intro c hc';show c<((s.heap.push _).push _).objs.size;rw[Heap.size_push,sz];simp only[hAc,hB6,or_false]at hc';rcases hc' with rfl | rfl
  ·rw[sz];exact hAv _
  ·exact hBe (hAv _)
 ·intro i j vi vj s' Q' E' hi hj hq';have pick:∀ {k:Nat} {v:Value},[Value.str a t1,.str b t2].toArray[k]?=some v->∃ t,v = .str (([a,b]:List Str).getD k "") t:=fun {k v} e=>by
   match k,e with
   | 0,e=>cases e;exact⟨t1,rfl⟩
   | 1,e=>cases e;exact⟨t2,rfl⟩
   | k+2,e=>simp at e
  obtain⟨w1,rfl⟩:=pick hi;obtain⟨w2,rfl⟩:=pick hj;exact(show wpAny _ _ (compareOp .Lt _ _) _ _ _ from PySem.P.lt_str hq')
 ·have kp:∀ b o,s.heap.get? b=some o->h'.get? b=some o:=fun b o e=>hk b o (fun hm=>by
   rw[hAk]at hm;have:=Heap.lt_size e;rw[hm,sz]at this;exact hBl _ (Nat.lt_of_succ_lt this)) (Heap.get?_push_of_some _ (Heap.get?_push_of_some _ e))
  refine⟨.str (if b.cps.toList<a.cps.toList then b else a),H,I.kept (t':=tk) kp,?_,q⟩;have hP':[Value.str a t1,.str b t2].toArray[if decide (b.cps.toList<a.cps.toList)=true then 1 else 0]?=some v:=hP;by_cases e:b.cps.toList<a.cps.toList
  ·rw[if_pos e];rw[if_pos (decide_eq_true e)]at hP';cases hP';exact⟨_,rfl⟩
  ·rw[if_neg e];rw[if_neg (by rw[decide_eq_false e];decide)]at hP';cases hP';exact⟨_,rfl⟩
theorem call_max2S (hc:X.calm=true):qCr X (.builtin "max") (fun xs H Q=>∃ a b:Str,xs=[.str a,.str b]/\Q (.str (if a.cps.toList<b.cps.toList then b else a)) H):=by
 intro pins s σ H xs us Q I r h;obtain⟨a,b,rfl,q⟩:=h;obtain⟨u1,u2,rfl,⟨t1,rfl⟩,⟨t2,rfl⟩⟩:=vals2 r;have tu:(s.heap.push { cls:=.type "tuple",data:=.seq #[.str a t1,.str b t2] }).IsTuple s.heap.objs.size [Value.str a t1,.str b t2].toArray:=⟨_,Heap.get?_push_size _ rfl,rfl,0,by simp⟩;have sz:(s.heap.push { cls:=.type "tuple",data:=.seq #[.str a t1,.str b t2] }).objs.size=s.heap.objs.size+1:=Heap.size_push ..;refine call_max_two (wpAny_pyIter_tuple tu ?_);refine⟨_,[_,s.heap.objs.size],[_],_,_,_,fun i j=>decide ((([a,b]:List Str).getD j "").cps.toList<(([a,b]:List Str).getD i "").cps.toList),rfl,Walks.tuple (A:=X.A.in1) (I.ok.hd hc) _ s.heap.objs.size (by rw[sz];exact hAp (hAv _)) [Value.str a t1,.str b t2].toArray,⟨⟨_,Heap.get?_push_size _ rfl,rfl,rfl⟩,tu.push _⟩,?_,(by show 0<2;decide),?_,fun v h' tk hP hk=>?_⟩
 ·intro c hc';show c<((s.heap.push _).push _).objs.size;rw[Heap.size_push,sz];simp only[hAc,hB6,or_false]at hc';rcases hc' with rfl | rfl
  ·rw[sz];exact hAv _
  ·exact hBe (hAv _)
 ·intro i j vi vj s' Q' E' hi hj hq';have pick:∀ {k:Nat} {v:Value},[Value.str a t1,.str b t2].toArray[k]?=some v->∃ t,v = .str (([a,b]:List Str).getD k "") t:=fun {k v} e=>by
   match k,e with
   | 0,e=>cases e;exact⟨t1,rfl⟩
   | 1,e=>cases e;exact⟨t2,rfl⟩
   | k+2,e=>simp at e
  obtain⟨w1,rfl⟩:=pick hi;obtain⟨w2,rfl⟩:=pick hj;exact(show wpAny _ _ (compareOp .Gt _ _) _ _ _ from PySem.P.gt_str hq')
 ·have kp:∀ b o,s.heap.get? b=some o->h'.get? b=some o:=fun b o e=>hk b o (fun hm=>by
   rw[hAk]at hm;have:=Heap.lt_size e;rw[hm,sz]at this;exact hBl _ (Nat.lt_of_succ_lt this)) (Heap.get?_push_of_some _ (Heap.get?_push_of_some _ e))
  refine⟨.str (if a.cps.toList<b.cps.toList then b else a),H,I.kept (t':=tk) kp,?_,q⟩;have hP':[Value.str a t1,.str b t2].toArray[if decide (a.cps.toList<b.cps.toList)=true then 1 else 0]?=some v:=hP;by_cases e:a.cps.toList<b.cps.toList
  ·rw[if_pos e];rw[if_pos (decide_eq_true e)]at hP';cases hP';exact⟨_,rfl⟩
  ·rw[if_neg e];rw[if_neg (by rw[decide_eq_false e];decide)]at hP';cases hP';exact⟨_,rfl⟩
end
end L2
namespace My
open PySem L2
section
variable {P:Program} {w:World} {K:PySem.W.Frag} {mg:Str->Option Value} {base:Heap} {f f1 f2 f3 f4:Addr} {fd fd1 fd2 fd3 fd4:FuncData}
theorem scLPt:FnScope ["_law_point"] ["_law_point"] (qAd sLPt):=⟨rfl,rfl,rfl,by decide +kernel,rfl,by decide +kernel,by decide +kernel⟩
theorem ok_lpt (F:Fun K "_law_is_point" "_law_is_point" sLPt f fd) (ml:mg "len" = none) (mi:mg "isinstance" = none) (ms:mg "str" = none):FnOk P w K mg base CX0 1 f fd ["_law_point"] spName:=by
 refine F.ok scLPt (fun vs H Q E h=>?_) (fun cdv A outer s H vs Q E hr h=>?_)
 ·obtain⟨x,D,rfl,_⟩:=h;rfl
 obtain⟨x,D,rfl,hI,q⟩:=h;refine⟨_,qAc (qBd (PW.pt (qCx (qB1 (qBv (qAg qA8 rfl mi qA9 (qAa (pv 0) (qAa (qCq (v:=.ty "str") rfl ms boot_str' rfl) qAb)))))
   (qCh (qB1 (pt_chain op_le op_le qAe (qAg qC7 rfl ml hAl (qAa (pv 0) qAb)) qAe)))))
   (qAf (qAs qEr)) qAx)
  (qAf (qAs (qBm (op_eqD (qFd hr))
   (qCp (N:=["_law_point"]) (sc:=qAd sLPt) (N':=["_law_sign"]) (sub:=[none]) rfl rfl (CmpOk.of (by decide +kernel)) rfl (pi_str (pv 0))
    (fun C s H fp=>⟨qAl (i:=0) (by show(["_law_sign"]:List Str).Nodup;decide) rfl (Or.inl rfl),qFg (qAp op_notin_str (pv 0) qBx (by with_unfolding_all rfl)),pv 0⟩)) (qBl qAb) (qAu _)))),?_⟩
 rcases Item.ty (K:=K) hI with ⟨z,rfl,hz,sm⟩ | ⟨hn,t,ty,kt⟩
 ·have wl:z.length<=sizeLine:=hB2 (qAi (by omega));have nf:∀ b:Bool,qCe z=b->∀ H',Ext H H'->Q (.bl b) H':=fun b e H' he=>by subst e;exact q H' he
  refine⟨_,rfl,_,_,_,true,rfl,.str z,qBo _ _,true,rfl,qEp ?_⟩;refine⟨_,rfl,z,rfl,wl,_,_,rfl,rfl,_,rfl,?_⟩;refine qCb (fun c=>?_) (fun c=>?_)
  case refine_2 =>
   have c':¬(1:Int)<=z.length:=fun y=>c (decide_eq_true y)
   refine⟨_,rfl,iteT (nf false ?_ H (Ext.refl _))⟩;unfold qCe;rw[decide_eq_false (by omega)];rfl
  have c':(1:Int)<=z.length:=of_decide_eq_true c;refine⟨_,_,rfl,rfl,_,rfl,?_⟩;refine qCb (fun d=>?_) (fun d=>?_)
  ·have d':¬(z.length:Int)<=6:=fun y=>by rw[decide_eq_true y]at d;cases d
   refine nf false ?_ H (Ext.refl _);unfold qCe;rw[decide_eq_true (by omega),decide_eq_false (by omega)];rfl
  have d':(z.length:Int)<=6:=by
   by_cases y:(z.length:Int)<=6
   ·exact y
   ·rw[decide_eq_false y]at d;exact absurd rfl d
  refine⟨_,rfl,z,rfl,?_⟩;refine turns_val (fun i ys H'=>H'=H/\ys=(((List.range i).map (sgn z)).filter fun c=>!inB c).map V.str) ⟨rfl,rfl⟩ ?_ ?_
  ·rintro i ys H' hi ⟨rfl,rfl⟩;have tk:((List.range (i+1)).map (sgn z)).filter (fun c=>!inB c)=((List.range i).map (sgn z)).filter (fun c=>!inB c)++(if (!inB (sgn z i))=true then [sgn z i] else []):=by
    rw[hC6,hA4,hBo];congr 1;show List.filter _ [sgn z i]=_;rw[List.filter_cons];rfl
   refine⟨Sle.set _ (Sle.refl _) (fun u z=>by cases z),_,rfl,_,_,rfl,rfl,_,rfl,?_⟩;refine qCb (fun e=>?_) (fun e=>?_)
   ·refine⟨_,rfl,?_,nxt hi ⟨rfl,?_⟩⟩
    ·rw[hA1];have:=hBy (fun c=>!inB c) ((List.range i).map (sgn z));rw[hA1,hB4]at this;exact qAi (by have:z.cps.size=z.length:=rfl;omega)
    ·rw[tk,if_pos (show(!inB (sgn z i))=true from e),hA4];rfl
   ·exact nxt hi ⟨rfl,by rw[tk,if_neg (show ¬(!inB (sgn z i))=true from e),hBq]⟩
  ·rintro ys H' ⟨rfl,rfl⟩ r hr';refine⟨(by show 0<=sizeLine;decide),fun r2 hr2=>?_⟩;refine⟨qEd _,qEd [],qGo (r:=((List.range z.cps.size).map (sgn z)).filter fun c=>!inB c) ?_,qGo (r:=[]) upd_same,qDd ?_,qDd (fun y hy=>by cases hy),?_⟩
   ·show upd _ r2 _ r=_;rw[qAh (qAj upd_same hr2)];exact upd_same
   ·intro y hy;obtain⟨i,_,rfl⟩:=hA3.mp (hAq.mp hy).1;refine Sm.ok fun c hc=>?_
    have e:c=z.cps.toList.getD i 0:=by simpa [sgn] using hc
    rw[e,hAb];cases hg:z.cps.toList[i]? with
    | none=>decide
    | some v=>exact sm v (hAj hg)
   ·refine nf _ ?_ _ ((Ext.new hr' _).trans (Ext.new hr2 _));show qCe z=PyData.eqv _ _;rw[eqv_row];unfold qCe sgns;rw[decide_eq_true (by omega),decide_eq_true (by omega)];show List.all _ id=_;rw[hD0];by_cases e:((List.range z.cps.size).map (sgn z)).filter (fun c=>!inB c)=[]
    ·rw[decide_eq_true e,hBw];intro i hi;have q2:=List.filter_eq_nil_iff.mp e (sgn z i) (hC3 hi);show inB (sgn z i)=true
     simpa using q2
    ·rw[decide_eq_false e,<-Bool.not_eq_true,hBw];intro q2;refine e (List.filter_eq_nil_iff.mpr fun c hc=>?_);obtain⟨i,hi,rfl⟩:=hA3.mp hc;have q3:inB (sgn z i)=true:=q2 i hi;rw[q3];decide
 ·refine⟨_,rfl,_,_,_,false,rfl,ty,kt,false,rfl,iteT (iteT ?_)⟩;have:=q H (Ext.refl _);rw[hn]at this;exact this
end
def PairP (names:List Str) (d:Nd) (net:List Tr):Prop:=d=NdOf net/\nmS net=names/\∀ t∈net,qCe t.2.1=true/\qCe t.2.2=true/\leB t.2.1 t.2.2=true
def spNPa:Sp:=fun vs H Q _=>∃ (v:V) (pn:Addr) (names:List Str) (d:Nd),vs=[v,.ref pn]/\NtS H v d/\LsS H pn names/\names.length<=12 /\
 (∀ H',Ext H H'->(∀ net,¬PairP names d net)->Q .non H')/\∀ (r:Addr) (net:List Tr) H',Ext H H'->H r=none->KeptK H' r (prK net)->PairP names d net->Q (.ref r) H'
theorem len_pair {names:List Str} {os:List (Option (List V))} {net:List Tr} (h:PairP names (some os) net):os.length=names.length:=by
 rw[<-h.2.1,hAa h.1,hA1,hA1]
theorem at_pair {names:List Str} {os:List (Option (List V))} {net:List Tr} (h:PairP names (some os) net) {i:Nat} {o:Option (List V)} (ho:os[i]?=some o):∃ t:Tr,o=some (trV t)/\names[i]?=some t.1/\qCe t.2.1=true/\qCe t.2.2=true/\leB t.2.1 t.2.2=true:=by
 rw[hAa h.1,hAd]at ho;cases e:net[i]? with
 | none=>rw[e]at ho;cases ho
 | some t =>
  rw[e]at ho;refine⟨t,(hAa ho).symm,?_,h.2.2 t (hAj e)⟩;rw[<-h.2.1,hAd,e];rfl
theorem KeptK.ext {H H':Hp} {p:Addr} {ts:List (Key×Key)} (h:KeptK H p ts) (e:Ext H H'):KeptK H' p ts:=by
 obtain⟨as,h1,h2⟩:=h;exact⟨as,e _ _ h1,Paired.mapP h2 fun a t z=>e _ _ z⟩
section
variable {P:Program} {w:World} {K:PySem.W.Frag} {mg:Str->Option Value} {base:Heap} {f f1 f2 f3 f4:Addr} {fd fd1 fd2 fd3 fd4:FuncData}
abbrev npN:List Str:=["_law_net","_law_names_here","_law_pairs","_law_k"]
theorem scNPa:FnScope npN ["_law_net","_law_names_here"] (qAd sNPa):=⟨rfl,rfl,rfl,by decide +kernel,rfl,by decide +kernel,by decide +kernel⟩
theorem ok_npa (F:Fun K "_law_net_pairs" "_law_net_pairs" sNPa f fd) (G1:Cl P w K mg base CX0 1 f1 fd1 ["_law_point"] spName "_law_is_point")
  (mi:mg "isinstance" = none) (mL:mg "list" = none) (mt:mg "tuple" = none) (ml:mg "len" = none) (mr:mg "range" = none):FnOk P w K mg base CX0 2 f fd ["_law_net","_law_names_here"] spNPa:=by
 refine F.ok scNPa (fun vs H Q E h=>?_) (fun cdv A outer s H vs Q E hr h=>?_)
 ·obtain⟨v,pn,names,d,rfl,_⟩:=h;rfl
 obtain⟨v,pn,names,d,rfl,hN,hn,l12,qn,qy⟩:=h;refine⟨_,(qAc (qBd (PW.pt (qCx (qB1 (qBv (qAg qA8 rfl mi qA9 (qAa (pv 0) (qAa (qCq (v:=.ty "list") rfl mL qBj rfl) qAb))))) (qCh (qAp qD2 (qAg qAk rfl ml hAl (qAa (pv 0) qAb)) (qAg qAk rfl ml hAl (qAa (pv 1) qAb)) (qAu _))))) (qAf (qAs pe_non)) qAx) (qAc (qAm (i:=2) scNPa.nd rfl (Or.inl rfl) (qBl qAb)) (qAc (qBw PassesOwn.never rfl (qBa rfl mr (qAa (qAg qAk rfl ml hAl (qAa (pv 0) qAb)) qAb)) (qAl (i:=3) scNPa.nd rfl (Or.inl rfl)) (qAc (qBd (PW.pt (qCx (qB1 (qBv (qAg qA8 rfl mi qA9 (qAa (qA0 qAz (pv 0) (pv 3) (fun _ _=>rfl)) (qAa (qCq (v:=.ty "tuple") rfl mt qCg rfl) qAb))))) (qCx (qAp qD2 (qAg qAk rfl ml hAl (qAa (qA0 qAz (pv 0) (pv 3) (fun _ _=>rfl)) qAb)) qAe (qAu _)) (qCh (qAp qD2 (qA0 qBg (qA0 qAz (pv 0) (pv 3) (fun _ _=>rfl)) qAe (fun _ _=>rfl)) (qA0 qAz (pv 1) (pv 3) (fun _ _=>rfl)) (qAu _)))))) (qAf (qAs pe_non)) qAx) (qAc (qBd (PW.pt (qCx (qB1 (qBv (qAv G1 hr rfl .nil qAw (qAa (qA0 qBg (qA0 qAz (pv 0) (pv 3) (fun _ _=>rfl)) qAe (fun _ _=>rfl)) qAb)))) (qCx (qB1 (qBv (qAv G1 hr rfl .nil qAw (qAa (qA0 qBg (qA0 qAz (pv 0) (pv 3) (fun _ _=>rfl)) qAe (fun _ _=>rfl)) qAb)))) (qCh (qAp op_gt_str (qA0 qBg (qA0 qAz (pv 0) (pv 3) (fun _ _=>rfl)) qAe (fun _ _=>rfl)) (qA0 qBg (qA0 qAz (pv 0) (pv 3) (fun _ _=>rfl)) qAe (fun _ _=>rfl)) (qAu _)))))) (qAf (qAs pe_non)) qAx) (qAf (qCo (qFj hB1 hBj hBk qB7 (pv 2) (qAa (qBk (qAa (qA0 qBg (qA0 qAz (pv 0) (pv 3) (fun _ _=>rfl)) qAe (fun _ _=>rfl)) (qAa (qA0 qBg (qA0 qAz (pv 0) (pv 3) (fun _ _=>rfl)) qAe (fun _ _=>rfl)) qAb))) qAb))))))) (qAf (qAs (pv 2)))))),?_⟩;rcases hN with ⟨⟨rfl,nl⟩ | ⟨a,xs,os,rfl,ha,rfl,pr,hl⟩,hs,_⟩
 ·obtain⟨t,ty,kt⟩:=nl.ty K;exact⟨_,rfl,_,_,_,false,rfl,ty,kt,false,rfl,iteT (iteT (qn H (Ext.refl _) fun net z=>by cases z.1))⟩
 have lo:xs.length=os.length:=pr.length;refine⟨_,rfl,_,_,_,true,rfl,.lst ha,qBo _ _,true,rfl,qEp ?_⟩;refine⟨_,rfl,a,_,rfl,.inl (SqL.of ha),_,rfl,pn,_,rfl,.inl (SqL.of hn),rfl,_,rfl,?_⟩;refine qCb (fun c=>?_) (fun c=>?_)
 ·refine qn H (Ext.refl _) fun net z=>?_
  have e:=len_pair z;rw[hA1,lo,e,decide_eq_true rfl]at c;cases c
 have lx:xs.length=names.length:=by
  have:V.int ((xs.length:Nat):Int)=V.int (((names.map V.str).length:Nat):Int):=by simpa using c
  have:=V.int.inj this;rw[hA1]at this;omega
 refine⟨hAw _,fun r hr0=>?_⟩;have n0:=Ext.new hr0 (.lst []);refine⟨_,rfl,a,_,rfl,.inl (SqL.of (n0 _ _ ha)),_,rfl,by omega,by omega,?_⟩;refine qBh (lo:=0) (n:=((xs.length:Nat):Int).toNat) (fun i σ H'=>∃ (x3:Option V) (net:List Tr),σ=[some (.ref a),some (.ref pn),some (.ref r),x3]/\Ext H H'/\KeptK H' r (prK net)/\os.take i=net.map (fun t=>some (trV t))/\nmS net=names.take i/\∀ t∈net,qCe t.2.1=true/\qCe t.2.2=true/\leB t.2.1 t.2.2=true)
  ⟨none,[],rfl,n0,⟨[],upd_same,.nil⟩,rfl,rfl,fun t ht=>by cases ht⟩ ?_ ?_
 ·rintro i σ H' hi ⟨x3,net,rfl,e,kp,et,en,hp⟩;rw[show(0+(i:Int))=((i:Nat):Int) by omega];have hi':i<xs.length:=by omega
  obtain⟨o,ho,hP⟩:=qA6 pr (hA2 hi');have ha':=e _ _ ha;have hn':=e _ _ hn;have av:atI xs ((i:Nat):Int)=some xs[i]:=qAr (hA2 hi');have nv:atI (names.map V.str) ((i:Nat):Int)=some (.str names[i]):=qAr (by rw[hAd,hA2 (by omega)];rfl);have no:(∀ t:Tr,o=some (trV t)->names[i]=t.1->qCe t.2.1=true->qCe t.2.2=true->leB t.2.1 t.2.2=true->False)->∀ H2,Ext H H2->Q .non H2:=fun h H2 e2=>qn H2 e2 fun net z=>by
   obtain⟨t,e1,e3,e4,e5,e6⟩:=at_pair z ho;rw[hA2 (by omega)]at e3;exact h t e1 (hAa e3) e4 e5 e6
  rcases hP with ⟨b,ys,rfl,ex,hb,ly,hI⟩ | ⟨rfl,nT⟩
  case inr =>
   obtain⟨t,ty,kt⟩:=(nT.ext e).ty K;exact⟨_,rfl,_,rfl,a,_,_,_,rfl,rfl,SqL.of ha',av,_,_,_,false,rfl,ty,kt,false,rfl,iteT (iteT (no (fun t z=>by cases z) H' e))⟩
  rw[ex]at av;have hb':=e _ _ hb;obtain⟨s,rest,rfl⟩:=hs os rfl ys (hAj ho);refine⟨_,rfl,_,rfl,a,_,_,_,rfl,rfl,SqL.of ha',av,_,_,_,true,rfl,.tup hb',qBo _ _,true,rfl,qEp ?_⟩;refine⟨_,rfl,_,rfl,a,_,_,_,rfl,rfl,SqL.of ha',av,b,_,rfl,.inr (SqT.of hb'),rfl,_,rfl,?_⟩;refine qCb (fun c=>?_) (fun c=>?_)
  ·refine iteT (no (fun t z _ _ _ _=>?_) H' e);have:(V.str s :: rest).length=3:=by rw[hAa z];rfl
   rw[this]at c;cases c
  have l3:(V.str s :: rest).length=3:=by
   have:V.int (((V.str s :: rest).length:Nat):Int)=V.int 3:=by simpa using c
   have:=V.int.inj this;omega
  obtain⟨y,z,rfl⟩:∃ y z,rest=[y,z]:=by
   match rest,l3 with
   | [y,z],_=>exact⟨y,z,rfl⟩
  refine⟨_,rfl,_,rfl,a,_,_,_,rfl,rfl,SqL.of ha',av,b,_,_,_,rfl,rfl,SqT.of hb',(by exact qAr (j:=0) rfl),_,rfl,_,rfl,pn,_,_,_,rfl,rfl,SqL.of hn',nv,rfl,_,rfl,?_⟩;refine qCb (fun c=>?_) (fun c=>?_)
  ·refine no (fun t z en _ _ _=>?_) H' e;have:V.str s=V.str t.1:=(List.cons.inj (hAa z)).1;rw[this,en,decide_eq_true rfl]at c;cases c
  have es:names[i]=s:=by
   have:V.str s=V.str names[i]:=by simpa using c
   exact(V.str.inj this).symm
  obtain⟨Dy,hDy⟩:=hI y (by simp);obtain⟨Dz,hDz⟩:=hI z (by simp);refine⟨_,rfl,_,rfl,a,_,_,_,rfl,rfl,SqL.of ha',av,b,_,_,_,rfl,rfl,SqT.of hb',(by exact qAr (j:=1) rfl),y,Dy,rfl,hDy.ext e,fun H2 e2=>⟨_,rfl,?_⟩⟩;have tr:∀ t:Tr,some [V.str s,y,z]=some (trV t)->s=t.1/\y = .str t.2.1/\z = .str t.2.2:=fun t q=>by
   have q':[V.str s,y,z]=[V.str t.1,V.str t.2.1,V.str t.2.2]:=hAa q;simp only[List.cons.injEq,V.str.injEq,and_true]at q';exact q'
  refine qCb (fun c=>?_) (fun c=>?_)
  ·refine iteT (no (fun t q _ h1 _ _=>?_) H2 (e.trans e2));rw[(tr t q).2.1]at c;have:nmV (.str t.2.1)=true:=h1;rw[this]at c;cases c
  have ny:nmV y=true:=by
   cases h:nmV y with
   | true=>rfl
   | false=>rw[h]at c;exact absurd rfl c
  have ha2:=e2 _ _ ha';have hb2:=e2 _ _ hb';refine⟨_,rfl,_,rfl,a,_,_,_,rfl,rfl,SqL.of ha2,av,b,_,_,_,rfl,rfl,SqT.of hb2,(by exact qAr (j:=2) rfl),z,Dz,rfl,hDz.ext (e.trans e2),fun H3 e3=>⟨_,rfl,?_⟩⟩;refine qCb (fun c=>?_) (fun c=>?_)
  ·refine iteT (no (fun t q _ _ h1 _=>?_) H3 (e.trans (e2.trans e3)));rw[(tr t q).2.2]at c;have:nmV (.str t.2.2)=true:=h1;rw[this]at c;cases c
  have nz:nmV z=true:=by
   cases h:nmV z with
   | true=>rfl
   | false=>rw[h]at c;exact absurd rfl c
  obtain⟨sy,rfl⟩:=qDn ny;obtain⟨sz,rfl⟩:=qDn nz;have ha3:=e3 _ _ ha2;have hb3:=e3 _ _ hb2;refine⟨_,rfl,_,rfl,a,_,_,_,rfl,rfl,SqL.of ha3,av,b,_,_,_,rfl,rfl,SqT.of hb3,(by exact qAr (j:=1) rfl),_,rfl,_,rfl,a,_,_,_,rfl,rfl,SqL.of ha3,av,b,_,_,_,rfl,rfl,SqT.of hb3,(by exact qAr (j:=2) rfl),_,_,rfl,rfl,_,rfl,?_⟩;refine qCb (fun c=>?_) (fun c=>?_)
  ·refine no (fun t q _ _ _ h1=>?_) H3 (e.trans (e2.trans e3));obtain⟨_,q1,q2⟩:=tr t q;rw[V.str.inj q1,V.str.inj q2]at c;unfold leB at h1;rw[c]at h1;cases h1
  have le:leB sy sz=true:=by
   unfold leB;cases h:decide (sz.cps.toList<sy.cps.toList) with
   | true=>exact absurd h c
   | false=>rfl
  have kp3:=kp.ext (e2.trans e3);obtain⟨as,hr3,pr3⟩:=kp3;have las:=pr3.length;have ln9:net.length=i:=by
   have:=congrArg List.length et;rw[hA1,hAi]at this;omega
  rw[qDm]at las;refine⟨_,rfl,.inl ⟨rfl,_,SqL.of hr3⟩,_,rfl,_,rfl,a,_,_,_,rfl,rfl,SqL.of ha3,av,b,_,_,_,rfl,rfl,SqT.of hb3,(by exact qAr (j:=1) rfl),_,rfl,_,rfl,a,_,_,_,rfl,rfl,SqL.of ha3,av,b,_,_,_,rfl,rfl,SqT.of hb3,(by exact qAr (j:=2) rfl),(by show 2<=sizeLine;decide),fun p p0=>?_⟩;have np:=Ext.new p0 (.tup [V.str sy,V.str sz]);have rp:r≠p:=qAj hr3 p0;refine⟨r,_,_,rfl,rfl,np _ _ hr3,by rw[hA1];exact qAi (by omega),?_⟩;have r0':H r=none:=hr0;refine⟨_,net++[(s,sy,sz)],rfl,((e.trans (e2.trans e3)).trans np).over r0' _,⟨as++[p],by rw[upd_same,hA4];rfl,?_⟩,?_,?_,?_⟩
  ·rw[show prK (net++[(s,sy,sz)])=prK net++[(Sum.inr sy,Sum.inr sz)] from hA4];refine Paired.snoc (Paired.mapP pr3 fun a' t z=>?_) ?_
   ·rw[qAh (fun q=>by rw[q,hr3]at z;cases z)];exact np _ _ z
   ·rw[qAh (Ne.symm rp)];exact upd_same
  ·rw[qAq ho,et,hA4];rfl
  ·rw[show nmS (net++[(s,sy,sz)])=nmS net++[s] from hA4,en,qAq (hA2 (by omega:i<names.length)),es]
  ·intro t ht;rcases hAr.mp ht with q | q
   ·exact hp t q
   ·rw[hAk.mp q];exact⟨ny,nz,le⟩
 ·rintro σ H' ⟨x3,net,rfl,e,kp,et,en,hp⟩;rw[hA8 (by omega)]at et;rw[hA8 (by omega)]at en;exact⟨_,rfl,qy r net H' e hr0 kp ⟨by rw[et];rfl,en,hp⟩⟩
end
end My
namespace My
open PySem L2
theorem inB_sg:∀ v∈sg.cps.toList,inB ⟨#[v]⟩=true:=by decide +kernel
theorem qD3 {s:Str} (h:qDb s):qCe s=true:=by
 unfold qCe;rw[decide_eq_true h.2.1,decide_eq_true h.2.2,hBn,hBn];unfold sgns;rw[hD0,hBw];intro i hi;have hi':i<s.cps.toList.length:=by simpa using hAn.mp hi
 show inB (sgn s i)=true;unfold sgn;rw[hAb,hA2 hi'];exact inB_sg _ (h.1 _ (hBg hi'))
theorem rowP_of {ss:List Str} (rn:qE2 ss) (h:∀ s∈ss,qDb s):rowP (ss.map V.str):=by
 constructor
 ·intro i hi;rw[hA1]at hi;rw[hAb,hAd,hA2 hi];exact qD3 (h _ (hBg hi))
 ·intro i hi;rw[hA1]at hi;rw[hAb,hAb,hAd,hAd,hA2 (by omega),hA2 hi];exact List.pairwise_iff_getElem.mp rn i (i+1) (by omega) hi (by omega)
structure NmO (H:Hp) (pn pb:Addr) (names:List Str) (R:List Nat):Prop where
 hn:LsS H pn names
 rise:qE2 names
 nd:∀ s∈names,qDb s
 ln:names.length<=12
 hb:LsN H pb R
 st:Stp names.length R
theorem NmO.ext {H H':Hp} {pn pb:Addr} {names:List Str} {R:List Nat} (h:NmO H pn pb names R) (e:Ext H H'):NmO H' pn pb names R:=⟨e _ _ h.hn,h.rise,h.nd,h.ln,e _ _ h.hb,h.st⟩
theorem pair_good {names:List Str} {R:List Nat} {d:Nd} (rn:qE2 names) (nd:∀ s∈names,qDb s):GoodN names R d↔∃ net,PairP names d net/\∀ y,Spn R y↔y<2^names.length/\∀ k,dot names.length y (stK (prK net) k)=false:=by
 constructor
 ·rintro⟨net,e,tt,_,en,h⟩;exact⟨net,⟨e,en,fun t ht=>(tt t ht).2⟩,h⟩
 ·rintro⟨net,⟨e,en,tt⟩,h⟩;refine⟨net,e,fun t ht=>⟨qD3 (nd _ ?_),tt t ht⟩,?_,en,h⟩
  ·rw[<-en];exact hA3.mpr ⟨t,ht,rfl⟩
  ·have:net.map (·.1)=names:=en;rw[this];exact rowP_of rn nd
def spNGo:Sp:=fun vs H Q _=>∃ (v:V) (pn pb:Addr) (names:List Str) (R:List Nat) (d:Nd),vs=[v,.ref pn,.ref pb]/\NmO H pn pb names R/\NtS H v d/\∀ (b:Bool) H',(b=true↔GoodN names R d)->Ext H H'->Q (.bl b) H'
def spDue:Sp:=fun vs H Q _=>∃ (v:V) (pn pb:Addr) (names:List Str) (R:List Nat) (o:Option Nd),vs=[v,.ref pn,.ref pb]/\NmO H pn pb names R/\PapAt H v o/\∀ (b:Bool) H',(b=true↔∃ d,o=some d/\GoodN names R d)->Ext H H'->Q (.bl b) H'
section
variable {P:Program} {w:World} {K:PySem.W.Frag} {mg:Str->Option Value} {base:Heap} {f f1 f2 f3 f4:Addr} {fd fd1 fd2 fd3 fd4:FuncData}
abbrev ngN:List Str:=["_law_net","_law_names_here","_law_base","_law_pairs"]
theorem scNGo:FnScope ngN ["_law_net","_law_names_here","_law_base"] (qAd sNGo):=⟨rfl,rfl,rfl,by decide +kernel,rfl,by decide +kernel,by decide +kernel⟩
theorem ok_ngo (F:Fun K "_law_net_good" "_law_net_good" sNGo f fd) (G1:Cl P w K mg base CX0 2 f1 fd1 ["_law_net","_law_names_here"] spNPa "_law_net_pairs")
  (G2:Cl P w K mg base CX0 5 f2 fd2 ["_law_base","_law_many"] spLCr "_law_crossed")
  (G3:Cl P w K mg base CX0 4 f3 fd3 ["_law_masks"] spLSt "_law_steps")
  (G4:Cl P w K mg base CX0 1 f4 fd4 ["_law_ties_here"] spStM "_law_star_masks")
  (ml:mg "len" = none):FnOk P w K mg base CX0 6 f fd ["_law_net","_law_names_here","_law_base"] spNGo:=by
 refine F.ok scNGo (fun vs H Q E h=>?_) (fun cdv A outer s H vs Q E hr h=>?_)
 ·obtain⟨v,pn,pb,names,R,d,rfl,_⟩:=h;rfl
 obtain⟨v,pn,pb,names,R,d,rfl,no,hN,q⟩:=h;have hr1:=hr.mono (j:=1) (by decide);have hr2:=hr.mono (j:=2) (by decide);have hr4:=hr.mono (j:=4) (by decide);have hr5:=hr.mono (j:=5) (by decide);refine⟨_,(qAc (qAm (i:=3) scNGo.nd rfl (Or.inl rfl) (qAv G1 hr2 rfl .nil qAw (qAa (pv 0) (qAa (pv 1) qAb)))) (qAc (qBd (qAp op_isN (pv 3) pe_non (qAu _)) (qAf (qAs qEr)) qAx) (qAf (qAs (qBm (op_eqD (qFd hr)) (qAv G2 hr5 rfl .nil qAw (qAa (qAv G3 hr4 rfl .nil qAw (qAa (qAv G4 hr1 rfl .nil qAw (qAa (pv 3) qAb)) qAb)) (qAa (qAg qAk rfl ml hAl (qAa (pv 1) qAb)) qAb))) (pv 2) (qAu _)))))),?_⟩;refine⟨_,rfl,_,rfl,v,pn,names,d,rfl,hN,no.hn,no.ln,fun H1 e1 np=>?_,fun r net H1 e1 r0 kp pp=>?_⟩
 ·refine⟨_,rfl,rfl,_,rfl,?_⟩;rw[decide_eq_true rfl];refine iteT (q false H1 ⟨fun z=>(by cases z),fun z=>?_⟩ e1);obtain⟨net,pp,_⟩:=(pair_good no.rise no.nd).mp z;exact absurd pp (np net)
 ·refine⟨_,rfl,rfl,_,rfl,?_⟩;rw[decide_eq_false (fun z=>by cases z)];refine qEp ?_;have ln:net.length=names.length:=by rw[<-pp.2.1,hA1]
  have no1:=no.ext e1;have l12:=no.ln;refine⟨_,rfl,r,prK net,rfl,kp,prK_hom net,by rw[qDm];omega,fun r2 ks H2 e2 _ hks lks ck=>?_⟩;have lt:∀ x∈ks.map (stK (prK net)),x<2^names.length:=fun x hx=>by
   obtain⟨k,_,rfl⟩:=hA3.mp hx;have:=stK_lt (prK net) k
   rwa [qDm,ln]at this
  rw[qDm]at lks;refine⟨r2,_,names.length,rfl,hks,by rw[hA1];omega,by omega,lt,fun r3 S H3 e3 _ hS pS oS=>?_⟩;have sS:Stp names.length S:=⟨_,lt,pS,oS⟩;have lS:=sS.len;have no3:=no1.ext (e2.trans e3);refine⟨_,rfl,pn,_,rfl,.inl (SqL.of no3.hn),?_⟩;rw[hA1];refine⟨r3,S,names.length,rfl,hS,by omega,no.ln,sS.gm,sS.nd,fun r4 W H4 e4 _ hW pW oW=>?_⟩;obtain⟨sW,hsW⟩:=stp_cross lt pS oS pW oW;have no4:=no3.ext e4;refine⟨_,rfl,intD W,intD R,dr_iv hW,dr_iv no4.hb,qDt _,qDt _,?_⟩;rw[if_neg (show ¬(false=true) by decide),eqv_iv];refine q _ H4 ?_ (e1.trans (e2.trans (e3.trans e4)));rw[decide_eq_true_iff,pair_good no.rise no.nd];have hall:∀ y,(∀ t∈ks.map (stK (prK net)),dot names.length y t=false)↔∀ k,dot names.length y (stK (prK net) k)=false:=fun y=>by
   constructor
   ·intro h k;by_cases c:stK (prK net) k=0
    ·rw[c];exact qCs _ _
    ·exact h _ (hA3.mpr ⟨k,ck k c,rfl⟩)
   ·intro h t ht;obtain⟨k,_,rfl⟩:=hA3.mp ht;exact h k
  constructor
  ·rintro rfl;exact⟨net,pp,fun y=>(hsW y).trans (and_congr_right fun _=>hall y)⟩
  ·rintro⟨net',pp',hR⟩;have e:NdOf net'=NdOf net:=pp'.1.symm.trans pp.1;cases NdOf.inj e;exact stp_uniq sW no.st fun y=>((hsW y).trans (and_congr_right fun _=>hall y)).trans (hR y).symm
theorem scDue:FnScope ["_law_paper","_law_names_here","_law_base"] ["_law_paper","_law_names_here","_law_base"] (qAd sDue):=⟨rfl,rfl,rfl,by decide +kernel,rfl,by decide +kernel,by decide +kernel⟩
theorem ok_due (F:Fun K "_law_due" "_law_due" sDue f fd) (G1:Cl P w K mg base CX0 6 f1 fd1 ["_law_net","_law_names_here","_law_base"] spNGo "_law_net_good")
  (mi:mg "isinstance" = none) (mt:mg "tuple" = none) (ml:mg "len" = none):FnOk P w K mg base CX0 7 f fd ["_law_paper","_law_names_here","_law_base"] spDue:=by
 refine F.ok scDue (fun vs H Q E h=>?_) (fun cdv A outer s H vs Q E hr h=>?_)
 ·obtain⟨v,pn,pb,names,R,o,rfl,_⟩:=h;rfl
 obtain⟨v,pn,pb,names,R,o,rfl,no,hP,q⟩:=h;refine⟨_,(qAc (qBd (PW.pt (qCx (qB1 (qBv (qAg qA8 rfl mi qA9 (qAa (pv 0) (qAa (qCq (v:=.ty "tuple") rfl mt qCg rfl) qAb))))) (qCx (qAp qD2 (qAg qAk rfl ml hAl (qAa (pv 0) qAb)) qAe (qAu _)) (qCh (qAp qD2 (qA0 qBg (pv 0) qAe (fun _ _=>rfl)) qBx (qAu _)))))) (qAf (qAs qEr)) qAx) (qAf (qAs (qAv G1 hr rfl .nil qAw (qAa (qA0 qBg (pv 0) qAe (fun _ _=>rfl)) (qAa (pv 1) (qAa (pv 2) qAb))))))),?_⟩;have nope:o=none->Q (.bl false) H:=fun e'=>q false H ⟨fun z=>(by cases z),fun ⟨d,z,_⟩=>(by rw[e']at z;cases z)⟩ (Ext.refl _)
 rcases hP with ⟨a,x,d,rfl,ha,hN,rfl⟩ | ⟨o0,h2⟩
 ·refine⟨_,rfl,_,_,_,true,rfl,.tup ha,qBo _ _,true,rfl,qEp ?_⟩;refine⟨_,rfl,a,_,rfl,.inr (SqT.of ha),rfl,_,rfl,qEp ?_⟩;refine⟨_,rfl,a,_,_,_,rfl,rfl,SqT.of ha,(by exact qAr (j:=0) rfl),rfl,_,rfl,?_⟩;rw[decide_eq_true rfl];refine qEp ?_;refine⟨_,rfl,a,_,_,_,rfl,rfl,SqT.of ha,(by exact qAr (j:=1) rfl),_,rfl,_,rfl,x,pn,pb,names,R,d,rfl,no,hN,fun b H' hb e=>q b H' ⟨fun z=>⟨d,rfl,hb.mp z⟩,fun ⟨d',z,g⟩=>?_⟩ e⟩;cases z;exact hb.mpr g
 ·rcases h2 with ⟨a,xs,rfl,ha⟩ | ⟨a,xs,rfl,ha,hl⟩ | ⟨a,x,rfl,ha⟩
  ·exact⟨_,rfl,_,_,_,false,rfl,.lst ha,tkL K,false,rfl,iteT (iteT (nope o0))⟩
  ·refine⟨_,rfl,_,_,_,true,rfl,.tup ha,qBo _ _,true,rfl,qEp ?_⟩;refine⟨_,rfl,a,_,rfl,.inr (SqT.of ha),rfl,_,rfl,?_⟩;have e2:(!decide (V.int ((xs.length:Nat):Int)=V.int 2))=true:=by
    rw[decide_eq_false fun z=>by have:=V.int.inj z;omega];rfl
   rw[e2];exact iteT (iteT (nope o0))
  ·refine⟨_,rfl,_,_,_,true,rfl,.tup ha,qBo _ _,true,rfl,qEp ?_⟩;refine⟨_,rfl,a,_,rfl,.inr (SqT.of ha),rfl,_,rfl,qEp ?_⟩;refine⟨_,rfl,a,_,_,_,rfl,rfl,SqT.of ha,(by exact qAr (j:=0) rfl),rfl,_,rfl,?_⟩;rw[decide_eq_false fun z=>absurd (V.str.inj z) (by decide)];exact iteT (nope o0)
end
end My
namespace My
open PySem L2
def clS (word:Str) (first p:Nat):Str:=word++⟨#[sgC ((first+5*p) % 36)]⟩
def clV (word:Str) (first:Nat):V->Option V
 | .int j=>some (.str (clS word first j.toNat))
 | _=>none
theorem clS_inj {word:Str} {first p q:Nat} (hp:p<36) (hq:q<36) (e:clS word first p=clS word first q):p=q:=by
 have e1:=congrArg (fun x:Str=>x.cps.toList) e;simp only[clS,Str.cps_append,hCg]at e1;have e2:=List.append_cancel_left e1;have e3:sgC ((first+5*p) % 36)=sgC ((first+5*q) % 36):=by
  have:=congrArg List.head? e2
  simpa using this
 have e4:=sgC_inj (hCj _ (by decide)) (hCj _ (by decide)) e3;omega
theorem clS_named {word:Str} {first p:Nat} (hw:Sgd word) (hl:word.length<=5):qDb (clS word first p):=by
 refine⟨hw.app (Sgd.one (hCj _ (by decide))),?_,?_⟩
 ·unfold clS;rw[Str.length_append];show 1<=_+1;omega
 ·unfold clS;rw[Str.length_append];show _+1<=6;omega
def nK (ts:List (Nat×Nat)):List (Key×Key):=ts.map fun t=>(Sum.inl (t.1:Int),Sum.inl (t.2:Int))
def LkT (cl:Nat->Str) (t:Tr) (u:Nat×Nat):Prop:=(t.2.1=cl u.1/\t.2.2=cl u.2)\/(t.2.1=cl u.2/\t.2.2=cl u.1)
theorem qF7 {k k':Key}:∀ {l l':List (Key×Key)},Paired (fun t t'=>atK k t=atK k' t') l l'->∀ i,stF k i l=stF k' i l'
 | _,_,.nil,_=>rfl
 | _,_,.cons h p,i=>by
  show(if atK k _=true then 2^i else 0)^^^stF k (i+1) _=(if atK k' _=true then 2^i else 0)^^^stF k' (i+1) _;rw[h,qF7 p (i+1)]
theorem qCd {α β γ δ:Type} {R:α->β->Prop} {S:γ->δ->Prop} {f:α->γ} {g:β->δ}:∀ {as:List α} {bs:List β},Paired R as bs->(∀ a b,a∈as->b∈bs->R a b->S (f a) (g b))->Paired S (as.map f) (bs.map g)
 | _,_,.nil,_=>.nil
 | _,_,.cons h p,hs=>.cons (hs _ _ hA9 hA9 h) (qCd p fun a b ha hb=>hs a b (hA7 _ ha) (hA7 _ hb))
theorem same_st {cl:Nat->Str} (inj:∀ p q,p<36->q<36->cl p=cl q->p=q) {net:List Tr} {ts:List (Nat×Nat)} (pr:Paired (LkT cl) net ts) (lt:∀ t∈ts,t.1<36/\t.2<36) {p:Nat} (hp:p<36):stK (prK net) (Sum.inr (cl p))=stK (nK ts) (Sum.inl (p:Int)):=by
 refine qF7 (qCd pr fun t u _ hu h=>?_) 0;obtain⟨u1,u2⟩:=lt u hu;have e1:decide ((Sum.inl (u.1:Int):Key)=Sum.inl (p:Int))=decide (cl u.1=cl p):=decide_eq_decide.mpr ⟨fun z=>by have:=Sum.inl.inj z;rw[show u.1=p by omega],fun z=>by rw[inj _ _ u1 hp z]⟩;have e2:decide ((Sum.inl (u.2:Int):Key)=Sum.inl (p:Int))=decide (cl u.2=cl p):=decide_eq_decide.mpr ⟨fun z=>by have:=Sum.inl.inj z;rw[show u.2=p by omega],fun z=>by rw[inj _ _ u2 hp z]⟩;unfold atK;show(decide ((Sum.inr t.2.1:Key)=Sum.inr (cl p)) ^^ decide ((Sum.inr t.2.2:Key)=Sum.inr (cl p)))=(decide ((Sum.inl (u.1:Int):Key)=Sum.inl (p:Int)) ^^ decide ((Sum.inl (u.2:Int):Key)=Sum.inl (p:Int)));have k1:∀ a b:Str,decide ((Sum.inr a:Key)=Sum.inr b)=decide (a=b):=fun a b=>decide_eq_decide.mpr ⟨Sum.inr.inj,fun z=>by rw[z]⟩
 rw[e1,e2,k1,k1];rcases h with ⟨h1,h2⟩ | ⟨h1,h2⟩
 ·rw[h1,h2]
 ·rw[h1,h2,Bool.xor_comm]
theorem qGc {α β:Type} {R:α->β->Prop}:∀ {as:List α} {bs:List β},Paired R as bs->(∀ a∈as,∃ b∈bs,R a b)/\∀ b∈bs,∃ a∈as,R a b
 | _,_,.nil=>⟨fun a h=>(by cases h),fun b h=>(by cases h)⟩
 | _,_,.cons h p=>by
  obtain⟨i1,i2⟩:=qGc p;constructor
  ·intro a ha;rcases hAc.mp ha with rfl | ha
   ·exact⟨_,hA9,h⟩
   ·obtain⟨b,hb,r⟩:=i1 a ha;exact⟨b,hA7 _ hb,r⟩
  ·intro b hb;rcases hAc.mp hb with rfl | hb
   ·exact⟨_,hA9,h⟩
   ·obtain⟨a,ha,r⟩:=i2 b hb;exact⟨a,hA7 _ ha,r⟩
def SameSt (net:List Tr) (ts:List (Nat×Nat)):Prop:=∀ m y,(∀ k,dot m y (stK (prK net) k)=false)↔∀ k,dot m y (stK (nK ts) k)=false
theorem stars_same {cl:Nat->Str} (inj:∀ p q,p<36->q<36->cl p=cl q->p=q) {net:List Tr} {ts:List (Nat×Nat)} (pr:Paired (LkT cl) net ts) (lt:∀ t∈ts,t.1<36/\t.2<36):SameSt net ts:=by
 intro m y;obtain⟨p1,p2⟩:=qGc pr;constructor
 ·intro h k;by_cases c:∃ p,p<36/\k=Sum.inl ((p:Nat):Int)
  ·obtain⟨p,hp,rfl⟩:=c;rw[<-same_st inj pr lt hp];exact h _
  ·have:stK (nK ts) k=0:=qEt (fun t ht=>by
    obtain⟨u,hu,rfl⟩:=hA3.mp ht;exact⟨fun e=>c ⟨u.1,(lt u hu).1,e.symm⟩,fun e=>c ⟨u.2,(lt u hu).2,e.symm⟩⟩) 0
   rw[this];exact qCs m y
 ·intro h k;by_cases c:∃ p,p<36/\k=Sum.inr (cl p)
  ·obtain⟨p,hp,rfl⟩:=c;rw[same_st inj pr lt hp];exact h _
  ·have:stK (prK net) k=0:=qEt (fun t ht=>by
    obtain⟨v,hv,rfl⟩:=hA3.mp ht;obtain⟨u,hu,lk⟩:=p1 v hv;rcases lk with ⟨a1,a2⟩ | ⟨a1,a2⟩
    ·exact⟨fun e=>c ⟨u.1,(lt u hu).1,by rw[<-a1];exact e.symm⟩,fun e=>c ⟨u.2,(lt u hu).2,by rw[<-a2];exact e.symm⟩⟩
    ·exact⟨fun e=>c ⟨u.2,(lt u hu).2,by rw[<-a1];exact e.symm⟩,fun e=>c ⟨u.1,(lt u hu).1,by rw[<-a2];exact e.symm⟩⟩) 0
   rw[this];exact qCs m y
def NmT (t:Tr):Prop:=qDb t.2.1/\qDb t.2.2/\leB t.2.1 t.2.2=true
def spNOf:Sp:=fun vs H Q _=>∃ (d p pn:Addr) (n:Int) (ts:List (Nat×Nat)) (names:List Str),vs=[.ref d,.ref p,.ref pn]/\H d=some (.lst [.int n])/\p≠d/\pn≠d/\qDh H p ts/\(∀ t∈ts,t.1<36/\t.2<36)/\LsS H pn names/\names.length=ts.length/\ts.length<=12 /\
 ∀ (r:Addr) (net:List Tr) (H':Hp),Dr d H H'->H r=none->qDf H' r net->nmS net=names->(∀ t∈net,NmT t)->SameSt net ts->Q (.ref r) H'
theorem le_mm (a b:Str):leB (if b.cps.toList<a.cps.toList then b else a) (if a.cps.toList<b.cps.toList then b else a)=true:=by
 unfold leB;rw[Bool.not_eq_true',decide_eq_false_iff_not];by_cases c:b.cps.toList<a.cps.toList
 ·have c2:¬a.cps.toList<b.cps.toList:=fun z=>absurd (List.lt_trans c z) (List.lt_irrefl _)
  rw[if_pos c,if_neg c2];exact c2
 ·rw[if_neg c];by_cases c2:a.cps.toList<b.cps.toList
  ·rw[if_pos c2];exact c
  ·rw[if_neg c2];exact List.lt_irrefl _
theorem mm_two (a b:Str):((if b.cps.toList<a.cps.toList then b else a)=a/\(if a.cps.toList<b.cps.toList then b else a)=b)\/((if b.cps.toList<a.cps.toList then b else a)=b/\(if a.cps.toList<b.cps.toList then b else a)=a):=by
 by_cases c:b.cps.toList<a.cps.toList
 ·have c2:¬a.cps.toList<b.cps.toList:=fun z=>absurd (List.lt_trans c z) (List.lt_irrefl _)
  rw[if_pos c,if_neg c2];exact .inr ⟨rfl,rfl⟩
 ·rw[if_neg c];by_cases c2:a.cps.toList<b.cps.toList
  ·rw[if_pos c2];exact .inl ⟨rfl,rfl⟩
  ·rw[if_neg c2];have e:a.cps.toList=b.cps.toList:=by
    rcases tri a.cps.toList b.cps.toList with z | z | z
    ·exact absurd z c2
    ·exact z
    ·exact absurd z c
   have:a=b:=strExt e;exact .inl ⟨rfl,this⟩
section
variable {P:Program} {w:World} {K:PySem.W.Frag} {mg:Str->Option Value} {base:Heap} {f f1 f2 f3 f4:Addr} {fd fd1 fd2 fd3 fd4:FuncData}
abbrev noN:List Str:=["_law_draw","_law_ties_here","_law_names_here","_law_signs","_law_word","_law_k","_law_first","_law_net","_law_ends"]
theorem scNOf:FnScope noN ["_law_draw","_law_ties_here","_law_names_here"] (qAd sNOf):=⟨rfl,rfl,rfl,by decide +kernel,rfl,by decide +kernel,by decide +kernel⟩
theorem ok_nof (F:Fun K "_law_net_of" "_law_net_of" sNOf f fd) (G1:Cl P w K mg base CX0 1 f1 fd1 ["_law_draw","_law_many"] qE5 "_law_take")
  (mr:mg "range" = none) (ml:mg "len" = none) (mmi:mg "min" = none) (mma:mg "max" = none):FnOk P w K mg base CX0 2 f fd ["_law_draw","_law_ties_here","_law_names_here"] spNOf:=by
 refine F.ok scNOf (fun vs H Q E h=>?_) (fun cdv A outer s H vs Q E hr h=>?_)
 ·obtain⟨d,p,pn,n,ts,names,rfl,_⟩:=h;rfl
 obtain⟨d,p,pn,n,ts,names,rfl,hd,pd,nd,kt,t36,hn,ln,l12,q⟩:=h;refine⟨_,(qAc (qAm (i:=3) scNOf.nd rfl (Or.inr rfl) qBx) (qAc (qAm (i:=4) scNOf.nd rfl (Or.inr rfl) qBx) (qAc (qBw PassesOwn.never rfl (qBa rfl mr (qAa (qAv G1 hr rfl .nil qAw (qAa (pv 0) (qAa qAe qAb))) qAb)) (qAl (i:=5) scNOf.nd rfl (Or.inl rfl)) (qAf (qAm (i:=4) scNOf.nd rfl (Or.inr rfl) (qAt qB4 (pv 4) (qA0 qGl (pv 3) (qAv G1 hr rfl .nil qAw (qAa (pv 0) (qAa qAe qAb))) (fun _ _=>rfl)))))) (qAc (qAm (i:=6) scNOf.nd rfl (Or.inr rfl) (qAv G1 hr rfl .nil qAw (qAa (pv 0) (qAa qAe qAb)))) (qAc (qAm (i:=7) scNOf.nd rfl (Or.inl rfl) (qBl qAb)) (qAc (qBw PassesOwn.never rfl (qBa rfl mr (qAa (qAg qAk rfl ml hAl (qAa (pv 1) qAb)) qAb)) (qAl (i:=5) scNOf.nd rfl (Or.inl rfl)) (qAc (ps_lc (i:=8) (N:=noN) (sc:=qAd sNOf) (N':=["_law_point","_law_first","_law_signs","_law_word"]) (sub:=[none,some 6,some 3,some 4]) rfl rfl (CmpOk.of (by decide +kernel)) rfl (pi_tup (qA0 qAz (pv 1) (pv 5) (fun _ _=>rfl)))
    (fun C s H fp=>⟨qAl (i:=0) (by show(["_law_point","_law_first","_law_signs","_law_word"]:List Str).Nodup;decide) rfl (Or.inl rfl),qA3,qAt qB4 (pv 3) (qA0 qGl (pv 2) (qAt qDg (qAt qB6 (pv 1) (qAt qC1 qAe (pv 0))) qAe) (fun _ _=>rfl))⟩) scNOf.nd rfl (Or.inl rfl)) (qAf (qCo (qFj hB1 hBj hBk qB7 (pv 7) (qAa (qBk (qAa (qA0 qAz (pv 2) (pv 5) (fun _ _=>rfl)) (qAa (qAg (call_minS rfl) rfl mmi qB8 (qAa (pv 8) qAb)) (qAa (qAg (call_maxS rfl) rfl mma qC9 (qAa (pv 8) qAb)) qAb)))) qAb)))))) (qAf (qAs (pv 7))))))))),?_⟩
 refine⟨_,rfl,d,n,6,rfl,hd,by decide,by decide,fun q1 z1 z1a z1b=>?_⟩;refine⟨z1,rfl,by omega,by omega,qBh (lo:=0) (n:=z1.toNat) (fun i σ H'=>∃ (q:Int) (word:Str) (x:Option V),σ=[some (.ref d),some (.ref p),some (.ref pn),some (.str sg),some (.str word),x,none,none,none]/\H'=upd H d (.lst [.int q])/\word.length=i/\Sgd word)
  ⟨q1,"",none,rfl,rfl,rfl,Sgd.nil⟩ ?_ ?_⟩
 ·rintro i σ H' hi ⟨q3,word,x,rfl,rfl,hw,sm⟩;refine⟨_,rfl,_,rfl,_,rfl,d,q3,36,rfl,upd_same,by decide,by decide,fun q4 z4 z4a z4b=>?_⟩;rw[qCl];refine⟨sg,z4,sgC z4.toNat,rfl,rfl,by decide +kernel,sg_at z4a z4b,word,⟨#[sgC z4.toNat]⟩,rfl,rfl,?_,?_⟩
  ·show word.length+1<=sizeLine;exact hB2 (qAi (by omega))
  ·refine⟨q4,_,_,rfl,rfl,?_,sm.app (Sgd.one (by omega))⟩;rw[Str.length_append];show word.length+1=i+1;omega
 ·rintro σ H' ⟨q3,word,x,rfl,rfl,hw,sm⟩;refine⟨_,rfl,d,q3,36,rfl,upd_same,by decide,by decide,fun q4 first fa fb=>?_⟩;rw[qCl];have D1:Dr d H (upd H d (.lst [.int q4])):=(Dr.refl hd).take q4;obtain⟨first,rfl⟩:=hB9 fa;refine⟨hAw _,fun r hr0=>?_⟩;have D2:=D1.new hr0 (.lst []);have r0:=D1.none hr0;have rd:=D1.ne hr0;have hrr:upd (upd H d (.lst [.int q4])) r (.lst []) r=some (.lst []):=upd_same;revert D2 hrr;generalize upd (upd H d (.lst [.int q4])) r (.lst [])=H2;intro D2 hrr;obtain⟨as,hp,pr⟩:=kept_dr hd pd kt D2;have las:=pr.length;have hn2:LsS H2 pn names:=D2.2 _ _ nd hn;refine⟨_,rfl,p,_,rfl,.inl (SqL.of hp),_,rfl,by omega,by rw[hA1];omega,?_⟩;rw[hA1];refine qBh (lo:=0) (n:=((as.length:Nat):Int).toNat) (fun i σ H'=>∃ (x5 x8:Option V) (net:List Tr),σ=[some (.ref d),some (.ref p),some (.ref pn),some (.str sg),some (.str word),x5,some (iV first),some (.ref r),x8]/\Dr d H H'/\(∀ b o,b≠r->H2 b=some o->H' b=some o)/\qDf H' r net/\nmS net=names.take i/\(∀ t∈net,NmT t)/\Paired (LkT (clS word first)) net (ts.take i))
   ⟨_,none,[],rfl,D2,fun _ _ _ z=>z,⟨[],hrr,.nil⟩,rfl,(fun t ht=>by cases ht),by rw[List.take_zero];exact .nil⟩ ?_ ?_
  ·rintro i σ H' hi ⟨x5,x8,net,rfl,dr,st,nt,en,nm,lk⟩;rw[show(0+(i:Int))=((i:Nat):Int) by omega];have hi':i<as.length:=by omega
   obtain⟨u,hu,hat⟩:=qA6 pr (hA2 hi');have pr':p≠r:=fun e=>by obtain⟨_,z,_⟩:=kt;rw[e,r0]at z;cases z
   have nr':pn≠r:=fun e=>by rw[e]at hn;unfold LsS at hn;rw[r0]at hn;cases hn
   have ar:as[i]≠r:=fun e=>by
    rw[e,hrr]at hat;cases hat
   have hp':=st _ _ pr' hp;have hat':=st _ _ ar hat;have av:atI (as.map V.ref) ((i:Nat):Int)=some (.ref as[i]):=qAr (by rw[hAd,hA2 hi'];rfl);refine⟨_,rfl,_,rfl,p,_,_,_,rfl,rfl,SqL.of hp',av,as[i],rfl,⟨_,SqT.of hat'⟩,?_⟩;refine qF3 (xs:=[iV u.1,iV u.2]) (clV word first) hat' (by show 2<=sizeLine;decide) (fun x hx H3 he C hC=>?_) fun H3 he=>?_
   ·obtain⟨j,rfl⟩:∃ j:Nat,x=iV j:=by
     simp only[hAc,hB6,or_false]at hx;rcases hx with rfl | rfl <;> exact⟨_,rfl⟩
    have ei:((first:Int)+5*(j:Int)) % 36=(((first+5*j) % 36:Nat):Int):=by rw[Int.natCast_emod,Int.natCast_add,Int.natCast_mul];rfl
    refine⟨Sle.set _ (Sle.refl _) (fun u z=>by cases z),iteT (B:=False) ⟨_,rfl,_,rfl,_,rfl,_,rfl,_,_,rfl,rfl,.inl ⟨by decide,by decide⟩,_,_,rfl,rfl,_,_,rfl,rfl,(by show(0:Int)<_;decide),sg,_,sgC ((first+5*j) % 36),rfl,rfl,by decide +kernel,?_,_,_,rfl,rfl,?_,?_⟩⟩
    ·rw[ei];exact sg_at (by omega) (by omega)
    ·show word.length+1<=sizeLine;exact hB2 (qAi (by omega))
    ·exact hC H3 (Ext.refl _)
   ·intro l hl;rw[show List.filterMap (clV word first) [iV u.1,iV u.2]=[.str (clS word first u.1),.str (clS word first u.2)] from rfl];have E3:=he.trans (Ext.new hl (.lst [.str (clS word first u.1),.str (clS word first u.2)]));have hl3:upd H3 l (.lst [.str (clS word first u.1),.str (clS word first u.2)]) l=some (.lst [.str (clS word first u.1),.str (clS word first u.2)]):=upd_same;revert E3 hl3;generalize upd H3 l (.lst [.str (clS word first u.1),.str (clS word first u.2)])=H4;intro E3 hl3;have nt4:=nt.ext E3;obtain⟨bs,hb4,pb4⟩:=nt4;have lbs:=pb4.length;have lnk:=lk.length;rw[hAi]at lnk;have hn4:=E3 _ _ (st _ _ nr' hn2);have nv:atI (names.map V.str) ((i:Nat):Int)=some (.str names[i]):=qAr (by rw[hAd,hA2 (by omega)];rfl);refine⟨_,rfl,.inl ⟨rfl,_,SqL.of hb4⟩,_,rfl,_,rfl,pn,_,_,_,rfl,rfl,SqL.of hn4,nv,_,rfl,l,_,_,rfl,SqL.of hl3,_,rfl,l,_,_,rfl,SqL.of hl3,(by show 3<=sizeLine;decide),fun c c0=>?_⟩;have nc:=Ext.new c0 (.tup [V.str names[i],V.str (if (clS word first u.2).cps.toList<(clS word first u.1).cps.toList then clS word first u.2 else clS word first u.1),V.str (if (clS word first u.1).cps.toList<(clS word first u.2).cps.toList then clS word first u.2 else clS word first u.1)]);have rc:r≠c:=qAj hb4 c0;refine⟨r,_,_,rfl,rfl,nc _ _ hb4,by rw[hA1];exact qAi (by omega),?_⟩;have dr4:=dr.ext E3;refine⟨_,_,net++[(names[i],(if (clS word first u.2).cps.toList<(clS word first u.1).cps.toList then clS word first u.2 else clS word first u.1),(if (clS word first u.1).cps.toList<(clS word first u.2).cps.toList then clS word first u.2 else clS word first u.1))],rfl,(dr4.ext nc).over r0 rd _,fun b o nb z=>?_,⟨bs++[c],by rw[upd_same,hA4];rfl,Paired.snoc (Paired.mapP pb4 fun a' t z=>?_) ?_⟩,?_,?_,?_⟩
    ·rw[qAh nb];exact nc _ _ (E3 _ _ (st b o nb z))
    ·rw[qAh (fun q=>by rw[q,hb4]at z;cases z)];exact nc _ _ z
    ·rw[qAh (Ne.symm rc)];exact upd_same
    ·rw[show nmS (net++[(names[i],(if (clS word first u.2).cps.toList<(clS word first u.1).cps.toList then clS word first u.2 else clS word first u.1),(if (clS word first u.1).cps.toList<(clS word first u.2).cps.toList then clS word first u.2 else clS word first u.1))])=nmS net++[names[i]] from hA4,en,qAq (hA2 (by omega:i<names.length))]
    ·intro t ht;rcases hAr.mp ht with z | z
     ·exact nm t z
     ·rw[hAk.mp z];have n1:=clS_named (first:=first) (p:=u.1) sm (by omega);have n2:=clS_named (first:=first) (p:=u.2) sm (by omega);refine⟨?_,?_,le_mm _ _⟩
      ·show qDb (if _ then _ else _);split
       ·exact n2
       ·exact n1
      ·show qDb (if _ then _ else _);split
       ·exact n2
       ·exact n1
    ·rw[qAq hu];refine Paired.snoc lk ?_;rcases mm_two (clS word first u.1) (clS word first u.2) with z | z
     ·exact .inl z
     ·exact .inr z
  ·rintro σ H' ⟨x5,x8,net,rfl,dr,st,nt,en,nm,lk⟩;rw[hA8 (by omega)]at en;rw[hA8 (by omega)]at lk;exact⟨_,rfl,q r net H' dr r0 nt en nm (stars_same (fun p q hp hq=>clS_inj hp hq) lk t36)⟩
end
end My
namespace My
open PySem L2
def trD (t:Tr):PyData:=.tuple [.str t.1,.str t.2.1,.str t.2.2]
def netD (net:List Tr):PyData:=.list (net.map trD)
theorem lay_net:∀ {net:List Tr},TxN net->PyData.canLayAll0 (net.map trD)=true/\PyData.depthAll (net.map trD)<=1
 | [],_=>⟨rfl,by decide⟩
 | t :: r,h=>by
  obtain⟨h1,h2⟩:=lay_net (net:=r) fun y hy=>h y (hA7 _ hy)
  obtain⟨t1,t2,t3⟩:=h t hA9;refine⟨?_,?_⟩
  ·show((PyData.strOk t.1 && (PyData.strOk t.2.1 && (PyData.strOk t.2.2 && true))) && PyData.canLayAll0 (r.map trD))=true;rw[h1,t1.ok,t2.ok,t3.ok];rfl
  ·show max (max 0 (max 0 (max 0 0))+1) (PyData.depthAll (r.map trD))<=1;omega
theorem shaped_net {net:List Tr} (h:TxN net):SeqAt.shaped (netD net)=true:=by
 obtain⟨h3,h4⟩:=lay_net h;show(PyData.canLayAll0 (net.map trD) && decide (PyData.depthAll (net.map trD)+1<=64))=true;rw[h3,decide_eq_true (by omega)];rfl
theorem drs_net {K:PySem.W.Frag} {H:Hp}:∀ {as:List Addr} {net:List Tr},Paired (fun a t=>H a=some (.tup (trV t))) as net->DRs K H (as.map V.ref) (net.map trD)
 | _,_,.nil=>.nil
 | _,_,.cons h t=>.cons (.tup (SqT.of h) (.cons (.str _) (.cons (.str _) (.cons (.str _) .nil)))) (drs_net t)
theorem dr_net {K:PySem.W.Frag} {H:Hp} {p:Addr} {net:List Tr} (h:qDf H p net):DR K H (.ref p) (netD net):=by
 obtain⟨as,h1,h2⟩:=h;exact .lst (SqL.of h1) (drs_net h2)
theorem eqv_net_nil (net:List Tr):PyData.eqv (netD net) (.list [])=decide (net=[]):=by
 cases net with
 | nil=>rfl
 | cons t r=>rfl
theorem shaped_nil:SeqAt.shaped (.list [])=true:=by decide +kernel
theorem dr_nil {K:PySem.W.Frag} {H:Hp} {p:Addr} (h:H p=some (.lst [])):DR K H (.ref p) (.list []):=.lst (SqL.of h) .nil
theorem qEe {α β:Type} {R:α->β->Prop}:∀ {a:List α} {b:List β} {c:List α} {d:List β},Paired R a b->Paired R c d->Paired R (a++c) (b++d)
 | _,_,_,_,.nil,h=>h
 | _,_,_,_,.cons r p,h=>.cons r (qEe p h)
theorem qD0 {α β:Type} {R:α->β->Prop}:∀ {a:List α} {b:List β} (i:Nat),Paired R a b->Paired R (a.take i) (b.take i)/\Paired R (a.drop i) (b.drop i)
 | _,_,0,h=>⟨by rw[List.take_zero,List.take_zero];exact .nil,h⟩
 | _,_,_+1,.nil=>⟨.nil,.nil⟩
 | _,_,i+1,.cons r p=>⟨.cons r (qD0 i p).1,(qD0 i p).2⟩
theorem qGb {α β:Type} {R:α->β->Prop} {x:α} {y:β} (h:R x y):∀ {a:List α} {b:List β} (i:Nat),Paired R a b->Paired R (a.set i x) (b.set i y)
 | _,_,_,.nil=>.nil
 | _,_,0,.cons _ p=>.cons h p
 | _,_,i+1,.cons r p=>.cons r (qGb h i p)
theorem qGd {α β:Type} {R:α->β->Prop}:∀ {a:List α} {b:List β} (i:Nat),Paired R a b->Paired R (a.eraseIdx i) (b.eraseIdx i)
 | _,_,_,.nil=>.nil
 | _,_,0,.cons _ p=>p
 | _,_,i+1,.cons r p=>.cons r (qGd i p)
theorem paired_rev {α β:Type} {R:α->β->Prop}:∀ {a:List α} {b:List β},Paired R a b->Paired R a.reverse b.reverse
 | _,_,.nil=>.nil
 | _,_,.cons r p=>by
  rw[hCf,hCf];exact qEe (paired_rev p) (.cons r .nil)
def PrS (H:Hp) (x:V) (o:Option (List V)):Prop:=(∃ (a:Addr) (ys:List V),o=some ys/\x = .ref a/\H a=some (.tup ys)/\(∃ s r,ys=V.str s :: r)/\ys.length<=3/\∀ y∈ys,(∃ s:Str,y = .str s/\s.length<=100/\Sm s)\/∃ i,y = .int i)\/(o=none/\(x = .non\/∃ (a:Addr) (ys:List V),x = .ref a/\H a=some (.lst ys)))
theorem PrS.ext {H H':Hp} {x:V} {o:Option (List V)} (h:PrS H x o) (e:Ext H H'):PrS H' x o:=by
 rcases h with ⟨a,ys,h1,h2,h3,h4⟩ | ⟨h1,h2 | ⟨a,ys,h2,h3⟩⟩
 ·exact .inl ⟨a,ys,h1,h2,e _ _ h3,h4⟩
 ·exact .inr ⟨h1,.inl h2⟩
 ·exact .inr ⟨h1,.inr ⟨a,ys,h2,e _ _ h3⟩⟩
theorem PrS.over {H:Hp} {x:V} {o:Option (List V)} {b:Addr} {xs zs:List V} (h:PrS H x o) (hb:H b=some (.lst xs)):PrS (upd H b (.lst zs)) x o:=by
 rcases h with ⟨a,ys,h1,h2,h3,h4⟩ | ⟨h1,h2 | ⟨a,ys,h2,h3⟩⟩
 ·exact .inl ⟨a,ys,h1,h2,by rw[qAh (fun e=>by rw[e,hb]at h3;cases h3)];exact h3,h4⟩
 ·exact .inr ⟨h1,.inl h2⟩
 ·by_cases e:a=b
  ·subst e;exact .inr ⟨h1,.inr ⟨a,zs,h2,upd_same⟩⟩
  ·exact .inr ⟨h1,.inr ⟨a,ys,h2,by rw[qAh e];exact h3⟩⟩
theorem PrS.prt {H:Hp} {x:V} {o:Option (List V)} (h:PrS H x o):Prt H x o:=by
 rcases h with ⟨a,ys,h1,h2,h3,h4,h5,h6⟩ | ⟨h1,h2⟩
 ·refine .inl ⟨a,ys,h1,h2,h3,by omega,fun y hy=>?_⟩;rcases h6 y hy with ⟨s,rfl,l,m⟩ | ⟨i,rfl⟩
  ·exact⟨.str s,.inr (.inr (.inr (.inl ⟨s,rfl,rfl,l,m⟩)))⟩
  ·exact⟨.int i,.inr (.inr (.inl ⟨i,rfl,rfl⟩))⟩
 ·refine .inr ⟨h1,?_⟩;rcases h2 with h2 | h2
  ·exact .inl h2
  ·exact .inr (.inr (.inr h2))
def Bad (os:List (Option (List V))):Prop:=∃ (i:Nat) (a:Str) (r r':List V),os[i]?=some (some (V.str a :: r))/\os[i+1]?=some (some (V.str a :: r'))
theorem bad_no {os:List (Option (List V))} {net:List Tr} (h:Bad os) (e:some os=NdOf net) (rw':rowP ((net.map (·.1)).map V.str)):False:=by
 obtain⟨i,a,r,r',h1,h2⟩:=h;have e':os=net.map fun t=>some (trV t):=hAa e
 have key:∀ {j:Nat} {r:List V},os[j]?=some (some (V.str a :: r))->∃ t,net[j]?=some t/\t.1=a:=fun {j r} h=>by
  rw[e',hAd]at h;cases ej:net[j]? with
  | none=>rw[ej]at h;cases h
  | some t =>
   rw[ej]at h;refine⟨t,rfl,?_⟩;have:trV t=V.str a :: r:=hAa (hAa h);exact V.str.inj (List.cons.inj this).1
 obtain⟨t,ht,et⟩:=key h1;obtain⟨u,hu,eu⟩:=key h2;have l2:i+1<net.length:=qBc hu;have:=rw'.2 i (by rw[hA1,hA1];exact l2);rw[hAb,hAb,hAd,hAd,hAd,hAd,ht,hu]at this;have z:decide (t.1.cps.toList<u.1.cps.toList)=true:=this;rw[et,eu]at z;exact absurd (of_decide_eq_true z) (List.lt_irrefl _)
structure SpS (d p mk:Addr) (H H':Hp) (net:List Tr) (as:List Addr) (xs:List V) (os:List (Option (List V))):Prop where
 dr:Dr d H H'
 m0:H mk=none
 md:mk≠d
 mp:mk≠p
 pd:p≠d
 hm:H' mk=some (.lst xs)
 pm:Paired (PrS H') xs os
 lb:xs.length<=12\/(xs.length<=13/\Bad os)
 hp:H' p=some (.lst (as.map V.ref))
 pa:Paired (fun a t=>H' a=some (.tup (trV t))) as net
section
variable {d p mk:Addr} {H H1 H2:Hp} {net:List Tr} {as:List Addr} {xs:List V} {os:List (Option (List V))}
theorem SpS.ext (h:SpS d p mk H H1 net as xs os) (e:Ext H1 H2):SpS d p mk H H2 net as xs os:=⟨h.dr.ext e,h.m0,h.md,h.mp,h.pd,e _ _ h.hm,Paired.mapP h.pm fun a b z=>z.ext e,h.lb,e _ _ h.hp,Paired.mapP h.pa fun a b z=>e _ _ z⟩
theorem SpS.take (h:SpS d p mk H H1 net as xs os) (q:Int):SpS d p mk H (upd H1 d (.lst [.int q])) net as xs os:=by
 obtain⟨q0,z0⟩:=h.dr.1;exact⟨h.dr.take q,h.m0,h.md,h.mp,h.pd,by rw[qAh h.md];exact h.hm,Paired.mapP h.pm fun a b z=>z.over z0,h.lb,by rw[qAh h.pd];exact h.hp,Paired.mapP h.pa fun a b z=>by rw[qAh (fun e=>by rw[e,z0]at z;cases z)];exact z⟩
theorem SpS.put {xs':List V} {os':List (Option (List V))} (h:SpS d p mk H H1 net as xs os) (p':Paired (PrS H1) xs' os') (lb:xs'.length<=12\/(xs'.length<=13/\Bad os')):SpS d p mk H (upd H1 mk (.lst xs')) net as xs' os' :=
 ⟨h.dr.over h.m0 h.md _,h.m0,h.md,h.mp,h.pd,upd_same,Paired.mapP p' fun a b z=>z.over h.hm,lb,by rw[qAh (Ne.symm h.mp)];exact h.hp,Paired.mapP h.pa fun a b z=>by rw[qAh (fun e=>by rw[e,h.hm]at z;cases z)];exact z⟩
theorem SpS.nts (h:SpS d p mk H H1 net as xs os):NtS H1 (.ref mk) (some os):=by
 have l:=h.pm.length;refine⟨.inr ⟨mk,xs,os,rfl,h.hm,rfl,Paired.mapP h.pm fun a b z=>z.prt,?_⟩,fun os' e ys hy=>?_,fun net' e rw'=>?_⟩
 ·rcases h.lb with z | ⟨z,_⟩ <;> omega
 ·rw[<-hAa e]at hy;obtain⟨i,hi,e2⟩:=List.getElem_of_mem hy;obtain⟨x,hx⟩:∃ x,xs[i]?=some x:=⟨xs[i]'(by omega),hA2 (by omega)⟩;obtain⟨o,ho,pr⟩:=qA6 h.pm hx;rw[hA2 hi,e2]at ho;rcases pr with ⟨a,zs,h1,_,_,h4,_⟩ | ⟨h1,_⟩
  ·rw[<-hAa ho]at h1;rw[hAa h1];exact h4
  ·rw[<-hAa ho]at h1;cases h1
 ·rcases h.lb with z | ⟨_,z⟩
  ·have:os.length=net'.length:=by rw[hAa e,hA1]
   omega
  ·exact(bad_no z e rw').elim
end
theorem sm_app {x y:Str} (h:Sm x) (h':Sm y):Sm (x++y):=h.app h'
def TxS (t:Tr):Prop:=(t.1.length<=10/\Sm t.1)/\(t.2.1.length<=10/\Sm t.2.1)/\t.2.2.length<=10/\Sm t.2.2
theorem qFh {H:Hp} {a:Addr} {s1 s2 s3:Str} (h:H a=some (.tup [.str s1,.str s2,.str s3])) (h1:s1.length<=100/\Sm s1) (h2:s2.length<=100/\Sm s2) (h3:s3.length<=100/\Sm s3):PrS H (.ref a) (some [.str s1,.str s2,.str s3]):=by
 refine .inl ⟨a,_,rfl,rfl,h,⟨_,_,rfl⟩,by show 3<=3;decide,fun y hy=>?_⟩;simp only[hAc,hB6,or_false]at hy;rcases hy with rfl | rfl | rfl
 ·exact .inl ⟨_,rfl,h1⟩
 ·exact .inl ⟨_,rfl,h2⟩
 ·exact .inl ⟨_,rfl,h3⟩
def spSpo:Sp:=fun vs H Q _=>∃ (d p:Addr) (n:Int) (net:List Tr),vs=[.ref d,.ref p]/\H d=some (.lst [.int n])/\p≠d/\qDf H p net/\net.length<=12/\(∀ t∈net,TxS t)/\∀ (v:V) (o:Option Nd) (H':Hp),Dr d H H'->PapAt H' v o->Q v H'
section
variable {P:Program} {w:World} {K:PySem.W.Frag} {mg:Str->Option Value} {base:Heap} {f f1 f2 f3 f4:Addr} {fd fd1 fd2 fd3 fd4:FuncData}
abbrev soN:List Str:=["_law_draw","_law_net","_law_way","_law_made","_law_at","_law_tie","_law_one","_law_other","_law_spare"]
theorem scSpo:FnScope soN ["_law_draw","_law_net"] (qAd sSpo):=⟨rfl,rfl,rfl,by decide +kernel,rfl,by decide +kernel,by decide +kernel⟩
theorem ok_spo (F:Fun K "_law_spoilt" "_law_spoilt" sSpo f fd) (G1:Cl P w K mg base CX0 1 f1 fd1 ["_law_draw","_law_many"] qE5 "_law_take")
  (ml:mg "len" = none) (mL:mg "list" = none) (mt:mg "tuple" = none) (mmi:mg "min" = none) (mma:mg "max" = none):FnOk P w K mg base CX0 2 f fd ["_law_draw","_law_net"] spSpo:=by
 refine F.ok scSpo (fun vs H Q E h=>?_) (fun cdv A outer s H vs Q E hr h=>?_)
 ·obtain⟨d,p,n,net,rfl,_⟩:=h;rfl
 obtain⟨d,p,n,net,rfl,hd,pd,nt,l12,tx,q⟩:=h;refine⟨_,(qAc (qAm (i:=2) scSpo.nd rfl (Or.inl rfl) (qAv G1 hr rfl .nil qAw (qAa (pv 0) (qAa qAe qAb)))) (qAc (qAm (i:=3) scSpo.nd rfl (Or.inl rfl) (qBf qBr rfl mL qBj (qAa (pv 1) qAb))) (qAc (qBd (PW.pt (qCx (qAp (op_eqD (qFd hr)) (pv 1) (qBl qAb) (qAu _)) (qCh (qAp qCa (pv 2) qAe (qAu _))))) (qAf (qAs (qBk (qAa qBx (qAa (pv 3) qAb))))) qAx) (qAc (qAm (i:=4) scSpo.nd rfl (Or.inl rfl) (qAv G1 hr rfl .nil qAw (qAa (pv 0) (qAa (qAg qAk rfl ml hAl (qAa (pv 1) qAb)) qAb)))) (qAc (qDy (qA0 qAz (pv 1) (pv 4) (fun _ _=>rfl)) (qDz rfl (qA1 (qAl (i:=5) scSpo.nd rfl (Or.inl rfl)) (qA1 (qAl (i:=6) scSpo.nd rfl (Or.inl rfl)) (qA1 (qAl (i:=7) scSpo.nd rfl (Or.inl rfl)) qCy))))) (qAc (qA7 (qAm (i:=8) scSpo.nd rfl (Or.inl rfl) (qA0 qAz (pv 1) (qAv G1 hr rfl .nil qAw (qAa (pv 0) (qAa (qAg qAk rfl ml hAl (qAa (pv 1) qAb)) qAb))) (fun _ _=>rfl)))) (qAc (qA7 (qBd (qAp op_lt (pv 2) qAe (qAu _)) (qAf (qDy (qBk (qAa (pv 5) (qAa (qAg (call_min2S rfl) rfl mmi qB8 (qAa (pv 6) (qAa (qA0 qBg (pv 8) qAe (fun _ _=>rfl)) qAb))) (qAa (qAg (call_max2S rfl) rfl mma qC9 (qAa (pv 6) (qAa (qA0 qBg (pv 8) qAe (fun _ _=>rfl)) qAb))) qAb)))) (qFi (pv 3) (pv 4) qCv))) qAx)) (qAc (qA7 (qBd (qAp qCa (pv 2) qAe (qAu _)) (qAf (qCo (qFj hB1 PySem.F.slot_list_pop PySem.F.type_list_pop mt_popAt (pv 3) (qAa (pv 4) qAb)))) qAx)) (qAc (qA7 (qBd (qAp qCa (pv 2) qAe (qAu _)) (qAf (qCo (qFj hB1 PySem.F.slot_list_insert PySem.F.type_list_insert mt_insert (pv 3) (qAa (pv 4) (qAa (qA0 qAz (pv 3) (pv 4) (fun _ _=>rfl)) qAb))))) qAx)) (qAc (qA7 (qBd (qAp qCa (pv 2) qAe (qAu _)) (qAf (qDy (qBk (qAa (qAt qB4 (pv 5) qBx) (qAa (pv 6) (qAa (pv 7) qAb)))) (qFi (pv 3) (pv 4) qCv))) qAx)) (qAc (qA7 (qBd (qAp qCa (pv 2) qAe (qAu _)) (qAf (qDy (qBk (qAa (pv 5) (qAa (pv 7) (qAa (pv 6) qAb)))) (qFi (pv 3) (pv 4) qCv))) qAx)) (qAc (qA7 (qBd (qAp qCa (pv 2) qAe (qAu _)) (qAf (qAm (i:=3) scSpo.nd rfl (Or.inl rfl) (pe_rev (pv 3) (pe_un un_neg qAe)))) qAx)) (qAc (qA7 (qBd (qAp qCa (pv 2) qAe (qAu _)) (qAf (qDy (qA0 qAz (qBl (qAa (qBl (qAa (pv 5) (qAa (pv 6) (qAa (pv 7) qAb)))) (qAa (qBk (qAa (pv 5) (qAa (pv 6) qAb))) (qAa (qBk (qAa (pv 5) (qAa (pv 6) (qAa qAe qAb)))) (qAa (qBk (qAa (pv 5) (qAa qBx (qAa (pv 7) qAb)))) (qAa pe_non qAb)))))) (qAv G1 hr rfl .nil qAw (qAa (pv 0) (qAa qAe qAb))) (fun _ _=>rfl)) (qFi (pv 3) (pv 4) qCv))) qAx)) (qAc (qA7 (qBd (qAp qCa (pv 2) qAe (qAu _)) (qAf (qAs (qA0 qAz (qBl (qAa (qBk (qAa qBx (qAa (qBf call_tuple_of rfl mt qCg (qAa (pv 3) qAb)) qAb))) (qAa (qBl (qAa qBx (qAa (pv 3) qAb))) (qAa (qBk (qAa qBx (qAa (pv 3) qAb))) (qAa (qBk (qAa qBx (qAa (pv 3) (qAa (qBl qAb) qAb)))) (qAa (qBk (qAa qBx qAb)) qAb)))))) (qAv G1 hr rfl .nil qAw (qAa (pv 0) (qAa qAe qAb))) (fun _ _=>rfl)))) qAx)) (qAc (qA7 (qBd (qAp qCa (pv 2) qAe (qAu _)) (qAf (qDy (qBk (qAa (pv 5) (qAa qBx (qAa qBx qAb)))) (qFi (pv 3) (pv 4) qCv))) qAx)) (qAf (qAs (qBk (qAa qBx (qAa (pv 3) qAb)))))))))))))))))))),?_⟩;refine⟨_,rfl,d,n,12,rfl,hd,by decide,by decide,fun q1 way wa wb=>?_⟩;have D1:Dr d H (upd H d (.lst [.int q1])):=(Dr.refl hd).take q1;obtain⟨as,hp0,pr0⟩:=id nt;have las:=pr0.length;have hp1:=D1.2 _ _ pd hp0;have pr1:Paired (fun a t=>upd H d (.lst [.int q1]) a=some (.tup (trV t))) as net:=Paired.mapP pr0 fun a t z=>D1.2 _ _ (fun e=>by rw[e,hd]at z;cases z) z
 revert D1 hp1 pr1;generalize upd H d (.lst [.int q1])=H1;intro D1 hp1 pr1;refine⟨_,rfl,p,_,rfl,.inl (SqL.of hp1),fun mk hmk=>?_⟩;have Xm:=Ext.new hmk (.lst (as.map V.ref));have txi:∀ {t:Tr},t∈net->(t.1.length<=100/\Sm t.1)/\(t.2.1.length<=100/\Sm t.2.1)/\t.2.2.length<=100/\Sm t.2.2:=fun {t} ht=>by
  obtain⟨⟨h1,h2⟩,⟨h3,h4⟩,h5,h6⟩:=tx t ht;exact⟨⟨by omega,h2⟩,⟨by omega,h4⟩,by omega,h6⟩
 have S0:SpS d p mk H (upd H1 mk (.lst (as.map V.ref))) net as (as.map V.ref) (net.map fun t=>some (trV t)):=by
  refine⟨D1.new hmk _,D1.none hmk,D1.ne hmk,(fun e=>by rw[e,hp1]at hmk;cases hmk),pd,upd_same,?_,.inl (by rw[hA1];omega),Xm _ _ hp1,Paired.mapP pr1 fun a t z=>Xm _ _ z⟩;refine qCd pr1 fun a t _ ht z=>?_
  exact qFh (Xm _ _ z) (txi ht).1 (txi ht).2.1 (txi ht).2.2
 revert S0;generalize upd H1 mk (.lst (as.map V.ref))=H2;intro S0;have fin:∀ (mk:Addr) (xs:List V) (os:List (Option (List V))) (H':Hp),SpS d p mk H H' net as xs os->∀ a,H' a=none->Q (.ref a) (upd H' a (.tup [.str "net",.ref mk])):=fun mk xs os H' S a a0=>by
  have X:=Ext.new a0 (.tup [.str "net",.ref mk]);exact q _ (some (some os)) _ (S.dr.ext X) (.inl ⟨a,_,_,rfl,upd_same,(S.ext X).nts,rfl⟩)
 refine⟨_,rfl,hAw _,fun e0 he0=>?_⟩;have Xe:=Ext.new he0 (.lst []);have S1:=S0.ext Xe;have he1:upd H2 e0 (.lst []) e0=some (.lst []):=upd_same;revert S1 he1;generalize upd H2 e0 (.lst [])=H3;intro S1 he1;have nt3:qDf H3 p net:=⟨as,S1.hp,S1.pa⟩;refine⟨netD net,.list [],dr_net nt3,dr_nil he1,shaped_net (fun t ht=>⟨(tx t ht).1.2,(tx t ht).2.1.2,(tx t ht).2.2.2⟩),shaped_nil,_,rfl,?_⟩;rw[if_neg (show ¬(false=true) by decide),eqv_net_nil];refine qCb (fun c=>iteT ⟨_,rfl,(by show 2<=sizeLine;decide),fun a a0=>fin mk _ _ H3 S1 a a0⟩) (fun c=>?_);refine⟨_,rfl,rfl,_,rfl,qCb (fun c2=>⟨_,rfl,(by show 2<=sizeLine;decide),fun a a0=>fin mk _ _ H3 S1 a a0⟩) (fun c2=>?_)⟩;have w0:0<way:=by
  rcases Int.lt_or_eq_of_le wa with z | z
  ·exact z
  ·rw[<-z,decide_eq_true rfl]at c2;exact absurd rfl c2
 have ln0:0<net.length:=by
  cases net with
  | nil=>exact absurd (decide_eq_true rfl) c
  | cons t r=>exact Nat.succ_pos _
 obtain⟨q2,z2⟩:=S1.dr.1;refine⟨_,rfl,_,rfl,p,_,rfl,.inl (SqL.of S1.hp),d,q2,_,rfl,z2,by rw[hA1];omega,by rw[hA1];omega,fun q3 at' ata atb=>?_⟩;rw[hA1]at atb;obtain⟨k,rfl⟩:=hB9 ata;have kl:k<as.length:=by omega
 have S2:=S1.take q3;revert S2;generalize upd H3 d (.lst [.int q3])=H4;intro S2;obtain⟨t,ht,hat⟩:=qA6 S2.pa (hA2 kl);have av:atI (as.map V.ref) ((k:Nat):Int)=some (.ref as[k]):=qAr (by rw[hAd,hA2 kl];rfl);have tm:t∈net:=hAj ht;obtain⟨i1,i2,i3⟩:=txi tm;have i10:=tx t tm;refine⟨_,rfl,_,rfl,p,_,_,_,rfl,rfl,SqL.of S2.hp,av,as[k],_,rfl,SqT.of hat,rfl,_,_,rfl,_,_,rfl,_,_,rfl,rfl,?_⟩;refine⟨fun σ' H'=>∃ (c:Addr) (u:Tr),u∈net/\σ'=[some (.ref d),some (.ref p),some (.int way),some (.ref mk),some (iV k),some (.str t.1),some (.str t.2.1),some (.str t.2.2),some (.ref c)]/\H' c=some (.tup (trV u))/\SpS d p mk H H' net as (as.map V.ref) (net.map fun t=>some (trV t)),?_,?_⟩
 ·obtain⟨q4,z4⟩:=S2.dr.1;refine⟨_,rfl,_,rfl,_,rfl,p,_,rfl,.inl (SqL.of S2.hp),d,q4,_,rfl,z4,by rw[hA1];omega,by rw[hA1];omega,fun q5 j' ja jb=>?_⟩;rw[hA1]at jb;obtain⟨j,rfl⟩:=hB9 ja;have S3:=S2.take q5;obtain⟨u,hu,hau⟩:=qA6 S3.pa (hA2 (show j<as.length by omega));exact⟨p,_,_,_,rfl,rfl,SqL.of S3.hp,qAr (by rw[hAd,hA2 (show j<as.length by omega)];rfl),as[j],u,hAj hu,rfl,hau,S3⟩
 rintro _ H5 ⟨c,u,um,rfl,hc,S5⟩;obtain⟨j1,j2,j3⟩:=txi um;have cpl:(as.map V.ref).length<=12:=by rw[hA1];omega
 have ixk:ixN (as.map V.ref).length ((k:Nat):Int)=some k:=ixN_nat (by rw[hA1];exact kl);have key:∀ {j:Int},decide (V.int way=V.int j)=true->way=j:=fun z=>V.int.inj (of_decide_eq_true z)
 obtain⟨Iv,eIv⟩:∃ Iv:Int->St->Hp->Prop,Iv=fun k0 σ' H'=>∃ (mk:Addr) (xs:List V) (os:List (Option (List V))),σ'=[some (.ref d),some (.ref p),some (.int way),some (.ref mk),some (iV k),some (.str t.1),some (.str t.2.1),some (.str t.2.2),some (.ref c)]/\SpS d p mk H H' net as xs os/\(k0<=way->xs=as.map V.ref/\os=net.map fun t=>some (trV t)):=⟨_,rfl⟩
 have setK:∀ {mk:Addr} {H6:Hp} {v:V} {o:Option (List V)},SpS d p mk H H6 net as (as.map V.ref) (net.map fun t=>some (trV t))->PrS H6 v o->SpS d p mk H (upd H6 mk (.lst ((as.map V.ref).set k v))) net as ((as.map V.ref).set k v) ((net.map fun t=>some (trV t)).set k o):=fun S h=>S.put (qGb h _ S.pm) (.inl (by rw[hCm];exact cpl))
 refine⟨Iv 4,?_,?_⟩
 ·refine⟨_,rfl,_,_,rfl,rfl,_,rfl,qCb (fun e=>?_) (fun e=>?_)⟩
  ·have w4:way<4:=of_decide_eq_true e;refine⟨_,rfl,_,rfl,_,rfl,c,_,_,_,rfl,rfl,SqT.of hc,(by exact qAr (j:=2) rfl),_,_,rfl,_,rfl,_,rfl,c,_,_,_,rfl,rfl,SqT.of hc,(by exact qAr (j:=2) rfl),_,_,rfl,(by show 3<=sizeLine;decide),fun a a0=>?_⟩;have g:∀ {x y:Str} {b:Prop} [Decidable b],(x.length<=100/\Sm x)->(y.length<=100/\Sm y)->((if b then x else y).length<=100/\Sm (if b then x else y)):=fun {x y b _} h1 h2=>by split <;> assumption
   have S6:=S5.ext (Ext.new a0 (.tup [.str t.1,.str (if u.2.2.cps.toList<t.2.1.cps.toList then u.2.2 else t.2.1),.str (if t.2.1.cps.toList<u.2.2.cps.toList then u.2.2 else t.2.1)]));refine⟨_,rfl,_,rfl,mk,_,_,k,rfl,rfl,S6.hm,ixk,?_⟩;rw[eIv];exact⟨mk,_,_,rfl,setK S6 (qFh upd_same i1 (g j3 i2) (g j3 i2)),fun z=>by omega⟩
  ·rw[eIv];exact⟨mk,_,_,rfl,S5,fun _=>⟨rfl,rfl⟩⟩
 clear hc S5;rintro _ H6 h6;rw[eIv]at h6;obtain⟨mk,xs,os,rfl,S6,cp⟩:=h6;refine⟨Iv 5,?_,?_⟩
 ·refine⟨_,rfl,rfl,_,rfl,qCb (fun e=>?_) (fun e=>?_)⟩
  ·have we:=key e;obtain⟨rfl,rfl⟩:=cp (by omega);have sq:seqIndex? ((k:Nat):Int) (as.map V.ref).length=some k:=by
    have:=PySem.StrLaws.seqIndex_nonneg (i:=((k:Nat):Int)) (n:=(as.map V.ref).length) (by omega) (by rw[hA1];omega);rw[hB3]at this;exact this
   refine⟨_,rfl,.inl ⟨rfl,_,SqL.of S6.hm⟩,_,rfl,mk,_,_,k,.ref as[k],rfl,rfl,S6.hm,by omega,by omega,sq,by rw[hAd,hA2 kl];rfl,?_⟩;rw[eIv];have le:=List.length_eraseIdx_le (as.map V.ref) k;exact⟨mk,_,_,rfl,S6.put (qGd k S6.pm) (.inl (by omega)),fun z=>by omega⟩
  ·rw[eIv];exact⟨mk,xs,os,rfl,S6,fun z=>cp (by omega)⟩
 clear S6 cp;rintro _ H7 h7;rw[eIv]at h7;obtain⟨mk,xs,os,rfl,S7,cp⟩:=h7;refine⟨Iv 6,?_,?_⟩
 ·refine⟨_,rfl,rfl,_,rfl,qCb (fun e=>?_) (fun e=>?_)⟩
  ·have we:=key e;obtain⟨rfl,rfl⟩:=cp (by omega);refine⟨_,rfl,.inl ⟨rfl,_,SqL.of S7.hm⟩,_,rfl,_,rfl,_,rfl,mk,_,_,_,rfl,rfl,SqL.of S7.hm,av,mk,_,k,_,rfl,rfl,S7.hm,by rw[hA1];omega,by rw[hA1];omega,?_⟩;rw[eIv];have hx:(as.map V.ref)[k]?=some (.ref as[k]):=by rw[hAd,hA2 kl];rfl
   obtain⟨o,ho,po⟩:=qA6 S7.pm hx;have ho':o=some (trV t):=by
    rw[hAd,ht]at ho;exact(hAa ho).symm
   subst ho';have nk:k<(net.map fun t=>some (trV t)).length:=qBc ho;refine⟨mk,_,_,rfl,S7.put (qEe (qD0 k S7.pm).1 (.cons po (qD0 k S7.pm).2)) (.inr ⟨?_,k,t.1,[.str t.2.1,.str t.2.2],[.str t.2.1,.str t.2.2],?_,?_⟩),fun z=>by omega⟩
   ·rw[hAf,hBd,hAi,hCh];omega
   ·rw[hC2 (by rw[hAi];omega),hAi,Nat.min_eq_left (by omega),Nat.sub_self];rfl
   ·rw[hC2 (by rw[hAi];omega),hAi,Nat.min_eq_left (by omega),show k+1 - k=0+1 by omega,List.getElem?_cons_succ,List.getElem?_drop];exact ho
  ·rw[eIv];exact⟨mk,xs,os,rfl,S7,fun z=>cp (by omega)⟩
 clear S7 cp;rintro _ H8 h8;rw[eIv]at h8;obtain⟨mk,xs,os,rfl,S8,cp⟩:=h8;refine⟨Iv 7,?_,?_⟩
 ·refine⟨_,rfl,rfl,_,rfl,qCb (fun e=>?_) (fun e=>?_)⟩
  ·have we:=key e;obtain⟨rfl,rfl⟩:=cp (by omega);have lx:(t.1++"x" : Str).length<=100:=by
    rw[Str.length_append];have:=i10.1.1;show t.1.length+1<=100;omega
   refine⟨_,rfl,_,_,rfl,rfl,(by rw[Str.length_append]at lx;exact hB2 (qAi (by omega))),_,rfl,_,rfl,(by show 3<=sizeLine;decide),fun a a0=>?_⟩;have S9:=S8.ext (Ext.new a0 (.tup [.str (t.1++"x"),.str t.2.1,.str t.2.2]));refine⟨_,rfl,_,rfl,mk,_,_,k,rfl,rfl,S9.hm,ixk,?_⟩;rw[eIv];exact⟨mk,_,_,rfl,setK S9 (qFh upd_same ⟨lx,sm_app i1.2 (show ∀ c∈("x" : Str).cps.toList,c<128 by decide +kernel)⟩ i2 i3),fun z=>by omega⟩
  ·rw[eIv];exact⟨mk,xs,os,rfl,S8,fun z=>cp (by omega)⟩
 clear S8 cp;rintro _ H9 h9;rw[eIv]at h9;obtain⟨mk,xs,os,rfl,S9,cp⟩:=h9;refine⟨Iv 8,?_,?_⟩
 ·refine⟨_,rfl,rfl,_,rfl,qCb (fun e=>?_) (fun e=>?_)⟩
  ·have we:=key e;obtain⟨rfl,rfl⟩:=cp (by omega);refine⟨_,rfl,_,rfl,_,rfl,(by show 3<=sizeLine;decide),fun a a0=>?_⟩;have S0:=S9.ext (Ext.new a0 (.tup [.str t.1,.str t.2.2,.str t.2.1]));refine⟨_,rfl,_,rfl,mk,_,_,k,rfl,rfl,S0.hm,ixk,?_⟩;rw[eIv];exact⟨mk,_,_,rfl,setK S0 (qFh upd_same i1 i3 i2),fun z=>by omega⟩
  ·rw[eIv];exact⟨mk,xs,os,rfl,S9,fun z=>cp (by omega)⟩
 clear S9 cp;rintro _ HA hA;rw[eIv]at hA;obtain⟨mk,xs,os,rfl,SA,cp⟩:=hA;refine⟨Iv 9,?_,?_⟩
 ·refine⟨_,rfl,rfl,_,rfl,qCb (fun e=>?_) (fun e=>?_)⟩
  ·have we:=key e;refine⟨_,rfl,_,rfl,mk,_,rfl,rfl,SqL.of SA.hm,fun m2 h2=>?_⟩;have X:=Ext.new h2 (.lst xs.reverse);obtain⟨rfl,rfl⟩:=cp (by omega);rw[eIv];have SB:=SA.ext X;refine⟨m2,_,_,rfl,⟨SB.dr,SA.dr.none h2,SA.dr.ne h2,(fun z=>by rw[z,SA.hp]at h2;cases h2),SB.pd,upd_same,paired_rev SB.pm,.inl (by rw[List.length_reverse];exact cpl),SB.hp,SB.pa⟩,fun z=>by omega⟩
  ·rw[eIv];exact⟨mk,xs,os,rfl,SA,fun z=>cp (by omega)⟩
 clear SA cp;rintro _ HB hB;rw[eIv]at hB;obtain⟨mk,xs,os,rfl,SB,cp⟩:=hB;refine⟨Iv 10,?_,?_⟩
 ·refine⟨_,rfl,rfl,_,rfl,qCb (fun e=>?_) (fun e=>?_)⟩
  ·have we:=key e;obtain⟨rfl,rfl⟩:=cp (by omega);refine⟨_,rfl,_,rfl,_,rfl,(by show 3<=sizeLine;decide),fun a1 h1=>?_⟩;refine⟨_,rfl,_,rfl,(by show 2<=sizeLine;decide),fun a2 h2=>?_⟩;refine⟨_,rfl,_,rfl,(by show 3<=sizeLine;decide),fun a3 h3=>?_⟩;refine⟨_,rfl,_,rfl,(by show 3<=sizeLine;decide),fun a4 h4=>?_⟩;refine⟨(by show 5<=sizeLine;decide),fun a5 h5=>?_⟩;have X1:=Ext.new h1 (.lst [.str t.1,.str t.2.1,.str t.2.2]);have p1:PrS (upd HB a1 (.lst [.str t.1,.str t.2.1,.str t.2.2])) (.ref a1) none:=.inr ⟨rfl,.inr ⟨a1,_,rfl,upd_same⟩⟩;have n1:=SB.dr.ne h1;have T1:=SB.ext X1;revert p1 T1 h2 h3 h4 h5;generalize upd HB a1 (.lst [.str t.1,.str t.2.1,.str t.2.2])=HC;intro h2 h3 h4 h5 p1 T1;have X2:=Ext.new h2 (.tup [.str t.1,.str t.2.1]);have p1:=p1.ext X2;have p2:PrS (upd HC a2 (.tup [.str t.1,.str t.2.1])) (.ref a2) (some [.str t.1,.str t.2.1]):=.inl ⟨a2,_,rfl,rfl,upd_same,⟨_,_,rfl⟩,by show 2<=3;decide,fun y hy=>by
    simp only[hAc,hB6,or_false]at hy;rcases hy with rfl | rfl
    ·exact .inl ⟨_,rfl,i1⟩
    ·exact .inl ⟨_,rfl,i2⟩⟩
   have n2:=T1.dr.ne h2;have T2:=T1.ext X2;revert p1 p2 T2 h3 h4 h5;generalize upd HC a2 (.tup [.str t.1,.str t.2.1])=HD;intro h3 h4 h5 p1 p2 T2;have X3:=Ext.new h3 (.tup [.str t.1,.str t.2.1,.int 5]);have p1:=p1.ext X3;have p2:=p2.ext X3;have p3:PrS (upd HD a3 (.tup [.str t.1,.str t.2.1,.int 5])) (.ref a3) (some [.str t.1,.str t.2.1,.int 5]):=.inl ⟨a3,_,rfl,rfl,upd_same,⟨_,_,rfl⟩,by show 3<=3;decide,fun y hy=>by
    simp only[hAc,hB6,or_false]at hy;rcases hy with rfl | rfl | rfl
    ·exact .inl ⟨_,rfl,i1⟩
    ·exact .inl ⟨_,rfl,i2⟩
    ·exact .inr ⟨_,rfl⟩⟩
   have T3:=T2.ext X3;revert p1 p2 p3 T3 h4 h5;generalize upd HD a3 (.tup [.str t.1,.str t.2.1,.int 5])=HE;intro h4 h5 p1 p2 p3 T3;have X4:=Ext.new h4 (.tup [.str t.1,.str "A",.str t.2.2]);have p1:=p1.ext X4;have p2:=p2.ext X4;have p3:=p3.ext X4;have p4:PrS (upd HE a4 (.tup [.str t.1,.str "A",.str t.2.2])) (.ref a4) (some [.str t.1,.str "A",.str t.2.2]):=qFh upd_same i1 ⟨by decide +kernel,show ∀ c∈("A" : Str).cps.toList,c<128 by decide +kernel⟩ i3;have T4:=T3.ext X4;revert p1 p2 p3 p4 T4 h5;generalize upd HE a4 (.tup [.str t.1,.str "A",.str t.2.2])=HF;intro h5 p1 p2 p3 p4 T4;have X5:=Ext.new h5 (.lst [.ref a1,.ref a2,.ref a3,.ref a4,.non]);have n5:=T4.dr.ne h5;have p1:=p1.ext X5;have p2:=p2.ext X5;have p3:=p3.ext X5;have p4:=p4.ext X5;have T5:=T4.ext X5;have l5:upd HF a5 (.lst [.ref a1,.ref a2,.ref a3,.ref a4,.non]) a5=some (.lst [.ref a1,.ref a2,.ref a3,.ref a4,.non]):=upd_same;revert p1 p2 p3 p4 T5 l5;generalize upd HF a5 (.lst [.ref a1,.ref a2,.ref a3,.ref a4,.non])=HG;intro p1 p2 p3 p4 T5 l5;obtain⟨q6,z6⟩:=T5.dr.1;refine⟨_,rfl,d,q6,5,rfl,z6,by decide,by decide,fun q7 r ra rb=>?_⟩;have T6:=T5.take q7;have p1:=p1.over (zs:=[.int q7]) z6;have p2:=p2.over (zs:=[.int q7]) z6;have p3:=p3.over (zs:=[.int q7]) z6;have p4:=p4.over (zs:=[.int q7]) z6;have l6:upd HG d (.lst [.int q7]) a5=some (.lst [.ref a1,.ref a2,.ref a3,.ref a4,.non]):=by rw[qAh n5];exact l5
   have done:∀ (v:V) (o:Option (List V)),PrS (upd HG d (.lst [.int q7])) v o->Iv 10 [some (.ref d),some (.ref p),some (.int way),some (.ref mk),some (iV k),some (.str t.1),some (.str t.2.1),some (.str t.2.2),some (.ref c)] (upd (upd HG d (.lst [.int q7])) mk (.lst ((as.map V.ref).set k v))):=fun v o pv=>by
    rw[eIv];exact⟨mk,_,_,rfl,setK T6 pv,fun z=>by omega⟩
   rcases(show r=0\/r=1\/r=2\/r=3\/r=4 by omega) with rfl | rfl | rfl | rfl | rfl
   ·exact⟨a5,_,_,_,rfl,rfl,SqL.of l6,(by exact qAr (j:=0) rfl),_,rfl,_,rfl,mk,_,_,k,rfl,rfl,T6.hm,ixk,done _ _ p1⟩
   ·exact⟨a5,_,_,_,rfl,rfl,SqL.of l6,(by exact qAr (j:=1) rfl),_,rfl,_,rfl,mk,_,_,k,rfl,rfl,T6.hm,ixk,done _ _ p2⟩
   ·exact⟨a5,_,_,_,rfl,rfl,SqL.of l6,(by exact qAr (j:=2) rfl),_,rfl,_,rfl,mk,_,_,k,rfl,rfl,T6.hm,ixk,done _ _ p3⟩
   ·exact⟨a5,_,_,_,rfl,rfl,SqL.of l6,(by exact qAr (j:=3) rfl),_,rfl,_,rfl,mk,_,_,k,rfl,rfl,T6.hm,ixk,done _ _ p4⟩
   ·exact⟨a5,_,_,_,rfl,rfl,SqL.of l6,(by exact qAr (j:=4) rfl),_,rfl,_,rfl,mk,_,_,k,rfl,rfl,T6.hm,ixk,done .non none (.inr ⟨rfl,.inl rfl⟩)⟩
  ·rw[eIv];exact⟨mk,xs,os,rfl,SB,fun z=>cp (by omega)⟩
 clear SB cp;rintro _ HB hB;rw[eIv]at hB;obtain⟨mk,xs,os,rfl,SB,cp⟩:=hB;refine⟨Iv 11,?_,?_⟩
 ·refine⟨_,rfl,rfl,_,rfl,qCb (fun e=>?_) (fun e=>?_)⟩
  ·have we:=key e;obtain⟨rfl,rfl⟩:=cp (by omega);refine⟨_,rfl,mk,_,rfl,.inl ⟨SqL.of SB.hm,fun a0 h0=>?_⟩⟩;refine⟨(by show 2<=sizeLine;decide),fun a1 h1=>?_⟩;have X0:=Ext.new h0 (.tup (as.map V.ref));have X1:=Ext.new h1 (.tup [.str "net",.ref a0]);have T1:=(SB.ext X0).ext X1;have n1:=(SB.ext X0).dr.ne h1;have n0:=SB.dr.ne h0;have g0:=X1 _ _ (upd_same (H:=HB) (a:=a0) (o:=.tup (as.map V.ref)));have g1:upd (upd HB a0 (.tup (as.map V.ref))) a1 (.tup [.str "net",.ref a0]) a1=some (.tup [.str "net",.ref a0]):=upd_same;clear X0 X1;revert T1 g0 g1;generalize upd (upd HB a0 (.tup (as.map V.ref))) a1 (.tup [.str "net",.ref a0])=HC;intro T1 g0 g1;clear h0 h1;have rdy:∀ H',SpS d p mk H H' net as (as.map V.ref) (net.map fun t=>some (trV t))->NtS H' (.ref mk) (some (net.map fun t=>some (trV t))):=fun H' S=>S.nts
   refine⟨_,rfl,(by show 2<=sizeLine;decide),fun a2 h2=>?_⟩;have X2:=Ext.new h2 (.lst [.str "net",.ref mk]);have n2:=T1.dr.ne h2;have T2:=T1.ext X2;have g0:=X2 _ _ g0;have g1:=X2 _ _ g1;have g2:upd HC a2 (.lst [.str "net",.ref mk]) a2=some (.lst [.str "net",.ref mk]):=upd_same;clear X2;revert T2 g0 g1 g2;generalize upd HC a2 (.lst [.str "net",.ref mk])=HD;intro T2 g0 g1 g2;refine⟨_,rfl,(by show 2<=sizeLine;decide),fun a3 h3=>?_⟩;have X3:=Ext.new h3 (.tup [.str "small",.ref mk]);have n3:=T2.dr.ne h3;have T3:=T2.ext X3;have g0:=X3 _ _ g0;have g1:=X3 _ _ g1;have g2:=X3 _ _ g2;have g3:upd HD a3 (.tup [.str "small",.ref mk]) a3=some (.tup [.str "small",.ref mk]):=upd_same;clear X3;revert T3 g0 g1 g2 g3;generalize upd HD a3 (.tup [.str "small",.ref mk])=HE;intro T3 g0 g1 g2 g3;refine⟨_,rfl,hAw _,fun e4 k4=>?_⟩;refine⟨(by show 3<=sizeLine;decide),fun a4 h4=>?_⟩;have X4:=(Ext.new k4 (.lst [])).trans (Ext.new h4 (.tup [.str "net",.ref mk,.ref e4]));have n4:=(T3.ext (Ext.new k4 (.lst []))).dr.ne h4;have T4:=T3.ext X4;have g0:=X4 _ _ g0;have g1:=X4 _ _ g1;have g2:=X4 _ _ g2;have g3:=X4 _ _ g3;have g4:upd (upd HE e4 (.lst [])) a4 (.tup [.str "net",.ref mk,.ref e4]) a4=some (.tup [.str "net",.ref mk,.ref e4]):=upd_same;clear X4;revert T4 g0 g1 g2 g3 g4;generalize upd (upd HE e4 (.lst [])) a4 (.tup [.str "net",.ref mk,.ref e4])=HF;intro T4 g0 g1 g2 g3 g4;refine⟨(by show 1<=sizeLine;decide),fun a5 h5=>?_⟩;refine⟨(by show 5<=sizeLine;decide),fun a6 h6=>?_⟩;have X5:=(Ext.new h5 (.tup [.str "net"])).trans (Ext.new h6 (.lst [.ref a1,.ref a2,.ref a3,.ref a4,.ref a5]));have n5:=T4.dr.ne h5;have n6:=(T4.ext (Ext.new h5 (.tup [.str "net"]))).dr.ne h6;have g5:=(Ext.new h6 (.lst [.ref a1,.ref a2,.ref a3,.ref a4,.ref a5])) _ _ (upd_same (H:=HF) (a:=a5) (o:=.tup [.str "net"]));have T5:=T4.ext X5;have g0:=X5 _ _ g0;have g1:=X5 _ _ g1;have g2:=X5 _ _ g2;have g3:=X5 _ _ g3;have g4:=X5 _ _ g4;have g6:upd (upd HF a5 (.tup [.str "net"])) a6 (.lst [.ref a1,.ref a2,.ref a3,.ref a4,.ref a5]) a6=some (.lst [.ref a1,.ref a2,.ref a3,.ref a4,.ref a5]):=upd_same;clear X5;revert g5 T5 g0 g1 g2 g3 g4 g6;generalize upd (upd HF a5 (.tup [.str "net"])) a6 (.lst [.ref a1,.ref a2,.ref a3,.ref a4,.ref a5])=HG;intro g5 T5 g0 g1 g2 g3 g4 g6;obtain⟨q6,z6⟩:=T5.dr.1;refine⟨_,rfl,d,q6,5,rfl,z6,by decide,by decide,fun q7 r ra rb=>?_⟩;have T6:=T5.take q7;have up:∀ {a:Addr} {o:HO},a≠d->HG a=some o->upd HG d (.lst [.int q7]) a=some o:=fun n z=>by rw[qAh n];exact z
   rcases(show r=0\/r=1\/r=2\/r=3\/r=4 by omega) with rfl | rfl | rfl | rfl | rfl
   ·exact⟨a6,_,_,_,rfl,rfl,SqL.of (up n6 g6),(by exact qAr (j:=0) rfl),q _ (some none) _ T6.dr (.inl ⟨a1,_,none,rfl,up n1 g1,⟨.inl ⟨rfl,.inr (.inr (.inr (.inr ⟨a0,_,rfl,up n0 g0⟩)))⟩,fun os z=>(by cases z),fun net z=>(by cases z)⟩,rfl⟩)⟩
   ·exact⟨a6,_,_,_,rfl,rfl,SqL.of (up n6 g6),(by exact qAr (j:=1) rfl),q _ none _ T6.dr (.inr ⟨rfl,.inl ⟨a2,_,rfl,up n2 g2⟩⟩)⟩
   ·exact⟨a6,_,_,_,rfl,rfl,SqL.of (up n6 g6),(by exact qAr (j:=2) rfl),q _ none _ T6.dr (.inr ⟨rfl,.inr (.inr ⟨a3,_,rfl,up n3 g3⟩)⟩)⟩
   ·exact⟨a6,_,_,_,rfl,rfl,SqL.of (up n6 g6),(by exact qAr (j:=3) rfl),q _ none _ T6.dr (.inr ⟨rfl,.inr (.inl ⟨a4,_,rfl,up n4 g4,.inr rfl⟩)⟩)⟩
   ·exact⟨a6,_,_,_,rfl,rfl,SqL.of (up n6 g6),(by exact qAr (j:=4) rfl),q _ none _ T6.dr (.inr ⟨rfl,.inr (.inl ⟨a5,_,rfl,up n5 g5,.inl rfl⟩)⟩)⟩
  ·rw[eIv];exact⟨mk,xs,os,rfl,SB,fun z=>cp (by omega)⟩
 clear SB cp;rintro _ HB hB;rw[eIv]at hB;obtain⟨mk,xs,os,rfl,SB,cp⟩:=hB;refine⟨Iv 12,?_,?_⟩
 ·refine⟨_,rfl,rfl,_,rfl,qCb (fun e=>?_) (fun e=>?_)⟩
  ·have we:=key e;obtain⟨rfl,rfl⟩:=cp (by omega);refine⟨_,rfl,(by show 3<=sizeLine;decide),fun a a0=>?_⟩;have S0:=SB.ext (Ext.new a0 (.tup [.str t.1,.str "nw",.str "nw"]));refine⟨_,rfl,_,rfl,mk,_,_,k,rfl,rfl,S0.hm,ixk,?_⟩;rw[eIv];exact⟨mk,_,_,rfl,setK S0 (qFh upd_same i1 ⟨by decide +kernel,show ∀ c∈("nw" : Str).cps.toList,c<128 by decide +kernel⟩ ⟨by decide +kernel,show ∀ c∈("nw" : Str).cps.toList,c<128 by decide +kernel⟩),fun z=>by omega⟩
  ·rw[eIv];exact⟨mk,xs,os,rfl,SB,fun z=>cp (by omega)⟩
 clear SB cp;rintro _ HB hB;rw[eIv]at hB;obtain⟨mk,xs,os,rfl,SB,cp⟩:=hB;exact⟨_,rfl,(by show 2<=sizeLine;decide),fun a a0=>fin mk _ _ HB SB a a0⟩
end
end My
namespace My
open PySem L2
theorem dr_new {d:Addr} {H H':Hp} {o:HO} (h:H d=none) (x:Dr d (upd H d o) H'):Ext H H':=fun b u q=>x.2 b u (qAj q h) (by rw[qAh (qAj q h)];exact q)
def spLaw (K:PySem.W.Frag):Sp:=fun vs H Q _=>∃ (a:Addr) (ns:List Int),vs=[.ref a]/\SqL K H a (ns.map V.int)/\ns.length<=63/\∀ H',Q (.bl true) H'
theorem nts_net {H:Hp} {l:Addr} {net:List Tr} (nt:qDf H l net) (ln:net.length<=12) (tx:∀ t∈net,TxS t):NtS H (.ref l) (NdOf net):=by
 obtain⟨as,hl,pr⟩:=nt;have las:=pr.length;refine⟨.inr ⟨l,_,net.map (fun t=>some (trV t)),rfl,hl,rfl,?_,by rw[hA1];omega⟩,fun os e ys hy=>?_,fun net' e _=>?_⟩
 ·refine qCd pr fun a t _ ht z=>?_
  obtain⟨⟨h1,h2⟩,⟨h3,h4⟩,h5,h6⟩:=tx t ht;exact(qFh z ⟨by omega,h2⟩ ⟨by omega,h4⟩ ⟨by omega,h6⟩).prt
 ·rw[<-hAa e]at hy;obtain⟨t,_,e2⟩:=hA3.mp hy;rw[<-hAa e2];exact⟨_,_,rfl⟩
 ·cases NdOf.inj e;exact ln
theorem qDb.ten {s:Str} (h:qDb s):s.length<=10/\Sm s:=⟨by have:=h.2.2;omega,h.1.sm⟩
theorem bool_eq {a b:Bool} {p:Prop} (h1:a=true↔p) (h2:b=true↔p):a=b:=by
 cases a <;> cases b <;> simp_all
section
variable {P:Program} {w:World} {K:PySem.W.Frag} {mg:Str->Option Value} {base:Heap} {f f1 f2 f3 f4 f5 f6 f7 f8 f9 f10 f11 f12 f13:Addr} {fd fd1 fd2 fd3 fd4 fd5 fd6 fd7 fd8 fd9 fd10 fd11 fd12 fd13:FuncData}
abbrev lawN:List Str:=["_law_script","_law_draw","_law_ties_here","_law_many","_law_base","_law_table_here","_law_handed","_law_k","_law_net","_law_paper"]
theorem qE7:FnScope lawN ["_law_script"] (qAd sLaw):=⟨rfl,rfl,rfl,by decide +kernel,rfl,by decide +kernel,by decide +kernel⟩
theorem ok_law (F:Fun K "law" "law" sLaw f fd)
  (G1:Cl P w K mg base CX0 2 f1 fd1 ["_law_script","_law_at"] (spPurse K) "_law_purse")
  (G2:Cl P w K mg base CX0 1 f2 fd2 ["_law_draw","_law_many"] qE5 "_law_take")
  (G3:Cl P w K mg base CX0 2 f3 fd3 ["_law_draw","_law_many"] spTi "_law_ties")
  (G4:Cl P w K mg base CX0 5 f4 fd4 ["_law_base","_law_many"] spLCr "_law_crossed")
  (G5:Cl P w K mg base CX0 4 f5 fd5 ["_law_masks"] spLSt "_law_steps")
  (G6:Cl P w K mg base CX0 1 f6 fd6 ["_law_ties_here"] spStM "_law_star_masks")
  (G7:Cl P w K mg base CX0 3 f7 fd7 ["_law_draw","_law_many","_law_base"] spTab "_law_table")
  (G8:Cl P w K mg base CX0 1 f8 fd8 ["_law_table_here"] spLCop "_law_copy")
  (G9:Cl P w K mg base CX0 2 f9 fd9 ["_law_draw","_law_ties_here","_law_names_here"] spNOf "_law_net_of")
  (G10:Cl P w K mg base CX0 1 f10 fd10 ["_law_found","_law_due_here"] spSays "_law_says")
  (G11:Cl P w K mg base CX0 7 f11 fd11 ["table","paper"] spStan "stands")
  (G12:Cl P w K mg base CX0 2 f12 fd12 ["_law_draw","_law_net"] spSpo "_law_spoilt")
  (G13:Cl P w K mg base CX0 7 f13 fd13 ["_law_paper","_law_names_here","_law_base"] spDue "_law_due")
  (mr:mg "range" = none) (ml:mg "len" = none) (mL:mg "list" = none) (mmi:mg "min" = none) (mma:mg "max" = none) :
  FnOk P w K mg base CX0 8 f fd ["_law_script"] (spLaw K):=by
 refine F.ok qE7 (fun vs H Q E h=>?_) (fun cdv A outer s H vs Q E hr0 h=>?_)
 ·obtain⟨a,ns,rfl,_⟩:=h;rfl
 obtain⟨a,ns,rfl,ha,l63,q⟩:=h;have hr:=hr0.mono (j:=7) (by decide);have hr1:=hr.mono (j:=1) (by decide);have hr2:=hr.mono (j:=2) (by decide);have hr3:=hr.mono (j:=3) (by decide);have hr4:=hr.mono (j:=4) (by decide);have hr5:=hr.mono (j:=5) (by decide);refine⟨_,(qAc (qAm (i:=1) qE7.nd rfl (Or.inl rfl) (qAv G1 hr2 rfl .nil qAw (qAa (pv 0) (qAa qAe qAb)))) (qAc (qAm (i:=2) qE7.nd rfl (Or.inl rfl) (qAv G3 hr2 rfl .nil qAw (qAa (pv 1) (qAa (qAv G2 hr1 rfl .nil qAw (qAa (pv 1) (qAa qAe qAb))) qAb)))) (qAc (qAm (i:=3) qE7.nd rfl (Or.inl rfl) (qAg qAk rfl ml hAl (qAa (pv 2) qAb))) (qAc (qA7 (qAm (i:=4) qE7.nd rfl (Or.inl rfl) (qAv G4 hr5 rfl .nil qAw (qAa (qAv G5 hr4 rfl .nil qAw (qAa (qAv G6 hr1 rfl .nil qAw (qAa (pv 2) qAb)) qAb)) (qAa (pv 3) qAb))))) (qAc (qAm (i:=5) qE7.nd rfl (Or.inl rfl) (qAv G7 hr3 rfl .nil qAw (qAa (pv 1) (qAa (pv 3) (qAa (pv 4) qAb))))) (qAc (qAm (i:=6) qE7.nd rfl (Or.inl rfl) (qAv G8 hr1 rfl .nil qAw (qAa (pv 5) qAb))) (qAc (qBw PassesOwn.never rfl (pi_range2 rfl mr (qAa qAe (qAa (qAg (qFr rfl) rfl mma qC9 (qAa qAe (qAa (qAg (qCt rfl) rfl mmi qB8 (qAa (qAg qAk rfl ml hAl (qAa (pv 0) qAb)) (qAa qAe qAb))) qAb))) qAb))) (qAl (i:=7) qE7.nd rfl (Or.inl rfl)) (qAc (qAm (i:=1) qE7.nd rfl (Or.inl rfl) (qAv G1 hr2 rfl .nil qAw (qAa (pv 0) (qAa (pv 7) qAb)))) (qAc (qA7 (qAm (i:=8) qE7.nd rfl (Or.inl rfl) (qAv G9 hr2 rfl .nil qAw (qAa (pv 1) (qAa (pv 2) (qAa (qA0 qBg (pv 5) qAe (fun _ _=>rfl)) qAb)))))) (qAc (qA7 (qBd (qB1 (qBv (qAv G10 hr1 rfl .nil qAw (qAa (qAv G11 hr rfl .nil qAw (qAa (pv 6) (qAa (qBk (qAa qBx (qAa (qBf qBr rfl mL qBj (qAa (pv 8) qAb)) qAb))) qAb))) (qAa qEr qAb))))) (qAf (qAs qEr)) qAx)) (qAc (qA7 (qAm (i:=9) qE7.nd rfl (Or.inl rfl) (qAv G12 hr2 rfl .nil qAw (qAa (pv 1) (qAa (pv 8) qAb))))) (qAf (qBd (PW.pt (qCx (qB1 (qBv (qAv G10 hr1 rfl .nil qAw (qAa (qAv G11 hr rfl .nil qAw (qAa (pv 6) (qAa (pv 9) qAb))) (qAa (qAv G13 hr rfl .nil qAw (qAa (pv 9) (qAa (qA0 qBg (pv 5) qAe (fun _ _=>rfl)) (qAa (pv 4) qAb)))) qAb))))) (qCh (qAp (op_neD (qFd hr)) (pv 6) (pv 5) (qAu _))))) (qAf (qAs qEr)) qAx))))))) (qAf (qAs qEr))))))))),?_⟩;refine⟨_,rfl,a,ns,0,rfl,ha,by decide,by decide,fun v d hd0=>?_⟩;refine⟨_,rfl,_,rfl,d,v,13,rfl,upd_same,by decide,by decide,fun q1 m0 ma mb=>?_⟩;rw[qCl];obtain⟨m0,rfl⟩:=hB9 ma;refine⟨d,q1,m0,rfl,upd_same,by omega,fun tp ts H1 d1 tp0 kt lts t36=>?_⟩;have tpd:tp≠d:=qEv upd_same tp0;obtain⟨as,htp,ptp⟩:=id kt;have las:=ptp.length;refine⟨_,rfl,tp,_,rfl,.inl (SqL.of htp),?_⟩;rw[hA1,las];refine⟨fun σ' H'=>∃ (bs:Addr) (R:List Nat),σ'=[some (.ref a),some (.ref d),some (.ref tp),some (iV ts.length),some (.ref bs),none,none,none,none,none]/\Ext H1 H'/\bs≠d/\LsN H' bs R/\Stp ts.length R/\∀ y,Spn R y↔y<2^ts.length/\∀ k,dot ts.length y (stK (nK ts) k)=false,?_,?_⟩
 ·have hK:KeptK H1 tp (nK ts):=⟨as,htp,by
   have:=qCd (f:=fun a:Addr=>a) (S:=fun a (t:Key×Key)=>H1 a=some (.tup [kV t.1,kV t.2])) (g:=fun t:Nat×Nat=>((Sum.inl (t.1:Int),Sum.inl (t.2:Int)):Key×Key)) ptp fun a t _ _ z=>z
   rw[List.map_id']at this;exact this⟩
  have lnK:(nK ts).length=ts.length:=hA1 _;refine⟨_,rfl,tp,nK ts,rfl,hK,(fun t ht=>by obtain⟨u,_,rfl⟩:=hA3.mp ht;exact .inl ⟨_,_,rfl⟩),by omega,fun r1 ks H2 e2 _ hks lks ck=>?_⟩;have lt:∀ x∈ks.map (stK (nK ts)),x<2^ts.length:=fun x hx=>by
   obtain⟨k,_,rfl⟩:=hA3.mp hx;have:=stK_lt (nK ts) k
   rwa [lnK]at this
  refine⟨r1,_,ts.length,rfl,hks,by rw[hA1];omega,by omega,lt,fun r2 S H3 e3 _ hS pS oS=>?_⟩;have sS:Stp ts.length S:=⟨_,lt,pS,oS⟩;have lS:=sS.len;refine⟨_,rfl,r2,S,ts.length,rfl,hS,by omega,by omega,sS.gm,sS.nd,fun bs R H4 e4 b0 hR pR oR=>?_⟩;obtain⟨sR,hsR⟩:=stp_cross lt pS oS pR oR;have E4:=e2.trans (e3.trans e4);obtain⟨q2,z2⟩:=d1.1;refine⟨bs,R,rfl,E4,fun e=>?_,hR,sR,fun y=>(hsR y).trans (and_congr_right fun _=>⟨fun h k=>?_,fun h t ht=>?_⟩)⟩
  ·rw[e,(e2.trans e3) _ _ z2]at b0;cases b0
  ·by_cases c:stK (nK ts) k=0
   ·rw[c];exact qCs _ _
   ·exact h _ (hA3.mpr ⟨k,ck k c,rfl⟩)
  ·obtain⟨k,_,rfl⟩:=hA3.mp ht;exact h k
 rintro _ H4 ⟨bs,R,rfl,e4,bsd,hR,sR,hsR⟩;have d4:=d1.ext e4;obtain⟨q4,z4⟩:=d4.1;have lR:=sR.len;refine⟨_,rfl,_,rfl,_,rfl,d,q4,ts.length,bs,R,rfl,z4,bsd,hR,by omega,by omega,sR.lt,fun T names ms H5 d5 T0 tI lN rN okN nmd lms ltm spm=>?_⟩;have d05:=d4.trans d5;have kt5:qDh H5 tp ts:=kept_dr z4 tpd ⟨as,e4 _ _ htp,Paired.mapP ptp fun a t z=>e4 _ _ z⟩ d5;have hR5:LsN H5 bs R:=d5.2 _ _ bsd hR;rw[<-lN]at sR hsR ltm;have lrw:(ms.map (qCw names)).length<=24:=by rw[hA1];omega
 have okR:∀ r∈ms.map (qCw names),SOk r:=fun r hr=>by obtain⟨x,_,rfl⟩:=hA3.mp hr;exact sok_row okN x
 refine⟨_,rfl,T,names,_,rfl,tI,lrw,fun hd H6 e6 hdn tH=>?_⟩;have E6:Ext H H6:=Ext.trans (dr_new hd0 d05) e6;have kt6:qDh H6 tp ts:=by
  obtain⟨bs',h1,h2⟩:=kt5;exact⟨bs',e6 _ _ h1,Paired.mapP h2 fun a t z=>e6 _ _ z⟩
 have hR6:=e6 _ _ hR5;have tI6:=tI.ext e6;have n12:names.length<=12:=by omega
 have tbo:TbO H6 hd names ms R:=⟨tH,rN,okN,n12,by omega,ltm,sR,spm⟩;obtain⟨na,nb,hT6,hna6,_⟩:=id tI6;have nmo:NmO H6 na bs names R:=⟨hna6,rN,nmd,n12,hR6,sR⟩;clear tI hR kt kt5 hR5 d1 d4 d5 d05 e4 e6 htp ptp;refine⟨_,rfl,a,_,rfl,.inl (E6.sqL ha),_,_,rfl,_,_,rfl,?_⟩;obtain⟨hi,ehi,h4,h7⟩:∃ hi:Int,(if (if (7:Int)<((ns.map V.int).length:Nat) then (7:Int) else ((ns.map V.int).length:Nat)) > 4 then (if (7:Int)<((ns.map V.int).length:Nat) then (7:Int) else ((ns.map V.int).length:Nat)) else 4)=hi/\4<=hi/\hi<=7:=⟨_,rfl,by split <;> omega,by split <;> (try split) <;> omega⟩;rw[ehi];refine⟨1,hi,rfl,⟨by decide,by decide,by omega,by omega⟩,?_⟩;refine qBh (lo:=1) (n:=(hi - 1).toNat) (fun i σ' H'=>∃ (x1 x7 x8 x9:Option V),σ'=[some (.ref a),x1,some (.ref tp),some (iV ts.length),some (.ref bs),some (.ref T),some (.ref hd),x7,x8,x9]/\Ext H6 H') ⟨_,none,none,none,rfl,Ext.refl _⟩ ?_ (fun σ' H' z=>q H');rintro i σ H7 hii ⟨x1,x7,x8,x9,rfl,e7⟩;refine⟨_,rfl,_,rfl,a,ns,_,rfl,(E6.trans e7).sqL ha,by omega,by omega,fun v2 dd hdd=>?_⟩;have nd7:=Ext.new hdd (.lst [.int v2]);have ned:∀ {b:Addr} {o:HO},H6 b=some o->b≠dd:=fun z=>qAj (e7 _ _ z) hdd
 have kt7:qDh (upd H7 dd (.lst [.int v2])) tp ts:=by
  obtain⟨bs',h1,h2⟩:=kt6;exact⟨bs',nd7 _ _ (e7 _ _ h1),Paired.mapP h2 fun a t z=>nd7 _ _ (e7 _ _ z)⟩
 have ned1:tp≠dd:=by obtain⟨_,h1,_⟩:=kt6;exact ned h1
 have no7:=(nmo.ext e7).ext nd7;have tb7:=(tbo.ext e7).ext nd7;have hT7:=nd7 _ _ (e7 _ _ hT6);refine⟨fun σ' H'=>∃ (r:Addr) (net:List Tr),σ'=[some (.ref a),some (.ref dd),some (.ref tp),some (iV ts.length),some (.ref bs),some (.ref T),some (.ref hd),some (.int (1+(i:Int))),some (.ref r),x9]/\Dr dd (upd H7 dd (.lst [.int v2])) H'/\r≠dd/\qDf H' r net/\nmS net=names/\(∀ t∈net,NmT t)/\SameSt net ts,?_,?_⟩
 ·refine⟨_,rfl,_,rfl,_,rfl,T,_,_,_,rfl,rfl,SqT.of hT7,(by exact qAr (j:=0) rfl),dd,tp,na,v2,ts,names,rfl,upd_same,ned1,ned hna6,kt7,t36,no7.hn,lN,by omega,fun r net H8 d8 r0 nt en nm same=>?_⟩;exact⟨r,net,rfl,d8,qEv upd_same r0,nt,en,nm,same⟩
 rintro _ H8 ⟨r,net,rfl,d8,rdd,nt,en,nm,same⟩;have lnn:net.length=names.length:=by rw[<-en,hA1]
 have nmn:∀ t∈net,qDb t.1:=fun t ht=>nmd _ (by rw[<-en];exact hA3.mpr ⟨t,ht,rfl⟩)
 have tx:∀ t∈net,TxS t:=fun t ht=>⟨(nmn t ht).ten,(nm t ht).1.ten,(nm t ht).2.1.ten.1,(nm t ht).2.1.ten.2⟩
 have gd:GoodN names R (NdOf net):=by
  refine⟨net,rfl,fun t ht=>⟨qD3 (nmn t ht),qD3 (nm t ht).1,qD3 (nm t ht).2.1,(nm t ht).2.2⟩,?_,en,fun y=>?_⟩
  ·have e:net.map (·.1)=names:=en;rw[e];exact rowP_of rN nmd
  ·rw[hsR y,lN];exact and_congr_right fun _=>(same _ _).symm
 have X8:=dr_new hdd d8;refine⟨fun σ' H'=>σ'=[some (.ref a),some (.ref dd),some (.ref tp),some (iV ts.length),some (.ref bs),some (.ref T),some (.ref hd),some (.int (1+(i:Int))),some (.ref r),x9]/\Ext H8 H',?_,?_⟩
 ·obtain⟨cs,hr8,pr8⟩:=id nt;refine⟨_,rfl,_,rfl,r,_,rfl,.inl (SqL.of hr8),fun l hl=>?_⟩;have Xl:=Ext.new hl (.lst (cs.map V.ref));refine⟨(by show 2<=sizeLine;decide),fun tu htu=>?_⟩;have Xt:=Ext.new htu (.tup [.str "net",.ref l]);have ntl:qDf (upd H8 l (.lst (cs.map V.ref))) l net:=⟨cs,upd_same,Paired.mapP pr8 fun a t z=>Xl _ _ z⟩;have X9:=Xl.trans Xt;refine⟨hd,.ref tu,names,ms,R,some (NdOf net),rfl,((tbo.ext e7).ext X8).ext X9,.inl ⟨tu,_,_,rfl,upd_same,(nts_net ntl (by omega) tx).ext Xt,rfl⟩,fun b H9 hb e9=>?_⟩;have bt:b=true:=hb.mpr ⟨_,rfl,gd⟩;subst bt;refine⟨true,true,rfl,_,rfl,?_⟩;rw[decide_eq_true rfl];exact qEp ⟨rfl,X9.trans e9⟩
 rintro _ H9 ⟨rfl,e9⟩;have d9:=d8.ext e9;obtain⟨q9,z9⟩:=d9.1;refine⟨fun σ' H'=>∃ (v:V) (o:Option Nd),σ'=[some (.ref a),some (.ref dd),some (.ref tp),some (iV ts.length),some (.ref bs),some (.ref T),some (.ref hd),some (.int (1+(i:Int))),some (.ref r),some v]/\Ext H7 H'/\PapAt H' v o,?_,?_⟩
 ·refine⟨_,rfl,_,rfl,dd,r,q9,net,rfl,z9,rdd,nt.ext e9,by omega,tx,fun v o H' dA pap=>?_⟩;exact⟨v,o,rfl,dr_new hdd (d9.trans dA),pap⟩
 rintro _ HA ⟨v,o,rfl,eA,pap⟩;have EA:=e7.trans eA;refine⟨_,rfl,_,rfl,hd,v,names,ms,R,o,rfl,tbo.ext EA,pap,fun b1 HB hb1 eB=>?_⟩;have EB:=EA.trans eB;refine⟨_,rfl,_,rfl,T,_,_,_,rfl,rfl,SqT.of (EB _ _ hT6),(by exact qAr (j:=0) rfl),_,rfl,v,na,bs,names,R,o,rfl,nmo.ext EB,pap.ext eB,fun b2 HC hb2 eC=>?_⟩;have eb:=bool_eq hb1 hb2;subst eb;refine⟨b1,b1,rfl,_,rfl,?_⟩;rw[decide_eq_true rfl];refine qEp ?_;have EC:=EB.trans eC;refine⟨_,rfl,_,rfl,_,_,dr_tab (tbo.tin.ext EC),dr_tab (tI6.ext EC),qF8 okN okR,qF8 okN okR,_,rfl,?_⟩;rw[if_pos rfl,eqv_tab];exact qEp ⟨_,_,_,_,rfl,EC⟩
end
end My
namespace My
open PySem L2
theorem len1 {α:Type} {us:List α} (h:us.length=1):∃ a,us=[a]:=List.length_eq_one_iff.mp h
theorem qGk {α:Type} {us:List α} (h:us.length=2):∃ a b,us=[a,b]:=by
 match us,h with | [a,b],_=>exact⟨a,b,rfl⟩
theorem all_mk {l:PySem.W.OpenLaw} {w:World} {K:PySem.W.Frag} {h:Heap} {mg:Str->Option Value} {fa f1 f2 f3 f4 f5 f6 f7 f8 f9 f10 f11 f12 f13 f14 f15 f16 f17 f18 f19 f20 f21 f22 f23 f24 f25 f26 f27 f28 f29 f30 f31 f32 f33 f34 f35 f36 f37 f38 f39 f40 f41 f42:Addr} {tk_SIGNS tk_MOST_SIGNS:Tok} (X:K.In h) (G:h.Ns mainGlobals mg) (hfa:mg "law" = some (.ref fa))
  {od1 an1 od2 an2 od3 an3 od4 an4 od5 an5 od6 an6 od7 an7 od8 an8 od9 an9 od10 an10 od11 an11 od12 an12 od13 an13 od14 an14 od15 an15 od16 an16 od17 an17 od18 an18 od19 an19 od20 an20 od21 an21 od22 an22 od23 an23 od24 an24 od25 an25 od26 an26 od27 an27 od28 an28 od29 an29 od30 an30 od31 an31 od32 an32 od33 an33 od34 an34 od35 an35 od36 an36 od37 an37 od38 an38 od39 an39 od40 an40 od41 an41 od42 an42:Option Addr} {sl1 sl2 sl3 sl4 sl5 sl6 sl7 sl8 sl9 sl10 sl11 sl12 sl13 sl14 sl15 sl16 sl17 sl18 sl19 sl20 sl21 sl22 sl23 sl24 sl25 sl26 sl27 sl28 sl29 sl30 sl31 sl32 sl33 sl34 sl35 sl36 sl37 sl38 sl39 sl40 sl41 sl42:Array (Option Value)} {oc1 kV1 dc1 pm1 cd1 ct1 oc2 kV2 dc2 pm2 cd2 ct2 oc3 kV3 dc3 pm3 cd3 ct3 oc4 kV4 dc4 pm4 cd4 ct4 oc5 kV5 dc5 pm5 cd5 ct5 oc6 kV6 dc6 pm6 cd6 ct6 oc7 kV7 dc7 pm7 cd7 ct7 oc8 kV8 dc8 pm8 cd8 ct8 oc9 kV9 dc9 pm9 cd9 ct9 oc10 kV10 dc10 pm10 cd10 ct10 oc11 kV11 dc11 pm11 cd11 ct11 oc12 kV12 dc12 pm12 cd12 ct12 oc13 kV13 dc13 pm13 cd13 ct13 oc14 kV14 dc14 pm14 cd14 ct14 oc15 kV15 dc15 pm15 cd15 ct15 oc16 kV16 dc16 pm16 cd16 ct16 oc17 kV17 dc17 pm17 cd17 ct17 oc18 kV18 dc18 pm18 cd18 ct18 oc19 kV19 dc19 pm19 cd19 ct19 oc20 kV20 dc20 pm20 cd20 ct20 oc21 kV21 dc21 pm21 cd21 ct21 oc22 kV22 dc22 pm22 cd22 ct22 oc23 kV23 dc23 pm23 cd23 ct23 oc24 kV24 dc24 pm24 cd24 ct24 oc25 kV25 dc25 pm25 cd25 ct25 oc26 kV26 dc26 pm26 cd26 ct26 oc27 kV27 dc27 pm27 cd27 ct27 oc28 kV28 dc28 pm28 cd28 ct28 oc29 kV29 dc29 pm29 cd29 ct29 oc30 kV30 dc30 pm30 cd30 ct30 oc31 kV31 dc31 pm31 cd31 ct31 oc32 kV32 dc32 pm32 cd32 ct32 oc33 kV33 dc33 pm33 cd33 ct33 oc34 kV34 dc34 pm34 cd34 ct34 oc35 kV35 dc35 pm35 cd35 ct35 oc36 kV36 dc36 pm36 cd36 ct36 oc37 kV37 dc37 pm37 cd37 ct37 oc38 kV38 dc38 pm38 cd38 ct38 oc39 kV39 dc39 pm39 cd39 ct39 oc40 kV40 dc40 pm40 cd40 ct40 oc41 kV41 dc41 pm41 cd41 ct41 oc42 kV42 dc42 pm42 cd42 ct42:Value}
  (a1:PySem.W.nsIn K mainGlobals "is_name" = some (some (.ref f1))) (l1:K.lookup f1=some ⟨oc1,od1,.func (PySem.W.fnOf "is_name" "is_name" (qAo sName) (qAn sName) (qAd sName) .none kV1 dc1 pm1 an1 cd1 ct1),sl1⟩) (c1:PySem.W.codeIn K cd1 "is_name" = true) (k1:PySem.W.keepIn K (.ref f1)=true)
  (a2:PySem.W.nsIn K mainGlobals "is_row" = some (some (.ref f2))) (l2:K.lookup f2=some ⟨oc2,od2,.func (PySem.W.fnOf "is_row" "is_row" (qAo qEl) (qAn qEl) (qAd qEl) .none kV2 dc2 pm2 an2 cd2 ct2),sl2⟩) (c2:PySem.W.codeIn K cd2 "is_row" = true) (k2:PySem.W.keepIn K (.ref f2)=true)
  (a3:PySem.W.nsIn K mainGlobals "mask_of" = some (some (.ref f3))) (l3:K.lookup f3=some ⟨oc3,od3,.func (PySem.W.fnOf "mask_of" "mask_of" (qAo sMask) (qAn sMask) (qAd sMask) .none kV3 dc3 pm3 an3 cd3 ct3),sl3⟩) (c3:PySem.W.codeIn K cd3 "mask_of" = true) (k3:PySem.W.keepIn K (.ref f3)=true)
  (a4:PySem.W.nsIn K mainGlobals "row_of" = some (some (.ref f4))) (l4:K.lookup f4=some ⟨oc4,od4,.func (PySem.W.fnOf "row_of" "row_of" (qAo qFa) (qAn qFa) (qAd qFa) .none kV4 dc4 pm4 an4 cd4 ct4),sl4⟩) (c4:PySem.W.codeIn K cd4 "row_of" = true) (k4:PySem.W.keepIn K (.ref f4)=true)
  (a5:PySem.W.nsIn K mainGlobals "lessened" = some (some (.ref f5))) (l5:K.lookup f5=some ⟨oc5,od5,.func (PySem.W.fnOf "lessened" "lessened" (qAo sLess) (qAn sLess) (qAd sLess) .none kV5 dc5 pm5 an5 cd5 ct5),sl5⟩) (c5:PySem.W.codeIn K cd5 "lessened" = true) (k5:PySem.W.keepIn K (.ref f5)=true)
  (a6:PySem.W.nsIn K mainGlobals "reduced" = some (some (.ref f6))) (l6:K.lookup f6=some ⟨oc6,od6,.func (PySem.W.fnOf "reduced" "reduced" (qAo sRedu) (qAn sRedu) (qAd sRedu) .none kV6 dc6 pm6 an6 cd6 ct6),sl6⟩) (c6:PySem.W.codeIn K cd6 "reduced" = true) (k6:PySem.W.keepIn K (.ref f6)=true)
  (a7:PySem.W.nsIn K mainGlobals "lead_of" = some (some (.ref f7))) (l7:K.lookup f7=some ⟨oc7,od7,.func (PySem.W.fnOf "lead_of" "lead_of" (qAo sLead) (qAn sLead) (qAd sLead) .none kV7 dc7 pm7 an7 cd7 ct7),sl7⟩) (c7:PySem.W.codeIn K cd7 "lead_of" = true) (k7:PySem.W.keepIn K (.ref f7)=true)
  (a8:PySem.W.nsIn K mainGlobals "crossed_masks" = some (some (.ref f8))) (l8:K.lookup f8=some ⟨oc8,od8,.func (PySem.W.fnOf "crossed_masks" "crossed_masks" (qAo sCrM) (qAn sCrM) (qAd sCrM) .none kV8 dc8 pm8 an8 cd8 ct8),sl8⟩) (c8:PySem.W.codeIn K cd8 "crossed_masks" = true) (k8:PySem.W.keepIn K (.ref f8)=true)
  (a9:PySem.W.nsIn K mainGlobals "table_from" = some (some (.ref f9))) (l9:K.lookup f9=some ⟨oc9,od9,.func (PySem.W.fnOf "table_from" "table_from" (qAo sTabF) (qAn sTabF) (qAd sTabF) .none kV9 dc9 pm9 an9 cd9 ct9),sl9⟩) (c9:PySem.W.codeIn K cd9 "table_from" = true) (k9:PySem.W.keepIn K (.ref f9)=true)
  (a10:PySem.W.nsIn K mainGlobals "step_masks" = some (some (.ref f10))) (l10:K.lookup f10=some ⟨oc10,od10,.func (PySem.W.fnOf "step_masks" "step_masks" (qAo qE9) (qAn qE9) (qAd qE9) .none kV10 dc10 pm10 an10 cd10 ct10),sl10⟩) (c10:PySem.W.codeIn K cd10 "step_masks" = true) (k10:PySem.W.keepIn K (.ref f10)=true)
  (a11:PySem.W.nsIn K mainGlobals "steps" = some (some (.ref f11))) (l11:K.lookup f11=some ⟨oc11,od11,.func (PySem.W.fnOf "steps" "steps" (qAo sStps) (qAn sStps) (qAd sStps) .none kV11 dc11 pm11 an11 cd11 ct11),sl11⟩) (c11:PySem.W.codeIn K cd11 "steps" = true) (k11:PySem.W.keepIn K (.ref f11)=true)
  (a12:PySem.W.nsIn K mainGlobals "alike" = some (some (.ref f12))) (l12:K.lookup f12=some ⟨oc12,od12,.func (PySem.W.fnOf "alike" "alike" (qAo sAlk) (qAn sAlk) (qAd sAlk) .none kV12 dc12 pm12 an12 cd12 ct12),sl12⟩) (c12:PySem.W.codeIn K cd12 "alike" = true) (k12:PySem.W.keepIn K (.ref f12)=true)
  (a13:PySem.W.nsIn K mainGlobals "crossed" = some (some (.ref f13))) (l13:K.lookup f13=some ⟨oc13,od13,.func (PySem.W.fnOf "crossed" "crossed" (qAo qGa) (qAn qGa) (qAd qGa) .none kV13 dc13 pm13 an13 cd13 ct13),sl13⟩) (c13:PySem.W.codeIn K cd13 "crossed" = true) (k13:PySem.W.keepIn K (.ref f13)=true)
  (a14:PySem.W.nsIn K mainGlobals "is_tie" = some (some (.ref f14))) (l14:K.lookup f14=some ⟨oc14,od14,.func (PySem.W.fnOf "is_tie" "is_tie" (qAo qFb) (qAn qFb) (qAd qFb) .none kV14 dc14 pm14 an14 cd14 ct14),sl14⟩) (c14:PySem.W.codeIn K cd14 "is_tie" = true) (k14:PySem.W.keepIn K (.ref f14)=true)
  (a15:PySem.W.nsIn K mainGlobals "has_net_form" = some (some (.ref f15))) (l15:K.lookup f15=some ⟨oc15,od15,.func (PySem.W.fnOf "has_net_form" "has_net_form" (qAo sForm) (qAn sForm) (qAd sForm) .none kV15 dc15 pm15 an15 cd15 ct15),sl15⟩) (c15:PySem.W.codeIn K cd15 "has_net_form" = true) (k15:PySem.W.keepIn K (.ref f15)=true)
  (a16:PySem.W.nsIn K mainGlobals "ties_of" = some (some (.ref f16))) (l16:K.lookup f16=some ⟨oc16,od16,.func (PySem.W.fnOf "ties_of" "ties_of" (qAo sTies) (qAn sTies) (qAd sTies) .none kV16 dc16 pm16 an16 cd16 ct16),sl16⟩) (c16:PySem.W.codeIn K cd16 "ties_of" = true) (k16:PySem.W.keepIn K (.ref f16)=true)
  (a17:PySem.W.nsIn K mainGlobals "points" = some (some (.ref f17))) (l17:K.lookup f17=some ⟨oc17,od17,.func (PySem.W.fnOf "points" "points" (qAo qDk) (qAn qDk) (qAd qDk) .none kV17 dc17 pm17 an17 cd17 ct17),sl17⟩) (c17:PySem.W.codeIn K cd17 "points" = true) (k17:PySem.W.keepIn K (.ref f17)=true)
  (a18:PySem.W.nsIn K mainGlobals "met_once" = some (some (.ref f18))) (l18:K.lookup f18=some ⟨oc18,od18,.func (PySem.W.fnOf "met_once" "met_once" (qAo sMet) (qAn sMet) (qAd sMet) .none kV18 dc18 pm18 an18 cd18 ct18),sl18⟩) (c18:PySem.W.codeIn K cd18 "met_once" = true) (k18:PySem.W.keepIn K (.ref f18)=true)
  (a19:PySem.W.nsIn K mainGlobals "table_of" = some (some (.ref f19))) (l19:K.lookup f19=some ⟨oc19,od19,.func (PySem.W.fnOf "table_of" "table_of" (qAo qE8) (qAn qE8) (qAd qE8) .none kV19 dc19 pm19 an19 cd19 ct19),sl19⟩) (c19:PySem.W.codeIn K cd19 "table_of" = true) (k19:PySem.W.keepIn K (.ref f19)=true)
  (a20:PySem.W.nsIn K mainGlobals "is_tuple" = some (some (.ref f20))) (l20:K.lookup f20=some ⟨oc20,od20,.func (PySem.W.fnOf "is_tuple" "is_tuple" (qAo sIsTu) (qAn sIsTu) (qAd sIsTu) .none kV20 dc20 pm20 an20 cd20 ct20),sl20⟩) (c20:PySem.W.codeIn K cd20 "is_tuple" = true) (k20:PySem.W.keepIn K (.ref f20)=true)
  (a21:PySem.W.nsIn K mainGlobals "is_net_of" = some (some (.ref f21))) (l21:K.lookup f21=some ⟨oc21,od21,.func (PySem.W.fnOf "is_net_of" "is_net_of" (qAo sINO) (qAn sINO) (qAd sINO) .none kV21 dc21 pm21 an21 cd21 ct21),sl21⟩) (c21:PySem.W.codeIn K cd21 "is_net_of" = true) (k21:PySem.W.keepIn K (.ref f21)=true)
  (a22:PySem.W.nsIn K mainGlobals "stands" = some (some (.ref f22))) (l22:K.lookup f22=some ⟨oc22,od22,.func (PySem.W.fnOf "stands" "stands" (qAo sStan) (qAn sStan) (qAd sStan) .none kV22 dc22 pm22 an22 cd22 ct22),sl22⟩) (c22:PySem.W.codeIn K cd22 "stands" = true) (k22:PySem.W.keepIn K (.ref f22)=true)
  (a23:PySem.W.nsIn K mainGlobals "_law_cell_at" = some (some (.ref f23))) (l23:K.lookup f23=some ⟨oc23,od23,.func (PySem.W.fnOf "_law_cell_at" "_law_cell_at" (qAo sCell) (qAn sCell) (qAd sCell) .none kV23 dc23 pm23 an23 cd23 ct23),sl23⟩) (c23:PySem.W.codeIn K cd23 "_law_cell_at" = true) (k23:PySem.W.keepIn K (.ref f23)=true)
  (a24:PySem.W.nsIn K mainGlobals "_law_purse" = some (some (.ref f24))) (l24:K.lookup f24=some ⟨oc24,od24,.func (PySem.W.fnOf "_law_purse" "_law_purse" (qAo qF9) (qAn qF9) (qAd qF9) .none kV24 dc24 pm24 an24 cd24 ct24),sl24⟩) (c24:PySem.W.codeIn K cd24 "_law_purse" = true) (k24:PySem.W.keepIn K (.ref f24)=true)
  (a25:PySem.W.nsIn K mainGlobals "_law_take" = some (some (.ref f25))) (l25:K.lookup f25=some ⟨oc25,od25,.func (PySem.W.fnOf "_law_take" "_law_take" (qAo sTake) (qAn sTake) (qAd sTake) .none kV25 dc25 pm25 an25 cd25 ct25),sl25⟩) (c25:PySem.W.codeIn K cd25 "_law_take" = true) (k25:PySem.W.keepIn K (.ref f25)=true)
  (a26:PySem.W.nsIn K mainGlobals "_law_names" = some (some (.ref f26))) (l26:K.lookup f26=some ⟨oc26,od26,.func (PySem.W.fnOf "_law_names" "_law_names" (qAo qDu) (qAn qDu) (qAd qDu) .none kV26 dc26 pm26 an26 cd26 ct26),sl26⟩) (c26:PySem.W.codeIn K cd26 "_law_names" = true) (k26:PySem.W.keepIn K (.ref f26)=true)
  (a27:PySem.W.nsIn K mainGlobals "_law_lead" = some (some (.ref f27))) (l27:K.lookup f27=some ⟨oc27,od27,.func (PySem.W.fnOf "_law_lead" "_law_lead" (qAo sLLd) (qAn sLLd) (qAd sLLd) .none kV27 dc27 pm27 an27 cd27 ct27),sl27⟩) (c27:PySem.W.codeIn K cd27 "_law_lead" = true) (k27:PySem.W.keepIn K (.ref f27)=true)
  (a28:PySem.W.nsIn K mainGlobals "_law_steps" = some (some (.ref f28))) (l28:K.lookup f28=some ⟨oc28,od28,.func (PySem.W.fnOf "_law_steps" "_law_steps" (qAo sLSt) (qAn sLSt) (qAd sLSt) .none kV28 dc28 pm28 an28 cd28 ct28),sl28⟩) (c28:PySem.W.codeIn K cd28 "_law_steps" = true) (k28:PySem.W.keepIn K (.ref f28)=true)
  (a29:PySem.W.nsIn K mainGlobals "_law_crossed" = some (some (.ref f29))) (l29:K.lookup f29=some ⟨oc29,od29,.func (PySem.W.fnOf "_law_crossed" "_law_crossed" (qAo sLCr) (qAn sLCr) (qAd sLCr) .none kV29 dc29 pm29 an29 cd29 ct29),sl29⟩) (c29:PySem.W.codeIn K cd29 "_law_crossed" = true) (k29:PySem.W.keepIn K (.ref f29)=true)
  (a30:PySem.W.nsIn K mainGlobals "_law_ties" = some (some (.ref f30))) (l30:K.lookup f30=some ⟨oc30,od30,.func (PySem.W.fnOf "_law_ties" "_law_ties" (qAo sLTi) (qAn sLTi) (qAd sLTi) .none kV30 dc30 pm30 an30 cd30 ct30),sl30⟩) (c30:PySem.W.codeIn K cd30 "_law_ties" = true) (k30:PySem.W.keepIn K (.ref f30)=true)
  (a31:PySem.W.nsIn K mainGlobals "_law_star_masks" = some (some (.ref f31))) (l31:K.lookup f31=some ⟨oc31,od31,.func (PySem.W.fnOf "_law_star_masks" "_law_star_masks" (qAo sStM) (qAn sStM) (qAd sStM) .none kV31 dc31 pm31 an31 cd31 ct31),sl31⟩) (c31:PySem.W.codeIn K cd31 "_law_star_masks" = true) (k31:PySem.W.keepIn K (.ref f31)=true)
  (a32:PySem.W.nsIn K mainGlobals "_law_row" = some (some (.ref f32))) (l32:K.lookup f32=some ⟨oc32,od32,.func (PySem.W.fnOf "_law_row" "_law_row" (qAo sLRow) (qAn sLRow) (qAd sLRow) .none kV32 dc32 pm32 an32 cd32 ct32),sl32⟩) (c32:PySem.W.codeIn K cd32 "_law_row" = true) (k32:PySem.W.keepIn K (.ref f32)=true)
  (a33:PySem.W.nsIn K mainGlobals "_law_table" = some (some (.ref f33))) (l33:K.lookup f33=some ⟨oc33,od33,.func (PySem.W.fnOf "_law_table" "_law_table" (qAo sTab) (qAn sTab) (qAd sTab) .none kV33 dc33 pm33 an33 cd33 ct33),sl33⟩) (c33:PySem.W.codeIn K cd33 "_law_table" = true) (k33:PySem.W.keepIn K (.ref f33)=true)
  (a34:PySem.W.nsIn K mainGlobals "_law_copy" = some (some (.ref f34))) (l34:K.lookup f34=some ⟨oc34,od34,.func (PySem.W.fnOf "_law_copy" "_law_copy" (qAo sLCop) (qAn sLCop) (qAd sLCop) .none kV34 dc34 pm34 an34 cd34 ct34),sl34⟩) (c34:PySem.W.codeIn K cd34 "_law_copy" = true) (k34:PySem.W.keepIn K (.ref f34)=true)
  (a35:PySem.W.nsIn K mainGlobals "_law_says" = some (some (.ref f35))) (l35:K.lookup f35=some ⟨oc35,od35,.func (PySem.W.fnOf "_law_says" "_law_says" (qAo sSays) (qAn sSays) (qAd sSays) .none kV35 dc35 pm35 an35 cd35 ct35),sl35⟩) (c35:PySem.W.codeIn K cd35 "_law_says" = true) (k35:PySem.W.keepIn K (.ref f35)=true)
  (a36:PySem.W.nsIn K mainGlobals "_law_is_point" = some (some (.ref f36))) (l36:K.lookup f36=some ⟨oc36,od36,.func (PySem.W.fnOf "_law_is_point" "_law_is_point" (qAo sLPt) (qAn sLPt) (qAd sLPt) .none kV36 dc36 pm36 an36 cd36 ct36),sl36⟩) (c36:PySem.W.codeIn K cd36 "_law_is_point" = true) (k36:PySem.W.keepIn K (.ref f36)=true)
  (a37:PySem.W.nsIn K mainGlobals "_law_net_pairs" = some (some (.ref f37))) (l37:K.lookup f37=some ⟨oc37,od37,.func (PySem.W.fnOf "_law_net_pairs" "_law_net_pairs" (qAo sNPa) (qAn sNPa) (qAd sNPa) .none kV37 dc37 pm37 an37 cd37 ct37),sl37⟩) (c37:PySem.W.codeIn K cd37 "_law_net_pairs" = true) (k37:PySem.W.keepIn K (.ref f37)=true)
  (a38:PySem.W.nsIn K mainGlobals "_law_net_good" = some (some (.ref f38))) (l38:K.lookup f38=some ⟨oc38,od38,.func (PySem.W.fnOf "_law_net_good" "_law_net_good" (qAo sNGo) (qAn sNGo) (qAd sNGo) .none kV38 dc38 pm38 an38 cd38 ct38),sl38⟩) (c38:PySem.W.codeIn K cd38 "_law_net_good" = true) (k38:PySem.W.keepIn K (.ref f38)=true)
  (a39:PySem.W.nsIn K mainGlobals "_law_net_of" = some (some (.ref f39))) (l39:K.lookup f39=some ⟨oc39,od39,.func (PySem.W.fnOf "_law_net_of" "_law_net_of" (qAo sNOf) (qAn sNOf) (qAd sNOf) .none kV39 dc39 pm39 an39 cd39 ct39),sl39⟩) (c39:PySem.W.codeIn K cd39 "_law_net_of" = true) (k39:PySem.W.keepIn K (.ref f39)=true)
  (a40:PySem.W.nsIn K mainGlobals "_law_spoilt" = some (some (.ref f40))) (l40:K.lookup f40=some ⟨oc40,od40,.func (PySem.W.fnOf "_law_spoilt" "_law_spoilt" (qAo sSpo) (qAn sSpo) (qAd sSpo) .none kV40 dc40 pm40 an40 cd40 ct40),sl40⟩) (c40:PySem.W.codeIn K cd40 "_law_spoilt" = true) (k40:PySem.W.keepIn K (.ref f40)=true)
  (a41:PySem.W.nsIn K mainGlobals "_law_due" = some (some (.ref f41))) (l41:K.lookup f41=some ⟨oc41,od41,.func (PySem.W.fnOf "_law_due" "_law_due" (qAo sDue) (qAn sDue) (qAd sDue) .none kV41 dc41 pm41 an41 cd41 ct41),sl41⟩) (c41:PySem.W.codeIn K cd41 "_law_due" = true) (k41:PySem.W.keepIn K (.ref f41)=true)
  (a42:PySem.W.nsIn K mainGlobals "law" = some (some (.ref f42))) (l42:K.lookup f42=some ⟨oc42,od42,.func (PySem.W.fnOf "law" "law" (qAo sLaw) (qAn sLaw) (qAd sLaw) .none kV42 dc42 pm42 an42 cd42 ct42),sl42⟩) (c42:PySem.W.codeIn K cd42 "law" = true) (k42:PySem.W.keepIn K (.ref f42)=true)
  (q1:PySem.W.nsIn K mainGlobals "SIGNS" = some (some (.str sg tk_SIGNS)))
  (q2:PySem.W.nsIn K mainGlobals "MOST_SIGNS" = some (some (.int 6 tk_MOST_SIGNS)))
  (z1:PySem.W.nsIn K mainGlobals "all" = some none)
  (z2:PySem.W.nsIn K mainGlobals "bool" = some none)
  (z3:PySem.W.nsIn K mainGlobals "enumerate" = some none)
  (z4:PySem.W.nsIn K mainGlobals "int" = some none)
  (z5:PySem.W.nsIn K mainGlobals "isinstance" = some none)
  (z6:PySem.W.nsIn K mainGlobals "len" = some none)
  (z7:PySem.W.nsIn K mainGlobals "list" = some none)
  (z8:PySem.W.nsIn K mainGlobals "max" = some none)
  (z9:PySem.W.nsIn K mainGlobals "min" = some none)
  (z10:PySem.W.nsIn K mainGlobals "range" = some none)
  (z11:PySem.W.nsIn K mainGlobals "set" = some none)
  (z12:PySem.W.nsIn K mainGlobals "sorted" = some none)
  (z13:PySem.W.nsIn K mainGlobals "str" = some none)
  (z14:PySem.W.nsIn K mainGlobals "sum" = some none)
  (z15:PySem.W.nsIn K mainGlobals "tuple" = some none)
  (z16:PySem.W.nsIn K mainGlobals "zip" = some none)
  : ∃ fd:FuncData,(∀ (s:Shared) (v:Value),BindsTo s fd ⟨[v],[]⟩ [("_law_script",v)])/\∀ base:Heap,K.In base->base.Ns mainGlobals mg->FnOk l.prog w K mg base CX0 8 fa fd ["_law_script"] (spLaw K):=by
 have e:=hfa.symm.trans (hAg X G a42);cases e;have F1:=qAy (st:=sName) l1 c1 k1;have F2:=qAy (st:=qEl) l2 c2 k2;have F3:=qAy (st:=sMask) l3 c3 k3;have F4:=qAy (st:=qFa) l4 c4 k4;have F5:=qAy (st:=sLess) l5 c5 k5;have F6:=qAy (st:=sRedu) l6 c6 k6;have F7:=qAy (st:=sLead) l7 c7 k7;have F8:=qAy (st:=sCrM) l8 c8 k8;have F9:=qAy (st:=sTabF) l9 c9 k9;have F10:=qAy (st:=qE9) l10 c10 k10;have F11:=qAy (st:=sStps) l11 c11 k11;have F12:=qAy (st:=sAlk) l12 c12 k12;have F13:=qAy (st:=qGa) l13 c13 k13;have F14:=qAy (st:=qFb) l14 c14 k14;have F15:=qAy (st:=sForm) l15 c15 k15;have F16:=qAy (st:=sTies) l16 c16 k16;have F17:=qAy (st:=qDk) l17 c17 k17;have F18:=qAy (st:=sMet) l18 c18 k18;have F19:=qAy (st:=qE8) l19 c19 k19;have F20:=qAy (st:=sIsTu) l20 c20 k20;have F21:=qAy (st:=sINO) l21 c21 k21;have F22:=qAy (st:=sStan) l22 c22 k22;have F23:=qAy (st:=sCell) l23 c23 k23;have F24:=qAy (st:=qF9) l24 c24 k24;have F25:=qAy (st:=sTake) l25 c25 k25;have F26:=qAy (st:=qDu) l26 c26 k26;have F27:=qAy (st:=sLLd) l27 c27 k27;have F28:=qAy (st:=sLSt) l28 c28 k28;have F29:=qAy (st:=sLCr) l29 c29 k29;have F30:=qAy (st:=sLTi) l30 c30 k30;have F31:=qAy (st:=sStM) l31 c31 k31;have F32:=qAy (st:=sLRow) l32 c32 k32;have F33:=qAy (st:=sTab) l33 c33 k33;have F34:=qAy (st:=sLCop) l34 c34 k34;have F35:=qAy (st:=sSays) l35 c35 k35;have F36:=qAy (st:=sLPt) l36 c36 k36;have F37:=qAy (st:=sNPa) l37 c37 k37;have F38:=qAy (st:=sNGo) l38 c38 k38;have F39:=qAy (st:=sNOf) l39 c39 k39;have F40:=qAy (st:=sSpo) l40 c40 k40;have F41:=qAy (st:=sDue) l41 c41 k41;have F42:=qAy (st:=sLaw) l42 c42 k42;have b1:=F1.binds (ps:=["thing"]) fun _ _ _ _ _ _ us hl=>by obtain⟨_,rfl⟩:=len1 hl;rfl
 have m1:=hAg X G a1;have b2:=F2.binds (ps:=["thing"]) fun _ _ _ _ _ _ us hl=>by obtain⟨_,rfl⟩:=len1 hl;rfl
 have m2:=hAg X G a2;have b3:=F3.binds (ps:=["names","row"]) fun _ _ _ _ _ _ us hl=>by obtain⟨_,_,rfl⟩:=qGk hl;rfl
 have m3:=hAg X G a3;have b4:=F4.binds (ps:=["names","mask"]) fun _ _ _ _ _ _ us hl=>by obtain⟨_,_,rfl⟩:=qGk hl;rfl
 have m4:=hAg X G a4;have b5:=F5.binds (ps:=["mask","kept"]) fun _ _ _ _ _ _ us hl=>by obtain⟨_,_,rfl⟩:=qGk hl;rfl
 have m5:=hAg X G a5;have b6:=F6.binds (ps:=["masks"]) fun _ _ _ _ _ _ us hl=>by obtain⟨_,rfl⟩:=len1 hl;rfl
 have m6:=hAg X G a6;have b7:=F7.binds (ps:=["mask"]) fun _ _ _ _ _ _ us hl=>by obtain⟨_,rfl⟩:=len1 hl;rfl
 have m7:=hAg X G a7;have b8:=F8.binds (ps:=["steps","width"]) fun _ _ _ _ _ _ us hl=>by obtain⟨_,_,rfl⟩:=qGk hl;rfl
 have m8:=hAg X G a8;have b9:=F9.binds (ps:=["names","masks"]) fun _ _ _ _ _ _ us hl=>by obtain⟨_,_,rfl⟩:=qGk hl;rfl
 have m9:=hAg X G a9;have b10:=F10.binds (ps:=["table"]) fun _ _ _ _ _ _ us hl=>by obtain⟨_,rfl⟩:=len1 hl;rfl
 have m10:=hAg X G a10;have b11:=F11.binds (ps:=["table"]) fun _ _ _ _ _ _ us hl=>by obtain⟨_,rfl⟩:=len1 hl;rfl
 have m11:=hAg X G a11;have b12:=F12.binds (ps:=["one","other"]) fun _ _ _ _ _ _ us hl=>by obtain⟨_,_,rfl⟩:=qGk hl;rfl
 have m12:=hAg X G a12;have b13:=F13.binds (ps:=["table"]) fun _ _ _ _ _ _ us hl=>by obtain⟨_,rfl⟩:=len1 hl;rfl
 have m13:=hAg X G a13;have b14:=F14.binds (ps:=["thing"]) fun _ _ _ _ _ _ us hl=>by obtain⟨_,rfl⟩:=len1 hl;rfl
 have m14:=hAg X G a14;have b15:=F15.binds (ps:=["thing"]) fun _ _ _ _ _ _ us hl=>by obtain⟨_,rfl⟩:=len1 hl;rfl
 have m15:=hAg X G a15;have b16:=F16.binds (ps:=["net"]) fun _ _ _ _ _ _ us hl=>by obtain⟨_,rfl⟩:=len1 hl;rfl
 have m16:=hAg X G a16;have b17:=F17.binds (ps:=["net"]) fun _ _ _ _ _ _ us hl=>by obtain⟨_,rfl⟩:=len1 hl;rfl
 have m17:=hAg X G a17;have b18:=F18.binds (ps:=["net","point"]) fun _ _ _ _ _ _ us hl=>by obtain⟨_,_,rfl⟩:=qGk hl;rfl
 have m18:=hAg X G a18;have b19:=F19.binds (ps:=["net"]) fun _ _ _ _ _ _ us hl=>by obtain⟨_,rfl⟩:=len1 hl;rfl
 have m19:=hAg X G a19;have b20:=F20.binds (ps:=["thing","many"]) fun _ _ _ _ _ _ us hl=>by obtain⟨_,_,rfl⟩:=qGk hl;rfl
 have m20:=hAg X G a20;have b21:=F21.binds (ps:=["table","thing"]) fun _ _ _ _ _ _ us hl=>by obtain⟨_,_,rfl⟩:=qGk hl;rfl
 have m21:=hAg X G a21;have b22:=F22.binds (ps:=["table","paper"]) fun _ _ _ _ _ _ us hl=>by obtain⟨_,_,rfl⟩:=qGk hl;rfl
 have m22:=hAg X G a22;have b23:=F23.binds (ps:=["_law_script","_law_k"]) fun _ _ _ _ _ _ us hl=>by obtain⟨_,_,rfl⟩:=qGk hl;rfl
 have m23:=hAg X G a23;have b24:=F24.binds (ps:=["_law_script","_law_at"]) fun _ _ _ _ _ _ us hl=>by obtain⟨_,_,rfl⟩:=qGk hl;rfl
 have m24:=hAg X G a24;have b25:=F25.binds (ps:=["_law_draw","_law_many"]) fun _ _ _ _ _ _ us hl=>by obtain⟨_,_,rfl⟩:=qGk hl;rfl
 have m25:=hAg X G a25;have b26:=F26.binds (ps:=["_law_draw","_law_many"]) fun _ _ _ _ _ _ us hl=>by obtain⟨_,_,rfl⟩:=qGk hl;rfl
 have m26:=hAg X G a26;have b27:=F27.binds (ps:=["_law_mask"]) fun _ _ _ _ _ _ us hl=>by obtain⟨_,rfl⟩:=len1 hl;rfl
 have m27:=hAg X G a27;have b28:=F28.binds (ps:=["_law_masks"]) fun _ _ _ _ _ _ us hl=>by obtain⟨_,rfl⟩:=len1 hl;rfl
 have m28:=hAg X G a28;have b29:=F29.binds (ps:=["_law_base","_law_many"]) fun _ _ _ _ _ _ us hl=>by obtain⟨_,_,rfl⟩:=qGk hl;rfl
 have m29:=hAg X G a29;have b30:=F30.binds (ps:=["_law_draw","_law_many"]) fun _ _ _ _ _ _ us hl=>by obtain⟨_,_,rfl⟩:=qGk hl;rfl
 have m30:=hAg X G a30;have b31:=F31.binds (ps:=["_law_ties_here"]) fun _ _ _ _ _ _ us hl=>by obtain⟨_,rfl⟩:=len1 hl;rfl
 have m31:=hAg X G a31;have b32:=F32.binds (ps:=["_law_names_here","_law_mask"]) fun _ _ _ _ _ _ us hl=>by obtain⟨_,_,rfl⟩:=qGk hl;rfl
 have m32:=hAg X G a32;have b33:=F33.binds (ps:=["_law_draw","_law_many","_law_base"]) fun _ _ _ _ _ _ us hl=>by obtain⟨_,_,_,rfl⟩:=len3 hl;rfl
 have m33:=hAg X G a33;have b34:=F34.binds (ps:=["_law_table_here"]) fun _ _ _ _ _ _ us hl=>by obtain⟨_,rfl⟩:=len1 hl;rfl
 have m34:=hAg X G a34;have b35:=F35.binds (ps:=["_law_found","_law_due_here"]) fun _ _ _ _ _ _ us hl=>by obtain⟨_,_,rfl⟩:=qGk hl;rfl
 have m35:=hAg X G a35;have b36:=F36.binds (ps:=["_law_point"]) fun _ _ _ _ _ _ us hl=>by obtain⟨_,rfl⟩:=len1 hl;rfl
 have m36:=hAg X G a36;have b37:=F37.binds (ps:=["_law_net","_law_names_here"]) fun _ _ _ _ _ _ us hl=>by obtain⟨_,_,rfl⟩:=qGk hl;rfl
 have m37:=hAg X G a37;have b38:=F38.binds (ps:=["_law_net","_law_names_here","_law_base"]) fun _ _ _ _ _ _ us hl=>by obtain⟨_,_,_,rfl⟩:=len3 hl;rfl
 have m38:=hAg X G a38;have b39:=F39.binds (ps:=["_law_draw","_law_ties_here","_law_names_here"]) fun _ _ _ _ _ _ us hl=>by obtain⟨_,_,_,rfl⟩:=len3 hl;rfl
 have m39:=hAg X G a39;have b40:=F40.binds (ps:=["_law_draw","_law_net"]) fun _ _ _ _ _ _ us hl=>by obtain⟨_,_,rfl⟩:=qGk hl;rfl
 have m40:=hAg X G a40;have b41:=F41.binds (ps:=["_law_paper","_law_names_here","_law_base"]) fun _ _ _ _ _ _ us hl=>by obtain⟨_,_,_,rfl⟩:=len3 hl;rfl
 have m41:=hAg X G a41;have n_SIGNS:=hAg X G q1;have n_MOST_SIGNS:=hAg X G q2;have n_all:=hAy X G z1;have n_bool:=hAy X G z2;have n_enumerate:=hAy X G z3;have n_int:=hAy X G z4;have n_isinstance:=hAy X G z5;have n_len:=hAy X G z6;have n_list:=hAy X G z7;have n_max:=hAy X G z8;have n_min:=hAy X G z9;have n_range:=hAy X G z10;have n_set:=hAy X G z11;have n_sorted:=hAy X G z12;have n_str:=hAy X G z13;have n_sum:=hAy X G z14;have n_tuple:=hAy X G z15;have n_zip:=hAy X G z16;refine⟨PySem.W.fnOf "law" "law" (qAo sLaw) (qAn sLaw) (qAd sLaw) .none kV42 dc42 pm42 an42 cd42 ct42,fun s v=>.of_eq rfl,fun base _ _=>?_⟩;have g1:=ok_name (P:=l.prog) (w:=w) (base:=base) F1  n_len n_isinstance n_str n_all n_SIGNS n_MOST_SIGNS;have g2:=ok_isrow (P:=l.prog) (w:=w) (base:=base) F2 ⟨g1,b1,k1,m1⟩ n_isinstance n_list n_all n_zip;have g3:=ok_mask (P:=l.prog) (w:=w) (mg:=mg) (base:=base) F3;have g4:=ok_rowOf (P:=l.prog) (w:=w) (base:=base) F4  n_len n_enumerate;have g5:=ok_less (P:=l.prog) (w:=w) (base:=base) F5  n_min;have g6:=ok_redu (P:=l.prog) (w:=w) (base:=base) F6 ⟨g5,b5,k5,m5⟩ n_min n_sorted;have g7:=ok_lead (P:=l.prog) (w:=w) (mg:=mg) (base:=base) F7;have g8:=ok_crM (P:=l.prog) (w:=w) (base:=base) F8 ⟨g7,b7,k7,m7⟩ n_sum n_range;have g9:=ok_tabF (P:=l.prog) (w:=w) (base:=base) F9 ⟨g4,b4,k4,m4⟩ ⟨g6,b6,k6,m6⟩ n_list;have g10:=ok_stepM (P:=l.prog) (w:=w) (base:=base) F10 ⟨g3,b3,k3,m3⟩ ⟨g6,b6,k6,m6⟩;have g11:=ok_stps (P:=l.prog) (w:=w) (base:=base) F11 ⟨g4,b4,k4,m4⟩ ⟨g10,b10,k10,m10⟩;have g12:=ok_alk (P:=l.prog) (w:=w) (base:=base) F12 ⟨g11,b11,k11,m11⟩;have g13:=ok_cross (P:=l.prog) (w:=w) (base:=base) F13 ⟨g9,b9,k9,m9⟩ ⟨g8,b8,k8,m8⟩ ⟨g10,b10,k10,m10⟩ n_len;have g14:=ok_istie (P:=l.prog) (w:=w) (base:=base) F14 ⟨g1,b1,k1,m1⟩ n_isinstance n_tuple n_all n_len;have g16:=ok_ties (P:=l.prog) (w:=w) (mg:=mg) (base:=base) F16;have g15:=ok_form (P:=l.prog) (w:=w) (base:=base) F15 ⟨g14,b14,k14,m14⟩ ⟨g2,b2,k2,m2⟩ ⟨g16,b16,k16,m16⟩ n_isinstance n_list n_all;have g17:=ok_points (P:=l.prog) (w:=w) (base:=base) F17  n_sorted;have g18:=ok_met (P:=l.prog) (w:=w) (mg:=mg) (base:=base) F18;have g19:=ok_table (P:=l.prog) (w:=w) (base:=base) F19 ⟨g13,b13,k13,m13⟩ ⟨g16,b16,k16,m16⟩ ⟨g18,b18,k18,m18⟩ ⟨g17,b17,k17,m17⟩;have g20:=ok_istu (P:=l.prog) (w:=w) (base:=base) F20  n_isinstance n_tuple n_len;have g21:=ok_ino (P:=l.prog) (w:=w) (base:=base) F21 ⟨g15,b15,k15,m15⟩ ⟨g12,b12,k12,m12⟩ ⟨g19,b19,k19,m19⟩;have g22:=ok_stan (P:=l.prog) (w:=w) (base:=base) F22 ⟨g20,b20,k20,m20⟩ ⟨g21,b21,k21,m21⟩;have g23:=ok_cell (P:=l.prog) (w:=w) (base:=base) F23  n_len;have g24:=ok_purse (P:=l.prog) (w:=w) (base:=base) F24 ⟨g23,b23,k23,m23⟩ n_range;have g25:=ok_take (P:=l.prog) (w:=w) (mg:=mg) (base:=base) F25;have g26:=ok_names (P:=l.prog) (w:=w) (base:=base) F26 ⟨g25,b25,k25,m25⟩ n_range n_min n_sorted;have g27:=ok_ld (P:=l.prog) (w:=w) (mg:=mg) (base:=base) F27;have g28:=ok_lst (P:=l.prog) (w:=w) (base:=base) F28 ⟨g27,b27,k27,m27⟩ n_int n_sorted;have g29:=ok_lcr (P:=l.prog) (w:=w) (base:=base) F29 ⟨g27,b27,k27,m27⟩ ⟨g28,b28,k28,m28⟩ n_range;have g30:=ok_ti (P:=l.prog) (w:=w) (base:=base) F30 ⟨g25,b25,k25,m25⟩ n_range n_len n_set n_min n_max n_int;have g31:=ok_stM (P:=l.prog) (w:=w) (base:=base) F31  n_enumerate;have g32:=ok_lrw (P:=l.prog) (w:=w) (base:=base) F32  n_len n_range;have g33:=ok_tab (P:=l.prog) (w:=w) (base:=base) F33 ⟨g25,b25,k25,m25⟩ ⟨g26,b26,k26,m26⟩ ⟨g32,b32,k32,m32⟩ n_range n_len n_list n_int;have g34:=ok_lcop (P:=l.prog) (w:=w) (base:=base) F34  n_list;have g35:=ok_says (P:=l.prog) (w:=w) (base:=base) F35  n_isinstance n_bool;have g36:=ok_lpt (P:=l.prog) (w:=w) (base:=base) F36  n_len n_isinstance n_str;have g37:=ok_npa (P:=l.prog) (w:=w) (base:=base) F37 ⟨g36,b36,k36,m36⟩ n_isinstance n_list n_tuple n_len n_range;have g38:=ok_ngo (P:=l.prog) (w:=w) (base:=base) F38 ⟨g37,b37,k37,m37⟩ ⟨g29,b29,k29,m29⟩ ⟨g28,b28,k28,m28⟩ ⟨g31,b31,k31,m31⟩ n_len;have g39:=ok_nof (P:=l.prog) (w:=w) (base:=base) F39 ⟨g25,b25,k25,m25⟩ n_range n_len n_min n_max;have g40:=ok_spo (P:=l.prog) (w:=w) (base:=base) F40 ⟨g25,b25,k25,m25⟩ n_len n_list n_tuple n_min n_max;have g41:=ok_due (P:=l.prog) (w:=w) (base:=base) F41 ⟨g38,b38,k38,m38⟩ n_isinstance n_tuple n_len;exact ok_law F42 ⟨g24,b24,k24,m24⟩ ⟨g25,b25,k25,m25⟩ ⟨g30,b30,k30,m30⟩ ⟨g29,b29,k29,m29⟩ ⟨g28,b28,k28,m28⟩ ⟨g31,b31,k31,m31⟩ ⟨g33,b33,k33,m33⟩ ⟨g34,b34,k34,m34⟩ ⟨g39,b39,k39,m39⟩ ⟨g35,b35,k35,m35⟩ ⟨g22,b22,k22,m22⟩ ⟨g40,b40,k40,m40⟩ ⟨g41,b41,k41,m41⟩ n_range n_len n_list n_min n_max
theorem walk {l:PySem.W.OpenLaw} {q:Program} {loose:List Str} {XP:(Str->Option Value)->Heap->Prop} {YP:World->Heap->Prop} {d:DefRec} {K:Params->PySem.W.Frag} (hn:l.most=some 63) (hdf:d.params.defaults=[])
  (hY:∀ (w:World) (h:Heap),YP w h->(K w.params).In h)
  (F:∀ (w:World) (mg:Str->Option Value) (fa:Addr) (h:Heap),(K w.params).In h->h.Ns mainGlobals mg->mg d.name=some (.ref fa) ->
   ∃ fd:FuncData,(∀ (s:Shared) (u:Value),BindsTo s fd ⟨[u],[]⟩ [("_law_script",u)])/\∀ base:Heap,(K w.params).In base->base.Ns mainGlobals mg->FnOk l.prog w (K w.params) mg base CX0 8 fa fd ["_law_script"] (spLaw (K w.params))) :
  PySem.W.WalkO q loose XP YP l.row.toRowW d [] (fun f vs=>PySem.call f vs) :=
 L2.walk_of (n:=63) (k:=8) (x:="_law_script") (CX:=fun _=>CX0) (sp:=fun w=>spLaw (K w.params)) hn (by decide) hdf ⟨rfl,by decide,by decide,rfl⟩ hY F (fun _ _ a ns hl _ hS=>⟨a,ns,rfl,hS,hl,fun _=>rfl⟩) fun _ _ _ _ _ z=>z
end My
namespace PySem.W.Fast
def tw10050231069137569390 := 0
def tw10080866822707902377 := 0
def tw1010816095512844087 := 0
def tw10158164305686518741 := 0
def tw10187185844856977410 := 0
def tw10197690773073066935 := 0
def tw10287210385587534419 := 0
def tw10323174404667756599 := 0
def tw10344379041689334464 := 0
def tw10434854704245167122 := 0
def tw10498255093601784534 := 0
def tw10506506659871072414 := 0
def tw10529098115390671991 := 0
def tw10563578586594254454 := 0
def tw10622700450003565074 := 0
def tw10657609677406737838 := 0
def tw10749334712316759857 := 0
def tw10849687798422873251 := 0
def tw10910463219486595994 := 0
def tw10924050832144639871 := 0
def tw11059704142872113623 := 0
def tw11099643692482706431 := 0
def tw11183420634142342040 := 0
def tw11189541243847893709 := 0
def tw11195900027264596367 := 0
def tw11206988194973990579 := 0
def tw11206997235311129925 := 0
def tw11214823926758882426 := 0
def tw11284463916884116849 := 0
def tw1132266271679661112 := 0
def tw113511198553748267 := 0
def tw11361805277278591880 := 0
def tw1136964667417563481 := 0
def tw11379275853465472976 := 0
def tw11389368945850051893 := 0
def tw11455483999620985610 := 0
def tw11558354668668044593 := 0
def tw11565488557123191477 := 0
def tw11566730290995480607 := 0
def tw11641519139514160151 := 0
def tw11690733943659623702 := 0
def tw11797510316720227757 := 0
def tw11921999695660338033 := 0
def tw11931941642774963230 := 0
def tw11953389469914935362 := 0
def tw12045159545855950931 := 0
def tw12151235303731425216 := 0
def tw12238097995455066627 := 0
def tw12339750123444801991 := 0
def tw12398934297916800615 := 0
def tw12442979590740333039 := 0
def tw12541096433926798321 := 0
def tw12658120402616214279 := 0
def tw12662674848260220420 := 0
def tw12682709055749987756 := 0
def tw12788990146221878315 := 0
def tw12959310161531045394 := 0
def tw12969015429857636701 := 0
def tw13113950799535086076 := 0
def tw13123325058563305855 := 0
def tw13190906114448189098 := 0
def tw13241871833974286030 := 0
def tw13263473300120058417 := 0
def tw13283764790962964028 := 0
def tw1331065418841617395 := 0
def tw13317431806449019079 := 0
def tw1333032228462768346 := 0
def tw13413279098634658830 := 0
def tw13434133120049593703 := 0
def tw13466382316465780712 := 0
def tw13508758702966820036 := 0
def tw13522243319243491396 := 0
def tw13565564546494138831 := 0
def tw13575048167411628278 := 0
def tw13607166580468007738 := 0
def tw1361546450809447638 := 0
def tw13695300226259101807 := 0
def tw1369982889033499791 := 0
def tw13710070040391970115 := 0
def tw13740797070763721998 := 0
def tw13785097194620486700 := 0
def tw13837841379224597704 := 0
def tw13848900545620649709 := 0
def tw13913472627028389643 := 0
def tw13942508963960228206 := 0
def tw13978734925687905567 := 0
def tw14076030931327446219 := 0
def tw14083577547508867618 := 0
def tw14154817049893478885 := 0
def tw14227828723212071153 := 0
def tw14298059579028119358 := 0
def tw14367686955595263430 := 0
def tw14389059853848492616 := 0
def tw14449533267826740310 := 0
def tw1447111282973175713 := 0
def tw14560873069447538664 := 0
def tw14594984206305724016 := 0
def tw14612196329152006571 := 0
def tw14636782145284278125 := 0
def tw14668638470796404780 := 0
def tw14682797642346242027 := 0
def tw14809203956319328118 := 0
def tw14823134082987552920 := 0
def tw1483521888576345525 := 0
def tw14999897881886701259 := 0
def tw1502742448969775827 := 0
def tw15039921715357628206 := 0
def tw15045136002999906495 := 0
def tw15135011141737690354 := 0
def tw15172142434006305978 := 0
def tw15227359036714271241 := 0
def tw15251004613249701702 := 0
def tw1532300899705493569 := 0
def tw15416426594499987247 := 0
def tw15463605865876585908 := 0
def tw1546877663874153668 := 0
def tw1569911966853268575 := 0
def tw15704287812034096653 := 0
def tw15816786990464195774 := 0
def tw15850705712618843852 := 0
def tw15886724521138947604 := 0
def tw15956381428993106746 := 0
def tw15963969181843900097 := 0
def tw16018299339784894470 := 0
def tw16020095455353750729 := 0
def tw16024812730967128767 := 0
def tw16035510366821295552 := 0
def tw16066477867156990058 := 0
def tw16085362954051675169 := 0
def tw16109394669360678869 := 0
def tw16135618201880627232 := 0
def tw16137536353101290981 := 0
def tw1629852158601318679 := 0
def tw16383570564660464935 := 0
def tw16405314564293532742 := 0
def tw16414313606032513185 := 0
def tw16416700812481531812 := 0
def tw16433118310805627054 := 0
def tw16514462050895713260 := 0
def tw16528458215372757402 := 0
def tw16544731599469787330 := 0
def tw16586583443051358475 := 0
def tw16647011359381196454 := 0
def tw1665515518963214003 := 0
def tw16666381595173018045 := 0
def tw16682496455792561905 := 0
def tw16691278425904709492 := 0
def tw16710861283629750440 := 0
def tw16757026430416582697 := 0
def tw16810641834599108172 := 0
def tw16815619604409479333 := 0
def tw16824668110088753260 := 0
def tw16871365366771276105 := 0
def tw16874825398625016786 := 0
def tw16899938887563094681 := 0
def tw16934956599509425455 := 0
def tw17047564104766869063 := 0
def tw17048201275879862786 := 0
def tw17066751856854035239 := 0
def tw1709531136671313420 := 0
def tw17095784656881487403 := 0
def tw17105364146886129710 := 0
def tw17106164965980474615 := 0
def tw17163718088839015644 := 0
def tw17186544956773270790 := 0
def tw17198637034542036011 := 0
def tw17242421284487522158 := 0
def tw1727603869352585393 := 0
def tw17284425267649376781 := 0
def tw17301824710542653073 := 0
def tw17309047363602578796 := 0
def tw17413059949445429813 := 0
def tw17413728405908033384 := 0
def tw17420304796833533574 := 0
def tw17453980474353010110 := 0
def tw17478199067835298000 := 0
def tw17589382177950072292 := 0
def tw17621015246212486857 := 0
def tw17645571503873896656 := 0
def tw17676342620109936667 := 0
def tw17697910303922706440 := 0
def tw17745262160464495281 := 0
def tw17830306668038581506 := 0
def tw17835786278147767517 := 0
def tw1785043894025937320 := 0
def tw17863367336794869265 := 0
def tw17971555152412772454 := 0
def tw1797578632773660778 := 0
def tw1806332350216613632 := 0
def tw18072545108128409537 := 0
def tw18073347655924656385 := 0
def tw1813924631127796117 := 0
def tw18202675780958934885 := 0
def tw18244028002375430769 := 0
def tw182580302205439273 := 0
def tw1831433718831971133 := 0
def tw18322316959878784250 := 0
def tw18356226020209443710 := 0
def tw18370698417248290190 := 0
def tw18409829289260437494 := 0
def tw1858002579810499425 := 0
def tw1926405802579682146 := 0
def tw1930975800997122528 := 0
def tw1933299530677280668 := 0
def tw1941622659173357039 := 0
def tw2053197761987545526 := 0
def tw2058635471898099935 := 0
def tw2073361564814916425 := 0
def tw219040101335006817 := 0
def tw2194767624707779701 := 0
def tw2315531044671793014 := 0
def tw2351697204031328876 := 0
def tw2385980252974094693 := 0
def tw2415030200879521796 := 0
def tw244014053667811519 := 0
def tw2461241955684506048 := 0
def tw2535458951825941115 := 0
def tw2577427450287500809 := 0
def tw2596277002376133687 := 0
def tw2608903631237081484 := 0
def tw2674294136595517210 := 0
def tw2724411300227382718 := 0
def tw2730471937059198505 := 0
def tw274888556898107579 := 0
def tw2784162763165373976 := 0
def tw2787007801950645531 := 0
def tw2812427674008765422 := 0
def tw2840079515684091353 := 0
def tw2844476506883503377 := 0
def tw2866046135130098039 := 0
def tw2917942483207336886 := 0
def tw2919738847396302988 := 0
def tw2996075965013474462 := 0
def tw3083580855360791486 := 0
def tw3164502211878136129 := 0
def tw3164810358228238186 := 0
def tw3175123849448268343 := 0
def tw3396156462796079718 := 0
def tw3495066941607051153 := 0
def tw3591450188130283060 := 0
def tw3706872287189327908 := 0
def tw3706927275086535764 := 0
def tw3753937476469324258 := 0
def tw3797162432498796774 := 0
def tw3897086579220655562 := 0
def tw3932520927586235706 := 0
def tw3960540700565772982 := 0
def tw4001183448992729177 := 0
def tw4037696681308398863 := 0
def tw4084832862463707961 := 0
def tw4102770371814475483 := 0
def tw4218409336512343090 := 0
def tw4397467758891111766 := 0
def tw458021537431573760 := 0
def tw4586093458444349248 := 0
def tw4652900440202055729 := 0
def tw4663439685410389038 := 0
def tw4726468421036626075 := 0
def tw4735073142868746365 := 0
def tw4799920052634083063 := 0
def tw4889398420370142738 := 0
def tw492059112679165149 := 0
def tw4976475892972401374 := 0
def tw4984579260064541022 := 0
def tw51467998792296534 := 0
def tw5231569004895246917 := 0
def tw5380652982126193355 := 0
def tw5456768006901689771 := 0
def tw555730104060310213 := 0
def tw5577143321925064860 := 0
def tw5597930814096925618 := 0
def tw5608948857902684678 := 0
def tw575235944107739070 := 0
def tw5987953356764005628 := 0
def tw6038502645156188928 := 0
def tw6124507374075444542 := 0
def tw6156236661815839514 := 0
def tw6315625118616007445 := 0
def tw6364970221823440703 := 0
def tw6437236847502836504 := 0
def tw6486985015852627356 := 0
def tw6550819282921793861 := 0
def tw6557156261026164436 := 0
def tw6752677112035135980 := 0
def tw6872895457159644055 := 0
def tw68898655369226615 := 0
def tw6903001658517107721 := 0
def tw7083362924620569400 := 0
def tw7129049060063494187 := 0
def tw7130501310503802942 := 0
def tw7158904887614276147 := 0
def tw7179156240686216564 := 0
def tw722874386798813170 := 0
def tw7230883666896994254 := 0
def tw7253679585375033195 := 0
def tw7331806973088185420 := 0
def tw733713074820836470 := 0
def tw7367400447248802530 := 0
def tw7498607839354519684 := 0
def tw7605044667088226327 := 0
def tw7615336854402283535 := 0
def tw7628006202579710645 := 0
def tw7670000934851701577 := 0
def tw768826060592117072 := 0
def tw7694653337511036591 := 0
def tw7715292921843988759 := 0
def tw7856665298736085053 := 0
def tw7883348344750123548 := 0
def tw8019024171051219122 := 0
def tw8023078609393945096 := 0
def tw8171460635596923844 := 0
def tw8237846004707925086 := 0
def tw8354214113265481905 := 0
def tw8428633317648194672 := 0
def tw8445723492874356791 := 0
def tw8450552931882097399 := 0
def tw8487660588909720445 := 0
def tw8499741460344895750 := 0
def tw8536857383143448179 := 0
def tw8632311672685159435 := 0
def tw8705556837969404388 := 0
def tw8795160286490236278 := 0
def tw8819612958853651660 := 0
def tw8831803611084291018 := 0
def tw887353477893437103 := 0
def tw8885153446657799451 := 0
def tw8905922190010769909 := 0
def tw8921839495940025383 := 0
def tw8935485998347163057 := 0
def tw9030517406555830201 := 0
def tw9041237264149794732 := 0
def tw9099418697161727618 := 0
def tw9101065864987580309 := 0
def tw9118732715415450333 := 0
def tw9124418340913237619 := 0
def tw9136751017572735468 := 0
def tw9144716445072377866 := 0
def tw9213179906712362691 := 0
def tw9249407990747193621 := 0
def tw9261300108360758677 := 0
def tw9405348776233317281 := 0
def tw9481646228434239133 := 0
def tw9555986234093048942 := 0
def tw9577263261089066903 := 0
def tw9604386069269186984 := 0
def tw9690126118346708882 := 0
def tw976052028177742615 := 0
def tw9809755493666380370 := 0
def tw9935219048907381061 := 0
def tw9969643643558553538 := 0
def tw997567661376366722 := 0
end PySem.W.Fast
open PySem PySem.W PyProof.Rows
set_option maxRecDepth 100000 in
set_option maxHeartbeats 0 in
theorem PySem.Challenge.cw_roundsalone_k66_papers_of_nets_holds : PySem.Challenge.rw_roundsalone_k66_papers_of_nets.Holds := by
 w_on;o_law;k_head;(case hw=>w_witness2)
 k_fill
 refine My.walk (l:=PySem.Challenge.rw_roundsalone_k66_papers_of_nets) rfl rfl (fun w h Y=>PySem.W.kIn_of Y) ?F
 case F =>
  intro w mg fa h KX G hmg
  refine' My.all_mk KX G hmg ?a1 ?l1 ?c1 ?k1 ?a2 ?l2 ?c2 ?k2 ?a3 ?l3 ?c3 ?k3 ?a4 ?l4 ?c4 ?k4 ?a5 ?l5 ?c5 ?k5 ?a6 ?l6 ?c6 ?k6 ?a7 ?l7 ?c7 ?k7 ?a8 ?l8 ?c8 ?k8 ?a9 ?l9 ?c9 ?k9 ?a10 ?l10 ?c10 ?k10 ?a11 ?l11 ?c11 ?k11 ?a12 ?l12 ?c12 ?k12 ?a13 ?l13 ?c13 ?k13 ?a14 ?l14 ?c14 ?k14 ?a15 ?l15 ?c15 ?k15 ?a16 ?l16 ?c16 ?k16 ?a17 ?l17 ?c17 ?k17 ?a18 ?l18 ?c18 ?k18 ?a19 ?l19 ?c19 ?k19 ?a20 ?l20 ?c20 ?k20 ?a21 ?l21 ?c21 ?k21 ?a22 ?l22 ?c22 ?k22 ?a23 ?l23 ?c23 ?k23 ?a24 ?l24 ?c24 ?k24 ?a25 ?l25 ?c25 ?k25 ?a26 ?l26 ?c26 ?k26 ?a27 ?l27 ?c27 ?k27 ?a28 ?l28 ?c28 ?k28 ?a29 ?l29 ?c29 ?k29 ?a30 ?l30 ?c30 ?k30 ?a31 ?l31 ?c31 ?k31 ?a32 ?l32 ?c32 ?k32 ?a33 ?l33 ?c33 ?k33 ?a34 ?l34 ?c34 ?k34 ?a35 ?l35 ?c35 ?k35 ?a36 ?l36 ?c36 ?k36 ?a37 ?l37 ?c37 ?k37 ?a38 ?l38 ?c38 ?k38 ?a39 ?l39 ?c39 ?k39 ?a40 ?l40 ?c40 ?k40 ?a41 ?l41 ?c41 ?k41 ?a42 ?l42 ?c42 ?k42 ?q1 ?q2 ?z1 ?z2 ?z3 ?z4 ?z5 ?z6 ?z7 ?z8 ?z9 ?z10 ?z11 ?z12 ?z13 ?z14 ?z15 ?z16
  (case a1=>k_is)
  (case l1=>k_is)
  (case c1=>k_is)
  (case k1=>k_is)
  (case a2=>k_is)
  (case l2=>k_is)
  (case c2=>k_is)
  (case k2=>k_is)
  (case a3=>k_is)
  (case l3=>k_is)
  (case c3=>k_is)
  (case k3=>k_is)
  (case a4=>k_is)
  (case l4=>k_is)
  (case c4=>k_is)
  (case k4=>k_is)
  (case a5=>k_is)
  (case l5=>k_is)
  (case c5=>k_is)
  (case k5=>k_is)
  (case a6=>k_is)
  (case l6=>k_is)
  (case c6=>k_is)
  (case k6=>k_is)
  (case a7=>k_is)
  (case l7=>k_is)
  (case c7=>k_is)
  (case k7=>k_is)
  (case a8=>k_is)
  (case l8=>k_is)
  (case c8=>k_is)
  (case k8=>k_is)
  (case a9=>k_is)
  (case l9=>k_is)
  (case c9=>k_is)
  (case k9=>k_is)
  (case a10=>k_is)
  (case l10=>k_is)
  (case c10=>k_is)
  (case k10=>k_is)
  (case a11=>k_is)
  (case l11=>k_is)
  (case c11=>k_is)
  (case k11=>k_is)
  (case a12=>k_is)
  (case l12=>k_is)
  (case c12=>k_is)
  (case k12=>k_is)
  (case a13=>k_is)
  (case l13=>k_is)
  (case c13=>k_is)
  (case k13=>k_is)
  (case a14=>k_is)
  (case l14=>k_is)
  (case c14=>k_is)
  (case k14=>k_is)
  (case a15=>k_is)
  (case l15=>k_is)
  (case c15=>k_is)
  (case k15=>k_is)
  (case a16=>k_is)
  (case l16=>k_is)
  (case c16=>k_is)
  (case k16=>k_is)
  (case a17=>k_is)
  (case l17=>k_is)
  (case c17=>k_is)
  (case k17=>k_is)
  (case a18=>k_is)
  (case l18=>k_is)
  (case c18=>k_is)
  (case k18=>k_is)
  (case a19=>k_is)
  (case l19=>k_is)
  (case c19=>k_is)
  (case k19=>k_is)
  (case a20=>k_is)
  (case l20=>k_is)
  (case c20=>k_is)
  (case k20=>k_is)
  (case a21=>k_is)
  (case l21=>k_is)
  (case c21=>k_is)
  (case k21=>k_is)
  (case a22=>k_is)
  (case l22=>k_is)
  (case c22=>k_is)
  (case k22=>k_is)
  (case a23=>k_is)
  (case l23=>k_is)
  (case c23=>k_is)
  (case k23=>k_is)
  (case a24=>k_is)
  (case l24=>k_is)
  (case c24=>k_is)
  (case k24=>k_is)
  (case a25=>k_is)
  (case l25=>k_is)
  (case c25=>k_is)
  (case k25=>k_is)
  (case a26=>k_is)
  (case l26=>k_is)
  (case c26=>k_is)
  (case k26=>k_is)
  (case a27=>k_is)
  (case l27=>k_is)
  (case c27=>k_is)
  (case k27=>k_is)
  (case a28=>k_is)
  (case l28=>k_is)
  (case c28=>k_is)
  (case k28=>k_is)
  (case a29=>k_is)
  (case l29=>k_is)
  (case c29=>k_is)
  (case k29=>k_is)
  (case a30=>k_is)
  (case l30=>k_is)
  (case c30=>k_is)
  (case k30=>k_is)
  (case a31=>k_is)
  (case l31=>k_is)
  (case c31=>k_is)
  (case k31=>k_is)
  (case a32=>k_is)
  (case l32=>k_is)
  (case c32=>k_is)
  (case k32=>k_is)
  (case a33=>k_is)
  (case l33=>k_is)
  (case c33=>k_is)
  (case k33=>k_is)
  (case a34=>k_is)
  (case l34=>k_is)
  (case c34=>k_is)
  (case k34=>k_is)
  (case a35=>k_is)
  (case l35=>k_is)
  (case c35=>k_is)
  (case k35=>k_is)
  (case a36=>k_is)
  (case l36=>k_is)
  (case c36=>k_is)
  (case k36=>k_is)
  (case a37=>k_is)
  (case l37=>k_is)
  (case c37=>k_is)
  (case k37=>k_is)
  (case a38=>k_is)
  (case l38=>k_is)
  (case c38=>k_is)
  (case k38=>k_is)
  (case a39=>k_is)
  (case l39=>k_is)
  (case c39=>k_is)
  (case k39=>k_is)
  (case a40=>k_is)
  (case l40=>k_is)
  (case c40=>k_is)
  (case k40=>k_is)
  (case a41=>k_is)
  (case l41=>k_is)
  (case c41=>k_is)
  (case k41=>k_is)
  (case a42=>k_is)
  (case l42=>k_is)
  (case c42=>k_is)
  (case k42=>k_is)
  (case q1=>k_is)
  (case q2=>k_is)
  (case z1=>k_is)
  (case z2=>k_is)
  (case z3=>k_is)
  (case z4=>k_is)
  (case z5=>k_is)
  (case z6=>k_is)
  (case z7=>k_is)
  (case z8=>k_is)
  (case z9=>k_is)
  (case z10=>k_is)
  (case z11=>k_is)
  (case z12=>k_is)
  (case z13=>k_is)
  (case z14=>k_is)
  (case z15=>k_is)
  (case z16=>k_is)
#print axioms PySem.Challenge.cw_roundsalone_k66_papers_of_nets_holds
