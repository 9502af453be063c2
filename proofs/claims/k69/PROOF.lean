import PyProof.Rows.All
import Wide.All
import OpenK.AllK
import Wide.FinOn
import Lean
import PyProof.EqAt
import PyProof.EqKinds
import PyProof.TupleCall
import KE.KSortKey
import KE.KTryMore
import KE.KIsNot
import PyProof.ExcArgsOwn
import PyProof.ReprBulk
import PyProof.FString5
import PyProof.WalkInts
import PyProof.CollectStr
import PyProof.TupleOfSeq
import KE.RegKIsAll
import KE.RegKTryMore
import PySem.Challenge.RW_roundsalone_k69_roads_looked_at
set_option Elab.async false
set_option linter.all false
set_option maxHeartbeats 16000000
set_option maxRecDepth 100000
abbrev hA1:=@List.length_map
abbrev hA2:=@List.length_append
abbrev hA3:=@List.getElem?_eq_getElem
abbrev hA4:=@Nat.le_refl
abbrev hA5:=@List.mem_cons_of_mem
abbrev hA6:=@List.mem_cons_self
abbrev hA7:=@List.mem_singleton
abbrev hA8:=@List.mem_append_right
abbrev hA9:=@List.mem_cons
abbrev hAa:=@List.getD_eq_getElem?_getD
abbrev hAb:=@List.size_toArray
abbrev hAc:=@List.map_append
abbrev hAd:=@List.mem_append
abbrev hAe:=@Bool.false_ne_true
abbrev hAf:=@List.take_of_length_le
abbrev hAg:=@Option.some.inj
abbrev hAh:=@PySem.W.mg_of
abbrev hAi:=@Nat.ne_of_lt
abbrev hAj:=@List.mem_map
abbrev hAk:=@Nat.zero_le
abbrev hAl:=@List.getElem?_map
abbrev hAm:=@List.mem_of_getElem?
abbrev hAn:=@PySem.boot_len
abbrev hAo:=@Nat.lt_of_lt_of_le
abbrev hAp:=@List.length_take
abbrev hAq:=@Nat.le_of_lt
abbrev hAr:=@List.getElem?_eq_some_iff
abbrev hAs:=@Nat.lt_succ_of_lt
abbrev hAt:=@Nat.le_trans
abbrev hAu:=@Nat.le_succ
abbrev hAv:=@List.not_mem_nil
abbrev hAw:=@PySem.W.mg_none_of
abbrev hAx:=@Array.getElem?_toList
abbrev hAy:=@List.getElem?_eq_none
abbrev hAz:=@List.filterMap_cons
abbrev hB0:=@PySem.mem_of_lookup
abbrev hB1:=@List.mem_append_left
abbrev hB2:=@List.map_cons
abbrev hB3:=@Nat.lt_irrefl
abbrev hB4:=@PySem.F.slot_list_append
abbrev hB5:=@PySem.F.type_list_append
abbrev hB6:=@Array.length_toList
abbrev hB7:=@PySem.F.plainAttrs_list
abbrev hB8:=@Nat.lt_succ_self
abbrev hB9:=@List.all_eq_true
abbrev hBa:=@Array.getD_eq_getD_getElem?
abbrev hBb:=@List.cons_lt_cons_iff
abbrev hBc:=@Array.perm_iff_toList_perm
abbrev hBd:=@PySem.W.kia_one
abbrev hBe:=@List.length_range
abbrev hBf:=@List.map_map
abbrev hBg:=@PySem.F.called_set
abbrev hBh:=@List.replicate_succ
abbrev hBi:=@Int.toNat_of_nonneg
abbrev hBj:=@List.mem_range
abbrev hBk:=@Array.getElem?_eq_getElem
abbrev hBl:=@List.length_replicate
abbrev hBm:=@Bool.and_eq_true
abbrev hBo:=@List.length_cons
abbrev hBp:=@PySem.W.hideAll_none
abbrev hBq:=@Int.eq_ofNat_of_zero_le
abbrev hBr:=@List.ext_getElem?
abbrev hBs:=@PyProof.Rows.callWith_type1
abbrev hBt:=@List.nodup_cons
abbrev hBu:=@List.find?_cons
abbrev hBv:=@List.lookup_cons
abbrev hBw:=@Nat.ne_of_gt
abbrev hBx:=@List.pairwise_cons
abbrev hBy:=@List.getElem_mem
abbrev hBz:=@Nat.succ_le_succ
abbrev hC0:=@PySem.W.cellsFrom_some
abbrev hC1:=@List.mem_filter
abbrev hC2:=@List.append_nil
abbrev hC3:=@Option.map_some
abbrev hC4:=@List.append_assoc
abbrev hC5:=@List.nodup_append
abbrev hC6:=@List.mem_of_mem_take
abbrev hC7:=@List.Perm.refl
abbrev hC8:=@List.length_drop
abbrev hC9:=@List.mem_flatten
abbrev hCa:=@PySem.W.hideAll_get
abbrev hCb:=@List.getElem?_range
abbrev hCc:=@List.map_congr_left
abbrev hCd:=@Nat.mod_lt
namespace L2
open PySem PySem.Spec PyProof.Rows
abbrev Key:=Sum Int Str
def keyIs:Key->Value->Bool
 | .inl k,v=>Value.isInt k v
 | .inr x,v=>Value.isStrOf x v
def qXy (w:World):Key->Int
 | .inl k=>hashInt k
 | .inr x=>hashStr w x
theorem keyIs_shape:∀ {k:Key} {v:Value},keyIs k v=true->(∃ i t,k=Sum.inl i/\v=Value.int i t)\/(∃ x t,k=Sum.inr x/\v=Value.str x t)
 | .inl i,v,h=>by
  obtain⟨t,e⟩:=Value.isInt_shape (k:=i) (v:=v) h;exact .inl ⟨i,t,rfl,e⟩
 | .inr x,v,h=>by
  obtain⟨t,e⟩:=Value.isStrOf_shape (x:=x) (v:=v) h;exact .inr ⟨x,t,rfl,e⟩
theorem qOa (i:Int) (t:Tok):keyIs (.inl i) (.int i t)=true:=by simp[keyIs,Value.isInt]
theorem qN9 (x:Str) (t:Tok):keyIs (.inr x) (.str x t)=true:=by simp[keyIs,Value.isStrOf]
theorem qU2 (a b:Int):decide ((Sum.inl a:Key)=Sum.inl b)=(a == b):=by
 by_cases e:a=b
 ·subst e;simp
 ·have h:¬(Sum.inl a:Key)=Sum.inl b:=fun q=>e (Sum.inl.inj q)
  rw[decide_eq_false h];exact(beq_eq_false_iff_ne.mpr e).symm
theorem qUz (a b:Str):decide ((Sum.inr a:Key)=Sum.inr b)=decide (a=b):=by
 by_cases e:a=b
 ·subst e;simp
 ·have h:¬(Sum.inr a:Key)=Sum.inr b:=fun q=>e (Sum.inr.inj q)
  rw[decide_eq_false h,decide_eq_false e]
theorem qU1 (a:Int) (b:Str):decide ((Sum.inl a:Key)=Sum.inr b)=false:=decide_eq_false (fun q=>nomatch q)
theorem qU0 (a:Str) (b:Int):decide ((Sum.inr a:Key)=Sum.inl b)=false:=decide_eq_false (fun q=>nomatch q)
def qA2 (prog:Program) (w:World):PySem.KeyKind prog w Key where
 is:=keyIs
 hash:=qXy w
 inj:=fun v a b ha hb=>by
  rcases keyIs_shape ha with ⟨i,t,rfl,rfl⟩ | ⟨x,t,rfl,rfl⟩
  ·rcases keyIs_shape hb with ⟨j,u,rfl,e⟩ | ⟨y,u,rfl,e⟩
   ·injection e with e1 _;rw[e1]
   ·exact nomatch e
  ·rcases keyIs_shape hb with ⟨j,u,rfl,e⟩ | ⟨y,u,rfl,e⟩
   ·exact nomatch e
   ·injection e with e1 _;rw[e1]
 byValue:=fun k v h=>by
  rcases keyIs_shape h with ⟨i,t,rfl,rfl⟩ | ⟨x,t,rfl,rfl⟩ <;> rfl
 pyHash:=fun hv h=>by
  rcases keyIs_shape hv with ⟨i,t,rfl,rfl⟩ | ⟨x,t,rfl,rfl⟩
  ·exact wpAny_pyHash_int h
  ·exact wpAny_pyHash_str h
 eqBool:=fun hu hv h=>by
  rcases keyIs_shape hu with ⟨i,t,rfl,rfl⟩ | ⟨x,t,rfl,rfl⟩
  ·rcases keyIs_shape hv with ⟨j,u,rfl,rfl⟩ | ⟨y,u,rfl,rfl⟩
   ·rw[qU2]at h;exact wpAny_eqBool_int h
   ·rw[qU1]at h;exact SeqAt.EqAt.int_str i t y u _ _ _ _ h
  ·rcases keyIs_shape hv with ⟨j,u,rfl,rfl⟩ | ⟨y,u,rfl,rfl⟩
   ·rw[qU0]at h;exact SeqAt.EqAt.str_int x t j u _ _ _ _ h
   ·rw[qUz]at h;exact wpAny_eqBool_str h
 «strs»:=fun k x t v h=>by
  rcases keyIs_shape h with ⟨i,u,rfl,e⟩ | ⟨y,u,rfl,e⟩
  ·exact nomatch e
  ·injection e with e1 _
   subst e1;cases v <;> rfl
theorem qJp (prog:Program) (w:World) (i:Int) (t:Tok):(qA2 prog w).is (.inl i) (.int i t)=true:=qOa i t
theorem qJo (prog:Program) (w:World) (x:Str) (t:Tok):(qA2 prog w).is (.inr x) (.str x t)=true:=qN9 x t
end L2
namespace L2
open PySem PySem.Spec PyProof.Rows
inductive V where
 | non | bl (b:Bool) | int (i:Int) | str (x:Str) | byt (b:Array UInt8) | flt (b:UInt64) | ref (a:Addr) | ty (n:String)
 deriving DecidableEq
def qBl:V->Value->Prop
 | .non,u=>u=Value.none
 | .bl b,u=>u=Value.bool b
 | .int i,u=>∃ t,u=Value.int i t
 | .str x,u=>∃ t,u=Value.str x t
 | .byt b,u=>∃ t,u=Value.bytes b t
 | .flt b,u=>∃ t,u=Value.float b t
 | .ref a,u=>u=Value.ref a
 | .ty n,u=>u=Value.type n
abbrev qBe:List V->List Value->Prop:=Paired qBl
theorem qBe.length {xs:List V} {us:List Value} (r:qBe xs us):xs.length=us.length:=Paired.length r
theorem qBe.get:∀ {xs:List V} {us:List Value} {i:Nat} {x:V},qBe xs us->xs[i]?=some x->∃ u,us[i]?=some u/\qBl x u
 | _,_,_,_,.nil,e=>by simp at e
 | _,_,0,_,.cons r _,e=>by simp at e;subst e;exact⟨_,rfl,r⟩
 | _,_,i+1,x,.cons _ t,e=>by
  obtain⟨u,h1,h2⟩:=qBe.get (i:=i) (x:=x) t (by simpa using e);exact⟨u,by simpa using h1,h2⟩
theorem qBe.set {x:V} {u:Value} (r:qBl x u):∀ {xs:List V} {us:List Value} (i:Nat),qBe xs us->qBe (xs.set i x) (us.set i u)
 | _,_,_,.nil=>.nil
 | _,_,0,.cons _ t=>.cons r t
 | _,_,i+1,.cons q t=>.cons q (qBe.set r i t)
theorem qBe.append:∀ {xs ys:List V} {us ws:List Value},qBe xs us->qBe ys ws->qBe (xs++ys) (us++ws)
 | _,_,_,_,.nil,s=>s
 | _,_,_,_,.cons r t,s=>.cons r (qBe.append t s)
theorem qBe.take:∀ {xs:List V} {us:List Value} (n:Nat),qBe xs us->qBe (xs.take n) (us.take n)
 | _,_,0,_=>.nil
 | _,_,_+1,.nil=>.nil
 | _,_,n+1,.cons r t=>.cons r (qBe.take n t)
theorem qBe.drop:∀ {xs:List V} {us:List Value} (n:Nat),qBe xs us->qBe (xs.drop n) (us.drop n)
 | _,_,0,r=>r
 | _,_,_+1,.nil=>.nil
 | _,_,n+1,.cons _ t=>qBe.drop n t
def qMc:Option V->Option Value->Prop
 | some v,some u=>qBl v u
 | none,none=>True
 | _,_=>False
def KV {κ:Type}:List (κ×V)->List (κ×Value)->Prop:=Paired fun (p:κ×V) (q:κ×Value)=>p.1=q.1/\qBl p.2 q.2
def kV:Key->V
 | .inl i=>.int i
 | .inr x=>.str x
inductive HO where
  | lst (xs:List V)
  | tup (xs:List V)
  | dK (kvs:List (Key×V)) | dT (kvs:List (List Key×V))
  | set (S:Int->Bool) (n:Nat)
  | ins (C dx:Addr) (fs:List (Str×V))
  | own (x:Addr)
  | xd (fs:List (Str×V))
  | met (f x:Addr)
  | rng (lo hi:Int)
  | frz (o:Obj) (u:HO)
  | tbl (ps:Array Value)
  | ext (φ:Heap->Prop)
abbrev Hp:=Addr->Option HO
def upd (H:Hp) (a:Addr) (o:HO):Hp:=fun b=>if b=a then some o else H b
theorem upd_same {H:Hp} {a:Addr} {o:HO}:upd H a o a=some o:=by unfold upd;rw[if_pos rfl]
theorem qAh {H:Hp} {a b:Addr} {o:HO} (h:b≠a):upd H a o b=H b:=by unfold upd;rw[if_neg h]
theorem qC2 {H:Hp} {a:Addr} {o u:HO}:upd (upd H a o) a u=upd H a u:=by
 funext b;unfold upd;split <;> rfl
theorem qWm {H:Hp} {a b:Addr} {o u:HO} (h:H a=some o) (h':H b=some u) (d:o≠u):a≠b:=by
 intro e;subst e;rw[h]at h';exact d (hAg h')
theorem qAk {H:Hp} {a b:Addr} {o:HO} (h:H a=some o) (h':H b=none):a≠b:=by
 intro e;subst e;rw[h]at h';cases h'
section
variable (P:Program) (w:World)
def qBo (H:Hp) (h:Heap) (a:Addr):HO->Prop
 | .lst xs=>xs.length<=sizeLine/\∃ (its:List Value) (n:Nat),qBe xs its/\h.get? a=some { cls:=.type "list",data:=.seq its.toArray n }
 | .tup xs=>xs.length<=sizeLine/\∃ its:List Value,qBe xs its/\IsTup h a its.toArray
 | .dK kvs=>kvs.length<=sizeLine/\(a == sysModules)=false/\∃ vs,KV kvs vs/\h.DictOf (qA2 P w) a vs
 | .dT kvs=>kvs.length<=sizeLine/\(a == sysModules)=false/\∃ xs:List (List Key×Addr×Value),
   Paired (fun (p:List Key×V) (q:List Key×Addr×Value)=>p.1=q.1/\H q.2.1=some (.tup (p.1.map kV))/\qBl p.2 q.2.2) kvs xs /\
   ∃ o es ep,h.get? a=some o/\o.ExactDict/\o.data = .dict es ep/\es.toList=xs.map (entryOfKey (tupleKind (qA2 P w)))/\(xs.map (·.1)).Nodup
 | .set S n=>h.SetOf (intKind P w) a S n
 | .ins C dx fs=>H dx=some (.own a)/\fs.length<=1000/\dx≠a/\h.get? a=some (PySem.W.instObj C dx) /\
   ∃ mA,h.Ns1 dx mA/\(∀ f,qMc (fs.lookup f) (mA f))/\PySem.Within mA (fs.map (·.1))
 | .own _=>∃ o,h.get? a=some o
 | .xd fs=>∃ mA,h.Ns1 a mA/\∀ f,qMc (fs.lookup f) (mA f)
 | .rng lo hi=>∃ t u v,h.get? a=some { cls:=.type "range",data:=.fields #[.int lo t,.int hi u,.int 1 v] }
 | .frz o u=>h.get? a=some o/\qBo H h a u
 | .tbl ps=>h.get? a=some { cls:=.none,data:=.fields ps }
 | .met f x=>h.get? a=some (PySem.W.methodObj (.ref f) (.ref x))
 | .ext φ=>φ h/\(∃ o,h.get? a=some o)/\∀ h1 h2:Heap,φ h1->(∀ o,h1.get? a=some o->h2.get? a=some o)->φ h2
def HOk (H:Hp) (h:Heap):Prop:=∀ a o,H a=some o->qBo P w H h a o
end
section
variable {P:Program} {w:World} {H H':Hp} {h h':Heap} {a:Addr} {o:HO}
theorem qBo.lt (x:qBo P w H h a o):a<h.objs.size:=by
 cases o with
 | lst xs=>obtain⟨_,_,_,_,e⟩:=x;exact Heap.lt_size e
 | tup xs=>obtain⟨_,_,_,p⟩:=x;exact p.lt
 | dK kvs=>obtain⟨_,_,_,_,o,_,_,e,_⟩:=x;exact Heap.lt_size e
 | dT kvs=>obtain⟨_,_,_,_,o,_,_,e,_⟩:=x;exact Heap.lt_size e
 | set S n=>obtain⟨o,_,_,_,e,_⟩:=x;exact Heap.lt_size e
 | ins C dx fs=>obtain⟨_,_,_,e,_⟩:=x;exact Heap.lt_size e
 | own y=>obtain⟨_,e⟩:=x;exact Heap.lt_size e
 | xd fs=>obtain⟨_,⟨_,_,_,e,_⟩,_⟩:=x;exact Heap.lt_size e
 | rng lo hi=>obtain⟨_,_,_,e⟩:=x;exact Heap.lt_size e
 | frz ob u=>obtain⟨e,_⟩:=x;exact Heap.lt_size e
 | tbl ps=>exact Heap.lt_size (show h.get? a=some _ from x)
 | met f y=>exact Heap.lt_size (show h.get? a=some _ from x)
 | ext φ=>obtain⟨_,⟨_,e⟩,_⟩:=x;exact Heap.lt_size e
theorem Paired.mapP {α β:Type} {F G:α->β->Prop}:∀ {l₁:List α} {l₂:List β},Paired F l₁ l₂->(∀ a b,F a b->G a b)->Paired G l₁ l₂
 | _,_,.nil,_=>.nil
 | _,_,.cons r t,f=>.cons (f _ _ r) (Paired.mapP t f)
theorem qBo.stay (x:qBo P w H h a o) (k:∀ b u,(b=a\/H b=some (.own a))->h.get? b=some u->h'.get? b=some u)
  (ho:∀ b,H b=some (.own a)->H' b=some (.own a)) (ht:∀ b xs,H b=some (.tup xs)->H' b=some (.tup xs)):qBo P w H' h' a o:=by
 induction o with
 | lst xs=>obtain⟨z,its,n,r,e⟩:=x;exact⟨z,its,n,r,k _ _ (.inl rfl) e⟩
 | tup xs=>obtain⟨z,its,r,ob,e,c⟩:=x;exact⟨z,its,r,ob,k _ _ (.inl rfl) e,c⟩
 | dK kvs=>obtain⟨z,y,vs,r,ob,es,ep,e,c⟩:=x;exact⟨z,y,vs,r,ob,es,ep,k _ _ (.inl rfl) e,c⟩
 | dT kvs =>
  obtain⟨z,y,xs,r,ob,es,ep,e,c⟩:=x;exact⟨z,y,xs,Paired.mapP r fun p q z=>⟨z.1,ht _ _ z.2.1,z.2.2⟩,ob,es,ep,k _ _ (.inl rfl) e,c⟩
 | set S n=>obtain⟨ob,es,ep,t,e,c⟩:=x;exact⟨ob,es,ep,t,k _ _ (.inl rfl) e,c⟩
 | ins C dx fs =>
  obtain⟨d,z,ne,e,mA,⟨od,es,ep,e2,c⟩,r⟩:=x;exact⟨ho _ d,z,ne,k _ _ (.inl rfl) e,mA,⟨od,es,ep,k _ _ (.inr d) e2,c⟩,r⟩
 | own y=>obtain⟨ob,e⟩:=x;exact⟨ob,k _ _ (.inl rfl) e⟩
 | xd fs=>obtain⟨mA,⟨od,es,ep,e,c⟩,r⟩:=x;exact⟨mA,⟨od,es,ep,k _ _ (.inl rfl) e,c⟩,r⟩
 | rng lo hi=>obtain⟨t,u,v,e⟩:=x;exact⟨t,u,v,k _ _ (.inl rfl) e⟩
 | frz ob u ih=>obtain⟨e,q⟩:=x;exact⟨k _ _ (.inl rfl) e,ih q⟩
 | tbl ps =>
  have e:h.get? a=some { cls:=.none,data:=.fields ps }:=x;show h'.get? a=some { cls:=.none,data:=.fields ps };exact k a _ (.inl rfl) e
 | met f y =>
  have e:h.get? a=some (PySem.W.methodObj (.ref f) (.ref y)):=x;show h'.get? a=some (PySem.W.methodObj (.ref f) (.ref y));exact k a _ (.inl rfl) e
 | ext φ=>obtain⟨p,⟨o,e⟩,st⟩:=x;exact⟨st _ _ p fun o q=>k _ _ (.inl rfl) q,⟨o,k _ _ (.inl rfl) e⟩,st⟩
theorem HOk.lt (x:HOk P w H h) (e:H a=some o):a<h.objs.size:=(x a o e).lt
theorem HOk.fresh (x:HOk P w H h) (e:h.objs.size<=a):H a=none:=by
 cases q:H a with
 | none=>rfl
 | some u=>exact absurd (hAo (x.lt q) e) (hB3 _)
theorem HOk.kept (x:HOk P w H h) (k:∀ b u,h.get? b=some u->h'.get? b=some u):HOk P w H h':=fun a o e =>
 (x a o e).stay (fun b u _ q=>k b u q) (fun _ q=>q) fun _ _ q=>q
theorem HOk.laid (x:HOk P w H h) (k:∀ b u,h.get? b=some u->h'.get? b=some u) (hp:h.objs.size<=a) (new:qBo P w (upd H a o) h' a o):HOk P w (upd H a o) h':=fun b u e=>by
 have hn:=x.fresh hp;by_cases hb:b=a
 ·subst hb;rw[upd_same]at e;cases e;exact new
 ·rw[qAh hb]at e;exact(x b u e).stay (fun c v _ q=>k c v q) (fun c q=>by rw[qAh (qAk q hn)];exact q) fun c xs q=>by rw[qAh (qAk q hn)];exact q
end
def Rd (H:Hp) (a:Addr) (u:HO):Prop:=H a=some u\/∃ o,H a=some (.frz o u)
theorem Rd.ok {P:Program} {w:World} {H:Hp} {h:Heap} {a:Addr} {u:HO} (r:Rd H a u) (x:HOk P w H h):qBo P w H h a u:=by
 rcases r with r | ⟨o,r⟩
 ·exact x a u r
 ·obtain⟨_,q⟩:=x a _ r;exact q
def Mut:Option HO->Prop
 | some (.lst _)=>True
 | some (.dK _)=>True
 | some (.dT _)=>True
 | some (.set _ _)=>True
 | some (.ins _ _ _)=>True
 | some (.ext _)=>True
 | _=>False
section
variable {P:Program} {w:World} {H:Hp} {h h':Heap} {x e:Addr} {o':HO}
theorem HOk.write (ok:HOk P w H h) (mu:Mut (H x)) (he:e=x\/H e=some (.own x)) (k:∀ b u,b≠e->h.get? b=some u->h'.get? b=some u) (heo:∃ u,h'.get? e=some u)
  (new:qBo P w (upd H x o') h' x o'):HOk P w (upd H x o') h':=fun b u q=>by
 have nown:∀ c y,H c=some (.own y)->c≠x:=fun c y r z=>by subst z;rw[r]at mu;exact mu
 have ntup:∀ c xs,H c=some (.tup xs)->c≠x:=fun c xs r z=>by subst z;rw[r]at mu;exact mu
 by_cases hb:b=x
 ·subst hb;rw[upd_same]at q;cases q;exact new
 ·rw[qAh hb]at q;by_cases hbe:b=e
  ·have q':H b=some (.own x):=by
    rcases he with z | z
    ·exact absurd (hbe.trans z) hb
    ·rw[hbe];exact z
   rw[q]at q';cases q';obtain⟨v,hv⟩:=heo;exact⟨v,by rw[hbe];exact hv⟩
  ·refine(ok b u q).stay (fun c v hc r=>k c v ?_ r) (fun c r=>by rw[qAh (nown c b r)];exact r) fun c xs r=>by rw[qAh (ntup c xs r)];exact r
   rcases hc with rfl | hc
   ·exact hbe
   ·rintro rfl;rcases he with z | z
    ·exact nown c b hc z
    ·rw[hc]at z;cases z;exact hb rfl
end
structure Un (fs ex:List Addr) (H H':Hp) (h h':Heap):Prop where
 keep:∀ b o,h.get? b=some o->H b=none->b∉fs->b∉ex->h'.get? b=some o
 slot:∀ b o,h.get? b=some o->H b=none->b∈fs->b∉ex->∃ sl,h'.get? b=some { o with slots:=sl }
 free:∀ b o,h.get? b=some o->H b=none->b∉ex->H' b=none
 there:∀ b o,h.get? b=some o->b∉ex->∃ o',h'.get? b=some o'
 tups:∀ b xs,H b=some (.tup xs)->H' b=some (.tup xs)
 frzs:∀ b o u,H b=some (.frz o u)->H' b=some (.frz o u)
 tbls:∀ b ps,H b=some (.tbl ps)->∃ more,H' b=some (.tbl (ps++more))
section
variable {fs fs' ex ex':List Addr} {H H1 H2:Hp} {h h1 h2 h':Heap} {a x e:Addr} {o:HO}
theorem Un.any (u:Un fs ex H H1 h h1) {b:Addr} {ob:Obj} (q:h.get? b=some ob) (n:H b=none) (hx:b∉ex):∃ sl,h1.get? b=some { ob with slots:=sl }:=by
 by_cases hb:b∈fs
 ·exact u.slot b ob q n hb hx
 ·exact⟨ob.slots,u.keep b ob q n hb hx⟩
theorem Un.kept (k:∀ b u,h.get? b=some u->h'.get? b=some u):Un fs ex H H h h' :=
 ⟨fun b ob q _ _ _=>k b ob q,fun b ob q _ _ _=>⟨ob.slots,k b ob q⟩,fun _ _ _ n _=>n,fun b ob q _=>⟨ob,k b ob q⟩,fun _ _ q=>q,fun _ _ _ q=>q,fun _ ps q=>⟨#[],by rw[q];simp⟩⟩
theorem Un.refl:Un fs ex H H h h:=Un.kept fun _ _ q=>q
theorem Un.laid (k:∀ b u,h.get? b=some u->h'.get? b=some u) (hp:h.objs.size<=a) (hn:H a=none):Un fs ex H (upd H a o) h h' where
 keep:=fun b u q _ _ _=>k b u q
 slot:=fun b u q _ _ _=>⟨u.slots,k b u q⟩
 free:=fun b u q n _=>by rw[qAh (hAi (hAo (Heap.lt_size q) hp))];exact n
 there:=fun b u q _=>⟨u,k b u q⟩
 tups:=fun b xs q=>by rw[qAh (qAk q hn)];exact q
 frzs:=fun b u xs q=>by rw[qAh (qAk q hn)];exact q
 tbls:=fun b ps q=>⟨#[],by rw[qAh (qAk q hn),q];simp⟩
theorem Un.write (mu:Mut (H x)) (he:e=x\/H e=some (.own x)) (k:∀ b u,b≠e->h.get? b=some u->h'.get? b=some u) (heo:∃ u,h'.get? e=some u):Un fs ex H (upd H x o) h h':=by
 have hx:∀ b,H b=none->b≠x:=fun b n z=>by subst z;rw[n]at mu;exact mu
 have hb:∀ b,H b=none->b≠e:=fun b n z=>by
  subst z;rcases he with r | r
  ·exact hx b n r
  ·rw[n]at r;cases r
 have hm:∀ b u,H b=some u->¬Mut (some u)->b≠x:=fun b u q nm z=>by subst z;rw[q]at mu;exact nm mu
 refine⟨fun b u q n _ _=>k b u (hb b n) q,fun b u q n _ _=>⟨u.slots,k b u (hb b n) q⟩,fun b u q n _=>by rw[qAh (hx b n)];exact n,fun b u q _=>?_,
  fun b xs q=>by rw[qAh (hm b _ q fun z=>z)];exact q,fun b u xs q=>by rw[qAh (hm b _ q fun z=>z)];exact q,fun b ps q=>⟨#[],by rw[qAh (hm b _ q fun z=>z),q];simp⟩⟩
 by_cases hbe:b=e
 ·subst hbe;exact heo
 ·exact⟨u,k b u hbe q⟩
end
def trk (h:Heap) (H:Hp):List Addr:=(List.range h.objs.size).filter fun a=>(H a).isSome
def qQg (h:Heap) (H:Hp):Heap:=PySem.W.hideAll h (trk h H)
theorem qOj (h:Heap) (H:Hp):(qQg h H).objs.size=h.objs.size:=PySem.W.hideAll_size _ _
theorem qQf {h:Heap} {H:Hp} {b:Addr} {o:Obj} (e:h.get? b=some o) (n:H b=none):(qQg h H).get? b=some o :=
 hCa _ e fun hm=>by
  have q:(H b).isSome=true:=(hC1.mp hm).2;rw[n]at q;simp at q
theorem qSs {h:Heap} {H:Hp} {b:Addr} {o:Obj} (e:(qQg h H).get? b=some o):h.get? b=some o/\H b=none:=by
 have e':h.get? b=some o:=PySem.W.of_hideAll (trk h H) e;refine⟨e',?_⟩;cases q:H b with
 | none=>rfl
 | some x =>
  have hm:b∈trk h H:=hC1.mpr ⟨hBj.mpr (Heap.lt_size e'),by simp[q]⟩;have z:(qQg h H).get? b=none:=hBp (trk h H) hm;rw[z]at e;cases e
def qTa (g h:Heap) (L:Addr):List (Addr×Obj):=(List.range h.objs.size).filterMap fun a=>if a=L\/(g.get? a).isSome=true then none else (h.get? a).map fun o=>(a,o)
def rest (g h:Heap) (L d:Addr):List (Addr×Obj):=(qTa g h L).filter fun p=>decide (p.1≠d)
end L2
namespace L2
open PySem PySem.Spec PyProof.Rows
structure Mod (K:PySem.W.Frag) (mg:Str->Option Value) (base:Heap):Prop where
 kin:K.In base
 glob:base.Ns mainGlobals mg
 blt:∃ mb,base.Ns builtinsNs mb/\∀ x:Str,x≠"__name__"->mb x=bootBuiltins x
 nolimit:base.NoLimit
structure Cx where
 prog:Program
 w:World
 K:PySem.W.Frag
 mg:Str->Option Value
 base:Heap
 A:Around
 N:List Str
 s₀:Shared
 H₀:Hp
 env:Env
 outer:List Env
 stack:List Env
 ex:List Addr
 fn:Str->Bool
 calm:Bool
 pn:List (Addr×Obj)
 xe:Value->Shared->Prop
def frs (l:List Env):List Addr:=l.filterMap (·.frame)
abbrev Cx.fs (X:Cx):List Addr:=frs X.outer
def Vis (sc:Scope) (x:Str):Prop:=sc.names.lookup x=some .local\/sc.names.lookup x=some .cell\/sc.names.lookup x=some .free
def Loc (sc:Scope) (x:Str):Prop:=sc.names.lookup x=some .local\/sc.names.lookup x=some .cell
def qX7 (env:Env) (h:Heap) (m:Str->Option Value) (x:Str) (u:Value):Prop :=
 (env.kindOf x=some .local/\m x=some u)\/((env.kindOf x=some .cell\/env.kindOf x=some .free)/\∃ c,env.cells.lookup x=some c/\h.IsCell c (some u))
structure Cx.Ok (X:Cx):Prop where
 mod:Mod X.K X.mg X.base
 kind:X.env.scope.kind = .function
 glob:X.env.globals=mainGlobals
 blt:X.env.builtins=builtinsNs
 above:X.s₀.heap.objs.size<=X.env.locals
 inj:∀ x y c,X.env.cells.lookup x=some c->X.env.cells.lookup y=some c->x=y
 has:∀ x,(X.env.kindOf x=some .cell\/X.env.kindOf x=some .free)->∃ c,X.env.cells.lookup x=some c
 cab:∀ x c,X.fn x=true->X.env.cells.lookup x=some c->X.s₀.heap.objs.size<=c
 hd:X.calm=true->X.A.handled=none
 frames:X.A.frames=some X.stack
 stk:X.stack=X.outer\/(X.stack=X.env :: X.outer/\X.env.frame=some X.env.locals)
 exf:∀ b∈X.ex,b≠X.env.locals/\∀ x c,X.env.cells.lookup x=some c->c≠b
 bs:∀ b o,X.base.get? b=some o->X.s₀.heap.get? b=some o/\X.H₀ b=none
 bsz:X.base.objs.size<=X.s₀.heap.objs.size
 noex:∀ b o,X.base.get? b=some o->b∉X.ex
 exfs:∀ b∈X.ex,b∉X.fs
 funs:X.s₀.heap.FunFrames X.base X.outer
 frf:∀ b∈X.fs,X.H₀ b=none
structure Inv (X:Cx) (pins:List (Addr×Obj)) (σ:List (Option V)) (H:Hp) (s:Shared):Prop where
 ok:X.Ok
 os:s.os=X.s₀.os
 bare:AllBare s.gens
 base:Un X.fs X.ex X.H₀ H X.s₀.heap s.heap
 loc:∃ m,s.heap.Ns X.env.locals m/\∀ (i:Nat) (x:Str) (v:V),X.N[i]?=some x->σ[i]?=some (some v)->Vis X.env.scope x->∃ u,qBl v u/\qX7 X.env s.heap m x u
 cell:∀ x c,X.env.cells.lookup x=some c->∃ v,s.heap.IsCell c v
 free:H X.env.locals=none
 freeC:∀ x c,X.env.cells.lookup x=some c->H c=none
 pin:∀ p∈X.pn++pins,s.heap.get? p.1=some p.2/\H p.1=none/\p.1≠X.env.locals/\p.1∉X.fs/\∀ v,p.2.data≠.cell v
 hok:HOk X.prog X.w H s.heap
 len:σ.length=X.N.length
section
variable {X:Cx} {pins:List (Addr×Obj)} {σ:List (Option V)} {H H':Hp} {s:Shared} {h':Heap}
theorem Cx.Ok.nofr (ok:X.Ok) {b:Addr} {o:Obj} (e:X.base.get? b=some o):b∉X.fs:=fun hb=>by
 have:=(ok.funs.mem hb).1;rw[e]at this;cases this
theorem Inv.bs (I:Inv X pins σ H s):∀ b o,X.base.get? b=some o->s.heap.get? b=some o/\H b=none:=fun b o e =>
 ⟨I.base.keep b o (I.ok.bs b o e).1 (I.ok.bs b o e).2 (I.ok.nofr e) (I.ok.noex b o e),I.base.free b o (I.ok.bs b o e).1 (I.ok.bs b o e).2 (I.ok.noex b o e)⟩
theorem Inv.bk (I:Inv X pins σ H s):∀ b o,X.base.get? b=some o->s.heap.get? b=some o:=fun b o e=>(I.bs b o e).1
theorem Inv.mod (I:Inv X pins σ H s):Mod X.K X.mg X.base:=I.ok.mod
theorem Inv.kIn (I:Inv X pins σ H s):X.K.In s.heap:=I.ok.mod.kin.keeps I.bk
theorem Inv.lt (I:Inv X pins σ H s):X.env.locals<s.heap.objs.size:=let ⟨_,hn,_⟩:=I.loc;hn.lt
theorem Inv.sz (I:Inv X pins σ H s):X.s₀.heap.objs.size<=s.heap.objs.size:=hAt I.ok.above (hAq I.lt)
theorem Inv.nofs (I:Inv X pins σ H s) {a:Addr} (h:s.heap.objs.size<=a):a∉X.fs:=fun hb=>by
 obtain⟨_,o,ho,_⟩:=I.ok.funs.mem hb;exact absurd (hAo (Heap.lt_size ho) (hAt I.sz h)) (hB3 _)
theorem Inv.cne (I:Inv X pins σ H s):∀ x c,X.env.cells.lookup x=some c->c≠X.env.locals:=fun x c e z=>by
 obtain⟨v,o,ho,hd⟩:=I.cell x c e;obtain⟨m,⟨o',es,ep,ho',hd',_⟩,_⟩:=I.loc;rw[z,ho']at ho;cases ho;rw[hd']at hd;cases hd
theorem Inv.funs (I:Inv X pins σ H s):s.heap.FunFrames X.base X.outer:=by
 have all:∀ (l:List Env),(∀ b∈frs l,b∈X.fs)->X.s₀.heap.FunFrames X.base l->s.heap.FunFrames X.base l:=by
  intro l
  induction l with
  | nil=>intro _ _;trivial
  | cons env r ih =>
   intro hs hl;obtain⟨hk,⟨L,o,hf,hn,ho,hd⟩,hr⟩:=hl;have hL:L∈X.fs:=hs L (by unfold frs;rw[hAz,hf];exact hA6);obtain⟨sl,e⟩:=I.base.slot L o ho (I.ok.frf L hL) hL fun z=>I.ok.exfs L z hL
   exact⟨hk,⟨L,_,hf,hn,e,hd⟩,ih (fun b hb=>hs b (by unfold frs;rw[hAz,hf];exact hA5 _ hb)) hr⟩
 exact all X.outer (fun _ hb=>hb) I.ok.funs
theorem Inv.stack (I:Inv X pins σ H s):s.heap.FunFrames X.base X.stack:=by
 rcases I.ok.stk with e | ⟨e,hf⟩
 ·rw[e];exact I.funs
 ·rw[e];obtain⟨m,hn,_⟩:=I.loc;refine .cons (by rw[I.ok.kind];decide) hf hn ?_ I.funs;exact Heap.get?_none_of_le (hAt I.ok.bsz I.ok.above)
theorem Inv.stkSub (I:Inv X pins σ H s):∀ b∈frs X.stack,b∈X.env.locals :: X.fs:=fun b hb=>by
 rcases I.ok.stk with e | ⟨e,hf⟩
 ·rw[e]at hb;exact hA5 _ hb
 ·rw[e]at hb;unfold frs at hb;rw[hAz,hf]at hb;exact hb
theorem Inv.stkFree (I:Inv X pins σ H s):∀ b∈frs X.stack,H b=none:=fun b hb=>by
 rcases hA9.mp (I.stkSub b hb) with e | hb
 ·rw[e];exact I.free
 ·obtain⟨_,o,ho,_⟩:=I.ok.funs.mem hb;exact I.base.free b o ho (I.ok.frf b hb) fun z=>I.ok.exfs b z hb
theorem Inv.step {g':Array GenState} {t':Nat} {d':Drawn} {ch:List Addr} (I:Inv X pins σ H s)
  (hch:∀ b∈ch,(b∈X.ex\/X.s₀.heap.objs.size<=b)/\b≠X.env.locals/\(∀ x c,X.env.cells.lookup x=some c->c≠b)/\∀ p∈X.pn++pins,p.1≠b)
  (keep:∀ b o,b≠X.env.locals->b∉X.fs->b∉ch->s.heap.get? b=some o->H b=none->h'.get? b=some o)
  (slot:∀ b o,b≠X.env.locals->b∈X.fs->b∉ch->s.heap.get? b=some o->H b=none->∃ sl,h'.get? b=some { o with slots:=sl }) (free:∀ b o,b∉ch->s.heap.get? b=some o->H b=none->H' b=none)
  (there:∀ b o,b∉ch->s.heap.get? b=some o->∃ o',h'.get? b=some o')
  (tups:∀ b xs,H b=some (.tup xs)->H' b=some (.tup xs)) (frzs:∀ b o u,H b=some (.frz o u)->H' b=some (.frz o u)) (tbls:∀ b ps,H b=some (.tbl ps)->∃ more,H' b=some (.tbl (ps++more)))
  (ns:∀ m,s.heap.Ns X.env.locals m->h'.Ns X.env.locals m) (hok:HOk X.prog X.w H' h') (hg:AllBare g') :
  Inv X pins σ H' { s with heap:=h',gens:=g',drawn:=d',toks:=t' }:=by
 have neL:∀ b o,X.s₀.heap.get? b=some o->b≠X.env.locals:=fun b o e=>hAi (hAo (Heap.lt_size e) I.ok.above)
 have neC:∀ b o,X.s₀.heap.get? b=some o->b∉X.ex->b∉ch:=fun b o e hx hb=>by
  rcases(hch b hb).1 with z | z
  ·exact hx z
  ·exact absurd (hAo (Heap.lt_size e) z) (hB3 _)
 have cellK:∀ x c,X.env.cells.lookup x=some c->∀ v,s.heap.IsCell c v->h'.IsCell c v:=fun x c e v ⟨o,ho,hd⟩=>by
  have nch:c∉ch:=fun z=>(hch c z).2.2.1 x c e rfl
  by_cases hc:c∈X.fs
  ·obtain⟨sl,q⟩:=slot c o (I.cne x c e) hc nch ho (I.freeC x c e);exact⟨_,q,hd⟩
  ·exact⟨o,keep c o (I.cne x c e) hc nch ho (I.freeC x c e),hd⟩
 refine⟨I.ok,I.os,hg,⟨fun b o e n hb hx=>?_,fun b o e n hb hx=>?_,fun b o e n hx=>?_,fun b o e hx=>?_,fun b xs e=>tups b xs (I.base.tups b xs e),fun b o xs e=>frzs b o xs (I.base.frzs b o xs e),fun b ps e=>?_⟩,?_,fun x c e=>?_,?_,fun x c e=>?_,fun p hp=>?_,hok,I.len⟩
 ·exact keep b o (neL b o e) hb (neC b o e hx) (I.base.keep b o e n hb hx) (I.base.free b o e n hx)
 ·obtain⟨sl,e1⟩:=I.base.slot b o e n hb hx;obtain⟨sl',e2⟩:=slot b _ (neL b o e) hb (neC b o e hx) e1 (I.base.free b o e n hx);exact⟨sl',e2⟩
 ·obtain⟨o',e1⟩:=I.base.there b o e hx;exact free b o' (neC b o e hx) e1 (I.base.free b o e n hx)
 ·obtain⟨o',e1⟩:=I.base.there b o e hx;exact there b o' (neC b o e hx) e1
 ·obtain⟨m1,e1⟩:=I.base.tbls b ps e;obtain⟨m2,e2⟩:=tbls b _ e1;exact⟨m1++m2,by rw[e2,Array.append_assoc]⟩
 ·obtain⟨m,hn,hl⟩:=I.loc;refine⟨m,ns m hn,fun i x v e1 e2 e3=>?_⟩;obtain⟨u,r,l⟩:=hl i x v e1 e2 e3;refine⟨u,r,?_⟩;rcases l with l | ⟨k,c,e,z⟩
  ·exact .inl l
  ·exact .inr ⟨k,c,e,cellK x c e _ z⟩
 ·obtain⟨v,z⟩:=I.cell x c e;exact⟨v,cellK x c e v z⟩
 ·obtain⟨m,⟨o,_,_,ho,_⟩,_⟩:=I.loc;exact free _ o (fun z=>(hch _ z).2.1 rfl) ho I.free
 ·obtain⟨v,o,ho,hd⟩:=I.cell x c e;exact free c o (fun z=>(hch c z).2.2.1 x c e rfl) ho (I.freeC x c e)
 ·obtain⟨e,n,ne,nf,d⟩:=I.pin p hp;have nch:p.1∉ch:=fun z=>(hch p.1 z).2.2.2 p hp rfl
  exact⟨keep p.1 p.2 ne nf nch e n,free p.1 p.2 nch e n,ne,nf,d⟩
theorem Inv.un {t':Nat} (I:Inv X pins σ H s) (u:Un X.fs [] H H' s.heap h') (hok:HOk X.prog X.w H' h'):Inv X pins σ H' { s with heap:=h',toks:=t' }:=by
 obtain⟨m,⟨o,es,ep,ho,r⟩,_⟩:=id I.loc;obtain⟨sl,hL⟩:=u.any ho I.free (by simp);exact I.step (g':=s.gens) (d':=s.drawn) (ch:=[]) (fun _ z=>nomatch z) (fun b o _ hb _ e n=>u.keep b o e n hb (by simp)) (fun b o _ hb _ e n=>u.slot b o e n hb (by simp)) (fun b o _ e n=>u.free b o e n (by simp)) (fun b o _ e=>u.there b o e (by simp)) u.tups u.frzs u.tbls (fun m' hm=>by
  obtain⟨o',es',ep',ho',r'⟩:=hm;rw[ho]at ho';cases ho';exact⟨_,es',ep',hL,r'⟩) hok I.bare
theorem Inv.call {g':Array GenState} {t':Nat} {d':Drawn} {ch:List Addr} (I:Inv X pins σ H s) (u:Un (frs X.stack) ch H H' s.heap h') (hok:HOk X.prog X.w H' h') (hg:AllBare g')
  (hch:∀ b∈ch,(b∈X.ex\/X.s₀.heap.objs.size<=b)/\b≠X.env.locals/\(∀ x c,X.env.cells.lookup x=some c->c≠b)/\∀ p∈X.pn++pins,p.1≠b) :
  Inv X pins σ H' { s with heap:=h',gens:=g',drawn:=d',toks:=t' }:=by
 obtain⟨m,⟨o,es,ep,ho,r⟩,_⟩:=id I.loc;obtain⟨sl,hL⟩:=u.any ho I.free fun z=>(hch _ z).2.1 rfl
 exact I.step (ch:=ch) hch (fun b o hL hb hc e n=>u.keep b o e n (fun z=>(hA9.mp (I.stkSub b z)).elim hL hb) hc) (fun b o _ _ hc e n=>u.any e n hc) (fun b o hc e n=>u.free b o e n hc) (fun b o hc e=>u.there b o e hc) u.tups u.frzs u.tbls (fun m' hm=>by
  obtain⟨o',es',ep',ho',r'⟩:=hm;rw[ho]at ho';cases ho';exact⟨_,es',ep',hL,r'⟩) hok hg
theorem Inv.turned {t':Nat} {it:Addr} (I:Inv X pins σ H s) (k:∀ b o,b≠it->s.heap.get? b=some o->h'.get? b=some o) (hn:H it=none) (hL:it≠X.env.locals)
  (h1:it∈X.ex\/X.s₀.heap.objs.size<=it) (h2:∀ x c,X.env.cells.lookup x=some c->c≠it) (h3:∀ p∈X.pn++pins,p.1≠it):Inv X pins σ H { s with heap:=h',toks:=t' }:=by
 have nit:∀ b u,H b=some u->b≠it:=fun b u e z=>by rw[z,hn]at e;cases e
 refine I.step (g':=s.gens) (d':=s.drawn) (ch:=[it]) (fun b hb=>?_) (fun b o _ _ hc e _=>k b o (fun z=>hc (by simp[z])) e) (fun b o _ _ hc e _=>⟨o.slots,k b o (fun z=>hc (by simp[z])) e⟩) (fun _ _ _ _ n=>n)
  (fun b o hc e=>⟨o,k b o (fun z=>hc (by simp[z])) e⟩) (fun _ _ e=>e) (fun _ _ _ e=>e) (fun b ps e=>⟨#[],by rw[e];simp⟩) (fun m hm=>?_) (fun b u e=>?_) I.bare
 ·have e:b=it:=by simpa using hb
  subst e;exact⟨h1,hL,h2,h3⟩
 ·obtain⟨o,es,ep,ho,r⟩:=hm;exact⟨o,es,ep,k _ o (Ne.symm hL) ho,r⟩
 ·refine(I.hok b u e).stay (fun c v hc q=>k c v ?_ q) (fun _ q=>q) fun _ _ q=>q
  rcases hc with z | z
  ·rw[z];exact nit b u e
  ·exact nit c _ z
theorem Inv.tok (I:Inv X pins σ H s) (t:Nat):Inv X pins σ H { s with toks:=t }:=I.un (h':=s.heap) (t':=t) Un.refl I.hok
theorem Inv.kept {t':Nat} (I:Inv X pins σ H s) (k:∀ b u,s.heap.get? b=some u->h'.get? b=some u):Inv X pins σ H { s with heap:=h',toks:=t' }:=I.un (Un.kept k) (I.hok.kept k)
theorem Inv.laid {a:Addr} {o:HO} {t':Nat} (I:Inv X pins σ H s) (k:∀ b u,s.heap.get? b=some u->h'.get? b=some u) (hp:s.heap.objs.size<=a) (new:qBo X.prog X.w (upd H a o) h' a o) :
  Inv X pins σ (upd H a o) { s with heap:=h',toks:=t' }:=I.un (Un.laid k hp (I.hok.fresh hp)) (I.hok.laid k hp new)
theorem Inv.write {x e:Addr} {o:HO} {t':Nat} (I:Inv X pins σ H s) (mu:Mut (H x)) (he:e=x\/H e=some (.own x)) (k:∀ b u,b≠e->s.heap.get? b=some u->h'.get? b=some u) (heo:∃ u,h'.get? e=some u)
  (new:qBo X.prog X.w (upd H x o) h' x o):Inv X pins σ (upd H x o) { s with heap:=h',toks:=t' }:=I.un (Un.write mu he k heo) (I.hok.write mu he k heo new)
theorem Inv.weak {σ':List (Option V)} (I:Inv X pins σ H s) (hl:σ'.length=σ.length) (w:∀ (i:Nat) v,σ'[i]?=some (some v)->σ[i]?=some (some v)):Inv X pins σ' H s :=
 ⟨I.ok,I.os,I.bare,I.base,let ⟨m,hn,hl'⟩:=I.loc;⟨m,hn,fun i x v e1 e2 e3=>hl' i x v e1 (w i v e2) e3⟩,I.cell,I.free,I.freeC,I.pin,I.hok,hl.trans I.len⟩
theorem Inv.pins_of {pins':List (Addr×Obj)} (I:Inv X pins σ H s) (h:∀ p∈pins',s.heap.get? p.1=some p.2/\H p.1=none/\p.1≠X.env.locals/\p.1∉X.fs/\∀ v,p.2.data≠.cell v):Inv X pins' σ H s :=
 ⟨I.ok,I.os,I.bare,I.base,I.loc,I.cell,I.free,I.freeC,fun p hp=>(hAd.mp hp).elim (fun z=>I.pin p (hB1 _ z)) (h p),I.hok,I.len⟩
theorem qKy {N:List Str} (hN:N.Nodup) {i j:Nat} {x:Str} (a:N[i]?=some x) (b:N[j]?=some x):i=j:=by
 obtain⟨h1,e1⟩:=hAr.mp a;obtain⟨h2,e2⟩:=hAr.mp b;exact(List.getElem_inj hN).mp (e1.trans e2.symm)
theorem qFd {M:Model} {A:Around} {E:Value->Shared->Prop} {i:Nat} {x:Str} {v:V} {u:Value} {Q:Unit->Shared->Prop} (I:Inv X pins σ H s) (hN:X.N.Nodup) (hi:X.N[i]?=some x) (hx:Loc X.env.scope x) (r:qBl v u)
  (h:∀ s',Inv X pins (σ.set i (some v)) H s'->(∃ a,Heap.SameBut a s.heap s'.heap/\(a=X.env.locals\/X.env.cells.lookup x=some a))->Q () s') (hf:X.fn x=true\/X.env.scope.names.lookup x=some .local:=by first | exact .inl rfl | exact .inr rfl | assumption):wpAny M A (storeName X.env x u) Q E s:=by
 obtain⟨m,hn,hl⟩:=id I.loc;have hcls:(X.env.scope.kind == .class || (X.env.scope.kind == .module && X.env.locals != X.env.globals))=false:=by rw[I.ok.kind];rfl
 have hiσ:i < σ.length:=by rw[I.len];exact(hAr.mp hi).1
 have cne:=I.cne;have tracked:∀ {a:Addr} {h':Heap},(∃ o,s.heap.get? a=some o/\H a=none)->Heap.SameBut a s.heap h'->HOk X.prog X.w H h':=fun {a h'} ha hs b ob e=>by
  obtain⟨_,_,hfree⟩:=ha;refine(I.hok b ob e).stay (fun c w' hc q=>(hs.2 c ?_).trans q) (fun _ q=>q) fun _ _ q=>q
  rintro rfl;rcases hc with rfl | hc
  ·rw[hfree]at e;cases e
  ·rw[hfree]at hc;cases hc
 rcases hx with hk | hk
 ·refine wpAny_storeName_local hk hn (fun h' hn' hs=>?_) hcls;obtain⟨oL,_,_,hoL,_⟩:=id hn;refine h _ ⟨I.ok,I.os,I.bare,⟨fun b o e n hb hx=>?_,fun b o e n hb hx=>?_,I.base.free,fun b o e hx=>?_,I.base.tups,I.base.frzs,I.base.tbls⟩,⟨_,hn',fun j y v' e1 e2 e3=>?_⟩,fun y c e=>?_,I.free,I.freeC,fun p hp=>?_,tracked ⟨oL,hoL,I.free⟩ hs,by simpa using I.len⟩ ⟨_,hs,.inl rfl⟩
  ·exact(hs.2 b (hAi (hAo (Heap.lt_size e) I.ok.above))).trans (I.base.keep b o e n hb hx)
  ·obtain⟨sl,e1⟩:=I.base.slot b o e n hb hx;exact⟨sl,(hs.2 b (hAi (hAo (Heap.lt_size e) I.ok.above))).trans e1⟩
  ·obtain⟨o',e1⟩:=I.base.there b o e hx;exact⟨o',(hs.2 b (hAi (hAo (Heap.lt_size e) I.ok.above))).trans e1⟩
  ·by_cases hj:j=i
   ·subst hj;rw[hi]at e1;cases e1;rw[List.getElem?_set_self hiσ]at e2;cases e2;exact⟨u,r,.inl ⟨hk,by simp⟩⟩
   ·rw[List.getElem?_set_ne (Ne.symm hj)]at e2;obtain⟨u',r',q⟩:=hl j y v' e1 e2 e3;refine⟨u',r',?_⟩;rcases q with ⟨k,e⟩ | ⟨k,c,e,z⟩
    ·refine .inl ⟨k,?_⟩;have:y≠x:=fun e=>hj (qKy hN e1 (e▸hi))
     simp[this,e]
    ·exact .inr ⟨k,c,e,z.sameBut hs (cne y c e)⟩
  ·obtain⟨w',z⟩:=I.cell y c e;exact⟨w',z.sameBut hs (cne y c e)⟩
  ·obtain⟨e,n,ne,nf,d⟩:=I.pin p hp;exact⟨(hs.2 p.1 ne).trans e,n,ne,nf,d⟩
 ·have hfn:X.fn x=true:=by
   rcases hf with z | z
   ·exact z
   ·rw[z]at hk;cases hk
  obtain⟨c,hc⟩:=I.ok.has x (.inl hk);obtain⟨w',z⟩:=I.cell x c hc;refine wpAny_storeName_cell I.ok.kind hk hc z (fun h' hc' hs=>?_);obtain⟨oc,hoc,hocd⟩:=id z;refine h { s with heap:=h' } ⟨I.ok,I.os,I.bare,⟨fun b o e n hb hx=>?_,fun b o e n hb hx=>?_,I.base.free,fun b o e hx=>?_,I.base.tups,I.base.frzs,I.base.tbls⟩,⟨m,hn.sameBut hs (Ne.symm (cne x c hc)),fun j y v' e1 e2 e3=>?_⟩,fun y c' e=>?_,I.free,I.freeC,fun p hp=>?_,tracked ⟨oc,hoc,I.freeC x c hc⟩ hs,by simpa using I.len⟩ ⟨c,hs,.inr hc⟩
  ·exact(hs.2 b (hAi (hAo (Heap.lt_size e) (I.ok.cab x c hfn hc)))).trans (I.base.keep b o e n hb hx)
  ·obtain⟨sl,e1⟩:=I.base.slot b o e n hb hx;exact⟨sl,(hs.2 b (hAi (hAo (Heap.lt_size e) (I.ok.cab x c hfn hc)))).trans e1⟩
  ·obtain⟨o',e1⟩:=I.base.there b o e hx;exact⟨o',(hs.2 b (hAi (hAo (Heap.lt_size e) (I.ok.cab x c hfn hc)))).trans e1⟩
  ·by_cases hj:j=i
   ·subst hj;rw[hi]at e1;cases e1;rw[List.getElem?_set_self hiσ]at e2;cases e2;exact⟨u,r,.inr ⟨.inl hk,c,hc,hc'⟩⟩
   ·rw[List.getElem?_set_ne (Ne.symm hj)]at e2;obtain⟨u',r',q⟩:=hl j y v' e1 e2 e3;refine⟨u',r',?_⟩;rcases q with q | ⟨k,c',e,z'⟩
    ·exact .inl q
    ·refine .inr ⟨k,c',e,z'.sameBut hs ?_⟩;rintro rfl;exact hj (qKy hN e1 (I.ok.inj _ _ _ e hc▸hi))
  ·by_cases hcc:c'=c
   ·subst hcc;exact⟨_,hc'⟩
   ·obtain⟨w2,z2⟩:=I.cell y c' e;exact⟨w2,z2.sameBut hs hcc⟩
  ·obtain⟨e,n,ne,nf,d⟩:=I.pin p hp;refine⟨(hs.2 p.1 ?_).trans e,n,ne,nf,d⟩;intro q;rw[q,hoc]at e;have q':oc=p.2:=hAg e;exact d w' (by rw[<-q'];exact hocd)
theorem qKb {M:Model} {A:Around} {E:Value->Shared->Prop} {i:Nat} {x:Str} {v:V} {u:Value} {Q:Unit->Shared->Prop} (I:Inv X pins σ H s) (hN:X.N.Nodup) (hi:X.N[i]?=some x) (hx:Loc X.env.scope x) (r:qBl v u)
  (h:∀ s',Inv X pins (σ.set i (some v)) H s'->Q () s') (hf:X.fn x=true\/X.env.scope.names.lookup x=some .local:=by first | exact .inl rfl | exact .inr rfl | assumption):wpAny M A (storeName X.env x u) Q E s :=
 qFd I hN hi hx r (fun s' I' _=>h s' I') hf
theorem Inv.call' {s':Shared} {ch:List Addr} (I:Inv X pins σ H s) (ho:s'.os=s.os) (u:Un (frs X.stack) ch H H' s.heap s'.heap) (hok:HOk X.prog X.w H' s'.heap) (hg:AllBare s'.gens)
  (hch:∀ b∈ch,(b∈X.ex\/X.s₀.heap.objs.size<=b)/\b≠X.env.locals/\(∀ x c,X.env.cells.lookup x=some c->c≠b)/\∀ p∈X.pn++pins,p.1≠b):Inv X pins σ H' s':=by
 obtain⟨h',g',d',t',o'⟩:=s';have e:o'=s.os:=ho;subst e;exact I.call (g':=g') (t':=t') (d':=d') u hok hg hch
end
abbrev XK:=Value->Option Addr->Hp->Prop
abbrev St:=List (Option V)
abbrev VK:=V->Hp->Prop
abbrev TE:=St->Hp->VK->Prop
abbrev TT:=St->Hp->(Bool->Hp->Prop)->Prop
abbrev TA:=St->Hp->(List V->Hp->Prop)->Prop
structure Ends where
 nx:St->Hp->Prop
 rt:VK
 bk:St->Hp->Prop:=fun _ _=>False
 ct:St->Hp->Prop:=fun _ _=>False
abbrev TS:=Ends->St->Hp->Prop
def EP (X:Cx) (pins:List (Addr×Obj)) (σ:St) (Q:VK) (u:Value) (s':Shared):Prop:=∃ v H',Inv X pins σ H' s'/\qBl v u/\Q v H'
def TP (X:Cx) (pins:List (Addr×Obj)) (σ:St) (Q:Bool->Hp->Prop) (b:Bool) (s':Shared):Prop:=∃ H',Inv X pins σ H' s'/\Q b H'
def AP (X:Cx) (pins:List (Addr×Obj)) (σ:St) (Q:List V->Hp->Prop) (us:List Value) (s':Shared):Prop:=∃ vs H',Inv X pins σ H' s'/\qBe vs us/\Q vs H'
def SP (X:Cx) (pins:List (Addr×Obj)) (D:Ends) (f:Flow) (s':Shared):Prop :=
 match f with
 | .next=>∃ σ' H',Inv X pins σ' H' s'/\D.nx σ' H'
 | .brk=>∃ σ' H',Inv X pins σ' H' s'/\D.bk σ' H'
 | .cont=>∃ σ' H',Inv X pins σ' H' s'/\D.ct σ' H'
 | .ret u=>∃ v σ' H',Inv X pins σ' H' s'/\qBl v u/\D.rt v H'
def PE (X:Cx) (e:Expr) (t:TE):Prop :=
 ∀ (pins:List (Addr×Obj)) (s:Shared) (σ:St) (H:Hp) (Q:VK),Inv X pins σ H s->t σ H Q->wpAny (model X.prog X.w) X.A (eval e X.env) (EP X pins σ Q) X.xe s
def PT (X:Cx) (e:Expr) (t:TT):Prop :=
 ∀ (pins:List (Addr×Obj)) (s:Shared) (σ:St) (H:Hp) (Q:Bool->Hp->Prop),Inv X pins σ H s->t σ H Q->wpAny (model X.prog X.w) X.A (isTrue e X.env (eval e X.env)) (TP X pins σ Q) X.xe s
def PW (X:Cx) (e:Expr) (t:TT):Prop :=
 ∀ (whole:Sem Value) (pins:List (Addr×Obj)) (s:Shared) (σ:St) (H:Hp) (Q:Bool->Hp->Prop),Inv X pins σ H s->t σ H Q->wpAny (model X.prog X.w) X.A (isTrue e X.env whole) (TP X pins σ Q) X.xe s
theorem PW.pt {X:Cx} {e:Expr} {t:TT} (h:PW X e t):PT X e t:=h _
def PA (X:Cx) (es:List Expr) (t:TA):Prop :=
 ∀ (pos:Pos) (pins:List (Addr×Obj)) (s:Shared) (σ:St) (H:Hp) (Q:List V->Hp->Prop),Inv X pins σ H s->t σ H Q->wpAny (model X.prog X.w) X.A (spliced (backTo pos (starEach es X.env))) (AP X pins σ Q) X.xe s
def PS (X:Cx) (st:Stmt) (t:TS):Prop :=
 ∀ (pins:List (Addr×Obj)) (s:Shared) (σ:St) (H:Hp) (D:Ends),Inv X pins σ H s->t D σ H->wpAny (model X.prog X.w) X.A (exec st X.env) (SP X pins D) X.xe s
def PSs (X:Cx) (st:List Stmt) (t:TS):Prop :=
 ∀ (pins:List (Addr×Obj)) (s:Shared) (σ:St) (H:Hp) (D:Ends),Inv X pins σ H s->t D σ H->wpAny (model X.prog X.w) X.A (execs st X.env) (SP X pins D) X.xe s
theorem thn {α:Type} {t:Sem α} {Q Q':α->Shared->Prop} {M:Model} {A:Around} {E:Value->Shared->Prop} {s:Shared} (h:wpAny M A t Q E s) (hQ:∀ a s,Q a s->Q' a s):wpAny M A t Q' E s:=wpAny_mono h hQ fun _ _ x=>x
end L2
namespace L2
open PySem PySem.Spec PyProof.Rows
section
variable {X:Cx}
def qRn (i:Nat):TE:=fun σ H Q=>∃ v,σ[i]?=some (some v)/\Q v H
def tC (v:V):TE:=fun _ H Q=>Q v H
theorem qUn {i:Nat} {x:Str} {pos:Pos} (hN:X.N[i]?=some x) (hv:Vis X.env.scope x) (hd:(x == ("__debug__" : Str))=false:=by decide) (hcd:(x == ("__classdict__" : Str))=false:=by decide):PE X (.Name x pos) (qRn i):=by
 intro pins s σ H Q I h;obtain⟨v,e,h⟩:=h;obtain⟨m,hn,hl⟩:=I.loc;obtain⟨u,r,l⟩:=hl i x v hN e hv;have fin:EP X pins σ Q u s:=⟨v,H,I,r,h⟩;rcases l with ⟨hk,hm⟩ | ⟨hk,c,hc,hcell⟩
 ·exact wpAny_Name (wpAny_loadName_local I.ok.kind hk hn hm fin) hd
 ·rcases hk with hk | hk
  ·exact wpAny_Name (wpAny_loadName_cell I.ok.kind hk hc hcell fin) hd
  ·exact wpAny_Name (wpAny_loadName_free I.ok.kind hk hc hcell fin hcd) hd
theorem qAe {i j pos}:PE X (.Constant (.int i) j pos) (tC (.int i)):=fun _ _ _ H _ I h=>wpAny_Constant_int ⟨.int i,H,I.tok _,⟨_,rfl⟩,h⟩
theorem qF9 {b j pos}:PE X (.Constant (.bool b) j pos) (tC (.bl b)):=fun _ _ _ H _ I h=>Constant_bool ⟨.bl b,H,I,rfl,h⟩
theorem qCi {j pos}:PE X (.Constant .none j pos) (tC .non):=fun _ _ _ H _ I h=>Constant_none ⟨.non,H,I,rfl,h⟩
theorem qBj {x j pos}:PE X (.Constant (.str x) j pos) (tC (.str x)):=fun _ _ _ H _ I h=>Calls.Constant_str ⟨.str x,H,I.tok _,⟨_,rfl⟩,h⟩
def Gl (X:Cx) (x:Str):Prop:=X.env.kindOf x=some .globalImplicit
theorem qHk {E:Value->Shared->Prop} {pins:List (Addr×Obj)} {s:Shared} {σ:St} {H:Hp} {x:Str} {u:Value} {pos:Pos} {Q:Value->Shared->Prop} (I:Inv X pins σ H s) (hg:Gl X x) (hm:X.mg x=some u) (h:Q u s)
  (hd:(x == ("__debug__" : Str))=false:=by decide):wpAny (model X.prog X.w) X.A (eval (.Name x pos) X.env) Q E s :=
 Calls.Name_function_global I.ok.kind hg (Calls.loadGlobal_global (by rw[I.ok.glob];exact I.mod.glob.keeps I.bk) hm h) hd
theorem qGn {E:Value->Shared->Prop} {pins:List (Addr×Obj)} {s:Shared} {σ:St} {H:Hp} {x:Str} {u:Value} {pos:Pos} {Q:Value->Shared->Prop} (I:Inv X pins σ H s) (hg:Gl X x) (hm:X.mg x=none) (hv:bootBuiltins x=some u) (h:Q u s)
  (hn:x≠"__name__":=by decide) (hd:(x == ("__debug__" : Str))=false:=by decide):wpAny (model X.prog X.w) X.A (eval (.Name x pos) X.env) Q E s:=by
 obtain⟨mb,h1,h2⟩:=I.mod.blt;exact Calls.Name_function_global I.ok.kind hg (Calls.loadGlobal_builtin (by rw[I.ok.glob];exact I.mod.glob.keeps I.bk) hm (by rw[I.ok.blt];exact h1.keeps I.bk) ((h2 x hn).trans hv) h) hd
theorem qJi {x:Str} {v:V} {u:Value} {pos:Pos} (hg:Gl X x) (hm:X.mg x=some u) (r:qBl v u) (hd:(x == ("__debug__" : Str))=false:=by decide):PE X (.Name x pos) (tC v) :=
 fun _ _ _ H _ I h=>qHk I hg hm ⟨v,H,I,r,h⟩ hd
theorem qDo {x:Str} {v:V} {u:Value} {pos:Pos} (hg:Gl X x) (hm:X.mg x=none) (hv:bootBuiltins x=some u) (r:qBl v u) (hn:x≠"__name__":=by decide) (hd:(x == ("__debug__" : Str))=false:=by decide):PE X (.Name x pos) (tC v) :=
 fun _ _ _ H _ I h=>qGn I hg hm hv ⟨v,H,I,r,h⟩ hn hd
variable {a b:Expr} {ta tb:TE} {pos:Pos}
def PC (X:Cx) (op:CmpOp) (a b:Expr) (t:TE):Prop :=
 ∀ (pins:List (Addr×Obj)) (s:Shared) (σ:St) (H:Hp) (Q:VK),Inv X pins σ H s->t σ H Q ->
  wpAny (model X.prog X.w) X.A (eval a X.env) (fun v s₁=>wpAny (model X.prog X.w) X.A (eval b X.env) (fun u s₂=>wpAny (model X.prog X.w) X.A (compareOp op v u) (EP X pins σ Q) X.xe s₂) X.xe s₁) X.xe s
theorem qP7 (b:Expr) {op:CmpOp} (h:op≠.In) (h2:op≠.NotIn):behindInMarks op b=false:=by
 have e1:(op == CmpOp.In)=false:=by cases op <;> first | rfl | exact absurd rfl h
 have e2:(op == CmpOp.NotIn)=false:=by cases op <;> first | rfl | exact absurd rfl h2
 cases b <;> simp[behindInMarks,e1,e2]
def tB (t:TE):TT:=fun σ H Q=>t σ H fun x H1=>∃ c,x = .bl c/\Q c H1
theorem qQ3 {op:CmpOp} {t:TE} (h:PC X op a b t) (h1:behindInMarks op b=false:=by first | exact qP7 _ (by decide) (by decide) | rfl):PT X (.Compare a [op] [b] pos) (tB t):=by
 intro pins s σ H Q I hw;refine wpAny_isTrue_Compare1 (thn (h pins s σ H _ I hw) fun v s1 h1=>thn h1 fun u s2 h2=>thn h2 fun c s3 ⟨x,H1,I1,r1,q1⟩=>?_) h1;obtain⟨d,rfl,q⟩:=q1;cases r1;exact wpAny_truthy_bool ⟨H1,I1,q⟩
theorem qCa {e:Expr} {t:TE} (h:PE X e t) (he:∀ whole,isTrue e X.env whole=(do let v ← whole;standAt e.pos;holding [v] (truthy v)):=by intro _;rfl):PT X e (tB t):=by
 intro pins s σ H Q I hw;refine isTrue_plain (thn (h pins s σ H _ I hw) fun v s1 ⟨x,H1,I1,r1,q1⟩=>?_) (he _);obtain⟨d,rfl,q⟩:=q1;cases r1;exact wpAny_truthy_bool ⟨H1,I1,q⟩
variable {tA tB':TT} {rest:List Expr}
def qXl (t u:TT):TT:=fun σ H Q=>t σ H fun c H1=>if c=true then u σ H1 Q else Q false H1
def tOr (t u:TT):TT:=fun σ H Q=>t σ H fun c H1=>if c=true then Q true H1 else u σ H1 Q
def qXh (t:TT):TT:=fun σ H Q=>t σ H fun c H1=>Q (!c) H1
theorem qC4 (ha:PT X a tA):PW X (.BoolOp .And [a] pos) tA:=by
 intro wh pins s σ H Q I h;refine isTrue_and (thn (ha pins s σ H Q I h) fun c s1 e=>?_);cases c with
 | true=>exact isTrue_and_nil e
 | false=>exact e
theorem qD1 (ha:PT X a tA):PW X (.BoolOp .Or [a] pos) tA:=by
 intro wh pins s σ H Q I h;refine isTrue_or (thn (ha pins s σ H Q I h) fun c s1 e=>?_);cases c with
 | false=>exact isTrue_or_nil e
 | true=>exact e
theorem qEt (ha:PT X a tA) (hb:PW X (.BoolOp .And (b :: rest) pos) tB'):PW X (.BoolOp .And (a :: b :: rest) pos) (qXl tA tB'):=by
 intro wh pins s σ H Q I h;refine isTrue_and (thn (ha pins s σ H _ I h) fun c s1 ⟨H1,I1,q1⟩=>?_);cases c with
 | true=>exact hb wh pins s1 σ H1 Q I1 q1
 | false=>exact⟨H1,I1,q1⟩
theorem qEi (ha:PT X a tA) (hb:PW X (.BoolOp .Or (b :: rest) pos) tB'):PW X (.BoolOp .Or (a :: b :: rest) pos) (tOr tA tB'):=by
 intro wh pins s σ H Q I h;refine isTrue_or (thn (ha pins s σ H _ I h) fun c s1 ⟨H1,I1,q1⟩=>?_);cases c with
 | true=>exact⟨H1,I1,q1⟩
 | false=>exact hb wh pins s1 σ H1 Q I1 q1
theorem qCn (ha:PT X a tA):PT X (.UnaryOp .Not a pos) (qXh tA):=by
 intro pins s σ H Q I h;exact isTrue_not (ha pins s σ H (fun c H1=>Q (!c) H1) I h)
def qV4 (ta tb:TE):TE:=fun σ H Q=>ta σ H fun x H1=>∃ c,x = .bl c/\if c=true then tb σ H1 Q else Q (.bl false) H1
theorem qKs {op} {t:TE} (h:PE X a t):PE X (.BoolOp op [a] pos) t:=fun pins s σ H Q I hw=>BoolOp_one (h pins s σ H Q I hw)
theorem qKt (ha:PE X a ta) (hb:PE X (.BoolOp .And (b :: rest) pos) tb):PE X (.BoolOp .And (a :: b :: rest) pos) (qV4 ta tb):=by
 intro pins s σ H Q I h;refine BoolOp_and (thn (ha pins s σ H _ I h) fun v s1 ⟨x,H1,I1,r1,q1⟩=>?_);obtain⟨c,rfl,q1⟩:=q1;cases r1;refine wpAny_truthy_bool ?_;cases c with
 | true=>exact hb pins s1 σ H1 Q I1 q1
 | false=>exact⟨.bl false,H1,I1,rfl,q1⟩
def tIf (t:TT) (ta tb:TE):TE:=fun σ H Q=>t σ H fun c H1=>if c=true then ta σ H1 Q else tb σ H1 Q
theorem qHc {c:Expr} (hc:PT X c tA) (ha:PE X a ta) (hb:PE X b tb):PE X (.IfExp c a b pos) (tIf tA ta tb):=by
 intro pins s σ H Q I h;refine wpAny_IfExp (thn (hc pins s σ H _ I h) fun d s1 ⟨H1,I1,q1⟩=>?_);cases d with
 | true=>exact ha pins s1 σ H1 Q I1 q1
 | false=>exact hb pins s1 σ H1 Q I1 q1
end
end L2
namespace L2
open PySem PySem.Spec PyProof.Rows
def SqL (K:PySem.W.Frag) (H:Hp) (a:Addr) (xs:List V):Prop :=
 Rd H a (.lst xs) \/
  ∃ (o:Obj) (its:Array Value) (n:Nat),K.lookup a=some o/\o.cls = .type "list"/\o.dict=none/\o.data = .seq its n/\its.size<=sizeLine/\qBe xs its.toList
def SqT (K:PySem.W.Frag) (H:Hp) (a:Addr) (xs:List V):Prop :=
 Rd H a (.tup xs) \/
  ∃ (o:Obj) (its:Array Value) (n:Nat),K.lookup a=some o/\o.cls = .type "tuple"/\o.data = .seq its n/\its.size<=sizeLine/\qBe xs its.toList
def qX5:Value->Option V
 | .none=>some .non
 | .bool b=>some (.bl b)
 | .int i _=>some (.int i)
 | .str x _=>some (.str x)
 | .bytes b _=>some (.byt b)
 | .float b _=>some (.flt b)
 | .ref a=>some (.ref a)
 | .type n=>some (.ty n)
 | _=>none
theorem qBl.abs {x:V} {u:Value} (r:qBl x u):qX5 u=some x:=by
 cases x with
 | non=>cases r;rfl
 | bl _=>cases r;rfl
 | int _=>obtain⟨t,rfl⟩:=r;rfl
 | str _=>obtain⟨t,rfl⟩:=r;rfl
 | byt _=>obtain⟨t,rfl⟩:=r;rfl
 | flt _=>obtain⟨t,rfl⟩:=r;rfl
 | ref _=>cases r;rfl
 | ty _=>cases r;rfl
theorem qBl.inj {x y:V} {u:Value} (r:qBl x u) (q:qBl y u):x=y:=hAg (r.abs.symm.trans q.abs)
theorem qBe.inj:∀ {xs ys:List V} {us:List Value},qBe xs us->qBe ys us->xs=ys
 | _,_,_,.nil,.nil=>rfl
 | _,_,_,.cons r t,.cons r' t'=>by rw[r.inj r',qBe.inj t t']
section
variable {X:Cx} {pins:List (Addr×Obj)} {σ:St} {H:Hp} {s:Shared} {a:Addr} {xs ys:List V}
theorem SqL.of {K:PySem.W.Frag} (h:H a=some (.lst xs)):SqL K H a xs:=.inl (.inl h)
theorem SqT.of {K:PySem.W.Frag} (h:H a=some (.tup xs)):SqT K H a xs:=.inl (.inl h)
theorem Inv.list (I:Inv X pins σ H s) (h:SqL X.K H a xs):∃ its:List Value,qBe xs its/\PlainL s.heap a its.toArray/\xs.length<=sizeLine:=by
 rcases h with h | ⟨o,its,n,hk,hc,hd,hs,hz,r⟩
 ·obtain⟨z,its,n,r,e⟩:=h.ok I.hok;exact⟨its,r,⟨_,n,e,rfl,rfl,rfl⟩,z⟩
 ·refine⟨its.toList,r,⟨o,n,I.kIn a o hk,hc,hd,by simpa using hs⟩,?_⟩;have e:=r.length;simp only[hB6]at e;omega
theorem Inv.tuple (I:Inv X pins σ H s) (h:SqT X.K H a xs):∃ its:List Value,qBe xs its/\IsTup s.heap a its.toArray/\xs.length<=sizeLine:=by
 rcases h with h | ⟨o,its,n,hk,hc,hs,hz,r⟩
 ·obtain⟨z,its,r,p⟩:=h.ok I.hok;exact⟨its,r,p,z⟩
 ·refine⟨its.toList,r,⟨o,I.kIn a o hk,hc,n,by simpa using hs⟩,?_⟩;have e:=r.length;simp only[hB6]at e;omega
theorem Inv.list_inj (I:Inv X pins σ H s) (h:SqL X.K H a xs) (h':SqL X.K H a ys):xs=ys:=by
 obtain⟨its,r,⟨o,n,e,_,_,d⟩,_⟩:=I.list h;obtain⟨its',r',⟨o',n',e',_,_,d'⟩,_⟩:=I.list h';rw[e]at e';cases e';rw[d]at d';injection d' with d1 _
 have:its=its':=by simpa using congrArg Array.toList d1
 subst this;exact r.inj r'
theorem Inv.tuple_inj (I:Inv X pins σ H s) (h:SqT X.K H a xs) (h':SqT X.K H a ys):xs=ys:=by
 obtain⟨its,r,⟨o,e,_,n,d⟩,_⟩:=I.tuple h;obtain⟨its',r',⟨o',e',_,n',d'⟩,_⟩:=I.tuple h';rw[e]at e';cases e';rw[d]at d';injection d' with d1 _
 have:its=its':=by simpa using congrArg Array.toList d1
 subst this;exact r.inj r'
end
abbrev Cx.wish (X:Cx) (E:Value->Shared->Prop):Cx:={ X with xe:=E }
abbrev Cx.nox (X:Cx):Cx:=X.wish fun _ _=>False
theorem Cx.Ok.wish {X:Cx} (ok:X.Ok) (E:Value->Shared->Prop):(X.wish E).Ok :=
 ⟨ok.mod,ok.kind,ok.glob,ok.blt,ok.above,ok.inj,ok.has,ok.cab,ok.hd,ok.frames,ok.stk,ok.exf,ok.bs,ok.bsz,ok.noex,ok.exfs,ok.funs,ok.frf⟩
theorem Cx.Ok.unwish {X:Cx} {E:Value->Shared->Prop} (ok:(X.wish E).Ok):X.Ok :=
 ⟨ok.mod,ok.kind,ok.glob,ok.blt,ok.above,ok.inj,ok.has,ok.cab,ok.hd,ok.frames,ok.stk,ok.exf,ok.bs,ok.bsz,ok.noex,ok.exfs,ok.funs,ok.frf⟩
section
variable {X:Cx} {pins:List (Addr×Obj)} {σ:St} {H:Hp} {s:Shared} {E:Value->Shared->Prop}
theorem Inv.wish (I:Inv X pins σ H s) (E:Value->Shared->Prop):Inv (X.wish E) pins σ H s:=⟨I.ok.wish E,I.os,I.bare,I.base,I.loc,I.cell,I.free,I.freeC,I.pin,I.hok,I.len⟩
theorem Inv.unwish (I:Inv (X.wish E) pins σ H s):Inv X pins σ H s:=⟨I.ok.unwish,I.os,I.bare,I.base,I.loc,I.cell,I.free,I.freeC,I.pin,I.hok,I.len⟩
theorem SP.unwish {D:Ends} {f:Flow} {s':Shared} (h:SP (X.wish E) pins D f s'):SP X pins D f s':=by
 cases f with
 | next=>obtain⟨σ',H',I,q⟩:=h;exact⟨σ',H',I.unwish,q⟩
 | brk=>obtain⟨σ',H',I,q⟩:=h;exact⟨σ',H',I.unwish,q⟩
 | cont=>obtain⟨σ',H',I,q⟩:=h;exact⟨σ',H',I.unwish,q⟩
 | ret u=>obtain⟨v,σ',H',I,r,q⟩:=h;exact⟨v,σ',H',I.unwish,r,q⟩
theorem PSs.nox {st:List Stmt} {t:TS} (h:PSs X.nox st t):PSs X st t:=fun pins s σ H D I hw =>
 wpAny_mono (h pins s σ H D (I.wish _) hw) (fun _ _ q=>q.unwish) fun _ _ z=>False.elim z
end
section
variable {X:Cx} {st:Stmt} {rest:List Stmt} {t u:TS} {e:Expr} {te:TE} {pos:Pos}
def qTt:TS:=fun D σ H=>D.nx σ H
def qVj (t u:TS):TS:=fun D σ H=>t { D with nx:=u D } σ H
theorem qAt:PSs X [] qTt:=fun _ _ σ H _ I h=>wpAny_execs_nil ⟨σ,H,I,h⟩
theorem qAc (h1:PS X st t) (h2:PSs X rest u):PSs X (st :: rest) (qVj t u):=by
 intro pins s σ H D I h;refine wpAny_execs_cons (thn (h1 pins s σ H { D with nx:=u D } I h) fun f s1 q=>?_);cases f with
 | next =>
  obtain⟨σ',H',I',q⟩:=q;exact h2 pins s1 σ' H' D I' q
 | ret v=>exact q
 | brk=>exact q
 | cont=>exact q
theorem qAf (h1:PS X st t):PSs X [st] t:=by
 intro pins s σ H D I h;refine wpAny_execs_cons (thn (h1 pins s σ H D I h) fun f s1 q=>?_);cases f with
 | next=>exact wpAny_execs_nil q
 | ret v=>exact q
 | brk=>exact q
 | cont=>exact q
theorem Inv.quiet {pins:List (Addr×Obj)} {σ:St} {H:Hp} {s:Shared} (I:Inv X pins σ H s):interactive X.env=false:=by simp[interactive,I.ok.kind]
def qV0 (te:TE):TS:=fun D σ H=>te σ H fun _ H1=>D.nx σ H1
theorem qC5 (he:PE X e te) (hs:swapsWith e none pos.line X.env=pure false:=by rfl):PS X (.Expr e pos) (qV0 te):=by
 intro pins s σ H D I h;exact wpAny_Expr_any (thn (he pins s σ H _ I h) fun v s1 ⟨x,H1,I1,r1,q1⟩=>⟨σ,H1,I1,q1⟩) I.quiet hs
def qXf (te:TE):TS:=fun D σ H=>te σ H D.rt
theorem qAq (he:PE X e te):PS X (.Return (some e) pos) (qXf te):=by
 intro pins s σ H D I h;exact wpAny_Return_some (thn (he pins s σ H _ I h) fun v s1 ⟨x,H1,I1,r1,q1⟩=>⟨x,σ,H1,I1,r1,q1⟩)
def qVz (c:TT) (t u:TS):TS:=fun D σ H=>c σ H fun b H1=>if b=true then t D σ H1 else u D σ H1
theorem qBf {c:Expr} {a b:List Stmt} {tc:TT} (hc:PT X c tc) (ha:PSs X a t) (hb:PSs X b u):PS X (.If c a b pos) (qVz tc t u):=by
 intro pins s σ H D I h;refine wpAny_If (thn (hc pins s σ H _ I h) fun d s1 ⟨H1,I1,q1⟩=>?_);cases d with
 | true=>exact ha pins s1 σ H1 D I1 q1
 | false=>exact hb pins s1 σ H1 D I1 q1
end
abbrev TG:=V->St->Hp->(St->Hp->Prop)->Prop
abbrev TGs:=List V->St->Hp->(St->Hp->Prop)->Prop
def PG (X:Cx) (target:Expr) (t:TG):Prop :=
 ∀ (pins:List (Addr×Obj)) (s:Shared) (σ:St) (H:Hp) (v:V) (u:Value) (Q:St->Hp->Prop),Inv X pins σ H s->qBl v u->t v σ H Q ->
  wpAny (model X.prog X.w) X.A (assign target X.env u) (fun _ s'=>∃ σ' H',Inv X pins σ' H' s'/\Q σ' H') X.xe s
def PGs (X:Cx) (ts:List Expr) (t:TGs):Prop :=
 ∀ (pins:List (Addr×Obj)) (s:Shared) (σ:St) (H:Hp) (vs:List V) (us:List Value) (Q:St->Hp->Prop),Inv X pins σ H s->qBe vs us->t vs σ H Q ->
  wpAny (model X.prog X.w) X.A (assignInOrder ((assignEach ts X.env).map (·.2)) us) (fun _ s'=>∃ σ' H',Inv X pins σ' H' s'/\Q σ' H') X.xe s
abbrev qWx:=V->V->V->Hp->(Hp->Prop)->Prop
def qXb (X:Cx) (t:qWx):Prop :=
 ∀ (pins:List (Addr×Obj)) (s:Shared) (σ:St) (H:Hp) (o i v:V) (ov iv u:Value) (Q:Hp->Prop),Inv X pins σ H s->qBl o ov->qBl i iv->qBl v u->t o i v H Q ->
  wpAny (model X.prog X.w) X.A (setItem ov iv u) (fun _ s'=>∃ H',Inv X pins σ H' s'/\Q H') X.xe s
section
variable {X:Cx} {pos:Pos}
def qJ0 (i:Nat):TG:=fun v σ H Q=>Q (σ.set i (some v)) H
theorem qAi {i:Nat} {x:Str} (hN:X.N.Nodup) (hi:X.N[i]?=some x) (hx:Loc X.env.scope x) (hf:X.fn x=true\/X.env.scope.names.lookup x=some .local:=by first | exact .inl rfl | exact .inr rfl | assumption):PG X (.Name x pos) (qJ0 i):=by
 intro pins s σ H v u Q I r h;exact wpAny_assign_Name (qKb I hN hi hx r (fun s' I'=>⟨_,H,I',h⟩) hf)
def qX2:TGs:=fun vs σ H Q=>vs=[]/\Q σ H
def qWr (t:TG) (u:TGs):TGs:=fun vs σ H Q=>∃ v r,vs=v :: r/\t v σ H fun σ' H'=>u r σ' H' Q
theorem qBq:PGs X [] qX2:=by
 intro pins s σ H vs us Q I r h;obtain⟨e,h⟩:=h;subst e;cases r;exact assignInOrder_nil ⟨σ,H,I,h⟩
theorem qAo {e:Expr} {es:List Expr} {t:TG} {u:TGs} (h1:PG X e t) (h2:PGs X es u)
  (hs:(assignEach (e :: es) X.env).map (·.2)=assign e X.env :: (assignEach es X.env).map (·.2):=by rfl):PGs X (e :: es) (qWr t u):=by
 intro pins s σ H vs us Q I r h;obtain⟨v,vr,e1,h⟩:=h;subst e1;cases r with
 | cons r rr =>
  rw[hs];refine assignInOrder_cons (thn (h1 pins s σ H _ _ _ I r h) fun _ s1 ⟨σ1,H1,I1,q1⟩=>?_);exact h2 pins s1 σ1 H1 _ _ Q I1 rr q1
def qRd (K:PySem.W.Frag) (n:Nat) (t:TGs):TG:=fun v σ H Q=>∃ a xs,v = .ref a/\SqT K H a xs/\xs.length=n/\t xs σ H Q
theorem qCh {es:List Expr} {k:Nat} {t:TGs} {n:Nat} (hc:X.calm=true) (h:PGs X es t)
  (hn:(assignEach es X.env).length=n:=by rfl) (hst:(assignEach es X.env).findIdx? (·.1)=none:=by rfl):PG X (.Tuple es k pos) (qRd X.K n t):=by
 intro pins s σ H v u Q I r hw;obtain⟨a,xs,e1,hq,hl,hw⟩:=hw;subst e1;cases r;obtain⟨its,rv,ht,hz⟩:=I.tuple hq;refine assign_Tuple_tuple (I.ok.hd hc) ht (by simp[hn,<-hl,rv.length]) hst fun h' hx=>?_
 have I1:Inv X pins σ H { s with heap:=h' }:=I.kept (t':=s.toks) fun b o e=>hx b o (hAi (Heap.lt_size e)) e
 exact h pins _ σ H xs _ Q I1 (by simpa using rv) hw
def qX1 (to ti:TE) (t:qWx):TG:=fun v σ H Q=>to σ H fun o H1=>ti σ H1 fun i H2=>t o i v H2 fun H3=>Q σ H3
theorem qUm {o i:Expr} {to ti:TE} {t:qWx} (ho:PE X o to) (hi:PE X i ti) (hs:qXb X t)
  (ha:∀ v,assign (.Subscript o i pos) X.env v=(do
   let ov ← holding [v] (eval o X.env)
   let iv ← holding [v,ov] (eval i X.env)
   standAt pos
   holding [v,ov,iv] (setItem ov iv v)
   release [v,ov,iv] []):=by intro _;rfl):PG X (.Subscript o i pos) (qX1 to ti t):=by
 intro pins s σ H v u Q I r h;rw[ha];refine wpAny_bind (wpAny_holding (thn (ho pins s σ H _ I h) fun ov s1 ⟨x,H1,I1,r1,q1⟩=>?_));refine wpAny_bind (wpAny_holding (thn (hi pins s1 σ H1 _ I1 q1) fun iv s2 ⟨y,H2,I2,r2,q2⟩=>?_));refine wpAny_bind (wpAny_standAt (wpAny_bind (wpAny_holding (thn (hs pins s2 σ H2 x y v ov iv u _ I2 r1 r2 r q2) fun _ s3 ⟨H3,I3,q3⟩=>?_))));exact wpAny_release ⟨σ,H3,I3,q3⟩
def qTj (te:TE) (g:TG):TS:=fun D σ H=>te σ H fun x H1=>g x σ H1 D.nx
theorem qH9 {tg e:Expr} {te:TE} {g:TG} (he:PE X e te) (hg:PG X tg g) (hs:swapsWithSole [tg] e pos.line X.env=pure false:=by rfl) (hw:swappedStores [tg] e X.env=pure none:=by rfl)
  (h1:(assignEach [tg] X.env).map (·.2)=[assign tg X.env]:=by rfl):PS X (.Assign [tg] e pos) (qTj te g):=by
 intro pins s σ H D I h;refine wpAny_Assign_stores (thn (he pins s σ H _ I h) fun v s1 ⟨x,H1,I1,r1,q1⟩=>?_) hs hw;rw[h1];exact thn (hg pins s1 σ H1 x v _ I1 r1 q1) fun _ s2 q=>q
theorem qAl {i:Nat} {x:Str} {e:Expr} {te:TE} {pos':Pos} (hN:X.N.Nodup) (hi:X.N[i]?=some x) (hx:Loc X.env.scope x) (he:PE X e te) (hs:swapsWith e (some (.Name x pos')) pos.line X.env=pure false:=by rfl) (hf:X.fn x=true\/X.env.scope.names.lookup x=some .local:=by first | exact .inl rfl | exact .inr rfl | assumption) :
  PS X (.Assign [.Name x pos'] e pos) (qTj te (qJ0 i)):=by
 intro pins s σ H D I h;refine wpAny_Assign_Name (thn (he pins s σ H _ I h) fun v s1 ⟨y,H1,I1,r1,q1⟩=>?_) hs;exact qKb I1 hN hi hx r1 (fun s2 I2=>⟨_,H1,I2,q1⟩) hf
end
structure It where
 go:Nat->Hp->Prop
 yld:Nat->Hp->V->Hp->Prop
 stop:Nat->Hp->Prop
def qHz (X:Cx) (pins:List (Addr×Obj)) (H:Hp) (b:Addr):Prop :=
 H b=none/\b≠X.env.locals/\b∉X.fs/\(b∈X.ex\/X.s₀.heap.objs.size<=b)/\(∀ x c,X.env.cells.lookup x=some c->c≠b)/\∀ p∈X.pn++pins,p.1≠b
theorem Inv.fpOk {X:Cx} {pins:List (Addr×Obj)} {σ:St} {H H':Hp} {s:Shared} {b:Addr} (I:Inv X pins σ H s) (hb:s.heap.objs.size<=b) (hn:H' b=none):qHz X pins H' b:=by
 refine⟨hn,hBw (hAo I.lt hb),I.nofs hb,.inr (hAt I.sz hb),fun x c e z=>?_,fun p hp z=>?_⟩
 ·obtain⟨v,q⟩:=I.cell x c e;exact absurd (hAo q.lt (by rw[z];exact hb)) (hB3 _)
 ·exact absurd (hAo (Heap.lt_size (I.pin p hp).1) (by rw[z];exact hb)) (hB3 _)
structure Turn (P:Program) (w:World) (K:PySem.W.Frag) (tg:Expr) (J:It) (fp:List Addr) (it:Addr) (tn:Nat->Heap->Prop):Prop where
 mem:it∈fp
 obj:∀ i h,tn i h->∀ b∈fp,∃ o,h.get? b=some o/\∀ v,o.data≠.cell v
 keep:∀ i h h',tn i h->(∀ b∈fp,∀ o,h.get? b=some o->h'.get? b=some o)->tn i h'
 item:∀ (X:Cx),X.prog=P->X.w=w->X.K=K->X.calm=true->∀ (i:Nat) (pins:List (Addr×Obj)) (s:Shared) (σ:St) (H:Hp) (E:Value->Shared->Prop),Inv X pins σ H s->(∀ b∈fp,qHz X pins H b)->tn i s.heap->J.go i H ->
  wpAny (model P w) X.A (pyNext (.ref it)) (fun r s1=>∃ u,r=some u /\
   wpAny (model P w) X.A (letOwnedTupleGo tg (.ref it) u) (fun _ s2=>∃ x H',Inv X pins σ H' s2/\qBl x u/\J.yld i H x H'/\tn (i+1) s2.heap/\∀ b∈fp,H' b=none) E s1) E s
 done:∀ (X:Cx),X.prog=P->X.w=w->X.K=K->X.calm=true->∀ (i:Nat) (pins:List (Addr×Obj)) (s:Shared) (σ:St) (H:Hp) (E:Value->Shared->Prop),Inv X pins σ H s->(∀ b∈fp,qHz X pins H b)->tn i s.heap->J.stop i H ->
  wpAny (model P w) X.A (pyNext (.ref it)) (fun r s1=>r=none/\Inv X pins σ H s1) E s
 self:∀ (A:Around) (i:Nat) (s:Shared) (Q:Value->Shared->Prop) (E:Value->Shared->Prop),tn i s.heap->Q (.ref it) s->wpAny (model P w) A (pyIter (.ref it)) Q E s
abbrev TI:=St->Hp->(It->Hp->Prop)->Prop
def PIE (X:Cx) (pins:List (Addr×Obj)) (σ:St) (tg:Expr) (R:It->Hp->Prop) (itv:Value) (s2:Shared):Prop :=
 ∃ (it:Addr) (fp:List Addr) (tn:Nat->Heap->Prop) (J:It) (H':Hp),itv = .ref it/\Inv X pins σ H' s2/\Turn X.prog X.w X.K tg J fp it tn/\tn 0 s2.heap/\(∀ b∈fp,qHz X pins H' b)/\R J H'
def PI (X:Cx) (tg iter:Expr) (wi:TI):Prop :=
 ∀ (pins:List (Addr×Obj)) (s:Shared) (σ:St) (H:Hp) (R:It->Hp->Prop),Inv X pins σ H s->wi σ H R ->
  wpAny (model X.prog X.w) X.A (eval iter X.env) (fun v s1=>wpAny (model X.prog X.w) X.A (pyIter v) (PIE X pins σ tg R) X.xe s1) X.xe s
theorem qQh {M:Model} {A:Around} {E:Value->Shared->Prop} {s:Shared} {tg:Expr} {it:Addr} {u:Value} {o:Obj} {n:String} {vs:Array Value} {Q:Unit->Shared->Prop} (ho:s.heap.get? it=some o) (hc:o.cls = .type n) (hd:o.data = .fields vs)
  (hn:["enumerate","zip","dict_itemiterator","dict_reverseitemiterator","odict_iterator","itertools.zip_longest","itertools.pairwise"].contains n=false) (hQ:Q () s):wpAny M A (letOwnedTupleGo tg (.ref it) u) Q E s:=by
 unfold letOwnedTupleGo;cases tg <;> first
  | exact wpAny_pure hQ
  | (cases u <;> first
    | exact wpAny_pure hQ
    | (refine wpAny_bind (wpAny_load ho ?_);rw[hc,hd];show wpAny M A (if (["enumerate","zip","dict_itemiterator","dict_reverseitemiterator","odict_iterator","itertools.zip_longest","itertools.pairwise"].contains n && vs[0]? == some (rawInt _))=true then _ else _) Q E s;rw[if_neg (by intro h;rw[hn,Bool.false_and]at h;cases h)];exact wpAny_pure hQ))
def Itl (K:PySem.W.Frag) (a:Addr):It :=
 ⟨fun i H=>∃ xs x,SqL K H a xs/\xs[i]?=some x,fun i H x H'=>H'=H/\∀ xs,SqL K H a xs->xs[i]?=some x,fun i H=>∃ xs,SqL K H a xs/\xs.length<=i⟩
def Itt (K:PySem.W.Frag) (a:Addr):It :=
 ⟨fun i H=>∃ xs x,SqT K H a xs/\xs[i]?=some x,fun i H x H'=>H'=H/\∀ xs,SqT K H a xs->xs[i]?=some x,fun i H=>∃ xs,SqT K H a xs/\xs.length<=i⟩
def Itr (lo:Int) (n:Nat):It:=⟨fun i _=>i<n,fun i H x H'=>H'=H/\x = .int (lo+i),fun i _=>n<=i⟩
theorem qMp {P:Program} {w:World} {K:PySem.W.Frag} {tg:Expr} (a it:Addr):Turn P w K tg (Itl K a) [it] it (fun i h=>h.IsListIter it a i) where
 mem:=by simp
 obj:=fun i h st b hb=>by
  have e:b=it:=by simpa using hb
  subst e;obtain⟨o,e,c,d⟩:=st;exact⟨o,e,fun v z=>by rw[d]at z;cases z⟩
 keep:=fun i h h' st k=>st.at fun o e=>k it (by simp) o e
 item:=by
  intro X hP hw hK hc i pins s σ H E I hf st hg;subst hP hw hK;obtain⟨xs,x,hq,hx⟩:=hg;obtain⟨its,rv,p,hz⟩:=I.list hq;obtain⟨u,hu,ru⟩:=rv.get hx;obtain⟨f0,f1,f2,f3,f4,f5⟩:=hf it (by simp);refine wpAny_pyNext_list_item st p.isList (x:=u) (by simpa using hu) fun h' st' sb=>?_
  have I1:Inv X pins σ H { s with heap:=h' }:=I.turned (t':=s.toks) (fun b o hb e=>(sb.2 b hb).trans e) f0 f1 f3 f4 f5;obtain⟨o,e,c,d⟩:=id st';exact⟨u,rfl,qQh (s:={ s with heap:=h' }) e c d (by decide) ⟨x,H,I1,ru,⟨rfl,fun ys hy=>by rw[I.list_inj hy hq];exact hx⟩,st',fun b hb=>(hf b hb).1⟩⟩
 done:=by
  intro X hP hw hK hc i pins s σ H E I hf st hg;subst hP hw hK;obtain⟨xs,hq,hx⟩:=hg;obtain⟨its,rv,p,hz⟩:=I.list hq;obtain⟨f0,f1,f2,f3,f4,f5⟩:=hf it (by simp);have hl:=rv.length;exact wpAny_pyNext_list_end (I.ok.hd hc) st p.isList (by simp;omega) fun h' eb=>⟨rfl,I.turned (t':=s.toks) (fun b o hb e=>eb b o hb e) f0 f1 f3 f4 f5⟩
 self:=fun _ _ _ _ _ st h=>wpAny_pyIter_listiter st h
theorem qLm {P:Program} {w:World} {K:PySem.W.Frag} {tg:Expr} (a it:Addr):Turn P w K tg (Itt K a) [it] it (fun i h=>h.IsTupleIter it a i) where
 mem:=by simp
 obj:=fun i h st b hb=>by
  have e:b=it:=by simpa using hb
  subst e;obtain⟨o,e,c,d⟩:=st;exact⟨o,e,fun v z=>by rw[d]at z;cases z⟩
 keep:=fun i h h' st k=>st.at fun o e=>k it (by simp) o e
 item:=by
  intro X hP hw hK hc i pins s σ H E I hf st hg;subst hP hw hK;obtain⟨xs,x,hq,hx⟩:=hg;obtain⟨its,rv,p,hz⟩:=I.tuple hq;obtain⟨u,hu,ru⟩:=rv.get hx;obtain⟨f0,f1,f2,f3,f4,f5⟩:=hf it (by simp);refine wpAny_pyNext_tuple_item st (show s.heap.IsTuple a its.toArray from p) (x:=u) (by simpa using hu) fun h' st' sb=>?_
  have I1:Inv X pins σ H { s with heap:=h' }:=I.turned (t':=s.toks) (fun b o hb e=>(sb.2 b hb).trans e) f0 f1 f3 f4 f5;obtain⟨o,e,c,d⟩:=id st';exact⟨u,rfl,qQh (s:={ s with heap:=h' }) e c d (by decide) ⟨x,H,I1,ru,⟨rfl,fun ys hy=>by rw[I.tuple_inj hy hq];exact hx⟩,st',fun b hb=>(hf b hb).1⟩⟩
 done:=by
  intro X hP hw hK hc i pins s σ H E I hf st hg;subst hP hw hK;obtain⟨xs,hq,hx⟩:=hg;obtain⟨its,rv,p,hz⟩:=I.tuple hq;obtain⟨f0,f1,f2,f3,f4,f5⟩:=hf it (by simp);have hl:=rv.length;exact wpAny_pyNext_tuple_end (I.ok.hd hc) st (show s.heap.IsTuple a its.toArray from p) (by simp;omega) fun h' eb=>⟨rfl,I.turned (t':=s.toks) (fun b o hb e=>eb b o hb e) f0 f1 f3 f4 f5⟩
 self:=fun _ _ _ _ _ st h=>wpAny_pyIter_tupleiter st h
theorem qLn {P:Program} {w:World} {K:PySem.W.Frag} {tg:Expr} (it:Addr) (lo:Int) (n:Nat):Turn P w K tg (Itr lo n) [it] it (fun i h=>IsRangeIter h it (lo+(i:Nat)*1) ((n:Int) - (i:Nat)) 1) where
 mem:=by simp
 obj:=fun i h st b hb=>by
  have e:b=it:=by simpa using hb
  subst e;exact⟨_,st,fun v z=>by
   have z':Data.fields _=Data.cell v:=z;cases z'⟩
 keep:=fun i h h' st k=>k it (by simp) _ st
 item:=by
  intro X hP hw hK hc i pins s σ H E I hf st hg;subst hP hw hK;obtain⟨f0,f1,f2,f3,f4,f5⟩:=hf it (by simp);have W:=Walks.range (prog:=X.prog) (w:=X.w) (I.ok.hd hc) it lo 1 n;refine W.item i s _ _ hg st fun v h' tk hv st' kk=>?_
  obtain⟨t,rfl⟩:=hv;have I1:Inv X pins σ H { s with heap:=h',toks:=tk }:=I.turned (fun b o hb e=>kk b o (by simpa using hb) e) f0 f1 f3 f4 f5;refine⟨_,rfl,qQh (s:={ s with heap:=h',toks:=tk }) (n:="range_iterator") st' rfl rfl (by decide) ⟨.int (lo+i),H,I1,⟨t,?_⟩,⟨rfl,rfl⟩,st',fun b hb=>(hf b hb).1⟩⟩;rw[Int.mul_one]
 done:=by
  intro X hP hw hK hc i pins s σ H E I hf st hg;subst hP hw hK;obtain⟨f0,f1,f2,f3,f4,f5⟩:=hf it (by simp);exact wpAny_pyNext_range_end (I.ok.hd hc) st (by have:n<=i:=hg;omega) fun h' eb=>⟨rfl,I.turned (t':=s.toks) (fun b o hb e=>eb b o hb e) f0 f1 f3 f4 f5⟩
 self:=fun _ _ _ _ _ st h=>wpAny_pyIter_rangeiter st h
end L2
namespace L2
open PySem PySem.Spec PyProof.Rows
section
variable {X:Cx} {tg:Expr}
def qWq (K:PySem.W.Frag) (tl:TE):TI:=fun σ H R=>tl σ H fun x H1=>∃ a,x = .ref a/\(∃ xs,SqL K H1 a xs)/\R (Itl K a) H1
def qVo (K:PySem.W.Frag) (tl:TE):TI:=fun σ H R=>tl σ H fun x H1=>∃ a,x = .ref a/\(∃ xs,SqT K H1 a xs)/\R (Itt K a) H1
theorem qAx {l:Expr} {tl:TE} (hl:PE X l tl):PI X tg l (qWq X.K tl):=by
 intro pins s σ H R I h;refine thn (hl pins s σ H _ I h) fun v s1 ⟨x,H1,I1,r1,q1⟩=>?_
 obtain⟨a,e,⟨xs,hq⟩,q⟩:=q1;subst e;cases r1;obtain⟨its,rv,p,hz⟩:=I1.list hq;refine wpAny_pyIter_list p.isList ?_;refine⟨s1.heap.objs.size,[s1.heap.objs.size],_,_,H1,rfl,I1.kept (t':=s1.toks) fun b o e=>Heap.get?_push_of_some _ e,qMp a _,⟨_,Heap.get?_push_size _ rfl,rfl,rfl⟩,fun b hb=>?_,q⟩;have e:b=s1.heap.objs.size:=by simpa using hb
 subst e;exact I1.fpOk (hA4 _) (I1.hok.fresh (hA4 _))
theorem qGj {l:Expr} {tl:TE} (hl:PE X l tl):PI X tg l (qVo X.K tl):=by
 intro pins s σ H R I h;refine thn (hl pins s σ H _ I h) fun v s1 ⟨x,H1,I1,r1,q1⟩=>?_
 obtain⟨a,e,⟨xs,hq⟩,q⟩:=q1;subst e;cases r1;obtain⟨its,rv,p,hz⟩:=I1.tuple hq;refine wpAny_pyIter_tuple (show s1.heap.IsTuple a its.toArray from p) ?_;refine⟨s1.heap.objs.size,[s1.heap.objs.size],_,_,H1,rfl,I1.kept (t':=s1.toks) fun b o e=>Heap.get?_push_of_some _ e,qLm a _,⟨_,Heap.get?_push_size _ rfl,rfl,rfl⟩,fun b hb=>?_,q⟩;have e:b=s1.heap.objs.size:=by simpa using hb
 subst e;exact I1.fpOk (hA4 _) (I1.hok.fresh (hA4 _))
theorem qKq {pins:List (Addr×Obj)} {σ:St} {H:Hp} {s:Shared} {R:It->Hp->Prop} {E:Value->Shared->Prop} {lo hi:Int} {t u v:Tok} {tk:Nat} (I:Inv X pins σ H s) (h1:-(2^62)<=lo) (h2:lo<2^62) (h3:-(2^62)<=hi) (h4:hi<2^62)
  (q:R (Itr lo (hi - lo).toNat) H):wpAny (model X.prog X.w) X.A (pyIter (.ref s.heap.objs.size)) (PIE X pins σ tg R) E { s with heap:=s.heap.push { cls:=.type "range",data:=.fields #[.int lo t,.int hi u,.int 1 v] },toks:=tk }:=by
 refine wpAny_pyIter_range (IsRange.new ..) (small_one h1 h2 h3 h4) ?_;have I1:Inv X pins σ H { s with heap:=s.heap.push { cls:=.type "range",data:=.fields #[.int lo t,.int hi u,.int 1 v] },toks:=tk }:=I.kept fun b o e=>Heap.get?_push_of_some _ e
 refine⟨(s.heap.push { cls:=.type "range",data:=.fields #[.int lo t,.int hi u,.int 1 v] }).objs.size,[(s.heap.push { cls:=.type "range",data:=.fields #[.int lo t,.int hi u,.int 1 v] }).objs.size],_,_,H,rfl,
  I1.kept (t':=tk) fun b o e=>Heap.get?_push_of_some _ e,qLn _ lo (hi - lo).toNat,?_,fun b hb=>?_,q⟩
 ·have e1:lo+((0:Nat):Int)*1=lo:=by simp
  have e2:(((hi - lo).toNat:Nat):Int) - ((0:Nat):Int)=Builtin.Range.rangeSize lo hi 1:=by rw[rangeSize_one];split <;> omega
  show IsRangeIter _ _ (lo+((0:Nat):Int)*1) ((((hi - lo).toNat:Nat):Int) - ((0:Nat):Int)) 1;rw[e1,e2];exact Heap.get?_push_size _ rfl
 ·have e:b=(s.heap.push { cls:=.type "range",data:=.fields #[.int lo t,.int hi u,.int 1 v] }).objs.size:=by simpa using hb
  subst e;exact I1.fpOk (hA4 _) (I1.hok.fresh (hA4 _))
def qWp (ta:TA):TI:=fun σ H R=>ta σ H fun vs H1=>∃ j:Int,vs=[.int j]/\-(2^62)<=j/\j<2^62/\R (Itr 0 j.toNat) H1
def qWo (ta:TA):TI:=fun σ H R=>ta σ H fun vs H1=>∃ i j:Int,vs=[.int i,.int j]/\(-(2^62)<=i/\i<2^62/\-(2^62)<=j/\j<2^62)/\R (Itr i (j - i).toNat) H1
theorem qBx {a:Expr} {ta:TA} {p pos:Pos} (hg:Gl X "range") (hm:X.mg "range" = none) (ha:PA X [a] ta) (hs:starEach [a] X.env=[(false,eval a X.env)]:=by rfl):PI X tg (.Call (.Name "range" p) [a] [] pos) (qWp ta):=by
 intro pins s σ H R I h;refine Call_ (qGn I hg hm boot_range (hBs (thn (ha pos pins s σ H _ I h) fun us s1 ⟨vs,H1,I1,r1,q1⟩=>?_) hs rfl));obtain⟨j,e,q1,q2,q⟩:=q1;subst e;cases r1 with
 | cons r rr =>
  cases rr;obtain⟨t,rfl⟩:=r;exact call_range_1 (qKq I1 (by omega) (by omega) q1 q2 (by simpa using q))
theorem qIa {a b:Expr} {ta:TA} {p pos:Pos} (hg:Gl X "range") (hm:X.mg "range" = none) (ha:PA X [a,b] ta) (hs:starEach [a,b] X.env=[(false,eval a X.env),(false,eval b X.env)]:=by rfl) (hs2:starEach [b] X.env=[(false,eval b X.env)]:=by rfl) :
  PI X tg (.Call (.Name "range" p) [a,b] [] pos) (qWo ta):=by
 intro pins s σ H R I h;refine Call_ (qGn I hg hm boot_range (hBs (thn (ha pos pins s σ H _ I h) fun us s1 ⟨vs,H1,I1,r1,q1⟩=>?_) (by rw[hs,hs2]) (by rw[hs2];rfl)));obtain⟨i,j,e,⟨q1,q2,q3,q4⟩,q⟩:=q1;subst e;cases r1 with
 | cons r rr =>
  cases rr with
  | cons r' rr =>
   cases rr;obtain⟨t,rfl⟩:=r;obtain⟨t',rfl⟩:=r';exact call_range_2 (qKq I1 q1 q2 q3 q4 q)
def qXi (wi:TI) (g:TG) (tb:TS):TS:=fun D σ H=>wi σ H fun J H1=>∃ W:Nat->Nat->St->Hp->Prop,(∃ m,W 0 m σ H1)/\∀ i m σ H,W i m σ H ->
 (J.stop i H/\D.nx σ H)\/(J.go i H/\∃ N:St->Hp->Prop,(∀ σ' H',N σ' H'->∃ m',m'<m/\W (i+1) m' σ' H')/\∀ x H',J.yld i H x H'->g x σ H' fun σ2 H2=>tb { D with nx:=N,ct:=N,bk:=D.nx } σ2 H2)
def pinsAt (fp:List Addr) (h:Heap):List (Addr×Obj):=fp.filterMap fun b=>(h.get? b).map fun o=>(b,o)
theorem qBv {fp:List Addr} {h:Heap} {b:Addr} {o:Obj} (hb:b∈fp) (e:h.get? b=some o):(b,o)∈pinsAt fp h:=List.mem_filterMap.mpr ⟨b,hb,by rw[e];rfl⟩
theorem qIi {fp:List Addr} {h:Heap} {p:Addr×Obj} (hp:p∈pinsAt fp h):p.1∈fp/\h.get? p.1=some p.2:=by
 obtain⟨b,hb,e⟩:=List.mem_filterMap.mp hp;cases q:h.get? b with
 | none=>rw[q]at e;cases e
 | some o =>
  rw[q]at e;have e':(b,o)=p:=hAg e;subst e';exact⟨hb,q⟩
theorem Inv.pinned {pins:List (Addr×Obj)} {σ:St} {H:Hp} {s:Shared} {fp:List Addr} (I:Inv X pins σ H s) (hf:∀ b∈fp,qHz X pins H b) (ho:∀ b∈fp,∃ o,s.heap.get? b=some o/\∀ v,o.data≠.cell v):Inv X (pins++pinsAt fp s.heap) σ H s :=
 I.pins_of fun p hp=>(hAd.mp hp).elim (fun z=>I.pin p (hA8 _ z)) fun z=>by
  obtain⟨hb,e⟩:=qIi z;obtain⟨f0,f1,f2,_⟩:=hf p.1 hb;obtain⟨o,e',d⟩:=ho p.1 hb;rw[e]at e';cases e';exact⟨e,f0,f1,f2,d⟩
theorem Inv.unpinned {pins pl:List (Addr×Obj)} {σ:St} {H:Hp} {s:Shared} (I:Inv X (pins++pl) σ H s):Inv X pins σ H s:=I.pins_of fun p hp=>I.pin p (hA8 _ (hB1 _ hp))
theorem qCd {iter:Expr} {body:List Stmt} {wi:TI} {g:TG} {tb:TS} {pos:Pos} (hp:PassesOwn (model X.prog X.w) X.A X.env X.xe) (hc:X.calm=true) (hi:PI X tg iter wi) (hg:PG X tg g) (hb:PSs X body tb)
  (hs:∀ x,foldedSetIterable iter X.env x=pure x:=by intro _;rfl):PS X (.For tg iter body [] pos) (qXi wi g tb):=by
 intro pins s σ H D I h;refine wpAny_For (thn (hi pins s σ H _ I h) fun v s1 h1=>thn h1 fun itv s2 h2=>?_) hs;obtain⟨it,fp,tn,J,H2,e,I2,T,st2,f2,W,⟨m0,w0⟩,turn⟩:=h2;subst e;have stat:∀ {H':Hp},(∀ b∈fp,H' b=none)->∀ b∈fp,qHz X pins H' b:=fun hn b hb=>⟨hn b hb,(f2 b hb).2⟩
 refine codeAny_forLoop_any (fun n s'=>∃ i σ' H',Inv X pins σ' H' s'/\tn i s'.heap/\(∀ b∈fp,H' b=none)/\W i n σ' H') ?_ m0 ⟨0,σ,H2,I2,st2,fun b hb=>(f2 b hb).1,w0⟩;rintro n s3 ⟨i,σ3,H3,I3,st3,fr3,w3⟩;rcases turn i n σ3 H3 w3 with ⟨stop,qn⟩ | ⟨go,N,hN,step⟩
 ·refine wpAny_passesOwn hp (thn (T.done X rfl rfl rfl hc i pins s3 σ3 H3 X.xe I3 (stat fr3) st3 stop) fun r s4 ⟨hr,I4⟩=>?_);subst hr;exact wpAny_execs_nil ⟨σ3,H3,I4,qn⟩
 ·refine wpAny_passesOwn hp (thn (T.item X rfl rfl rfl hc i pins s3 σ3 H3 X.xe I3 (stat fr3) st3 go) fun r s4 ⟨u,hr,h4⟩=>?_);subst hr;refine wpAny_passesOwn hp (thn h4 fun _ s5 ⟨x,H5,I5,r5,y5,st5,fr5⟩=>?_);have I5':=I5.pinned (stat fr5) (T.obj _ _ st5);refine wpAny_passesOwn hp (thn (hg _ s5 σ3 H5 x u _ I5' r5 (step x H5 y5)) fun _ s6 ⟨σ6,H6,I6,q6⟩=>?_);refine wpAny_passesOwn hp (thn (hb _ s6 σ6 H6 _ I6 q6) fun f s7 q7=>?_);have again:∀ {σ7:St} {H7:Hp},Inv X (pins++pinsAt fp s5.heap) σ7 H7 s7->N σ7 H7->∃ m,m<n/\∃ i σ' H',Inv X pins σ' H' s7/\tn i s7.heap/\(∀ b∈fp,H' b=none)/\W i m σ' H':=fun {σ7 H7} I7 n7=>by
   obtain⟨m',hm,w7⟩:=hN σ7 H7 n7;refine⟨m',hm,i+1,σ7,H7,I7.unpinned,T.keep _ _ _ st5 fun b hb o e=>(I7.pin (b,o) (hA8 _ (hA8 _ (qBv hb e)))).1,fun b hb=>?_,w7⟩;obtain⟨o,e,d⟩:=T.obj _ _ st5 b hb;exact(I7.pin (b,o) (hA8 _ (hA8 _ (qBv hb e)))).2.1
  cases f with
  | next=>obtain⟨σ7,H7,I7,n7⟩:=q7;exact again I7 n7
  | cont=>obtain⟨σ7,H7,I7,n7⟩:=q7;exact again I7 n7
  | brk=>obtain⟨σ7,H7,I7,q7⟩:=q7;exact⟨σ7,H7,I7.unpinned,q7⟩
  | ret v=>obtain⟨x7,σ7,H7,I7,r7,q7⟩:=q7;exact⟨x7,σ7,H7,I7.unpinned,r7,q7⟩
end
theorem qCj {K:PySem.W.Frag} {a:Addr} {xs:List V} {g:TG} {tb:TS} {D:Ends} {σ:St} {H:Hp} (Pv:Nat->St->Hp->Prop) (h0:Pv 0 σ H) (hl:∀ i σ H,i<=xs.length->Pv i σ H->SqL K H a xs)
  (hs:∀ i x σ H,xs[i]?=some x->Pv i σ H->g x σ H fun σ2 H2=>tb { D with nx:=Pv (i+1),ct:=Pv (i+1),bk:=D.nx } σ2 H2) (hd:∀ σ H,Pv xs.length σ H->D.nx σ H) :
  ∃ W:Nat->Nat->St->Hp->Prop,(∃ m,W 0 m σ H)/\∀ i m σ H,W i m σ H ->
   ((Itl K a).stop i H/\D.nx σ H)\/((Itl K a).go i H/\∃ N:St->Hp->Prop,(∀ σ' H',N σ' H'->∃ m',m'<m/\W (i+1) m' σ' H')/\∀ x H',(Itl K a).yld i H x H'->g x σ H' fun σ2 H2=>tb { D with nx:=N,ct:=N,bk:=D.nx } σ2 H2):=by
 refine⟨fun i m σ H=>m=xs.length - i/\i<=xs.length/\Pv i σ H,⟨xs.length,by simp,hAk _,h0⟩,?_⟩;rintro i m σ H ⟨rfl,hi,p⟩;have q:=hl i σ H hi p;by_cases hlt:i<xs.length
 ·refine .inr ⟨⟨xs,xs[i],q,by simp[hlt]⟩,Pv (i+1),fun σ' H' p'=>⟨xs.length - (i+1),by omega,rfl,hlt,p'⟩,fun x H' y=>?_⟩;obtain⟨e,y⟩:=y;subst e;exact hs i x σ _ (y xs q) p
 ·have e:i=xs.length:=by omega
  subst e;exact .inl ⟨⟨xs,q,hA4 _⟩,hd σ H p⟩
theorem qCf {lo:Int} {n:Nat} {g:TG} {tb:TS} {D:Ends} {σ:St} {H:Hp} (Pv:Nat->St->Hp->Prop) (h0:Pv 0 σ H)
  (hs:∀ i σ H,i<n->Pv i σ H->g (.int (lo+i)) σ H fun σ2 H2=>tb { D with nx:=Pv (i+1),ct:=Pv (i+1),bk:=D.nx } σ2 H2) (hd:∀ σ H,Pv n σ H->D.nx σ H) :
  ∃ W:Nat->Nat->St->Hp->Prop,(∃ m,W 0 m σ H)/\∀ i m σ H,W i m σ H ->
   ((Itr lo n).stop i H/\D.nx σ H)\/((Itr lo n).go i H/\∃ N:St->Hp->Prop,(∀ σ' H',N σ' H'->∃ m',m'<m/\W (i+1) m' σ' H')/\∀ x H',(Itr lo n).yld i H x H'->g x σ H' fun σ2 H2=>tb { D with nx:=N,ct:=N,bk:=D.nx } σ2 H2):=by
 refine⟨fun i m σ H=>m=n - i/\i<=n/\Pv i σ H,⟨n,by simp,hAk _,h0⟩,?_⟩;rintro i m σ H ⟨rfl,hi,p⟩;by_cases hlt:i<n
 ·refine .inr ⟨hlt,Pv (i+1),fun σ' H' p'=>⟨n - (i+1),by omega,rfl,hlt,p'⟩,fun x H' y=>?_⟩;obtain⟨e,y⟩:=y;subst e y;exact hs i σ _ hlt p
 ·have e:i=n:=by omega
  subst e;exact .inl ⟨hA4 _,hd σ H p⟩
end L2
namespace L2
open PySem PySem.Spec PyProof.Rows
abbrev R2:=V->V->Hp->VK->Prop
def OpR (X:Cx) (f:Value->Value->Sem Value) (r:R2):Prop :=
 ∀ (pins:List (Addr×Obj)) (s:Shared) (σ:St) (H:Hp) (x y:V) (v u:Value) (Q:VK),Inv X pins σ H s->qBl x v->qBl y u->r x y H Q ->
  wpAny (model X.prog X.w) X.A (f v u) (EP X pins σ Q) X.xe s
def UnR (X:Cx) (f:Value->Sem Value) (r:V->Hp->VK->Prop):Prop :=
 ∀ (pins:List (Addr×Obj)) (s:Shared) (σ:St) (H:Hp) (x:V) (v:Value) (Q:VK),Inv X pins σ H s->qBl x v->r x H Q ->
  wpAny (model X.prog X.w) X.A (f v) (EP X pins σ Q) X.xe s
def qB9 (X:Cx) (f:Value) (r:List V->Hp->VK->Prop):Prop :=
 ∀ (pins:List (Addr×Obj)) (s:Shared) (σ:St) (H:Hp) (xs:List V) (us:List Value) (Q:VK),Inv X pins σ H s->qBe xs us->r xs H Q ->
  wpAny (model X.prog X.w) X.A (call f us) (EP X pins σ Q) X.xe s
def tOp (r:R2) (ta tb:TE):TE:=fun σ H Q=>ta σ H fun x H1=>tb σ H1 fun y H2=>r x y H2 Q
def tUn (r:V->Hp->VK->Prop) (ta:TE):TE:=fun σ H Q=>ta σ H fun x H1=>r x H1 Q
def rI (C:Int->Int->Prop) (g:Int->Int->V):R2:=fun x y H Q=>∃ i j,x = .int i/\y = .int j/\C i j/\Q (g i j) H
def rI0 (g:Int->Int->V):R2:=fun x y H Q=>∃ i j,x = .int i/\y = .int j/\Q (g i j) H
def rU (g:Int->V):V->Hp->VK->Prop:=fun x H Q=>∃ i,x = .int i/\Q (g i) H
section
variable {X:Cx} {a b c:Expr} {ta tb tc:TE} {pos:Pos}
theorem qWv (ha:PE X a ta) (hb:PE X b tb) {pins:List (Addr×Obj)} {s:Shared} {σ:St} {H:Hp} {R:V->V->Hp->Prop} (I:Inv X pins σ H s)
  (h:ta σ H fun x H1=>tb σ H1 fun y H2=>R x y H2) {Q:Value->Shared->Prop} {f:Value->Value->Sem Value}
  (hf:∀ v u s2 x y H2,Inv X pins σ H2 s2->qBl x v->qBl y u->R x y H2->wpAny (model X.prog X.w) X.A (f v u) Q X.xe s2) :
  wpAny (model X.prog X.w) X.A (eval a X.env) (fun v s₁=>wpAny (model X.prog X.w) X.A (eval b X.env) (fun u s₂=>wpAny (model X.prog X.w) X.A (f v u) Q X.xe s₂) X.xe s₁) X.xe s:=by
 refine thn (ha pins s σ H _ I h) fun v s1 ⟨x,H1,I1,r1,q1⟩=>?_
 refine thn (hb pins s1 σ H1 _ I1 q1) fun u s2 ⟨y,H2,I2,r2,q2⟩=>?_
 exact hf v u s2 x y H2 I2 r1 r2 q2
theorem qAv {op:Operator} {r:R2} (ho:OpR X (binaryOp op) r) (ha:PE X a ta) (hb:PE X b tb):PE X (.BinOp a op b pos) (tOp r ta tb):=by
 intro pins s σ H Q I h;exact wpAny_BinOp (qWv ha hb I h fun v u s2 x y H2 I2 rx ry q=>ho pins s2 σ H2 x y v u Q I2 rx ry q)
theorem qSb {op:UnaryOp} {r:V->Hp->VK->Prop} (ho:UnR X (unaryOp op) r) (ha:PE X a ta):PE X (.UnaryOp op a pos) (tUn r ta):=by
 intro pins s σ H Q I h;exact UnaryOp_ (thn (ha pins s σ H _ I h) fun v s1 ⟨x,H1,I1,r1,q1⟩=>ho pins s1 σ H1 x v Q I1 r1 q1)
theorem opI {f:Value->Value->Sem Value} {C:Int->Int->Prop} {g:Int->Int->Int}
  (rule:∀ (i j:Int) (t u:Tok) (s:Shared) (Q:Value->Shared->Prop) (E:Value->Shared->Prop),C i j->Q (.int (g i j) s.toks) { s with toks:=s.toks+1 }->wpAny (model X.prog X.w) X.A (f (.int i t) (.int j u)) Q E s) :
  OpR X f (rI C fun i j=>.int (g i j)):=by
 intro pins s σ H x y v u Q I rx ry h;obtain⟨i,j,rfl,rfl,hc,q⟩:=h;obtain⟨t,rfl⟩:=rx;obtain⟨t',rfl⟩:=ry;exact rule i j t t' s _ _ hc ⟨.int (g i j),H,I.tok _,⟨_,rfl⟩,q⟩
theorem qW9 {f:Value->Value->Sem Value} {g:Int->Int->Int}
  (rule:∀ (i j:Int) (t u:Tok) (s:Shared) (Q:Value->Shared->Prop) (E:Value->Shared->Prop),Q (.int (g i j) s.toks) { s with toks:=s.toks+1 }->wpAny (model X.prog X.w) X.A (f (.int i t) (.int j u)) Q E s) :
  OpR X f (rI0 fun i j=>.int (g i j)):=by
 intro pins s σ H x y v u Q I rx ry h;obtain⟨i,j,rfl,rfl,q⟩:=h;obtain⟨t,rfl⟩:=rx;obtain⟨t',rfl⟩:=ry;exact rule i j t t' s _ _ ⟨.int (g i j),H,I.tok _,⟨_,rfl⟩,q⟩
theorem qWk {f:Value->Value->Sem Value} {g:Int->Int->Bool}
  (rule:∀ (i j:Int) (t u:Tok) (s:Shared) (Q:Value->Shared->Prop) (E:Value->Shared->Prop),Q (.bool (g i j)) s->wpAny (model X.prog X.w) X.A (f (.int i t) (.int j u)) Q E s) :
  OpR X f (rI0 fun i j=>.bl (g i j)):=by
 intro pins s σ H x y v u Q I rx ry h;obtain⟨i,j,rfl,rfl,q⟩:=h;obtain⟨t,rfl⟩:=rx;obtain⟨t',rfl⟩:=ry;exact rule i j t t' s _ _ ⟨.bl (g i j),H,I,rfl,q⟩
def qX9 (i j:Int):Prop:=0<j/\j<1073741824
def qX8 (i j:Int):Prop:=0<=j/\j<=1000000/\i.natAbs<2^64
def qW2 (i j:Int):Prop:=(-(2^64)<i/\i<2^64)\/(-(2^64)<j/\j<2^64)
theorem qW2.ok {i j:Int} (h:qW2 i j):IntMulOk i j:=by
 rcases h with ⟨h1,h2⟩ | ⟨h1,h2⟩
 ·exact .of_left (intBits_le_64 h1 h2)
 ·exact .of_right (intBits_le_64 h1 h2)
theorem qBy:OpR X (binaryOp .Add) (rI0 fun i j=>.int (i+j)):=qW9 fun _ _ _ _ _ _ _ q=>add_int q
theorem qKx:OpR X (binaryOp .Sub) (rI0 fun i j=>.int (i - j)):=qW9 fun _ _ _ _ _ _ _ q=>sub_int q
theorem qDj:OpR X (binaryOp .Mult) (rI qW2 fun i j=>.int (i*j)):=opI fun _ _ _ _ _ _ _ hc q=>mul_int q hc.ok
theorem qNu:OpR X (binaryOp .FloorDiv) (rI qX9 fun i j=>.int (i / j)):=opI fun i j _ _ _ _ _ hc q=>by
 have h1:(0:Int)<j:=hc.1;have h2:j<1073741824:=hc.2;exact floordiv_int (by omega) (by rw[Int.fdiv_eq_ediv_of_nonneg i (by omega)];exact q) (.inl (PyProof.noPylong_small (by omega)))
theorem qC6:OpR X (binaryOp .Mod) (rI (fun _ j=>0<j) fun i j=>.int (i % j)):=opI fun i j _ _ _ _ _ hc q=>by
 have h1:(0:Int)<j:=hc;exact mod_int' (by omega) (by rw[Int.fmod_eq_emod_of_nonneg i (by omega)];exact q)
theorem qQ5:OpR X (binaryOp .Pow) (rI qX8 fun i j=>.int (i^j.toNat)):=opI fun _ _ _ _ _ _ _ hc q=>pow_int_small hc.1 hc.2.1 hc.2.2 q
theorem unI {f:Value->Sem Value} {g:Int->Int}
  (rule:∀ (i:Int) (t:Tok) (s:Shared) (Q:Value->Shared->Prop) (E:Value->Shared->Prop),Q (.int (g i) s.toks) { s with toks:=s.toks+1 }->wpAny (model X.prog X.w) X.A (f (.int i t)) Q E s) :
  UnR X f (rU fun i=>.int (g i)):=by
 intro pins s σ H x v Q I rx h;obtain⟨i,rfl,q⟩:=h;obtain⟨t,rfl⟩:=rx;exact rule i t s _ _ ⟨.int (g i),H,I.tok _,⟨_,rfl⟩,q⟩
theorem qMk:UnR X (unaryOp .USub) (rU fun i=>.int (-i)):=unI fun _ _ _ _ _ q=>neg_int q
end
def qW5:V->V->Bool
 | .non,.non=>true | .non,.int _=>true | .int _,.non=>true | .non,.bl _=>true | .bl _,.non=>true | .non,.str _=>true | .str _,.non=>true
 | .int _,.int _=>true | .bl _,.bl _=>true | .str _,.str _=>true | .byt _,.byt _=>true
 | .int _,.str _=>true | .str _,.int _=>true | .bl _,.str _=>true | .str _,.bl _=>true
 | _,_=>false
def rEq:R2:=fun x y H Q=>qW5 x y=true/\Q (.bl (decide (x=y))) H
def rNe:R2:=fun x y H Q=>qW5 x y=true/\Q (.bl (!decide (x=y))) H
theorem qOz {i j:Int}:decide (V.int i=V.int j)=(i == j):=by
 rw[Bool.eq_iff_iff];simp
theorem dec_bl {i j:Bool}:decide (V.bl i=V.bl j)=(i == j):=by
 rw[Bool.eq_iff_iff];simp
theorem qOy {i j:Str}:decide (V.str i=V.str j)=(i == j):=by
 rw[Bool.eq_iff_iff];simp
theorem qO0 {i j:Array UInt8}:decide (V.byt i=V.byt j)=(i.toList == j.toList):=by
 rw[Bool.eq_iff_iff];cases i;cases j;simp
section
variable {X:Cx} {a b c:Expr} {ta tb tc:TE} {pos:Pos}
theorem fin_bl {pins:List (Addr×Obj)} {σ:St} {H:Hp} {s:Shared} {Q:VK} {k k':Bool} (I:Inv X pins σ H s) (q:Q (.bl k) H) (e:k=k'):EP X pins σ Q (.bool k') s:=by
 subst e;exact⟨.bl k,H,I,rfl,q⟩
theorem qB0:OpR X (compareOp .Eq) rEq:=by
 intro pins s σ H x y v u Q I rx ry h;obtain⟨hs,q⟩:=h;cases x with
 | non =>
  cases rx;cases y with
  | non=>cases ry;exact PySem.EqNone.eq_none_none (fin_bl I q (by simp))
  | bl j=>cases ry;exact PySem.EqNone.eq_none_bool (fin_bl I q (by simp))
  | int j=>obtain⟨t',rfl⟩:=ry;exact PySem.EqNone.eq_none_int (fin_bl I q (by simp))
  | str j=>obtain⟨t',rfl⟩:=ry;exact PySem.EqNone.eq_none_str (fin_bl I q (by simp))
  | _=>exact absurd (show false=true from hs) hAe
 | bl i =>
  cases rx;cases y with
  | non=>cases ry;exact PySem.EqNone.eq_bool_none (fin_bl I q (by simp))
  | bl j=>cases ry;exact eq_bool (fin_bl I q dec_bl)
  | str j=>obtain⟨t',rfl⟩:=ry;exact PySem.EqMixed.eq_bool_str (fin_bl I q (by simp))
  | _=>exact absurd (show false=true from hs) hAe
 | int i =>
  obtain⟨t,rfl⟩:=rx;cases y with
  | non=>cases ry;exact PySem.EqNone.eq_int_none (fin_bl I q (by simp))
  | int j=>obtain⟨t',rfl⟩:=ry;exact eq_int (fin_bl I q qOz)
  | str j=>obtain⟨t',rfl⟩:=ry;exact PySem.EqMixed.eq_int_str (fin_bl I q (by simp))
  | _=>exact absurd (show false=true from hs) hAe
 | str i =>
  obtain⟨t,rfl⟩:=rx;cases y with
  | non=>cases ry;exact PySem.EqNone.eq_str_none (fin_bl I q (by simp))
  | bl j=>cases ry;exact PySem.EqMixed.eq_str_bool (fin_bl I q (by simp))
  | int j=>obtain⟨t',rfl⟩:=ry;exact PySem.EqMixed.eq_str_int (fin_bl I q (by simp))
  | str j=>obtain⟨t',rfl⟩:=ry;exact eq_str (fin_bl I q qOy)
  | _=>exact absurd (show false=true from hs) hAe
 | byt i =>
  obtain⟨t,rfl⟩:=rx;cases y with
  | byt j=>obtain⟨t',rfl⟩:=ry;exact PySem.W.eq_bytes (fin_bl I q qO0)
  | _=>exact absurd (show false=true from hs) hAe
 | _=>cases y <;> exact absurd (show false=true from hs) hAe
theorem qSf:OpR X (compareOp .NotEq) rNe:=by
 intro pins s σ H x y v u Q I rx ry h;obtain⟨hs,q⟩:=h;cases x with
 | non =>
  cases rx;cases y with
  | non=>cases ry;exact PySem.EqNone.ne_none_none (fin_bl I q (by simp))
  | bl j=>cases ry;exact PySem.EqNone.ne_none_bool (fin_bl I q (by simp))
  | int j=>obtain⟨t',rfl⟩:=ry;exact PySem.EqNone.ne_none_int (fin_bl I q (by simp))
  | str j=>obtain⟨t',rfl⟩:=ry;exact PySem.EqNone.ne_none_str (fin_bl I q (by simp))
  | _=>exact absurd (show false=true from hs) hAe
 | bl i =>
  cases rx;cases y with
  | non=>cases ry;exact PySem.EqNone.ne_bool_none (fin_bl I q (by simp))
  | bl j=>cases ry;exact ne_bool (fin_bl I q (congrArg not dec_bl))
  | str j=>obtain⟨t',rfl⟩:=ry;exact PySem.EqMixed.ne_bool_str (fin_bl I q (by simp))
  | _=>exact absurd (show false=true from hs) hAe
 | int i =>
  obtain⟨t,rfl⟩:=rx;cases y with
  | non=>cases ry;exact PySem.EqNone.ne_int_none (fin_bl I q (by simp))
  | int j=>obtain⟨t',rfl⟩:=ry;exact ne_int (fin_bl I q (congrArg not qOz))
  | str j=>obtain⟨t',rfl⟩:=ry;exact PySem.EqMixed.ne_int_str (fin_bl I q (by simp))
  | _=>exact absurd (show false=true from hs) hAe
 | str i =>
  obtain⟨t,rfl⟩:=rx;cases y with
  | non=>cases ry;exact PySem.EqNone.ne_str_none (fin_bl I q (by simp))
  | bl j=>cases ry;exact PySem.EqMixed.ne_str_bool (fin_bl I q (by simp))
  | int j=>obtain⟨t',rfl⟩:=ry;exact PySem.EqMixed.ne_str_int (fin_bl I q (by simp))
  | str j=>obtain⟨t',rfl⟩:=ry;exact ne_str (fin_bl I q (congrArg not qOy))
  | _=>exact absurd (show false=true from hs) hAe
 | byt i =>
  obtain⟨t,rfl⟩:=rx;cases y with
  | byt j=>obtain⟨t',rfl⟩:=ry;exact PySem.W.ne_bytes (fin_bl I q (congrArg not qO0))
  | _=>exact absurd (show false=true from hs) hAe
 | _=>cases y <;> exact absurd (show false=true from hs) hAe
theorem qIh:OpR X (compareOp .Lt) (rI0 fun i j=>.bl (decide (i<j))):=qWk fun _ _ _ _ _ _ _ q=>lt_int q
theorem qSg:OpR X (compareOp .Gt) (rI0 fun i j=>.bl (decide (j<i))):=qWk fun _ _ _ _ _ _ _ q=>gt_int q
theorem qWj:OpR X (compareOp .GtE) (rI0 fun i j=>.bl (decide (j<=i))):=qWk fun _ _ _ _ _ _ _ q=>ge_int q
theorem qNs:OpR X (compareOp .Lt) (fun x y H Q=>∃ i j,x = .str i/\y = .str j/\Q (.bl (decide (i.cps.toList<j.cps.toList))) H):=by
 intro pins s σ H x y v u Q I rx ry h;obtain⟨i,j,rfl,rfl,q⟩:=h;obtain⟨t,rfl⟩:=rx;obtain⟨t',rfl⟩:=ry;exact lt_str (fin_bl I q rfl)
theorem qNt:OpR X (compareOp .In) (fun x y H Q=>∃ i j,x = .str i/\y = .str j/\Q (.bl (!(Builtin.Str.occurrences j i 0 j.length 1).isEmpty)) H):=by
 intro pins s σ H x y v u Q I rx ry h;obtain⟨i,j,rfl,rfl,q⟩:=h;obtain⟨t,rfl⟩:=rx;obtain⟨t',rfl⟩:=ry;exact in_str (fin_bl I q rfl)
theorem qQ6:OpR X (compareOp .Is) (fun x y H Q=>y = .non/\Q (.bl (decide (x = .non))) H):=by
 intro pins s σ H x y v u Q I rx ry h;obtain⟨rfl,q⟩:=h;cases ry;refine is_none_gen (fin_bl I q ?_);cases x <;> first
  | (cases rx;rfl)
  | (obtain⟨t,rfl⟩:=rx;rfl)
theorem qNq:OpR X (compareOp .IsNot) (fun x y H Q=>y = .non/\Q (.bl (!decide (x = .non))) H):=by
 intro pins s σ H x y v u Q I rx ry h;obtain⟨rfl,q⟩:=h;cases ry;refine isnot_none_gen (fin_bl I q ?_);cases x <;> first
  | (cases rx;rfl)
  | (obtain⟨t,rfl⟩:=rx;rfl)
theorem qAr (b:Expr) {op:CmpOp} (h:op≠.In:=by decide) (h2:op≠.NotIn:=by decide):behindInMarks op b=false:=by
 have e1:(op == CmpOp.In)=false:=by cases op <;> first | rfl | exact absurd rfl h
 have e2:(op == CmpOp.NotIn)=false:=by cases op <;> first | rfl | exact absurd rfl h2
 cases b <;> simp[behindInMarks,e1,e2]
theorem qCe {op:CmpOp} {r:R2} (ho:OpR X (compareOp op) r) (ha:PE X a ta) (hb:PE X b tb) (hm:behindInMarks op b=false):PE X (.Compare a [op] [b] pos) (tOp r ta tb):=by
 intro pins s σ H Q I h;exact wpAny_Compare1 (qWv ha hb I h fun v u s2 x y H2 I2 rx ry q=>ho pins s2 σ H2 x y v u Q I2 rx ry q) hm
def qVv (t:TE):TT:=fun σ H Q=>t σ H fun x H'=>∃ k,x = .bl k/\Q k H'
theorem qAn {op:CmpOp} {r:R2} (ho:OpR X (compareOp op) r) (ha:PE X a ta) (hb:PE X b tb) (hm:behindInMarks op b=false):PT X (.Compare a [op] [b] pos) (qVv (tOp r ta tb)):=by
 intro pins s σ H Q I h;refine wpAny_isTrue_Compare1 (thn (ha pins s σ H _ I h) fun v s1 ⟨x,H1,I1,r1,q1⟩=>thn (hb pins s1 σ H1 _ I1 q1) fun u s2 ⟨y,H2,I2,r2,q2⟩ =>
  thn (ho pins s2 σ H2 x y v u _ I2 r1 r2 q2) fun c s3 ⟨z,H3,I3,r3,k,e,q3⟩=>?_) hm
 subst e;cases r3;exact wpAny_truthy_bool ⟨H3,I3,q3⟩
theorem qGm:(sizeLine:Nat)<2^63:=by rw[sizeLine_eq];decide
theorem qBu:OpR X (binaryOp .Add) (fun x y H Q=>∃ i j,x = .str i/\y = .str j/\i.length+j.length<=sizeLine/\Q (.str (i++j)) H):=by
 intro pins s σ H x y v u Q I rx ry h;obtain⟨i,j,rfl,rfl,hz,q⟩:=h;obtain⟨t,rfl⟩:=rx;obtain⟨t',rfl⟩:=ry;exact add_str (fun t' tk=>⟨.str (i++j),H,I.tok _,⟨_,rfl⟩,q⟩) hz
theorem qC0 {x:V} {us:List Value} (r:qBe [x] us):∃ u,us=[u]/\qBl x u:=by
 cases r with
 | cons r1 r2=>cases r2;exact⟨_,rfl,r1⟩
theorem qLi {x y:V} {us:List Value} (r:qBe [x,y] us):∃ u w',us=[u,w']/\qBl x u/\qBl y w':=by
 cases r with
 | cons r1 r2 =>
  cases r2 with
  | cons r3 r4=>cases r4;exact⟨_,_,rfl,r1,r3⟩
theorem qF0 (hc:X.calm=true):qB9 X (.builtin "max") (fun xs H Q=>∃ i j,xs=[.int i,.int j]/\Q (.int (if j > i then j else i)) H):=by
 intro pins s σ H xs us Q I r h;obtain⟨i,j,rfl,q⟩:=h;obtain⟨u,w',rfl,⟨t,rfl⟩,⟨t',rfl⟩⟩:=qLi r;refine max_two_ints (I.ok.hd hc) fun h' tk k=>⟨_,H,I.kept k,?_,q⟩
 by_cases hj:j > i
 ·rw[if_pos hj,if_pos hj];exact⟨_,rfl⟩
 ·rw[if_neg hj,if_neg hj];exact⟨_,rfl⟩
theorem qD6 (hc:X.calm=true):qB9 X (.builtin "min") (fun xs H Q=>∃ i j,xs=[.int i,.int j]/\Q (.int (if j<i then j else i)) H):=by
 intro pins s σ H xs us Q I r h;obtain⟨i,j,rfl,q⟩:=h;obtain⟨u,w',rfl,⟨t,rfl⟩,⟨t',rfl⟩⟩:=qLi r;refine min_two_ints (I.ok.hd hc) fun h' tk k=>⟨_,H,I.kept k,?_,q⟩
 by_cases hj:j<i
 ·rw[if_pos hj,if_pos hj];exact⟨_,rfl⟩
 ·rw[if_neg hj,if_neg hj];exact⟨_,rfl⟩
theorem qF1:qB9 X (.type "int") (fun xs H Q=>(∃ i,xs=[.int i]/\Q (.int i) H)\/∃ k,xs=[.bl k]/\Q (.int (if k then 1 else 0)) H):=by
 intro pins s σ H xs us Q I r h;rcases h with ⟨i,rfl,q⟩ | ⟨k,rfl,q⟩
 ·obtain⟨u,rfl,t,rfl⟩:=qC0 r;exact call_int_int ⟨.int i,H,I,⟨_,rfl⟩,q⟩
 ·obtain⟨u,rfl,r1⟩:=qC0 r;cases r1;exact call_int_bool ⟨.int (if k then 1 else 0),H,I.tok _,⟨_,rfl⟩,q⟩
end
end L2
namespace L2
open PySem PySem.Spec PyProof.Rows
structure ObjM (h:Heap) (x dx C:Addr) (mA:Str->Option Value):Prop where
 obj:h.get? x=some (PySem.W.instObj C dx)
 ns:h.Ns1 dx mA
 ne:dx≠x
theorem qN5 {h:Heap} {dx:Addr} {mA:Str->Option Value} (n:h.Ns1 dx mA):∃ od,h.get? dx=some od/\∀ name,PySem.W.lookIn name od=some (mA name):=by
 obtain⟨o,es,ep,ho,hd,hk,_,hm⟩:=n;refine⟨o,ho,fun name=>?_⟩;have e:=hm name;unfold nsFind findBy at e;rw[<-Array.find?_toList]at e;unfold PySem.W.lookIn;rw[hd];dsimp only;split
 ·rename_i y q;rw[q]at e;exact congrArg some e
 ·rename_i q;rw[q]at e;have a:es.toList.any (·.refKey)=false:=by
   rw[List.any_eq_false];intro y hy;obtain⟨z,t,hkey⟩:=hk y (Array.mem_toList_iff.mp hy);simp[DictEntry.refKey,hkey]
  have a':¬es.toList.any (·.refKey)=true:=by rw[a];exact hAe
  rw[if_neg a'];exact congrArg some e
theorem ObjM.look {h:Heap} {x dx C:Addr} {mA:Str->Option Value} (I:ObjM h x dx C mA):∃ od,PySem.W.InstAt h x (PySem.W.instObj C dx) C (some od)/\∀ name,PySem.W.lookIn name od=some (mA name) :=
 let ⟨od,ho,hl⟩:=qN5 I.ns
 ⟨od,⟨I.obj,rfl,rfl,ho⟩,hl⟩
theorem qMc.some_of {v:V} {o:Option Value} (r:qMc (some v) o):∃ u,o=some u/\qBl v u:=by
 cases o with
 | none=>exact(show False from r).elim
 | some u=>exact⟨u,rfl,r⟩
section
variable {P:Program} {w:World} {H H':Hp} {h h':Heap} {a C dx:Addr} {fs fs':List (Str×V)}
theorem qS4 (hok:HOk P w H h) (e:H a=some (.ins C dx fs)):∃ mA,ObjM h a dx C mA/\(∀ f,qMc (fs.lookup f) (mA f))/\PySem.Within mA (fs.map (·.1))/\fs.length<=1000/\H dx=some (.own a):=by
 obtain⟨d,z,ne,ob,mA,n,r,q⟩:=(show qBo P w H h a (.ins C dx fs) from hok a _ e);exact⟨mA,⟨ob,n,ne⟩,r,q,z,d⟩
end
structure Cls (K:PySem.W.Frag) (C:Addr):Prop where
 pg:PySem.W.plainGet K C Str.empty=true
 hd:PySem.W.hasDictIn K C=true
 po:PySem.W.plainOver K C=true
 sa:PySem.W.findIn K (.ref C) "__setattr__" = some (some (.builtin "object.__setattr__"))
theorem Cls.get {K:PySem.W.Frag} {C:Addr} (c:Cls K C) (f:Str):PySem.W.plainGet K C f=true:=c.pg
structure Con (K:PySem.W.Frag) (C:Addr) (f:Str) (v:V) (u:Value):Prop where
 at_:PySem.W.findIn K (.ref C) f=some (some u)
 rel:qBl v u
 get:PySem.W.specialIn K u "__get__" = some none
 cp:PySem.W.copiedNames.contains f=false
structure Meth (K:PySem.W.Frag) (C:Addr) (m:Str) (f:Addr):Prop where
 at_:PySem.W.findIn K (.ref C) m=some (some (.ref f))
 fn:PySem.W.isFn K (.ref f)=true
 kp:PySem.W.keepIn K (.ref f)=true
section
variable {X:Cx} {pins:List (Addr×Obj)} {σ:St} {H:Hp} {s:Shared} {A:Around} {E:Value->Shared->Prop} {Q:Value->Shared->Prop} {c:Value} {b:Bool}
inductive TyOf (K:PySem.W.Frag) (H:Hp):V->Value->Prop where
 | non:TyOf K H .non (.type "NoneType")
 | bl (x:Bool):TyOf K H (.bl x) (.type "bool")
 | int (i:Int):TyOf K H (.int i) (.type "int")
 | str (x:Str):TyOf K H (.str x) (.type "str")
 | flt (x:UInt64):TyOf K H (.flt x) (.type "float")
 | lst {a:Addr} {xs:List V} (e:H a=some (.lst xs)):TyOf K H (.ref a) (.type "list")
 | frz {a:Addr} {o:Obj} {xs:List V} (e:H a=some (.frz o (.lst xs))):TyOf K H (.ref a) (.type "list")
 | tup {a:Addr} {xs:List V} (e:H a=some (.tup xs)):TyOf K H (.ref a) (.type "tuple")
 | dK {a:Addr} {kvs:List (Key×V)} (e:H a=some (.dK kvs)):TyOf K H (.ref a) (.type "dict")
 | dT {a:Addr} {kvs:List (List Key×V)} (e:H a=some (.dT kvs)):TyOf K H (.ref a) (.type "dict")
 | ins {a C dx:Addr} {fs:List (Str×V)} (e:H a=some (.ins C dx fs)) (cl:Cls K C) (ha:PySem.W.findIn K (.ref C) "__class__" = some (some (.builtin "object.__class__")))
   (hn:PySem.W.specialIn K (.builtin "object.__class__") "__get__" = some (some (.builtin "getset_descriptor.__get__"))) (htk:PySem.W.takesIn K (.builtin "object.__class__")=some true)
   (hm:PySem.W.mroIn K C (.type "object")=some true):TyOf K H (.ref a) (.ref C)
theorem qOe {x:V} {u t:Value} (I:Inv X pins σ H s) (rx:qBl x u) (ty:TyOf X.K H x t) (e:PySem.W.kitOne X.K t c=some b) (h:∀ tk,Q (.bool b) { s with toks:=tk }) :
  wpAny (model X.prog X.w) A (call (.builtin "isinstance") [u,c]) Q E s:=by
 cases ty with
 | non=>cases(show u=Value.none from rx);exact hBd PySem.W.kitx_none I.kIn True.intro e (fun z=>nomatch z) h
 | bl y=>cases(show u=Value.bool y from rx);exact hBd PySem.W.kitx_bool I.kIn True.intro e (fun z=>nomatch z) h
 | int i=>obtain⟨t,q⟩:=(show ∃ t,u=Value.int i t from rx);cases q;exact hBd PySem.W.kitx_int I.kIn True.intro e (fun z=>nomatch z) h
 | str y=>obtain⟨t,q⟩:=(show ∃ t,u=Value.str y t from rx);cases q;exact hBd PySem.W.kitx_str I.kIn True.intro e (fun z=>nomatch z) h
 | flt y=>obtain⟨t,q⟩:=(show ∃ t,u=Value.float y t from rx);cases q;exact hBd PySem.W.kitx_float I.kIn True.intro e (fun z=>nomatch z) h
 | @lst a xs ea =>
  cases(show u=Value.ref a from rx);obtain⟨_,_,n,_,h1⟩:=(show qBo X.prog X.w H s.heap a (.lst xs) from I.hok a _ ea);exact hBd PySem.W.kitx_list I.kIn ⟨_,h1,rfl⟩ e (fun z=>nomatch z) h
 | @frz a ob xs ea =>
  cases(show u=Value.ref a from rx);obtain⟨_,_,_,n,_,h1⟩:=(show qBo X.prog X.w H s.heap a (.frz ob (.lst xs)) from I.hok a _ ea);exact hBd PySem.W.kitx_list I.kIn ⟨_,h1,rfl⟩ e (fun z=>nomatch z) h
 | @tup a xs ea =>
  cases(show u=Value.ref a from rx);obtain⟨_,_,_,p⟩:=(show qBo X.prog X.w H s.heap a (.tup xs) from I.hok a _ ea);obtain⟨o,h1,h2,_⟩:=p;exact hBd PySem.W.kitx_tuple I.kIn ⟨o,h1,h2⟩ e (fun z=>nomatch z) h
 | @dK a kvs ea =>
  cases(show u=Value.ref a from rx);obtain⟨_,_,vs,_,p⟩:=(show qBo X.prog X.w H s.heap a (.dK kvs) from I.hok a _ ea);obtain⟨o,es,ep,h1,h2,_⟩:=p;exact hBd PySem.W.kitx_dict I.kIn ⟨o,h1,h2.1⟩ e (fun z=>nomatch z) h
 | @dT a kvs ea =>
  cases(show u=Value.ref a from rx);obtain⟨_,_,xs,_,o,es,ep,h1,h2,_⟩:=(show qBo X.prog X.w H s.heap a (.dT kvs) from I.hok a _ ea);exact hBd PySem.W.kitx_dict I.kIn ⟨o,h1,h2.1⟩ e (fun z=>nomatch z) h
 | @ins a C dx fs ea cl ha hn htk hm =>
  cases(show u=Value.ref a from rx);obtain⟨mA,O,_⟩:=qS4 I.hok ea;obtain⟨od,J,_⟩:=O.look;exact hBd (PySem.W.kitx_own (cl.get _) cl.hd ha hn htk hm) I.kIn J e (fun z=>nomatch z) h
end
end L2
namespace L2
open PySem PySem.Spec PyProof.Rows
structure Room (k:Nat) (A:Around):Prop where
 hd:A.handled=none
 dp:A.depth+3*k+5<recursionLimit
 un:A.units+16*k+200<cLine
 gd:A.guards=some []
theorem Room.mono {j k:Nat} {A:Around} (r:Room k A) (h:j<=k):Room j A:=⟨r.hd,by have:=r.dp;omega,by have:=r.un;omega,r.gd⟩
theorem Room.deeper {k:Nat} {A:Around} (r:Room (k+1) A) (env:Env):Room k (A.deeper env) :=
 ⟨r.hd,by have:=r.dp;show A.depth+1+3*k+5<_;omega,by have:=r.un;show A.units+3+16*k+200<_;omega,r.gd⟩
theorem Room.depth {k:Nat} {A:Around} (r:Room k A):A.depth<recursionLimit:=by have:=r.dp;omega
theorem Room.units {k:Nat} {A:Around} (r:Room k A):A.units+64<cLine:=by have:=r.un;omega
def qTs:TA:=fun _ H Q=>Q [] H
def qF8 (ta:TE) (tr:TA):TA:=fun σ H Q=>ta σ H fun x H1=>tr σ H1 fun xs H2=>Q (x :: xs) H2
section
variable {X:Cx} {e:Expr} {es:List Expr} {te:TE} {t:TA} {pos:Pos}
theorem qAb:PA X [] qTs:=fun _ _ _ _ H Q I h=>Calls.spliced_nil ⟨[],H,I,.nil,h⟩
theorem qAa (ha:PE X e te) (hr:PA X es t) (hs:starEach (e :: es) X.env=(false,eval e X.env) :: starEach es X.env:=by rfl):PA X (e :: es) (qF8 te t):=by
 intro pos pins s σ H Q I h;rw[hs];show wpAny _ _ (spliced ((false,eval e X.env) :: backTo pos (starEach es X.env))) _ _ s;refine Calls.spliced_cons (thn (ha pins s σ H _ I h) fun u s1 ⟨x,H1,I1,r1,q1⟩=>?_);exact thn (hr pos pins s1 σ H1 _ I1 q1) fun us s2 ⟨xs,H2,I2,r2,q2⟩=>⟨x :: xs,H2,I2,.cons r1 r2,q2⟩
def qW3 (t:TA):TE:=fun σ H Q=>t σ H fun xs H1=>xs.length<=sizeLine/\∀ p,H1 p=none->Q (.ref p) (upd H1 p (.tup xs))
def qVk (t:TA):TE:=fun σ H Q=>t σ H fun xs H1=>xs.length<=sizeLine/\∀ p,H1 p=none->Q (.ref p) (upd H1 p (.lst xs))
theorem qB5 {x1} (h:PA X es t):PE X (.Tuple es x1 pos) (qW3 t):=by
 intro pins s σ H Q I hq;refine wpAny_Tuple_spliced (thn (h pos pins s σ H _ I hq) fun us s1 ⟨xs,H1,I1,r,z,q⟩=>⟨by rw[<-r.length];exact z,?_⟩);have hf:H1 s1.heap.objs.size=none:=I1.hok.fresh (hA4 _);refine⟨.ref s1.heap.objs.size,upd H1 s1.heap.objs.size (.tup xs),I1.laid (t':=s1.toks) (fun b u e=>Heap.get?_push_of_some _ e) (hA4 _) ?_,rfl,q _ hf⟩;exact⟨z,us,r,⟨_,Heap.get?_push_size _ rfl,rfl,_,rfl⟩⟩
theorem qA3 (h:PA X es t):PE X (.List es pos) (qVk t):=by
 intro pins s σ H Q I hq;refine wpAny_List_spliced (thn (h pos pins s σ H _ I hq) fun us s1 ⟨xs,H1,I1,r,z,q⟩=>⟨by rw[<-r.length];exact z,?_⟩);have hf:H1 s1.heap.objs.size=none:=I1.hok.fresh (hA4 _);refine⟨.ref s1.heap.objs.size,upd H1 s1.heap.objs.size (.lst xs),I1.laid (t':=s1.toks) (fun b u e=>Heap.get?_push_of_some _ e) (hA4 _) ?_,rfl,q _ hf⟩;exact⟨z,us,0,r,Heap.get?_push_size _ rfl⟩
end
abbrev Sp:=List V->Hp->VK->XK->Prop
abbrev CXT:=List Env->Hp->Shared->XK->Value->Shared->Prop
structure Env0 (P:Program) (w:World) (K:PySem.W.Frag) (mg:Str->Option Value) (base:Heap) (A:Around) (outer:List Env) (s:Shared) (H:Hp):Prop where
 frames:A.frames=some outer
 mod:Mod K mg base
 bs:∀ b o,base.get? b=some o->s.heap.get? b=some o/\H b=none
 bsz:base.objs.size<=s.heap.objs.size
 funs:s.heap.FunFrames base outer
 frf:∀ b∈frs outer,H b=none
 hok:HOk P w H s.heap
 bare:AllBare s.gens
def CE (outer:List Env) (P:Program) (w:World) (H:Hp) (s:Shared) (Q:VK) (u:Value) (s':Shared):Prop :=
 ∃ v H',s'.os=s.os/\AllBare s'.gens/\Un (frs outer) [] H H' s.heap s'.heap/\HOk P w H' s'.heap/\qBl v u/\Q v H'
def CR (CX:CXT) (outer:List Env) (P:Program) (w:World) (H:Hp) (s:Shared) (Q:VK) (E:XK) (r:Result) (s':Shared):Prop :=
 match r with
 | .ok (.ret u)=>CE outer P w H s Q u s'
 | .ok _=>False
 | .error e=>CX outer H s E e s'
structure FnOk (P:Program) (w:World) (K:PySem.W.Frag) (mg:Str->Option Value) (base:Heap) (CX:CXT) (k:Nat) (f:Addr) (fd:FuncData) (ps:List Str) (sp:Sp):Prop where
 len:∀ vs H Q E,sp vs H Q E->vs.length=ps.length
 run:∀ (A:Around) (outer:List Env) (s:Shared) (H:Hp) (args:Args) (us:List Value) (vs:List V) (Q:VK) (E:XK),Room k A->Env0 P w K mg base A outer s H->BindsTo s fd args (ps.zip us)->qBe vs us->sp vs H Q E ->
  codeAny (model P w) A (.call (.ref f) args) (CR CX outer P w H s Q E) s
section
variable {X:Cx} {pins:List (Addr×Obj)} {σ:St} {H:Hp} {s s':Shared}
theorem Inv.env0 (I:Inv X pins σ H s):Env0 X.prog X.w X.K X.mg X.base X.A X.stack s H :=
 ⟨I.ok.frames,I.ok.mod,I.bs,hAt I.ok.bsz I.sz,I.stack,I.stkFree,I.hok,I.bare⟩
theorem Inv.after {Q:VK} {u:Value} (I:Inv X pins σ H s) (h:CE X.stack X.prog X.w H s Q u s'):EP X pins σ Q u s':=by
 obtain⟨v,H',os,bare,un,hok,r,q⟩:=h;obtain⟨hh,g,d,t,os'⟩:=s';obtain rfl:os'=s.os:=os;exact⟨v,H',I.call (h':=hh) (g':=g) (d':=d) (t':=t) (ch:=[]) un hok bare (fun b z=>absurd z (by simp)),r,q⟩
end
def qTw (sp:Sp) (dvs:List V) (E:XK) (t:TA):TE:=fun σ H Q=>t σ H fun vs H1=>sp (vs++dvs) H1 Q E
def qMd (K:PySem.W.Frag) (fd:FuncData) (ps:List Str) (ds:List Value):Prop :=
 ∀ (s:Shared) (us:List Value),K.In s.heap->(us++ds).length=ps.length->BindsTo s fd ⟨us,[]⟩ (ps.zip (us++ds))
theorem qMd.all {K:PySem.W.Frag} {fd:FuncData} {ps:List Str} (h:∀ us:List Value,us.length=ps.length->bindArgs fd ⟨us,[]⟩=pure (ps.zip us)):qMd K fd ps []:=fun s us _ hl=>by
 rw[hC2]at hl ⊢;exact .of_eq (h us hl)
def qI1 (CX:CXT) (X:Cx) (E:XK):Prop:=∀ (pins:List (Addr×Obj)) (σ:St) (H:Hp) (s:Shared) (e:Value) (s':Shared),Inv X pins σ H s->CX X.stack H s E e s'->X.xe e s'
section
variable {X:Cx} {CX:CXT} {k:Nat} {f C:Addr} {fd:FuncData} {ps:List Str} {sp:Sp} {dvs:List V} {ds:List Value} {E:XK} {x m:Str} {p pos apos:Pos} {e o:Expr} {es:List Expr} {ta:TE} {t:TA}
theorem qUc {pins:List (Addr×Obj)} {σ:St} {H:Hp} {s:Shared} {Q:VK} {us:List Value} {vs:List V} (F:FnOk X.prog X.w X.K X.mg X.base CX k f fd ps sp) (hr:Room k X.A) (hb:qMd X.K fd ps ds) (hd:qBe dvs ds) (hx:qI1 CX X E)
  (I:Inv X pins σ H s) (r:qBe vs us) (h:sp (vs++dvs) H Q E):wpAny (model X.prog X.w) X.A (call (.ref f) us) (EP X pins σ Q) X.xe s:=by
 have r2:qBe (vs++dvs) (us++ds):=r.append hd;have hl:(us++ds).length=ps.length:=by rw[<-r2.length];exact F.len _ _ _ _ h
 refine wpAny_call (codeAny_mono (F.run X.A X.stack s H ⟨us,[]⟩ (us++ds) (vs++dvs) Q E hr I.env0 (hb s us I.kIn hl) r2 h) fun r s' hq=>?_);cases r with
 | error e=>exact hx pins σ H s e s' I hq
 | ok fl =>
  cases fl with
  | ret u=>exact I.after hq
  | next=>exact False.elim hq
  | brk=>exact False.elim hq
  | cont=>exact False.elim hq
theorem qSd (F:FnOk X.prog X.w X.K X.mg X.base CX k f fd ps sp) (hr:Room k X.A) (hg:Gl X x) (hm:X.mg x=some (.ref f)) (hk:PySem.W.keepIn X.K (.ref f)=true) (hb:qMd X.K fd ps ds) (hd:qBe dvs ds) (hx:qI1 CX X E)
  (ha:PA X (e :: es) t) (hdb:(x == ("__debug__" : Str))=false:=by decide) (he:starEach (e :: es) X.env=(false,eval e X.env) :: starEach es X.env:=by rfl) (hpl:(backTo pos (starEach es X.env)).any (·.1)=false:=by rfl) :
  PE X (.Call (.Name x p) (e :: es) [] pos) (qTw sp dvs E t):=by
 intro pins s σ H Q I h;refine wpAny_Call_Name_kw (qHk I hg hm ?_ hdb);refine PySem.W.callWith_K (h₀:=X.base) I.ok.mod.kin hk (thn (ha pos pins s σ H _ I h) fun us s1 ⟨vs,H1,I1,r,q⟩=>⟨I1.kIn,?_⟩) he hpl;exact qUc F hr hb hd hx I1 r q
structure Mk (K:PySem.W.Frag) (C f:Addr):Prop where
 makes:PySem.W.makesIn K C=true
 init:PySem.W.findIn K (.ref C) "__init__" = some (some (.ref f))
 fn:PySem.W.isFn K (.ref f)=true
 kp:PySem.W.keepIn K (.ref C)=true
end
section
variable {X:Cx} {CX:CXT} {k:Nat} {f C:Addr} {fd:FuncData} {ps ks:List Str} {sp:Sp} {E:XK} {x m:Str} {p pos apos kpos:Pos} {e o:Expr} {es:List Expr} {kws:List Keyword} {te ta:TE} {t tk:TA} {nm:Option Str}
structure KBinds (K:PySem.W.Frag) (fd:FuncData) (ps ks:List Str) (g:List Value->List Value->List Value) (gV:List V->List V->List V):Prop where
 to:∀ (s:Shared) (us ws:List Value),K.In s.heap->(g us ws).length=ps.length->BindsTo s fd ⟨us,ks.zip ws⟩ (ps.zip (g us ws))
 rel:∀ {vs:List V} {us:List Value} {zs:List V} {ws:List Value},qBe vs us->qBe zs ws->qBe (gV vs zs) (g us ws)
variable {g:List Value->List Value->List Value} {gV:List V->List V->List V}
end
structure FnScope (N P:List Str) (sc:Scope):Prop where
 kind:sc.kind = .function
 co:sc.isCoroutine=false
 gen:sc.isGenerator=false
 nd:N.Nodup
 pre:N.take P.length=P
 par:∀ x∈P,sc.names.lookup x=some .local\/sc.names.lookup x=some .cell
 nofree:∀ y∈sc.names,y.2≠.free
theorem qIx {kindOf:Str->Option NameKind} {x:Str}:∀ {binds:List (Str×Value)} {m:Str->Option Value},(∀ v,(x,v)∉binds)->bindL kindOf binds m x=m x
 | [],_,_=>rfl
 | (n,v) :: r,m,h=>by
  unfold bindL;rw[qIx fun w hw=>h w (hA5 _ hw)];split
  ·have:x≠n:=by rintro rfl;exact h v hA6
   simp[this]
  ·rfl
theorem qIz {kindOf:Str->Option NameKind} {x:Str}:∀ {binds:List (Str×Value)} {m:Str->Option Value},(∀ v,(x,v)∉binds)->bindC kindOf binds m x=m x
 | [],_,_=>rfl
 | (n,v) :: r,m,h=>by
  unfold bindC;rw[qIz fun w hw=>h w (hA5 _ hw)];split
  ·rfl
  ·have:x≠n:=by rintro rfl;exact h v hA6
   simp[this]
theorem qIy {kindOf:Str->Option NameKind} {x:Str} {v:Value}:∀ {P:List Str} {vs:List Value} {i:Nat} {m:Str->Option Value},P.Nodup->P[i]?=some x->vs[i]?=some v->kindOf x=some .local ->
  bindL kindOf (P.zip vs) m x=some v
 | [],_,_,_,_,h,_,_=>by simp at h
 | _ :: _,[],_,_,_,_,h,_=>by simp at h
 | p :: P,w :: vs,0,m,nd,h1,h2,hk=>by
  simp at h1 h2;subst h1;subst h2;show bindL kindOf ((p,w) :: P.zip vs) m p=_;unfold bindL;rw[qIx fun v hv=>(hBt.mp nd).1 (List.of_mem_zip hv).1,if_pos hk];simp
 | p :: P,w :: vs,i+1,m,nd,h1,h2,hk=>by
  show bindL kindOf ((p,w) :: P.zip vs) m x=_;unfold bindL;exact qIy (i:=i) (hBt.mp nd).2 (by simpa using h1) (by simpa using h2) hk
theorem qI0 {kindOf:Str->Option NameKind} {x:Str} {v:Value}:∀ {P:List Str} {vs:List Value} {i:Nat} {m:Str->Option Value},P.Nodup->P[i]?=some x->vs[i]?=some v->kindOf x≠some .local ->
  bindC kindOf (P.zip vs) m x=some v
 | [],_,_,_,_,h,_,_=>by simp at h
 | _ :: _,[],_,_,_,_,h,_=>by simp at h
 | p :: P,w :: vs,0,m,nd,h1,h2,hk=>by
  simp at h1 h2;subst h1;subst h2;show bindC kindOf ((p,w) :: P.zip vs) m p=_;unfold bindC;rw[qIz fun v hv=>(hBt.mp nd).1 (List.of_mem_zip hv).1,if_neg hk];simp
 | p :: P,w :: vs,i+1,m,nd,h1,h2,hk=>by
  show bindC kindOf ((p,w) :: P.zip vs) m x=_;unfold bindC;exact qI0 (i:=i) (hBt.mp nd).2 (by simpa using h1) (by simpa using h2) hk
def qGw (N:List Str) (vs:List V):St:=vs.map some++List.replicate (N.length - vs.length) none
def qQm (CX:CXT) (P:Program) (w:World) (K:PySem.W.Frag) (mg:Str->Option Value) (base:Heap) (N:List Str) (qual:Str) (scope:Scope) (f:Addr) (cd:Value) (A:Around) (outer:List Env) (s:Shared) (H:Hp) (E:XK):Cx where
 prog:=P
 w:=w
 K:=K
 mg:=mg
 base:=base
 A:=A.deeper (envOfC qual scope s.heap.objs.size f cd)
 N:=N
 s₀:=s
 H₀:=H
 env:=envOfC qual scope s.heap.objs.size f cd
 outer:=outer
 stack:=envOfC qual scope s.heap.objs.size f cd :: outer
 ex:=[]
 calm:=true
 fn:=fun _=>true
 pn:=[]
 xe:=fun e s'=>wpAny (model P w) (A.deeper (envOfC qual scope s.heap.objs.size f cd)) (leaving (envOfC qual scope s.heap.objs.size f cd) e) (fun _ s''=>CX outer H s E e s'') (fun e' s''=>CX outer H s E e' s'') s'
theorem qLh {sc:Scope} {n:Nat} {x:Str} (h:sc.names.lookup x=some .cell):∃ c,(cellsFrom n sc.names []).lookup x=some c:=by
 have q:=hC0 sc.names n [] (.inl h);exact Option.isSome_iff_exists.mp q
theorem qOg {CX:CXT} {P:Program} {w:World} {K:PySem.W.Frag} {mg:Str->Option Value} {base:Heap} {N ps:List Str} {qual:Str} {scope:Scope} {f:Addr} {cd:Value} {A:Around} {outer:List Env} {s s1:Shared} {H:Hp} {E:XK} {us:List Value} {vs:List V}
  (S:FnScope N ps scope) (hd:A.handled=none) (e0:Env0 P w K mg base A outer s H) (hl:vs.length=ps.length) (r:qBe vs us)
  (x:InCallC s s.heap.objs.size (bindL (envOfC qual scope s.heap.objs.size f cd).kindOf (ps.zip us) fun _=>none) (cellsFrom (s.heap.objs.size+1) scope.names []) (bindC (envOfC qual scope s.heap.objs.size f cd).kindOf (ps.zip us) fun _=>none) s1) :
  Inv (qQm CX P w K mg base N qual scope f cd A outer s H E) [] (qGw N vs) H s1:=by
 have hpl:ps.length<=N.length:=by have:=congrArg List.length S.pre;rw[hAp]at this;omega
 obtain⟨h1,tk,rfl,hk⟩:=x.done;have noA:∀ b:Addr,b∉(qQm CX P w K mg base N qual scope f cd A outer s H E).ex:=fun b z=>absurd (show b∈([]:List Addr) from z) (by simp)
 refine⟨⟨e0.mod,S.kind,rfl,rfl,hA4 _,fun y z c h1 h2=>?_,fun y hy=>?_,fun y c _ h=>?_,fun _=>hd,Around.frames_deeper e0.frames,.inr ⟨rfl,rfl⟩,fun b z=>absurd z (noA b),e0.bs,e0.bsz,fun b _ _=>noA b,fun b z=>absurd z (noA b),e0.funs,e0.frf⟩,
  rfl,e0.bare,Un.kept hk,⟨_,x.toInCall.ns,fun i y v h1 h2 h3=>?_⟩,fun y c h=>⟨_,x.cell y c h⟩,e0.hok.fresh (hA4 _),fun y c h=>?_,fun p hp=>absurd (show p∈([]:List (Addr×Obj)) from hp) (by simp),e0.hok.kept hk,?_⟩
 ·exact name_of_addr x.apart (hB0 h1) (hB0 h2)
 ·have hy:scope.names.lookup y=some .cell\/scope.names.lookup y=some .free:=hy;rcases hy with hy | hy
  ·exact qLh hy
  ·exact absurd rfl (S.nofree _ (hB0 hy))
 ·exact hAq (x.above y c (hB0 h))
 ·have hi:i<vs.length:=by
   unfold qGw at h2;by_cases hi:i<vs.length
   ·exact hi
   ·rw[List.getElem?_append_right (by simpa using hi)]at h2;rw[List.getElem?_replicate]at h2;split at h2 <;> cases h2
  have ha:vs[i]?=some v:=by
   unfold qGw at h2;rw[List.getElem?_append_left (by simpa using hi),hAl]at h2;cases e:vs[i]? with
   | none=>rw[e]at h2;cases h2
   | some a=>rw[e]at h2;cases h2;rfl
  obtain⟨u,hu,rv⟩:=r.get ha;have hp:ps[i]?=some y:=by
   rw[<-S.pre,List.getElem?_take_of_lt (by omega)];exact h1
  have ndP:ps.Nodup:=by rw[<-S.pre];exact S.nd.sublist (List.take_sublist _ _)
  refine⟨u,rv,?_⟩;rcases S.par y (hAm hp) with k | k
  ·exact .inl ⟨k,qIy ndP hp hu k⟩
  ·obtain⟨c,e⟩:=qLh (n:=s.heap.objs.size+1) k;refine .inr ⟨.inl k,c,e,?_⟩;have q:=x.cell y c e;rw[qI0 ndP hp hu (by show scope.names.lookup y≠_;rw[k];decide)]at q;exact q
 ·exact e0.hok.fresh (hAq (x.above y c (hB0 h)))
 ·unfold qGw;show _=N.length;rw[hA2,hA1,hBl];omega
theorem qU9 {CX:CXT} {P:Program} {w:World} {K:PySem.W.Frag} {mg:Str->Option Value} {base:Heap} {k:Nat} {f:Addr} {name qual:Str} {params:Arguments} {body:List Stmt} {scope:Scope} {dV kV doc pm cdv ct oc:Value} {an od:Option Addr}
  {osl:Array (Option Value)} {N ps:List Str} {sp:Sp} (lk:K.lookup f=some ⟨oc,od,.func (PySem.W.fnOf name qual params body scope dV kV doc pm an cdv ct),osl⟩) (hcd:PySem.W.codeIn K cdv qual=true) (S:FnScope N ps scope)
  (len:∀ vs H Q E,sp vs H Q E->vs.length=ps.length)
  (hbody:∀ (A:Around) (outer:List Env) (s:Shared) (H:Hp) (vs:List V) (Q:VK) (E:XK),Room k (A.deeper (envOfC qual scope s.heap.objs.size f cdv))->sp vs H Q E ->
   ∃ t,PSs (qQm CX P w K mg base N qual scope f cdv A outer s H E) body t/\t { nx:=fun _ H'=>Q .non H',rt:=Q } (qGw N vs) H) :
  FnOk P w K mg base CX (k+1) f (PySem.W.fnOf name qual params body scope dV kV doc pm an cdv ct) ps sp:=by
 refine⟨len,fun A outer s H args us vs Q E hr e0 hb r hsp=>?_⟩;have hl:=len _ _ _ _ hsp;have KX:K.In s.heap:=e0.mod.kin.keeps fun b o e=>(e0.bs b o e).1
 have lim:s.heap.NoLimit:=e0.mod.nolimit.keeps fun b o e=>(e0.bs b o e).1
 have hkind:∀ y∈ps.zip us,scope.names.lookup y.1=some .local\/(scope.names.lookup y.1=some .cell/\((cellsFrom (s.heap.objs.size+1) scope.names []).lookup y.1).isSome=true):=fun ⟨n,v⟩ hy=>by
  rcases S.par n (List.of_mem_zip hy).1 with q | q
  ·exact .inl q
  ·exact .inr ⟨q,hC0 _ _ _ (.inl q)⟩
 refine codeAny_call_function hr.depth (KX _ _ lk) rfl S.co S.gen rfl (PySem.W.codeRec_of KX hcd) (hb _ _ _ _ ?_);refine wpAny_newFunctionEnv_cells S.kind hkind fun env he s1 x=>?_
 subst he;refine⟨lim.keeps x.toInCall.keep,codeAny_func ?_⟩;obtain⟨t,ht,hq⟩:=hbody A outer s H vs Q E (hr.deeper _) hsp;have I:Inv (qQm CX P w K mg base N qual scope f cdv A outer s H E) [] (qGw N vs) H s1:=qOg S hr.hd e0 hl r x;refine wpAny_mono (ht [] s1 (qGw N vs) H _ I hq) (fun fl s' hs=>?_) fun e s' hs=>hs
 have fin:∀ {σ':St} {H':Hp} {v:V} {u:Value},Inv (qQm CX P w K mg base N qual scope f cdv A outer s H E) [] σ' H' s'->qBl v u->Q v H'->CE outer P w H s Q u s' :=
  fun {σ' H' v u} J rv q=>⟨v,H',J.os,J.bare,J.base,J.hok,rv,q⟩
 cases fl with
 | ret u =>
  obtain⟨v,σ',H',J,rv,q⟩:=hs;exact fin J rv q
 | next =>
  obtain⟨σ',H',J,q⟩:=hs;exact fin (v:=V.non) (u:=Value.none) J rfl q
 | brk =>
  obtain⟨_,_,_,q⟩:=hs;exact False.elim q
 | cont =>
  obtain⟨_,_,_,q⟩:=hs;exact False.elim q
end L2
namespace L2
open PySem PySem.Spec PyProof.Rows
section
variable {X:Cx} {x:Str} {p pos:Pos} {e:Expr} {es:List Expr} {t:TA} {id T:String} {r:List V->Hp->VK->Prop}
def tCB (r:List V->Hp->VK->Prop) (t:TA):TE:=fun σ H Q=>t σ H fun vs H1=>r vs H1 Q
theorem qAj (hc:qB9 X (.builtin id) r) (hg:Gl X x) (hm:X.mg x=none) (hv:bootBuiltins x=some (.builtin id)) (ha:PA X (e :: es) t) (hn:x≠"__name__":=by decide) (hdb:(x == ("__debug__" : Str))=false:=by decide)
  (he:starEach (e :: es) X.env=(false,eval e X.env) :: starEach es X.env:=by rfl) (hpl:(backTo pos (starEach es X.env)).any (·.1)=false:=by rfl):PE X (.Call (.Name x p) (e :: es) [] pos) (tCB r t):=by
 intro pins s σ H Q I h;refine wpAny_Call_Name_kw (qGn I hg hm hv ?_ hn hdb);exact PyProof.Rows.callWith_builtin1 (thn (ha pos pins s σ H _ I h) fun us s1 ⟨vs,H1,I1,r1,q1⟩=>hc pins s1 σ H1 vs us Q I1 r1 q1) he hpl
theorem qA1 (hc:qB9 X (.type T) r) (hg:Gl X x) (hm:X.mg x=none) (hv:bootBuiltins x=some (.type T)) (ha:PA X (e :: es) t) (hn:x≠"__name__":=by decide) (hdb:(x == ("__debug__" : Str))=false:=by decide)
  (he:starEach (e :: es) X.env=(false,eval e X.env) :: starEach es X.env:=by rfl) (hpl:(backTo pos (starEach es X.env)).any (·.1)=false:=by rfl):PE X (.Call (.Name x p) (e :: es) [] pos) (tCB r t):=by
 intro pins s σ H Q I h;refine wpAny_Call_Name_kw (qGn I hg hm hv ?_ hn hdb);exact hBs (thn (ha pos pins s σ H _ I h) fun us s1 ⟨vs,H1,I1,r1,q1⟩=>hc pins s1 σ H1 vs us Q I1 r1 q1) he hpl
end
end L2
namespace HT
open PySem PyProof.Rows
section
variable {prog:Program} {w:World} {A:Around} {E:Value->Shared->Prop} {s:Shared}
def sIx (n d:Nat):Option Int->Nat
 | none=>d
 | some v=>if v<0 then (v+(n:Int)).toNat else min v.toNat n
theorem sIx_nat (n d k:Nat):sIx n d (some (k:Int))=min k n:=by
 show(if (k:Int)<0 then ((k:Int)+(n:Int)).toNat else min (k:Int).toNat n)=min k n;rw[if_neg (by omega),Int.toNat_natCast]
end
end HT
namespace L2
open PySem PySem.Spec PyProof.Rows
abbrev TO:=St->Hp->(Option Int->Hp->Prop)->Prop
def PO (X:Cx) (e:Option Expr) (t:TO):Prop :=
 ∀ (pins:List (Addr×Obj)) (s:Shared) (σ:St) (H:Hp) (Q:Option Int->Hp->Prop),Inv X pins σ H s->t σ H Q ->
  wpAny (model X.prog X.w) X.A (evalPart e X.env) (fun u s'=>∃ o H',Inv X pins σ H' s'/\IsPart u o/\Q o H') X.xe s
def qRo:TO:=fun _ H Q=>Q none H
def qVx (t:TE):TO:=fun σ H Q=>t σ H fun x H1=>∃ i,x = .int i/\Q (some i) H1
section
variable {X:Cx} {e:Expr} {te:TE} {lo hi:Option Expr} {tl th:TO} {pos p2:Pos}
theorem qBi:PO X none qRo:=by
 intro pins s σ H Q I h;rw[evalPart_none];exact wpAny_pure ⟨none,H,I,.none,h⟩
theorem qBb (h:PE X e te):PO X (some e) (qVx te):=by
 intro pins s σ H Q I hw;rw[evalPart_some];refine thn (h pins s σ H _ I hw) fun u s1 ⟨x,H1,I1,r1,q1⟩=>?_
 obtain⟨i,rfl,q⟩:=q1;obtain⟨t,rfl⟩:=r1;exact⟨some i,H1,I1,.int i t,q⟩
def SlR (X:Cx) (r:V->Option Int->Option Int->Hp->VK->Prop):Prop :=
 ∀ (pins:List (Addr×Obj)) (s:Shared) (σ:St) (H:Hp) (x:V) (v vl vu:Value) (lo hi:Option Int) (sl:Addr) (Q:VK),Inv X pins σ H s->qBl x v->s.heap.IsSliceOf sl vl vu .none->IsPart vl lo->IsPart vu hi->r x lo hi H Q ->
  ∃ T id,typeLookup (.type T) "__getitem__" = pure (some (.builtin id))/\s.TypeIs v T/\wpAny (model X.prog X.w) X.A (getItem v (.ref sl)) (EP X pins σ Q) X.xe s
def tSl (r:V->Option Int->Option Int->Hp->VK->Prop) (te:TE) (tl th:TO):TE:=fun σ H Q=>te σ H fun x H1=>tl σ H1 fun l H2=>th σ H2 fun u H3=>r x l u H3 Q
theorem qA7 {r:V->Option Int->Option Int->Hp->VK->Prop} (hr:SlR X r) (he:PE X e te) (hl:PO X lo tl) (hu:PO X hi th):PE X (.Subscript e (.Slice lo hi none p2) pos) (tSl r te tl th):=by
 intro pins s σ H Q I h;refine Subscript_ (thn (he pins s σ H _ I h) fun v s1 ⟨x,H1,I1,r1,q1⟩=>?_);refine wpAny_Slice (thn (hl pins s1 σ H1 _ I1 q1) fun vl s2 ⟨l,H2,I2,pl,q2⟩=>thn (hu pins s2 σ H2 _ I2 q2) fun vu s3 ⟨u,H3,I3,pu,q3⟩=>?_);rw[evalPart_none];refine wpAny_pure ?_;have I4:Inv X pins σ H3 { s3 with heap:=s3.heap.push { cls:=.type "slice",data:=.fields #[vl,vu,.none] } }:=I3.kept (t':=s3.toks) fun b ob q=>Heap.get?_push_of_some _ q
 obtain⟨T,id,hT,ht,hg⟩:=hr pins { s3 with heap:=s3.heap.push { cls:=.type "slice",data:=.fields #[vl,vu,.none] } } σ H3 x v vl vu l u s3.heap.objs.size Q I4 r1 (Heap.IsSliceOf.new ..) pl pu q3;show wpAny (model X.prog X.w) X.A (subscriptTail e (.Slice lo hi none p2) v (.ref s3.heap.objs.size)) (EP X pins σ Q) X.xe { s3 with heap:=s3.heap.push { cls:=.type "slice",data:=.fields #[vl,vu,.none] } };exact tail_any (ops:=[.ref s3.heap.objs.size,v]) ht hT hg (by with_unfolding_all rfl)
def cutV (xs:List V) (lo hi:Option Int):List V:=(xs.drop (HT.sIx xs.length 0 lo)).take (HT.sIx xs.length xs.length hi - HT.sIx xs.length 0 lo)
theorem qDs (xs:List V) (lo hi:Option Int):(cutV xs lo hi).length<=xs.length:=by
 unfold cutV;rw[hAp,hC8];omega
end
end L2
namespace L2
open PySem PySem.Spec PyProof.Rows
def ixN (n:Nat) (i:Int):Option Nat:=if 0<=i then (if i<n then some i.toNat else none) else if -(n:Int)<=i then some (i+n).toNat else none
def atI {α:Type} (xs:List α) (i:Int):Option α:=(ixN xs.length i).bind fun j=>xs[j]?
theorem qOc {n:Nat} {i:Int} {j:Nat} (h:ixN n i=some j):seqIndex? i n=some j/\j<n/\-(n:Int)<=i/\i<n:=by
 unfold ixN at h;by_cases h0:0<=i
 ·rw[if_pos h0]at h;by_cases h1:i<n
  ·rw[if_pos h1]at h;have e:i.toNat=j:=hAg h;exact⟨by rw[seqIndex_of h0 h1,e],by omega,by omega,h1⟩
  ·rw[if_neg h1]at h;cases h
 ·rw[if_neg h0]at h;by_cases h1:-(n:Int)<=i
  ·rw[if_pos h1]at h;have e:(i+n).toNat=j:=hAg h;exact⟨by rw[seqIndex_neg (by omega) h1,e],by omega,h1,by omega⟩
  ·rw[if_neg h1]at h;cases h
theorem qJ7 {α:Type} {xs:List α} {i:Int} {v:α} (h:atI xs i=some v):∃ j,seqIndex? i xs.length=some j/\xs[j]?=some v/\j<xs.length/\-(xs.length:Int)<=i/\i<xs.length:=by
 unfold atI at h;cases e:ixN xs.length i with
 | none=>rw[e]at h;cases h
 | some j =>
  rw[e]at h;obtain⟨h1,h2,h3,h4⟩:=qOc e;exact⟨j,h1,h,h2,h3,h4⟩
theorem atI_nat {α:Type} {xs:List α} {j:Nat} {v:α} (h:xs[j]?=some v):atI xs (j:Int)=some v:=by
 have hj:j<xs.length:=(hAr.mp h).1;have e:ixN xs.length (j:Int)=some j:=by
  unfold ixN;rw[if_pos (by omega),if_pos (by omega)];simp
 unfold atI;rw[e];exact h
def qTg (b:Expr):Prop:=∀ o i,subscripted b false o i=operate [o,i] (getItem o i)
def IxR (X:Cx) (r:R2):Prop :=
 ∀ (value slice:Expr) (pins:List (Addr×Obj)) (s:Shared) (σ:St) (H:Hp) (x y:V) (v u:Value) (Q:VK),Inv X pins σ H s->qBl x v->qBl y u->r x y H Q ->
  subscripted slice false v u=operate [v,u] (getItem v u)->wpAny (model X.prog X.w) X.A (subscriptTail value slice v u) (EP X pins σ Q) X.xe s
def MtR (X:Cx) (id:String) (r:V->List V->Hp->VK->Prop):Prop :=
 ∀ (pins:List (Addr×Obj)) (s:Shared) (σ:St) (H:Hp) (x:V) (xs:List V) (v:Value) (us:List Value) (Q:VK),Inv X pins σ H s->qBl x v->qBe xs us->r x xs H Q ->
  wpAny (model X.prog X.w) X.A (call (.builtin id) (v :: us)) (EP X pins σ Q) X.xe s
section
variable {X:Cx} {a b:Expr} {ta tb:TE} {pos:Pos}
theorem qA9 {r:R2} (hr:IxR X r) (ha:PE X a ta) (hb:PE X b tb) (hs:qTg b):PE X (.Subscript a b pos) (tOp r ta tb):=by
 intro pins s σ H Q I h;exact Subscript_ (qWv ha hb I h fun v u s2 x y H2 I2 rx ry q=>hr a b pins s2 σ H2 x y v u Q I2 rx ry q (hs _ _))
def qWd (K:PySem.W.Frag):R2:=fun x y H Q=>∃ p xs i v,x = .ref p/\y = .int i/\SqL K H p xs/\atI xs i=some v/\Q v H
def qQ2 (K:PySem.W.Frag):R2:=fun x y H Q=>∃ p xs i v,x = .ref p/\y = .int i/\SqT K H p xs/\atI xs i=some v/\Q v H
def qXr:R2:=fun x y H Q=>∃ z i c,x = .str z/\y = .int i/\z.length<=sizeLine/\atI z.cps.toList i=some c/\Q (.str ⟨#[c]⟩) H
theorem qBa:IxR X (qWd X.K):=by
 intro value slice pins s σ H x y v u Q I rx ry h hs;obtain⟨p,xs,i,z,rfl,rfl,hq,he,q⟩:=h;cases rx;obtain⟨t,rfl⟩:=ry;obtain⟨its,r,pl,hz⟩:=I.list hq;obtain⟨j,h1,h2,h3,h4,h5⟩:=qJ7 he;obtain⟨w,ew,rw'⟩:=r.get h2;have hl:=r.length;have hn:=qGm;have fin:EP X pins σ Q w s:=⟨z,H,I,rw',q⟩;by_cases h0:0<=i
 ·have hj:i.toNat=j:=by
   rw[seqIndex_of h0 h5]at h1;exact hAg h1
  exact item_listR pl.isList h0 (by omega) (by rw[hj];simpa using ew) fin hs
 ·have hj:(i+(its.toArray.size:Int)).toNat=j:=by
   rw[seqIndex_neg (by omega) h4]at h1;rw[hAb,<-hl];exact hAg h1
  exact subscriptTail_builtinR (x:=w) pl.isList.typeIs slot_list_getitem.lookup
   (wpAny_getItem_list_neg (Q:=fun r s'=>r=w/\EP X pins σ Q r s') pl.isList (by omega) (by rw[hAb] <;> omega) (by omega) (by rw[hj];simpa using ew) ⟨rfl,fin⟩) hs
theorem qCb:IxR X (qQ2 X.K):=by
 intro value slice pins s σ H x y v u Q I rx ry h hs;obtain⟨p,xs,i,z,rfl,rfl,hq,he,q⟩:=h;cases rx;obtain⟨t,rfl⟩:=ry;obtain⟨its,r,pl,hz⟩:=I.tuple hq;obtain⟨j,h1,h2,h3,h4,h5⟩:=qJ7 he;obtain⟨w,ew,rw'⟩:=r.get h2;have hl:=r.length;have hn:=qGm;have fin:EP X pins σ Q w s:=⟨z,H,I,rw',q⟩;exact subscriptTail_builtinR (x:=w) pl.typeIs slot_tuple_getitem.lookup
  (getItem_tuple (j:=j) (Q:=fun r s'=>r=w/\EP X pins σ Q r s') pl (by omega) (by omega) (by rw[hAb,<-hl];exact h1) (by simpa using ew) ⟨rfl,fin⟩) hs
theorem qFs:IxR X qXr:=by
 intro value slice pins s σ H x y v u Q I rx ry h hs;obtain⟨z,i,c,rfl,rfl,hz,he,q⟩:=h;obtain⟨t,rfl⟩:=rx;obtain⟨t',rfl⟩:=ry;obtain⟨j,h1,h2,h3,h4,h5⟩:=qJ7 he;have hl:z.cps.toList.length=z.length:=by simp[Str.length]
 rw[hl]at h1 h4 h5;have hn:=qGm;exact tail_any (typeIs_str s z t) slot_str_getitem.lookup (getItem_str (c:=c) (by
  have e1:decide (i < -(2^63:Int))=false:=decide_eq_false (by omega);have e2:decide (i >= 2^63)=false:=decide_eq_false (by omega);rw[e1,e2,Bool.or_false]) (by rw[h1];simpa using h2) ⟨.str ⟨#[c]⟩,H,I.tok _,⟨_,rfl⟩,q⟩) hs
theorem qL2 (its:List Value) (n j:Nat) (u:Value):Obj.mapSeq (·.setIfInBounds j u) { cls:=.type "list",data:=.seq its.toArray n }={ cls:=.type "list",data:=.seq (its.set j u).toArray n }:=by
 simp[Obj.mapSeq]
theorem Inv.lst {pins:List (Addr×Obj)} {σ:St} {H:Hp} {s:Shared} {p:Addr} {xs:List V} (I:Inv X pins σ H s) (h:H p=some (.lst xs)) :
  ∃ (its:List Value) (n:Nat),qBe xs its/\s.heap.get? p=some { cls:=.type "list",data:=.seq its.toArray n }/\xs.length<=sizeLine:=by
 obtain⟨z,its,n,r,e⟩:=I.hok p _ h;exact⟨its,n,r,e,z⟩
theorem Inv.lstUpd {pins:List (Addr×Obj)} {σ:St} {H:Hp} {s:Shared} {p:Addr} {xs ys:List V} {its its':List Value} {n n':Nat} {f:Obj->Obj} (I:Inv X pins σ H s) (h:H p=some (.lst xs))
  (ho:s.heap.get? p=some { cls:=.type "list",data:=.seq its.toArray n }) (hf:f { cls:=.type "list",data:=.seq its.toArray n }={ cls:=.type "list",data:=.seq its'.toArray n' }) (r:qBe ys its') (hz:ys.length<=sizeLine) (t:Nat) :
  Inv X pins σ (upd H p (.lst ys)) { s with heap:=s.heap.update p f,toks:=t }:=by
 have e:(s.heap.update p f).get? p=some { cls:=.type "list",data:=.seq its'.toArray n' }:=by
  rw[Heap.get?_update_self f ho (by rw[hf] <;> rfl),hf]
 refine I.write (x:=p) (e:=p) (by rw[h];trivial) (.inl rfl) (fun b u hb q=>(Heap.get?_update_other _ _ (Ne.symm hb)).trans q) ⟨_,e⟩ ?_;exact⟨hz,its',n',r,e⟩
def qWb:V->V->V->Hp->(Hp->Prop)->Prop:=fun o i v H Q=>∃ p xs k j,o = .ref p/\i = .int k/\H p=some (.lst xs)/\ixN xs.length k=some j/\Q (upd H p (.lst (xs.set j v)))
theorem qPm:qXb X qWb:=by
 intro pins s σ H o i v ov iv u Q I ro ri rv h;obtain⟨p,xs,k,j,rfl,rfl,hp,hj,q⟩:=h;cases ro;obtain⟨t,rfl⟩:=ri;obtain⟨its,n,r,ho,hz⟩:=I.lst hp;obtain⟨h1,h2,h3,h4⟩:=qOc hj;have hl:=r.length;have hn:=qGm;have I':Inv X pins σ (upd H p (.lst (xs.set j v))) { s with heap:=s.heap.update p (Obj.mapSeq (·.setIfInBounds j u)) } :=
  I.lstUpd hp ho (qL2 its n j u) (r.set rv j) (by rw[List.length_set];exact hz) s.toks
 by_cases h0:0<=k
 ·have hk:k.toNat=j:=by
   rw[seqIndex_of h0 h4]at h1;exact hAg h1
  exact PySem.W.ki_setAt ho h0 (by omega) (by rw[hAb,<-hl];exact h4) (by rw[hk];exact⟨_,I',q⟩)
 ·have hk:(k+(its.toArray.size:Int)).toNat=j:=by
   rw[seqIndex_neg (by omega) h3]at h1;rw[hAb,<-hl];exact hAg h1
  exact PySem.W.ki_setBack ho (by omega) (by rw[hAb,<-hl];exact h3) (by omega) (by rw[hk];exact⟨_,I',q⟩)
theorem qH4 (lo hi:Option Int) (n:Nat):(sliceBounds lo hi none n).1=((HT.sIx n 0 lo:Nat):Int)/\(sliceBounds lo hi none n).2.1=((HT.sIx n n hi:Nat):Int)/\(sliceBounds lo hi none n).2.2=1:=by
 refine⟨?_,?_,rfl⟩
 ·cases lo with
  | none=>simp[sliceBounds,HT.sIx]
  | some i =>
   simp only[sliceBounds,HT.sIx,Option.getD_none,show(1:Int) > 0 by decide,if_true];by_cases h:i<0
   ·simp only[h,if_true] <;> omega
   ·simp only[h,if_false] <;> omega
 ·cases hi with
  | none=>simp[sliceBounds,HT.sIx]
  | some i =>
   simp only[sliceBounds,HT.sIx,Option.getD_none,show(1:Int) > 0 by decide,if_true];by_cases h:i<0
   ·simp only[h,if_true] <;> omega
   ·simp only[h,if_false] <;> omega
theorem qG2 (its:List Value) (lo hi:Option Int):slicePick its.toArray lo hi none=((its.drop (HT.sIx its.length 0 lo)).take (HT.sIx its.length its.length hi - HT.sIx its.length 0 lo)).toArray:=by
 obtain⟨h1,h2,h3⟩:=qH4 lo hi its.toArray.size;unfold slicePick;rw[h1,h2,h3];simp only[sliceRange_one,pick_run,hAb] <;> rfl
def qXp (K:PySem.W.Frag):V->Option Int->Option Int->Hp->VK->Prop:=fun x lo hi H Q=>∃ a xs,x = .ref a/\SqL K H a xs/\∀ p,H p=none->Q (.ref p) (upd H p (.lst (cutV xs lo hi)))
theorem qBp:SlR X (qXp X.K):=by
 intro pins s σ H x v vl vu lo hi sl Q I rx hs pl pu h;obtain⟨a,xs,rfl,hx,q⟩:=h;cases rx;obtain⟨its,r,ht,hz⟩:=I.list hx;have hlen:=r.length;refine⟨"list",_,slot_list_getitem.lookup,ht.isList.typeIs,?_⟩;refine wpAny_getItem_list_slice ht.isList hs pl pu .none (by simp) ?_ (by rw[hAb] <;> omega);rw[qG2,<-hlen];refine⟨.ref s.heap.objs.size,_,I.laid (t':=s.toks) (o:=.lst (cutV xs lo hi)) (fun b ob q=>Heap.get?_push_of_some _ q) (hA4 _) ?_,rfl,q _ (I.hok.fresh (hA4 _))⟩;exact⟨hAt (qDs xs lo hi) hz,_,0,(r.drop (HT.sIx xs.length 0 lo)).take (HT.sIx xs.length xs.length hi - HT.sIx xs.length 0 lo),Heap.get?_push_size _ rfl⟩
def qHp:V->Bool
 | .non=>true
 | .bl _=>true
 | .int _=>true
 | .str _=>true
 | _=>false
def eqV:V->V->Bool
 | .non,.non=>true
 | .bl a,.bl b=>a == b
 | .bl a,.int b=>(if a then 1 else 0) == b
 | .int a,.bl b=>a == (if b then 1 else 0)
 | .int a,.int b=>a == b
 | .str a,.str b=>a == b
 | _,_=>false
theorem qVd {A:Around} {s:Shared} {y x:V} {u v:Value} (ry:qBl y u) (rx:qBl x v) (fy:qHp y=true) (fx:qHp x=true):SeqAt.EqAt A s u v (eqV y x):=by
 cases y with
 | non =>
  cases ry;cases x with
  | non=>cases rx;exact SeqAt.EqAt.same _
  | bl b=>cases rx;exact SeqAt.EqAt.none_bool b
  | int b=>obtain⟨t,rfl⟩:=rx;exact SeqAt.EqAt.none_int b t
  | str b=>obtain⟨t,rfl⟩:=rx;exact SeqAt.EqAt.none_str b t
  | _=>exact absurd (show false=true from fx) hAe
 | bl a =>
  cases ry;cases x with
  | non=>cases rx;exact SeqAt.EqAt.bool_none a
  | bl b=>cases rx;exact SeqAt.EqAt.bool_bool a b
  | int b=>obtain⟨t,rfl⟩:=rx;exact SeqAt.EqAt.bool_int a b t
  | str b=>obtain⟨t,rfl⟩:=rx;exact SeqAt.EqAt.bool_str a b t
  | _=>exact absurd (show false=true from fx) hAe
 | int a =>
  obtain⟨t',rfl⟩:=ry;cases x with
  | non=>cases rx;exact SeqAt.EqAt.int_none a t'
  | bl b=>cases rx;exact SeqAt.EqAt.int_bool a t' b
  | int b=>obtain⟨t,rfl⟩:=rx;exact SeqAt.EqAt.int_int a t' b t
  | str b=>obtain⟨t,rfl⟩:=rx;exact SeqAt.EqAt.int_str a t' b t
  | _=>exact absurd (show false=true from fx) hAe
 | str a =>
  obtain⟨t',rfl⟩:=ry;cases x with
  | non=>cases rx;exact SeqAt.EqAt.str_none a t'
  | bl b=>cases rx;exact SeqAt.EqAt.str_bool a t' b
  | int b=>obtain⟨t,rfl⟩:=rx;exact SeqAt.EqAt.str_int a t' b t
  | str b=>obtain⟨t,rfl⟩:=rx;exact SeqAt.EqAt.str_str a t' b t
  | _=>exact absurd (show false=true from fx) hAe
 | _=>exact absurd (show false=true from fy) hAe
def eqU (x:V) (u:Value):Bool:=match u with
 | .none=>eqV .non x
 | .bool b=>eqV (.bl b) x
 | .int i _=>eqV (.int i) x
 | .str z _=>eqV (.str z) x
 | _=>false
theorem qRf {x y:V} {u:Value} (r:qBl y u) (f:qHp y=true):eqU x u=eqV y x:=by
 cases y with
 | non=>cases r;rfl
 | bl b=>cases r;rfl
 | int i=>obtain⟨t,rfl⟩:=r;rfl
 | str z=>obtain⟨t,rfl⟩:=r;rfl
 | _=>exact absurd (show false=true from f) hAe
theorem qF5 {x:V}:∀ {xs:List V} {us:List Value},qBe xs us->xs.all qHp=true->us.any (eqU x)=xs.any fun y=>eqV y x
 | _,_,.nil,_=>rfl
 | y :: xs,u :: us,.cons r t,f=>by
  rw[List.all_cons,hBm]at f;rw[List.any_cons,List.any_cons,qRf r f.1,qF5 t f.2]
theorem qD2 {A:Around} {s:Shared} {x:V} {v:Value} (rx:qBl x v) (fx:qHp x=true):∀ {xs:List V} {us:List Value},qBe xs us->xs.all qHp=true->∀ u∈us,SeqAt.EqAt A s u v (eqU x u)
 | _,_,.nil,_=>fun u hu=>by cases hu
 | y :: xs,u :: us,.cons r t,f=>fun u' hu=>by
  rw[List.all_cons,hBm]at f;rcases hA9.mp hu with rfl | hu
  ·rw[qRf r f.1];exact qVd r rx f.1 fx
  ·exact qD2 rx fx t f.2 u' hu
def inV (x:V) (xs:List V):Bool:=xs.any fun y=>eqV y x
def rIn (K:PySem.W.Frag) (neg:Bool):R2:=fun x y H Q=>∃ p xs,y = .ref p/\(SqL K H p xs\/SqT K H p xs)/\qHp x=true/\xs.all qHp=true/\Q (.bl (if neg then !inV x xs else inV x xs)) H
theorem qCp:OpR X (compareOp .In) (rIn X.K false):=by
 intro pins s σ H x y v u Q I rx ry h;obtain⟨p,xs,rfl,hq,fx,fs,q⟩:=h;cases ry;rcases hq with hq | hq
 ·obtain⟨its,r,pl,hz⟩:=I.list hq;refine SeqAt.in_listAt (eqU x) pl.isList (fun w hw=>qD2 rx fx r fs w (by simpa using hw)) ⟨.bl _,H,I,rfl,?_⟩;rw[show its.toArray.any (eqU x)=its.any (eqU x) by simp,qF5 r fs];exact q
 ·obtain⟨its,r,pl,hz⟩:=I.tuple hq;refine SeqAt.in_tupleAt (eqU x) pl (fun w hw=>qD2 rx fx r fs w (by simpa using hw)) ⟨.bl _,H,I,rfl,?_⟩;rw[show its.toArray.any (eqU x)=its.any (eqU x) by simp,qF5 r fs];exact q
theorem qEu:OpR X (compareOp .NotIn) (rIn X.K true):=by
 intro pins s σ H x y v u Q I rx ry h;obtain⟨p,xs,rfl,hq,fx,fs,q⟩:=h;cases ry;rcases hq with hq | hq
 ·obtain⟨its,r,pl,hz⟩:=I.list hq;refine SeqAt.notIn_listAt (eqU x) pl.isList (fun w hw=>qD2 rx fx r fs w (by simpa using hw)) ⟨.bl _,H,I,rfl,?_⟩;rw[show its.toArray.any (eqU x)=its.any (eqU x) by simp,qF5 r fs];exact q
 ·obtain⟨its,r,pl,hz⟩:=I.tuple hq;refine SeqAt.notIn_tupleAt (eqU x) pl (fun w hw=>qD2 rx fx r fs w (by simpa using hw)) ⟨.bl _,H,I,rfl,?_⟩;rw[show its.toArray.any (eqU x)=its.any (eqU x) by simp,qF5 r fs];exact q
theorem qAm:qB9 X (.builtin "len") (fun xs H Q=>∃ p ys,xs=[.ref p]/\(SqL X.K H p ys\/SqT X.K H p ys)/\Q (.int ys.length) H):=by
 intro pins s σ H xs us Q I r h;obtain⟨p,ys,rfl,hq,q⟩:=h;obtain⟨u,rfl,rx⟩:=qC0 r;cases rx;have hn:=qGm;rcases hq with hq | hq
 ·obtain⟨its,r',pl,hz⟩:=I.list hq;have hlen:=r'.length;exact Calls.call_len_list pl.isList (by simp only[hAb] <;> omega) ⟨.int ys.length,H,I.tok _,⟨s.toks+1,by rw[hAb,hlen]⟩,q⟩
 ·obtain⟨its,r',pl,hz⟩:=I.tuple hq;have hlen:=r'.length;exact len_tuple pl (by simp only[hAb] <;> omega) ⟨.int ys.length,H,I.tok _,⟨s.toks+1,by rw[hAb,hlen]⟩,q⟩
theorem qEy:qB9 X (.builtin "len") (fun xs H Q=>∃ z,xs=[.str z]/\z.length<=sizeLine/\Q (.int z.length) H):=by
 intro pins s σ H xs us Q I r h;obtain⟨z,rfl,hz,q⟩:=h;obtain⟨u,rfl,t,rfl⟩:=qC0 r;have hn:=qGm;exact len_str (by omega) ⟨.int z.length,H,I.tok _,⟨_,rfl⟩,q⟩
theorem qA8:qB9 X (.type "list") (fun xs H Q=>∃ p ys,xs=[.ref p]/\(SqL X.K H p ys\/SqT X.K H p ys)/\∀ l,H l=none->Q (.ref l) (upd H l (.lst ys))):=by
 intro pins s σ H xs us Q I r h;obtain⟨p,ys,rfl,hq,q⟩:=h;obtain⟨u,rfl,rx⟩:=qC0 r;cases rx;have fin:∀ (its:List Value),qBe ys its->ys.length<=sizeLine->∀ (h':Heap) (c':Nat),(∀ b o',s.heap.get? b=some o'->h'.get? b=some o') ->
   h'.get? s.heap.objs.size=some { cls:=.type "list",dict:=none,data:=.seq its.toArray c',slots:=#[] }->EP X pins σ Q (.ref s.heap.objs.size) { s with heap:=h' }:=fun its r' hz h' c' kp e =>
  ⟨.ref s.heap.objs.size,_,I.laid (t':=s.toks) kp (hA4 _) (show qBo X.prog X.w _ h' _ (.lst ys) from ⟨hz,its,c',r',e⟩),rfl,q _ (I.hok.fresh (hA4 _))⟩
 rcases hq with hq | hq
 ·obtain⟨its,r',pl,hz⟩:=I.list hq;have hlen:=r'.length;obtain⟨o,ho,hc,n,hd⟩:=pl.isList;exact call_list_seq p (.inl rfl) ho hc hd (fun h' c' kp e=>fin its r' hz h' c' kp e) (by simp only[hAb] <;> omega)
 ·obtain⟨its,r',pl,hz⟩:=I.tuple hq;have hlen:=r'.length;obtain⟨o,ho,hc,n,hd⟩:=pl;exact call_list_seq p (.inr rfl) ho hc hd (fun h' c' kp e=>fin its r' hz h' c' kp e) (by simp only[hAb] <;> omega)
theorem qCx:qB9 X (.type "tuple") (fun xs H Q=>∃ p ys,xs=[.ref p]/\((SqL X.K H p ys/\∀ l,H l=none->Q (.ref l) (upd H l (.tup ys)))\/(SqT X.K H p ys/\Q (.ref p) H))):=by
 intro pins s σ H xs us Q I r h;obtain⟨p,ys,rfl,h⟩:=h;obtain⟨u,rfl,rx⟩:=qC0 r;cases rx;rcases h with ⟨hq,q⟩ | ⟨hq,q⟩
 ·obtain⟨its,r',pl,hz⟩:=I.list hq;have hlen:=r'.length;refine call_tuple_list pl.isList (fun h' kp=>?_) (by simp only[hAb] <;> omega);have I1:Inv X pins σ H { s with heap:=h' }:=I.kept (t':=s.toks) kp;have I2:Inv X pins σ (upd H h'.objs.size (.tup ys)) { s with heap:=h'.push { cls:=.type "tuple",data:=.seq its.toArray } } :=
   I1.laid (t':=s.toks) (fun b o e=>Heap.get?_push_of_some _ e) (hA4 _) (show qBo X.prog X.w _ _ _ (.tup ys) from ⟨hz,its,r',IsTup.new _ _⟩)
  exact⟨.ref h'.objs.size,_,I2,rfl,q _ (I1.hok.fresh (hA4 _))⟩
 ·obtain⟨its,r',pl,hz⟩:=I.tuple hq;exact call_tuple_same pl ⟨.ref p,H,I,rfl,q⟩
def tyV (K:PySem.W.Frag) (T:String) (x:V) (H:Hp):Prop:=match x with
 | .str _=>T = "str"
 | .int _=>T = "int"
 | .ref p=>(T = "list"/\∃ xs,SqL K H p xs)\/(T = "tuple"/\∃ o,K.lookup p=some o/\o.cls = .type "tuple"/\o.dict=none) \/
   (T = "dict"/\((∃ kvs,H p=some (.dK kvs))\/∃ kvs,H p=some (.dT kvs)))\/(T = "set"/\∃ S n,H p=some (.set S n))
 | _=>False
theorem qMl {pins:List (Addr×Obj)} {σ:St} {H:Hp} {s:Shared} {T:String} {x:V} {v:Value} (I:Inv X pins σ H s) (r:qBl x v) (ty:tyV X.K T x H) :
  s.TypeIs v T/\∀ a,v = .ref a->∃ ob,s.heap.get? a=some ob/\ob.dict=none:=by
 cases x with
 | str z =>
  obtain⟨t,rfl⟩:=r;cases(show T = "str" from ty);exact⟨typeIs_str s z t,fun _ e=>nomatch e⟩
 | int i =>
  obtain⟨t,rfl⟩:=r;cases(show T = "int" from ty);exact⟨typeIs_int s i t,fun _ e=>nomatch e⟩
 | ref p =>
  cases r;rcases ty with ⟨rfl,xs,hq⟩ | ⟨rfl,o,hk,hc,hd⟩ | ⟨rfl,hk⟩ | ⟨rfl,S,n,hk⟩
  ·obtain⟨its,_,pl,_⟩:=I.list hq;refine⟨pl.isList.typeIs,fun a e=>?_⟩;cases e;obtain⟨o,n,e,c,hd,_⟩:=pl;exact⟨o,e,hd⟩
  ·refine⟨⟨o,I.kIn p o hk,hc⟩,fun a e=>?_⟩;cases e;exact⟨o,I.kIn _ o hk,hd⟩
  ·have z:∃ o,s.heap.get? p=some o/\o.ExactDict:=by
    rcases hk with ⟨kvs,hk⟩ | ⟨kvs,hk⟩
    ·obtain⟨_,_,_,_,o,_,_,e,ex,_⟩:=I.hok p _ hk;exact⟨o,e,ex⟩
    ·obtain⟨_,_,_,_,o,_,_,e,ex,_⟩:=I.hok p _ hk;exact⟨o,e,ex⟩
   obtain⟨o,e,ex⟩:=z;refine⟨⟨o,e,ex.1⟩,fun a e2=>?_⟩;cases e2;exact⟨o,e,ex.2.1⟩
  ·obtain⟨o,_,_,_,e,ex,_⟩:=I.hok p _ hk;refine⟨⟨o,e,ex.1⟩,fun a e2=>?_⟩;cases e2;exact⟨o,e,ex.2.1⟩
 | _=>exact False.elim ty
def qXj (K:PySem.W.Frag) (T:String) (r:V->List V->Hp->VK->Prop) (to:TE):TE:=fun σ H Q=>to σ H fun x H1=>tyV K T x H1/\r x [] H1 Q
def tBM (K:PySem.W.Frag) (T:String) (r:V->List V->Hp->VK->Prop) (to:TE) (t:TA):TE:=fun σ H Q=>to σ H fun x H1=>tyV K T x H1/\t σ H1 fun xs H2=>r x xs H2 Q
variable {o e:Expr} {es:List Expr} {to:TE} {t:TA} {name:Str} {apos cpos:Pos} {T id:String} {r:V->List V->Hp->VK->Prop}
theorem qUp (pa:PlainAttrs T) (slot:Slot T name id) (hty:typeOf (.builtin id)=pure (.type "method_descriptor")) (hm:MtR X id r) (ho:PE X o to)
  (hbase:attributeBase o name X.env (eval o X.env)=eval o X.env:=by rfl) (hline:(apos.endLine == cpos.line)=true:=by rfl):PE X (.Call (.Attribute o name apos) [] [] cpos) (qXj X.K T r to):=by
 intro pins s σ H Q I h;refine wpAny_Call_method0_late hbase hline (thn (ho pins s σ H _ I h) fun v s1 ⟨x,H1,I1,r1,ty,q1⟩=>?_);obtain⟨h1,h2⟩:=qMl I1 r1 ty;exact⟨T,id,pa,slot,hty,h1,h2,Calls.callWith_builtin rfl (PySem.evalArgs_none (hm pins s1 σ H1 x [] v [] Q I1 r1 .nil q1))⟩
theorem qIb (pa:PlainAttrs T) (slot:Slot T name id) (hty:typeOf (.builtin id)=pure (.type "method_descriptor")) (hm:MtR X id r) (ho:PE X o to) (ha:PA X (e :: es) t)
  (hbase:attributeBase o name X.env (eval o X.env)=eval o X.env:=by rfl)
  (hfew:((backTo cpos (starEach (e :: es) X.env)).all (fun x=>!x.1) && (backToKw cpos (keywordEach [] X.env)).all (fun x=>x.1.isSome)
   && decide ((e :: es).length+([]:List Keyword).length+(if ([]:List Keyword).isEmpty then 0 else 1)<30))=true:=by rfl)
  (hline:(apos.endLine == cpos.line)=true:=by rfl) (hs:starEach (e :: es) X.env=(false,eval e X.env) :: starEach es X.env:=by rfl) (hplain:(backTo cpos (starEach es X.env)).any (·.1)=false:=by rfl) :
  PE X (.Call (.Attribute o name apos) (e :: es) [] cpos) (tBM X.K T r to t):=by
 intro pins s σ H Q I h;refine wpAny_Call_method_late hbase hfew hline rfl (thn (ho pins s σ H _ I h) fun v s1 ⟨x,H1,I1,r1,ty,q1⟩=>?_);obtain⟨h1,h2⟩:=qMl I1 r1 ty;refine⟨T,id,pa,slot,hty,h1,h2,?_⟩;have hA:=ha cpos pins s1 σ H1 _ I1 q1;rw[hs]at hA ⊢;refine Calls.callWith_builtin (by show(false || (backTo cpos (starEach es X.env)).any (·.1))=false;rw[hplain] <;> rfl) (Calls.evalArgs_plain ?_);exact thn hA fun us s2 ⟨vs,H2,I2,r2,q2⟩=>hm pins s2 σ H2 x vs v us Q I2 r1 r2 q2
end
end L2
namespace L2
open PySem PySem.Spec PyProof.Rows
def MtM (X:Cx) (id:String) (r:V->List V->Hp->VK->Prop):Prop :=
 ∀ (pins:List (Addr×Obj)) (s:Shared) (σ:St) (H:Hp) (x:V) (xs:List V) (v:Value) (us:List Value) (Q:VK),Inv X pins σ H s->qBl x v->qBe xs us->r x xs H Q ->
  wpAny (model X.prog X.w) X.A (call (.builtin id) (v :: us)) (EP X pins σ Q) X.xe s
theorem qBe.one:∀ {x:V} {us:List Value},qBe [x] us->∃ u,us=[u]/\qBl x u
 | _,_,.cons r .nil=>⟨_,rfl,r⟩
theorem qBe.rep {xs:List V} {us:List Value} (h:qBe xs us):∀ k:Nat,qBe (List.replicate k xs).flatten (List.replicate k us).flatten
 | 0=>.nil
 | k+1=>by
  rw[hBh,hBh,List.flatten_cons,List.flatten_cons];exact qBe.append h (qBe.rep h k)
theorem foldl_rep (its:List Value):∀ (k:Nat) (acc:List Value),
  List.foldl (fun x1 x2=>x1++x2) acc.toArray (List.replicate k its.toArray)=(acc++(List.replicate k its).flatten).toArray
 | 0,acc=>by simp
 | k+1,acc=>by
  have e:acc.toArray++its.toArray=(acc++its).toArray:=by simp
  have e2:(acc++its)++(List.replicate k its).flatten=acc++(List.replicate (k+1) its).flatten:=by
   rw[hBh,List.flatten_cons,hC4]
  rw[<-e2,<-foldl_rep its k (acc++its),<-e,hBh,List.foldl_cons]
section
variable {X:Cx} {pins:List (Addr×Obj)} {σ:St} {H:Hp} {s:Shared} {l b:Addr} {xs ys zs:List V}
theorem Inv.lset {its its':List Value} {n:Nat} {f:Array Value->Array Value} {t':Nat} (I:Inv X pins σ H s) (hH:H l=some (.lst xs))
  (e:s.heap.get? l=some { cls:=.type "list",data:=.seq its.toArray n }) (hf:f its.toArray=its'.toArray) (hv:qBe ys its') (hz:ys.length<=sizeLine) :
  Inv X pins σ (upd H l (.lst ys)) { s with heap:=s.heap.update l (Obj.mapSeq f),toks:=t' }:=by
 have q:=PySem.IsL.update e f;rw[hf]at q;refine I.write (x:=l) (e:=l) (by rw[hH];exact trivial) (.inl rfl) (fun b' u hb hu=>(Heap.get?_update_other s.heap (Obj.mapSeq f) (Ne.symm hb)).trans hu) ⟨_,q⟩ ?_;exact⟨hz,its',_,hv,q⟩
theorem Inv.lnew {its:List Value} {t':Nat} (I:Inv X pins σ H s) (hv:qBe ys its) (hz:ys.length<=sizeLine) :
  Inv X pins σ (upd H s.heap.objs.size (.lst ys)) { s with heap:=s.heap.push { cls:=.type "list",data:=.seq its.toArray },toks:=t' } :=
 I.laid (fun _ _ q=>Heap.get?_push_of_some _ q) (hA4 _) ⟨hz,its,0,hv,Heap.get?_push_size _ rfl⟩
theorem Inv.fresh (I:Inv X pins σ H s):H s.heap.objs.size=none:=I.hok.fresh (hA4 _)
theorem Inv.lstM (I:Inv X pins σ H s) (hH:H l=some (.lst xs)):xs.length<=sizeLine/\∃ (its:List Value) (n:Nat),qBe xs its/\xs.length=its.length/\s.heap.get? l=some { cls:=.type "list",data:=.seq its.toArray n }:=by
 obtain⟨z,its,n,r,e⟩:=I.hok l _ hH;exact⟨z,its,n,r,r.length,e⟩
theorem qP6 {n:Nat} (h:n<=sizeLine):Builtin.List.listTooLong n=false:=by
 unfold Builtin.List.listTooLong;exact decide_eq_false (by omega)
end
section
variable {X:Cx}
def qR5:V->List V->Hp->VK->Prop:=fun x vs H Q=>∃ l xs y,x = .ref l/\vs=[y]/\H l=some (.lst xs)/\xs.length<sizeLine/\Q .non (upd H l (.lst (xs++[y])))
theorem qB6:MtM X "list.append" qR5:=by
 intro pins s σ H x vs v us Q I rx rv h;obtain⟨l,xs,y,rfl,rfl,hH,hz,q⟩:=h;cases rx;obtain⟨u,rfl,ru⟩:=rv.one;obtain⟨z,its,n,r,hl,e⟩:=I.lstM hH;refine call_meets F.slot_list_append ⟨_,e,rfl⟩ F.entry_list_append (F.args_list_append_2 _ _) (PySem.list_append l its.toArray n u (by rw[hAb];omega)) ⟨e,?_⟩;refine⟨.non,_,I.lset (its':=its++[u]) hH e (by simp) (r.append (.cons ru .nil)) ?_,rfl,q⟩;rw[hA2,List.length_singleton];omega
def qW7:R2:=fun x y H Q=>∃ l b xs zs,x = .ref l/\y = .ref b/\H l=some (.lst xs)/\H b=some (.lst zs)/\xs.length+zs.length<=sizeLine/\∀ p,H p=none->Q (.ref p) (upd H p (.lst (xs++zs)))
theorem qB1:OpR X (binaryOp .Add) qW7:=by
 intro pins s σ H x y v u Q I rx ry h;obtain⟨l,b,xs,zs,rfl,rfl,hH,hB,hz,q⟩:=h;cases rx;cases ry;obtain⟨z,its,n,r,hl,e⟩:=I.lstM hH;obtain⟨z2,its2,n2,r2,hl2,e2⟩:=I.lstM hB;refine PySem.P.add_list e e2 ?_ (by rw[hAb,hAb];omega);have ea:its.toArray++its2.toArray=(its++its2).toArray:=by simp
 rw[ea];exact⟨.ref _,_,I.lnew (t':=s.toks) (r.append r2) (by rw[hA2];omega),rfl,q _ I.fresh⟩
def qXq:R2:=fun x y H Q=>∃ l k xs,x = .ref l/\y = .int k/\H l=some (.lst xs)/\-(2^63)<=k/\k<2^63/\xs.length*k.toNat<=sizeLine /\
 ∀ p,H p=none->Q (.ref p) (upd H p (.lst (List.replicate k.toNat xs).flatten))
theorem qN7 {α:Type} (xs:List α) (k:Nat):(List.replicate k xs).flatten.length=k*xs.length:=by
 induction k with
 | zero=>simp
 | succ k ih=>rw[hBh,List.flatten_cons,hA2,ih,Nat.succ_mul,Nat.add_comm]
theorem qUr:OpR X (binaryOp .Mult) qXq:=by
 intro pins s σ H x y v u Q I rx ry h;obtain⟨l,k,xs,rfl,rfl,hH,h1,h2,hz,q⟩:=h;cases rx;obtain⟨t,rfl⟩:=ry;obtain⟨z,its,n,r,hl,e⟩:=I.lstM hH;have hlen:its.toArray.size*k.toNat<=sizeLine:=by rw[hAb,<-hl];exact hz
 have hcap:¬its.toArray.size*k.toNat > (2^63 - 1) / 8:=by
  have:(sizeLine:Nat)<=(2^63 - 1) / 8:=by decide
  omega
 have hfit:¬(!Builtin.List.listFitsIndex k)=true:=by
  rw[fitsIndex_both h1 h2];exact hAe
 have hlong:¬Builtin.List.listTooLong (its.toArray.size*k.toNat)=true:=by
  rw[qP6 hlen];exact hAe
 have hnew:List.foldl (fun x1 x2=>x1++x2) #[] (List.replicate (if its.toArray.isEmpty=true then 0 else k.toNat) its.toArray)=(List.replicate k.toNat its).flatten.toArray:=by
  have f0:∀ m:Nat,List.foldl (fun x1 x2=>x1++x2) #[] (List.replicate m its.toArray)=(List.replicate m its).flatten.toArray:=fun m=>by
   have:=foldl_rep its m [];rw[List.nil_append]at this;exact this
  rw[f0];cases its with
  | nil=>simp
  | cons a r'=>rw[if_neg (by simp)]
 refine wpAny_binaryOp_repeat_ref (T:="list") (U:="int") (by decide) ⟨_,e,rfl⟩ (fun s'=>typeIs_int s' k t) noFill_list_mul F.fills_int_mul F.slot_int_rmul repeat_list F.slot_int_index.lookup
  (call_meets F.slot_int_rmul (typeIs_int s k t) F.entry_int_rmul (F.args_int_rmul_2 _ _) (int___rmul___int_list k t l its.toArray n)
   ⟨e,rfl,⟨_,e,rfl⟩,call_meets F.slot_list_mul ⟨_,e,rfl⟩ F.entry_list_mul (F.args_list_mul_2 _ _) (AutoListH.list___mul___list_int_3 l its.toArray n k t hfit hcap hlong) ⟨e,?_⟩⟩)
 rw[hnew];exact⟨.ref _,_,I.lnew (t':=s.toks) (r.rep k.toNat) (by rw[qN7,Nat.mul_comm];exact hz),rfl,q _ I.fresh⟩
end
end L2
namespace Att
open PySem PySem.W PySem.Calls PyProof.Rows
theorem qFt {P:Params} {h:Heap}:∀ (ns:List Int) (vs:List Value),WellAll P h vs (ns.map WData.int)->IntsAre vs ns:=by
 intro ns
 induction ns with
 | nil =>
  intro vs w;rw[List.map_nil]at w;cases w;exact .nil
 | cons n ns ih =>
  intro vs w;rw[hB2]at w;cases w with
  | cons a b =>
   cases a;exact .cons _ _ (ih _ b)
theorem qNd {l:OpenLaw} {n:Nat} (hn:l.most=some n) {P:Params} {h:Heap} {args:List WData} {vals:List Value}
  (hpre:l.row.toRowW.claim.pre args=true) (hwl:WellAll P h vals args) :
  ∃ a vs ns,vals=[Value.ref a]/\args=[WData.list (ns.map WData.int)]/\h.get? a=some { cls:=.type "list",data:=.seq vs.toArray }/\IntsAre vs ns/\ns.length<=n:=by
 have hsh:WShape.hasAll [] args [.list .int]=true:=(pre_splitW hpre).1;have hc:l.pre.holds [] { args:=args }=true:=(pre_splitW hpre).2;obtain⟨d,r,rfl,h1,h2⟩:=hasAllW_cons hsh;obtain rfl:=hasAllW_nil h2;obtain⟨xs,rfl,h3⟩:=hasW_list h1;obtain⟨ns,rfl⟩:=items_int h3;have hlen:ns.length<=n:=by
  unfold OpenLaw.pre at hc;have h4:(WTm.not (.lt (.lit (.int (n:Int))) (.len (.arg 0)))).holds [] { args:=[.list (ns.map .int)] }=true:=by
   have h4:=(holds_andW hc).1;rw[hn]at h4;exact h4
  have h5:=condW_of h4 (w_not (w_lt w_lit (w_len_list (w_arg rfl))));rw[hA1]at h5;refine Nat.le_of_not_lt fun q=>?_
  have q':(n:Int)<((ns.length:Nat):Int):=by omega
  first
   | (rw[decide_eq_true q']at h5;exact absurd h5 (by decide))
   | (simp at h5;omega)
 cases hwl with
 | cons w1 w2 =>
  cases w2;cases w1 with
  | list ho hall=>exact⟨_,_,ns,rfl,rfl,ho,qFt ns _ hall,hlen⟩
theorem qNn (l:OpenLaw) (args:List WData):l.row.toRowW.claim.post args (.bool true) args=true :=
 postW_of (r:=l.row.toRowW) (X:=(true == true))
  (show WShape.has [] (.bool true) .bool=true by first | rfl | decide | simp[WShape.has,WShape.arms,WShape.armsAll])
  (show(WTm.eq .res (.lit (.bool true))).value [] { args:=args,res:=some (.bool true),after:=args }=some (.bool (true == true)) from w_eq_bool (w_res rfl) w_lit) rfl
theorem attach_call {l:OpenLaw} {n:Nat} {q:Program} {loose:List Str} {XP:(Str->Option Value)->Heap->Prop} {YP:World->Heap->Prop} {d:DefRec}
  (hn:l.most=some n) (hdf:d.params.defaults=[])
  (call:∀ (w:World) (s₀ s₁:Shared) (mg mb:Str->Option Value) (fa:Addr) (o:Obj) (pm cd doc:Value) (a:Addr) (vs:List Value) (ns:List Int),
   Ground q loose [] XP w s₀ mg mb s₁.heap->YP w s₁.heap ->
   s₁.heap.get? fa=some o->o.data = .func (docDef d.name d.params d.body d.scope pm cd doc)->s₁.heap.CodeRec cd d.name->mg d.name=some (.ref fa) ->
   s₁.heap.get? a=some { cls:=.type "list",data:=.seq vs.toArray }->IntsAre vs ns->ns.length<=n->s₁.gens=#[] ->
   codeAny (model l.prog w) callerA (.call (.ref fa) ⟨[.ref a],[]⟩) (fun r s'=>r = .ok (.ret (.bool true))/\OldK s₁.heap s'.heap/\s'.os=s₁.os/\AllBare s'.gens) s₁) :
  WalkO q loose XP YP l.row.toRowW d [] (fun f vs=>PySem.call f vs):=by
 intro w s₀ s₁ mg mb G Y fa o pm cd doc dV kV ho hd hcd hD hmg hg args vals as hpre hlay hrd hwl hlo;obtain rfl:dV = .none:=Dflts.none hD hdf;obtain rfl:kV = .none:=Dflts.noKw hD;obtain⟨a,vs,ns,rfl,rfl,hobj,hints,hlen⟩:=qNd hn hpre hwl;refine enter_call (codeAny_mono (call w s₀ s₁ mg mb fa o pm cd doc a vs ns G Y ho (fd_plain hd) hcd hmg hobj hints hlen hg) fun r s' hq=>?_);obtain⟨rfl,h2,h3,h4⟩:=hq;exact⟨.inl ⟨.bool true,.bool true,[],rfl,fun _=>rfl,.bool true,qNn l _,fun _=>⟨List.Pairwise.nil,fun _ hm=>(nomatch hm)⟩⟩,h2,h3,h4⟩
section
variable {prog:Program} {w:World} {A:Around} {E:Value->Shared->Prop} {s:Shared} {K:Frag}
def qXa (h:Heap) (L d:Addr):List (Addr×Obj):=(List.range h.objs.size).filterMap fun a=>if a=L\/a=d then none else (h.get? a).map fun o=>(a,o)
end
end Att
namespace L2
open PySem PySem.Spec PyProof.Rows
theorem qH1:∀ {vs:List Value} {ns:List Int},IntsAre vs ns->qBe (ns.map V.int) vs
 | _,_,.nil=>.nil
 | _,_,.cons n t h=>.cons ⟨t,rfl⟩ (qH1 h)
def qW0 (H:Hp):Prop:=∀ b,H b=none\/∃ o xs,H b=some (.frz o (.lst xs))
theorem qQc {P:Program} {w:World} {K:PySem.W.Frag} {mg mb:Str->Option Value} {CX:CXT} {k:Nat} {fa a:Addr} {fd:FuncData} {x:Str} {sp:Sp} {s₁:Shared} {vs:List Value} {ns:List Int}
  (KX:K.In s₁.heap) (hns:s₁.heap.Ns mainGlobals mg) (hb:s₁.heap.Ns builtinsNs mb) (hbb:∀ x:Str,x≠"__name__"->mb x=bootBuiltins x) (hlim:s₁.heap.NoLimit) (hg:s₁.gens=#[])
  (ha:s₁.heap.get? a=some { cls:=.type "list",data:=.seq vs.toArray }) (hi:IntsAre vs ns) (hl:ns.length<=sizeLine) (hr:Room k callerA)
  (F:∀ base:Heap,K.In base->base.Ns mainGlobals mg->FnOk P w K mg base CX k fa fd [x] sp) (hbind:∀ (s:Shared) (u:Value),BindsTo s fd ⟨[u],[]⟩ [(x,u)])
  (hsp:∀ H:Hp,qW0 H->SqL K H a (ns.map V.int)->sp [.ref a] H (fun v _=>v = .bl true) fun _ _ _=>False)
  (hCX:∀ H e s',CX [] H s₁ (fun _ _ _=>False) e s'->False) :
  codeAny (model P w) callerA (.call (.ref fa) ⟨[.ref a],[]⟩) (fun r s'=>r = .ok (.ret (.bool true))/\OldK s₁.heap s'.heap/\s'.os=s₁.os/\AllBare s'.gens) s₁:=by
 have rv:=qH1 hi;have lenV:=hi.length;have core:∀ H:Hp,qW0 H->SqL K H a (ns.map V.int)->HOk P w H s₁.heap->(∀ b,H b≠none->b=a)->(H a≠none->K.lookup a=none) ->
   codeAny (model P w) callerA (.call (.ref fa) ⟨[.ref a],[]⟩) (fun r s'=>r = .ok (.ret (.bool true))/\OldK s₁.heap s'.heap/\s'.os=s₁.os/\AllBare s'.gens) s₁:=by
  intro H hO hS hok hA hK;have base_of:∀ {b:Addr} {o:Obj},s₁.heap.get? b=some o->H b=none->(qQg s₁.heap H).get? b=some o:=fun e n=>qQf e n
  have noA:∀ {b:Addr} {o:Obj} {es:Array DictEntry} {ep:Nat},s₁.heap.get? b=some o->o.data = .dict es ep->H b=none:=fun {b o es ep} e d=>by
   cases q:H b with
   | none=>rfl
   | some u =>
    have e':b=a:=hA b (by rw[q];simp);subst e';rw[ha]at e;cases e;have d':Data.seq vs.toArray _=Data.dict es ep:=d;cases d'
  have nsK:∀ {b:Addr} {m:Str->Option Value},s₁.heap.Ns b m->(qQg s₁.heap H).Ns b m:=fun {b m} ⟨o,es,ep,e,d,r⟩=>⟨o,es,ep,base_of e (noA e d),d,r⟩
  have hKb:K.In (qQg s₁.heap H):=fun b o e=>base_of (KX b o e) (by
   cases q:H b with
   | none=>rfl
   | some u =>
    have e':b=a:=hA b (by rw[q];simp);subst e';rw[hK (by rw[q];simp)]at e;cases e)
  have hM:Mod K mg (qQg s₁.heap H):=⟨hKb,nsK hns,⟨mb,nsK hb,hbb⟩,let ⟨mc,h1,h2⟩:=hlim;⟨mc,nsK h1,h2⟩⟩;have e0:Env0 P w K mg (qQg s₁.heap H) callerA [] s₁ H:=⟨rfl,hM,fun b o e=>qSs e,Nat.le_of_eq (qOj _ _),trivial,fun b hb=>absurd (show b∈([]:List Addr) from hb) (by simp),hok,.of_eq hg⟩;refine codeAny_mono ((F _ hKb (nsK hns)).run callerA [] s₁ H ⟨[.ref a],[]⟩ [.ref a] [.ref a] _ _ hr e0 (hbind s₁ (.ref a)) (.cons rfl .nil) (hsp H hO hS)) fun r s' h=>?_
  cases r with
  | error e=>exact(hCX H e s' h).elim
  | ok fl =>
   cases fl with
   | next=>exact False.elim h
   | brk=>exact False.elim h
   | cont=>exact False.elim h
   | ret u =>
    obtain⟨v,H',os,bare,un,hok',r',q⟩:=h;have q':v = .bl true:=q;subst q';obtain rfl:u=Value.bool true:=r';refine⟨rfl,OldK.of_keep fun b o e=>?_,os,bare⟩;cases q:H b with
    | none=>exact un.keep b o e q (by intro z;exact absurd (show b∈([]:List Addr) from z) (by simp)) (by simp)
    | some u =>
     rcases hO b with z | ⟨ob,xs,z⟩
     ·rw[q]at z;cases z
     ·have z2:=un.frzs b ob _ z;obtain⟨e1,_⟩:=hok b _ z;obtain⟨e2,_⟩:=hok' b _ z2;rw[e]at e1;cases e1;exact e2
 cases hk:K.lookup a with
 | some o =>
  have e:=KX a o hk;rw[ha]at e;cases e;refine core (fun _=>none) (fun _=>.inl rfl) (.inr ⟨_,vs.toArray,_,hk,rfl,rfl,rfl,by rw[hAb,lenV];exact hl,by simpa using rv⟩) (fun b u z=>by have z':(none:Option HO)=some u:=z;cases z') (fun b z=>absurd rfl z) fun z=>absurd rfl z
 | none =>
  refine core (fun b=>if b=a then some (.frz { cls:=.type "list",data:=.seq vs.toArray } (.lst (ns.map V.int))) else none) (fun b=>?_) (.inl (.inr ⟨{ cls:=.type "list",data:=.seq vs.toArray },if_pos rfl⟩)) (fun b u z=>?_) (fun b z=>?_) fun _=>hk
  ·by_cases hb:b=a
   ·exact .inr ⟨_,_,if_pos hb⟩
   ·exact .inl (if_neg hb)
  ·by_cases hb:b=a
   ·have z':=(if_pos hb).symm.trans z;cases z';subst hb;exact⟨ha,by rw[hA1];exact hl,vs,_,rv,ha⟩
   ·have z':=(if_neg hb).symm.trans z;cases z'
  ·by_cases hb:b=a
   ·exact hb
   ·exact absurd (if_neg hb) z
end L2
namespace L2
open PySem PySem.Spec PyProof.Rows
theorem walk_of {l:PySem.W.OpenLaw} {n k:Nat} {q:Program} {loose:List Str} {XP:(Str->Option Value)->Heap->Prop} {YP:World->Heap->Prop} {d:DefRec} {K:Params->PySem.W.Frag} {CX:World->CXT} {sp:World->Sp} {x:Str}
  (hn:l.most=some n) (hn2:n<=sizeLine) (hdf:d.params.defaults=[]) (hr:Room k callerA)
  (hY:∀ (w:World) (h:Heap),YP w h->(K w.params).In h)
  (F:∀ (w:World) (mg:Str->Option Value) (fa:Addr) (h:Heap),(K w.params).In h->h.Ns mainGlobals mg->mg d.name=some (.ref fa) ->
   ∃ fd:FuncData,(∀ (s:Shared) (u:Value),BindsTo s fd ⟨[u],[]⟩ [(x,u)]) /\
    ∀ base:Heap,(K w.params).In base->base.Ns mainGlobals mg->FnOk l.prog w (K w.params) mg base (CX w) k fa fd [x] (sp w))
  (hsp:∀ (w:World) (H:Hp) (a:Addr) (ns:List Int),ns.length<=n->qW0 H->SqL (K w.params) H a (ns.map V.int)->sp w [.ref a] H (fun v _=>v = .bl true) fun _ _ _=>False)
  (hCX:∀ (w:World) (H:Hp) (s:Shared) (e:Value) (s':Shared),CX w [] H s (fun _ _ _=>False) e s'->False) :
  PySem.W.WalkO q loose XP YP l.row.toRowW d [] (fun f vs=>PySem.call f vs):=by
 refine Att.attach_call hn hdf fun w s₀ s₁ mg mb fa o pm cd doc a vs ns G Y ho hd hcd hmg hobj hints hlen hg=>?_
 have KX:=hY w _ Y;obtain⟨fd,hb,hF⟩:=F w mg fa _ KX G.T.g hmg;exact qQc KX G.T.g G.T.b G.T.builtins G.T.nolimit hg hobj hints (hAt hlen hn2) hr hF hb (fun H hO hS=>hsp w H a ns hlen hO hS) fun H e s'=>hCX w H s₁ e s'
end L2
namespace L2
open PySem PySem.Spec PyProof.Rows
def qAw (s:Stmt):Arguments:=match s with
 | .FunctionDef _ a _ _ _ _ _ _ _ _=>a
 | _=>{ posonlyargs:=[],args:=[],vararg:=none,kwonlyargs:=[],kw_defaults:=[],kwarg:=none,defaults:=[] }
def qAp (s:Stmt):List Stmt:=match s with
 | .FunctionDef _ _ b _ _ _ _ _ _ _=>b
 | _=>[]
def qAd (s:Stmt):Scope:=match s with
 | .FunctionDef _ _ _ _ _ _ sc _ _ _=>sc
 | _=>{ kind:=.function,names:=[],isGenerator:=false,isCoroutine:=false }
abbrev CX0:CXT:=fun _ _ _ _ _ _=>False
abbrev E0:XK:=fun _ _ _=>False
theorem qAu {X:Cx}:qI1 CX0 X E0:=fun _ _ _ _ _ _ _ h=>h.elim
structure Fun (K:PySem.W.Frag) (x qual:Str) (st:Stmt) (f:Addr) (fd:FuncData):Prop where
 ex:∃ (oc:Value) (od:Option Addr) (kV doc pm:Value) (an:Option Addr) (cdv ct:Value) (osl:Array (Option Value)),
  fd=PySem.W.fnOf x qual (qAw st) (qAp st) (qAd st) .none kV doc pm an cdv ct/\K.lookup f=some ⟨oc,od,.func fd,osl⟩/\PySem.W.codeIn K cdv qual=true
 kp:PySem.W.keepIn K (.ref f)=true
section
variable {P:Program} {w:World} {K:PySem.W.Frag} {mg:Str->Option Value} {base:Heap}
theorem Fun.ok {x qual:Str} {st:Stmt} {f:Addr} {fd:FuncData} {N ps:List Str} {k:Nat} {sp:Sp} (F:Fun K x qual st f fd) (S:FnScope N ps (qAd st)) (len:∀ vs H Q E,sp vs H Q E->vs.length=ps.length)
  (hbody:∀ (cdv:Value) (A:Around) (outer:List Env) (s:Shared) (H:Hp) (vs:List V) (Q:VK) (E:XK),Room k (A.deeper (envOfC qual (qAd st) s.heap.objs.size f cdv))->sp vs H Q E ->
   ∃ t,PSs (qQm CX0 P w K mg base N qual (qAd st) f cdv A outer s H E).nox (qAp st) t/\t { nx:=fun _ H'=>Q .non H',rt:=Q } (qGw N vs) H):FnOk P w K mg base CX0 (k+1) f fd ps sp:=by
 obtain⟨oc,od,kV,doc,pm,an,cdv,ct,osl,rfl,lk,hcd⟩:=F.ex;refine qU9 lk hcd S len fun A outer s H vs Q E hr hsp=>?_
 obtain⟨t,h,q⟩:=hbody cdv A outer s H vs Q E hr hsp;exact⟨t,h.nox,q⟩
theorem Fun.binds {x qual:Str} {st:Stmt} {f:Addr} {fd:FuncData} {ps:List Str} (F:Fun K x qual st f fd)
  (h:∀ (kV doc pm:Value) (an:Option Addr) (cdv ct:Value) (us:List Value),us.length=ps.length->bindArgs (PySem.W.fnOf x qual (qAw st) (qAp st) (qAd st) .none kV doc pm an cdv ct) ⟨us,[]⟩=pure (ps.zip us)):qMd K fd ps []:=by
 obtain⟨oc,od,kV,doc,pm,an,cdv,ct,osl,rfl,lk,hcd⟩:=F.ex;exact .all (h kV doc pm an cdv ct)
theorem qA6 {x qual:Str} {st:Stmt} {f:Addr} {oc:Value} {od an:Option Addr} {osl:Array (Option Value)} {kV doc pm cdv ct:Value} (l:K.lookup f=some ⟨oc,od,.func (PySem.W.fnOf x qual (qAw st) (qAp st) (qAd st) .none kV doc pm an cdv ct),osl⟩)
  (c:PySem.W.codeIn K cdv qual=true) (k:PySem.W.keepIn K (.ref f)=true):Fun K x qual st f (PySem.W.fnOf x qual (qAw st) (qAp st) (qAd st) .none kV doc pm an cdv ct):=⟨⟨oc,od,kV,doc,pm,an,cdv,ct,osl,rfl,l,c⟩,k⟩
end
theorem qGa {A:Around} {k:Nat} (hr:Room k A):A.units+1<cLine:=Nat.lt_of_le_of_lt (Nat.add_le_add_left (by decide:1<=64) _) hr.units
theorem qAg {n:Nat} (h:n<=1000):n<sizeLine:=Nat.lt_of_le_of_lt h (by decide)
section
variable {X:Cx}
theorem pv (i:Nat) {x:Str} {pos:Pos} (hN:X.N[i]?=some x:=by rfl) (hv:Vis X.env.scope x:=by first | exact Or.inl rfl | exact Or.inr (Or.inl rfl) | exact Or.inr (Or.inr rfl)) (hd:(x == ("__debug__" : Str))=false:=by decide)
  (hcd:(x == ("__classdict__" : Str))=false:=by decide):PE X (.Name x pos) (qRn i):=qUn hN hv hd hcd
end
theorem qD9 {A B:Prop} (h:B):if false=true then A else B:=by
 rw[if_neg hAe];exact h
theorem iteT {A B:Prop} (h:A):if true=true then A else B:=by
 rw[if_pos rfl];exact h
theorem qBw {c A B:Prop} [Decidable c] (h1:c->A) (h2:¬c->B):if c then A else B:=by
 by_cases h:c
 ·rw[if_pos h];exact h1 h
 ·rw[if_neg h];exact h2 h
end L2
set_option linter.all false
namespace L2
open PySem PySem.Spec PyProof.Rows
section
variable {κ:Type} [DecidableEq κ]
def valV (kvs:List (κ×V)) (k:κ):Option V:=(kvs.find? fun kv=>decide (kv.1=k)).map (·.2)
def qDe (kvs:List (κ×V)) (k:κ) (v:V):List (κ×V) :=
 if (kvs.any fun kv=>decide (kv.1=k))=true then kvs.map (fun kv=>if kv.1=k then (kv.1,v) else kv) else kvs++[(k,v)]
theorem qDw {p:κ×V} {r:List (κ×V)} {k:κ} (e:p.1=k):valV (p :: r) k=some p.2:=by simp[valV,hBu,e]
theorem qC9 {p:κ×V} {r:List (κ×V)} {k:κ} (e:¬p.1=k):valV (p :: r) k=valV r k:=by simp[valV,hBu,e]
theorem qE4 (k:κ):∀ kvs:List (κ×V),(kvs.any fun kv=>decide (kv.1=k))=(valV kvs k).isSome
 | []=>rfl
 | p :: r=>by
  rw[List.any_cons];by_cases e:p.1=k
  ·simp only[qDw e,decide_eq_true e,Bool.true_or,Option.isSome_some]
  ·rw[qC9 e,decide_eq_false e,Bool.false_or];exact qE4 k r
theorem qCu (kvs:List (κ×V)) (k:κ) (v:V):(qDe kvs k v).length<=kvs.length+1:=by
 unfold qDe;split
 ·rw[hA1];omega
 ·rw[hA2,hBo,List.length_nil];omega
theorem qKr {kvs:List (κ×V)} {k:κ} (v:V) (h:valV kvs k=none):qDe kvs k v=kvs++[(k,v)]:=by
 unfold qDe;rw[qE4,h];exact if_neg (by decide)
theorem qMc.isSome_eq {o:Option V} {u:Option Value} (r:qMc o u):o.isSome=u.isSome:=by
 cases o with
 | none=>cases u with
  | none=>rfl
  | some _=>exact(show False from r).elim
 | some _=>cases u with
  | none=>exact(show False from r).elim
  | some _=>rfl
theorem qMc.getD {o:Option V} {u:Option Value} {d:V} {d':Value} (r:qMc o u) (rd:qBl d d'):qBl (o.getD d) (u.getD d'):=by
 cases o with
 | none=>cases u with
  | none=>exact rd
  | some _=>exact(show False from r).elim
 | some _=>cases u with
  | none=>exact(show False from r).elim
  | some _=>exact r
theorem KV.val {kvs:List (κ×V)} {vs:List (κ×Value)} (r:KV kvs vs) (k:κ):qMc (valV kvs k) (valueAt vs k):=by
 unfold KV at r
 induction r with
 | nil=>exact True.intro
 | @cons p q ps qs h t ih =>
  obtain⟨h1,h2⟩:=h;by_cases e:p.1=k
  ·have e':q.1=k:=h1.symm.trans e;have b:valueAt (q :: qs) k=some q.2:=by simp[valueAt,hBu,e']
   rw[qDw e,b];exact h2
  ·have e':¬q.1=k:=fun z=>e (h1.trans z)
   have b:valueAt (q :: qs) k=valueAt qs k:=by simp[valueAt,hBu,e']
   rw[qC9 e,b];exact ih
theorem KV.any {kvs:List (κ×V)} {vs:List (κ×Value)} (r:KV kvs vs) (k:κ):(kvs.any fun kv=>decide (kv.1=k))=vs.any fun kv=>decide (kv.1=k):=by
 unfold KV at r
 induction r with
 | nil=>rfl
 | cons h t ih=>rw[List.any_cons,List.any_cons,ih,h.1]
theorem KV.repl {kvs:List (κ×V)} {vs:List (κ×Value)} (r:KV kvs vs) (k:κ) {y:V} {u:Value} (ry:qBl y u) :
  KV (kvs.map fun kv=>if kv.1=k then (kv.1,y) else kv) (vs.map fun kv=>if kv.1=k then (kv.1,u) else kv):=by
 unfold KV at r ⊢
 induction r with
 | nil=>exact .nil
 | @cons p q ps qs h t ih =>
  rw[hB2,hB2];refine .cons ?_ ih;obtain⟨h1,h2⟩:=h;by_cases e:p.1=k
  ·rw[if_pos e,if_pos (h1.symm.trans e)];exact⟨h1,ry⟩
  ·rw[if_neg e,if_neg (fun z=>e (h1.trans z))];exact⟨h1,h2⟩
theorem KV.put {kvs:List (κ×V)} {vs:List (κ×Value)} (r:KV kvs vs) (k:κ) {y:V} {u:Value} (ry:qBl y u):KV (qDe kvs k y) (stored vs k u):=by
 unfold qDe stored;rw[r.any k];by_cases e:(vs.any fun kv=>decide (kv.1=k))=true
 ·rw[if_pos e,if_pos e];exact r.repl k ry
 ·rw[if_neg e,if_neg e];exact Paired.snoc r ⟨rfl,ry⟩
theorem KV.length {kvs:List (κ×V)} {vs:List (κ×Value)} (r:KV kvs vs):kvs.length=vs.length:=Paired.length r
end
theorem qJs {P:Program} {w:World} {k:Key} {u:Value} (r:qBl (kV k) u):(qA2 P w).is k u=true:=by
 cases k with
 | inl i=>obtain⟨t,e⟩:=(show ∃ t,u=Value.int i t from r);subst e;exact qJp P w i t
 | inr x=>obtain⟨t,e⟩:=(show ∃ t,u=Value.str x t from r);subst e;exact qJo P w x t
theorem qIm {P:Program} {w:World}:∀ {ks:List Key} {us:List Value},qBe (ks.map kV) us->ItemsAre (qA2 P w) ks us
 | [],_,r=>by rw[List.map_nil]at r;cases r;exact .nil
 | k :: ks,_,r=>by
  rw[hB2]at r;cases r with
  | cons h t=>exact .cons (qJs h) (qIm t)
abbrev KT (H:Hp):List (List Key×V)->List (List Key×Addr×Value)->Prop:=Paired fun p q=>p.1=q.1/\H q.2.1=some (.tup (p.1.map kV))/\qBl p.2 q.2.2
theorem KT.val {H:Hp} {kvs:List (List Key×V)} {xs:List (List Key×Addr×Value)} (r:KT H kvs xs) (k:List Key):qMc (valV kvs k) ((atKey xs k).map (·.2)):=by
 induction r with
 | nil=>exact True.intro
 | @cons p q ps qs h t ih =>
  obtain⟨h1,_,h2⟩:=h;by_cases e:p.1=k
  ·have e':q.1=k:=h1.symm.trans e;have b:atKey (q :: qs) k=some q.2:=by simp[atKey,hBu,e']
   rw[qDw e,b];exact h2
  ·have e':¬q.1=k:=fun z=>e (h1.trans z)
   have b:atKey (q :: qs) k=atKey qs k:=by simp[atKey,hBu,e']
   rw[qC9 e,b];exact ih
theorem KT.repl {H:Hp} {kvs:List (List Key×V)} {xs:List (List Key×Addr×Value)} (r:KT H kvs xs) (k:List Key) {y:V} {u:Value} (ry:qBl y u) :
  KT H (kvs.map fun kv=>if kv.1=k then (kv.1,y) else kv) (xs.map (putAt k u)):=by
 induction r with
 | nil=>exact .nil
 | @cons p q ps qs h t ih =>
  rw[hB2,hB2];refine .cons ?_ ih;obtain⟨h1,h2,h3⟩:=h;unfold putAt;by_cases e:p.1=k
  ·rw[if_pos e,if_pos (h1.symm.trans e)];exact⟨h1,h2,ry⟩
  ·rw[if_neg e,if_neg (fun z=>e (h1.trans z))];exact⟨h1,h2,h3⟩
theorem KT.put {H:Hp} {kvs:List (List Key×V)} {xs:List (List Key×Addr×Value)} (r:KT H kvs xs) (k:List Key) {b:Addr} {y:V} {u:Value} (hb:H b=some (.tup (k.map kV))) (ry:qBl y u) :
  KT H (qDe kvs k y) (storedH xs k b u):=by
 have e:(kvs.any fun kv=>decide (kv.1=k))=(atKey xs k).isSome:=by
  rw[qE4,(r.val k).isSome_eq,Option.isSome_map]
 unfold qDe storedH;rw[e];by_cases q:(atKey xs k).isSome=true
 ·rw[if_pos q,if_pos q];exact r.repl k ry
 ·rw[if_neg q,if_neg q];exact Paired.snoc r ⟨rfl,hb,ry⟩
theorem KT.keeps {H H':Hp} {kvs:List (List Key×V)} {xs:List (List Key×Addr×Value)} (r:KT H kvs xs) (ht:∀ b ys,H b=some (.tup ys)->H' b=some (.tup ys)):KT H' kvs xs :=
 Paired.mapP r fun _ _ z=>⟨z.1,ht _ _ z.2.1,z.2.2⟩
section
variable {P:Program} {w:World} {H:Hp} {h:Heap} {a:Addr}
theorem qUf {u:HO} (ok:HOk P w H h) (e:Rd H a u):qBo P w H h a u:=e.ok ok
theorem qL7 {kvs:List (Key×V)} (ok:HOk P w H h) (e:Rd H a (.dK kvs)):kvs.length<=sizeLine/\(a == sysModules)=false/\∃ vs,KV kvs vs/\h.DictOf (qA2 P w) a vs :=
 show qBo P w H h a (.dK kvs) from qUf ok e
theorem qOv {kvs:List (Key×V)} (ok:HOk P w H h) (e:H a=some (.dK kvs)):kvs.length<=sizeLine/\(a == sysModules)=false/\∃ vs,KV kvs vs/\h.DictOf (qA2 P w) a vs:=qL7 ok (.inl e)
theorem qIl {ks:List Key} (ok:HOk P w H h) (e:H a=some (.tup (ks.map kV))):(tupleKind (qA2 P w)).is h ks a:=by
 obtain⟨_,its,r,o,h1,h2,n,h3⟩:=(show qBo P w H h a (.tup (ks.map kV)) from ok a _ e);exact⟨o,its.toArray,n,h1,h2,h3,by simpa using qIm r⟩
theorem qL5 {kvs:List (List Key×V)} (ok:HOk P w H h) (e:Rd H a (.dT kvs)):kvs.length<=sizeLine/\(a == sysModules)=false /\
  ∃ xs,KT H kvs xs/\h.DictOfH (tupleKind (qA2 P w)) a xs:=by
 obtain⟨z,y,xs,r,o,es,ep,h1,h2,h3,h4,h5⟩:=(show qBo P w H h a (.dT kvs) from qUf ok e);refine⟨z,y,xs,r,o,es,ep,h1,h2,h3,h4,fun x hx=>?_,h5⟩;have all:∀ {l:List (List Key×V)} {m:List (List Key×Addr×Value)},KT H l m->∀ x∈m,(tupleKind (qA2 P w)).is h x.1 x.2.1:=by
  intro l m q
  induction q with
  | nil=>intro x hx;exact nomatch hx
  | @cons p q ps qs hq t ih =>
   intro x hx;rcases hA9.mp hx with e | hx
   ·subst e;exact qIl ok (by rw[<-hq.1];exact hq.2.1)
   ·exact ih x hx
 exact all r x hx
theorem qWt {kvs:List (List Key×V)} (ok:HOk P w H h) (e:H a=some (.dT kvs)):kvs.length<=sizeLine/\(a == sysModules)=false /\
  ∃ xs,KT H kvs xs/\h.DictOfH (tupleKind (qA2 P w)) a xs:=qL5 ok (.inl e)
end
def qI2 (H:Hp) (a:Addr) (y:V) (r:Option V):Prop :=
 (∃ kvs k,Rd H a (.dK kvs)/\y=kV k/\r=valV kvs k)\/∃ kvs k b,Rd H a (.dT kvs)/\y = .ref b/\H b=some (.tup (k.map kV))/\r=valV kvs k
def qVi (H:Hp) (a:Addr) (y v:V) (H':Hp):Prop :=
 (∃ kvs k,H a=some (.dK kvs)/\y=kV k/\kvs.length<sizeLine/\H'=upd H a (.dK (qDe kvs k v))) \/
 ∃ kvs k b,H a=some (.dT kvs)/\y = .ref b/\H b=some (.tup (k.map kV))/\kvs.length<sizeLine/\H'=upd H a (.dT (qDe kvs k v))
theorem qI2.k {H:Hp} {a:Addr} {kvs:List (Key×V)} {k:Key} (e:H a=some (.dK kvs)):qI2 H a (kV k) (valV kvs k):=.inl ⟨kvs,k,.inl e,rfl,rfl⟩
theorem qVi.k {H:Hp} {a:Addr} {kvs:List (Key×V)} {k:Key} {v:V} (e:H a=some (.dK kvs)) (hl:kvs.length<sizeLine):qVi H a (kV k) v (upd H a (.dK (qDe kvs k v))):=.inl ⟨kvs,k,e,rfl,hl,rfl⟩
section
variable {X:Cx} {pins:List (Addr×Obj)} {σ:St} {H:Hp} {s:Shared} {a:Addr} {y v:V} {u r:Value} {o:Option V} {A:Around} {E:Value->Shared->Prop}
theorem Inv.big (I:Inv X pins σ H s):sysModules<s.heap.objs.size:=by
 have h:mainGlobals<s.heap.objs.size:=(I.mod.glob.keeps I.bk).lt;exact Nat.lt_trans (by decide) h
theorem qO2 {Q:Value->Shared->Prop} (hu:A.units+1<cLine) (I:Inv X pins σ H s) (g:qI2 H a y (some v)) (ry:qBl y u) (h:∀ w' s',Inv X pins σ H s'->qBl v w'->Q w' s') :
  wpAny (model X.prog X.w) A (getItem (.ref a) u) Q E s:=by
 rcases g with ⟨kvs,k,e,ey,l⟩ | ⟨kvs,k,b,e,ey,eb,l⟩
 ·subst ey;obtain⟨z,hd,vs,rel,dd⟩:=qL7 I.hok e;obtain⟨w',hw,rw'⟩:=qMc.some_of (v:=v) (o:=valueAt vs k) (by rw[l];exact rel.val k);exact wpAny_getItem_of (qJs ry) dd.mapOf hw (h w' _ (I.tok _) rw')
 ·subst ey;cases(show u=Value.ref b from ry);obtain⟨z,hd,xs,rel,dd⟩:=qL5 I.hok e;obtain⟨w',hw,rw'⟩:=qMc.some_of (v:=v) (o:=(atKey xs k).map (·.2)) (by rw[l];exact rel.val k);obtain⟨p,hp,hp2⟩:=Option.map_eq_some_iff.mp hw;refine wpAny_getItem_heap (tupleKind_room_in1 hu) (qIl I.hok eb) dd hp ?_;rw[hp2];exact h w' _ (I.tok _) rw'
theorem qS8 {Q:Value->Shared->Prop} (hu:A.units+1<cLine) (I:Inv X pins σ H s) (g:qI2 H a y o) (ry:qBl y u) (h:∀ s',Inv X pins σ H s'->Q (.bool (!o.isSome)) s') :
  wpAny (model X.prog X.w) A (compareOp .NotIn u (.ref a)) Q E s:=by
 rcases g with ⟨kvs,k,e,ey,l⟩ | ⟨kvs,k,b,e,ey,eb,l⟩
 ·subst ey;obtain⟨z,hd,vs,rel,dd⟩:=qL7 I.hok e;refine wpAny_notIn_of (qJs ry) hd dd.mapOf ?_;rw[<-(rel.val k).isSome_eq,<-l];exact h _ (I.tok _)
 ·subst ey;cases(show u=Value.ref b from ry);obtain⟨z,hd,xs,rel,dd⟩:=qL5 I.hok e;refine wpAny_notIn_heap (tupleKind_room_in1 hu) (qIl I.hok eb) hd dd ?_;have q:=(rel.val k).isSome_eq;rw[Option.isSome_map]at q;rw[<-q,<-l];exact h _ (I.tok _)
theorem qJ4 {h':Heap} {t':Nat} {ob:HO} (I:Inv X pins σ H s) (mu:Mut (H a)) (hs:Heap.SameBut a s.heap h') (he:∃ q,h'.get? a=some q) (new:qBo X.prog X.w (upd H a ob) h' a ob) :
  Inv X pins σ (upd H a ob) { s with heap:=h',toks:=t' } :=
 I.write (x:=a) (e:=a) mu (.inl rfl) (fun b q hb z=>(hs.2 b hb).trans z) he new
theorem qOw {P:Program} {w:World} {H':Hp} {h':Heap} {kvs:List (Key×V)} {vs:List (Key×Value)} (z:kvs.length<=sizeLine) (hd:(a == sysModules)=false) (rel:KV kvs vs) (dd:h'.DictOf (qA2 P w) a vs) :
  qBo P w H' h' a (.dK kvs):=⟨z,hd,vs,rel,dd⟩
theorem qO1 {H':Hp} {Q:Unit->Shared->Prop} (hu:A.units+1<cLine) (I:Inv X pins σ H s) (g:qVi H a y v H') (ry:qBl y u) (rv:qBl v r) (h:∀ s',Inv X pins σ H' s'->Q () s') :
  wpAny (model X.prog X.w) A (setItem (.ref a) u r) Q E s:=by
 rcases g with ⟨kvs,k,e,ey,l,eH⟩ | ⟨kvs,k,b,e,ey,eb,l,eH⟩
 ·subst ey eH;obtain⟨z,hd,vs,rel,dd⟩:=qOv I.hok e;have hz:vs.length<=sizeLine:=by rw[<-rel.length];exact z
  have hl:(qDe kvs k v).length<=sizeLine:=by have:=qCu kvs k v;omega
  refine wpAny_setItem_pairs (hsz:=hz) (qJs ry) dd fun h' dd' hs=>h _ ?_
  have he:∃ q,h'.get? a=some q:=let ⟨q,_,_,hq,_⟩:=dd';⟨q,hq⟩;exact qJ4 I (by rw[e];exact True.intro) hs he (qOw hl hd (rel.put k rv) dd')
 ·subst ey eH;cases(show u=Value.ref b from ry);obtain⟨z,hd,xs,rel,dd⟩:=qWt I.hok e;have hz:xs.length<=sizeLine:=by rw[<-Paired.length rel];exact z
  have hl:(qDe kvs k v).length<=sizeLine:=by have:=qCu kvs k v;omega
  refine wpAny_setItem_heap (hsz:=hz) (tupleKind_room_in1 hu) (qIl I.hok eb) dd fun h' dd' hs=>h _ ?_
  obtain⟨q,es,ep,hq,h2,h3,h4,_,h5⟩:=dd';refine qJ4 I (by rw[e];exact True.intro) hs ⟨q,hq⟩ ⟨hl,hd,_,(rel.put k eb rv).keeps fun c ys ec=>?_,q,es,ep,hq,h2,h3,h4,h5⟩;rw[qAh (qWm ec e (fun z=>nomatch z))];exact ec
end
def qXc (i:Expr):Prop:=∀ ov iv,subscripted i false ov iv=operate [ov,iv] (getItem ov iv)
theorem qRq {prog:Program} {w:World} {A:Around} {E:Value->Shared->Prop} {s:Shared} {env:Env} {value slice:Expr} {pos:Pos} {T id:String} {Q:Value->Shared->Prop}
  (hl:typeLookup (.type T) "__getitem__" = pure (some (.builtin id))) (hs:qXc slice)
  (h:wpAny (model prog w) A (eval value env) (fun o s₁=>wpAny (model prog w) A (eval slice env) (fun i s₂=>s₂.TypeIs o T/\wpAny (model prog w) A (getItem o i) Q E s₂) E s₁) E s) :
  wpAny (model prog w) A (eval (.Subscript value slice pos) env) Q E s:=by
 refine Subscript_ (wpAny_mono h (fun o s₁ h₁=>wpAny_mono h₁ (fun i s₂ h₂=>?_) fun _ _ x=>x) fun _ _ x=>x);obtain⟨hT,h₂⟩:=h₂;unfold subscriptTail;refine wpAny_bind ?_;rw[getitemInPython_of_ne hT.not_modules];refine wpAny_bind (wpAny_specialOf hT hl ?_);have fin:wpAny (model prog w) A (subscripted slice false o i) (fun r s₃=>wpAny (model prog w) A (letTemporaryGo value o r >>= fun _=>pure r) Q E s₃) E s₂:=by
  rw[hs o i];exact wpAny_operating (wpAny_mono h₂ (fun r s₃ h₃=>wpAny_bind (wpAny_letTemporaryGo (wpAny_pure h₃))) fun _ _ x=>x)
 first
  | exact wpAny_pure (wpAny_bind fin)
  | exact wpAny_bind (wpAny_pure (wpAny_bind fin))
  | exact wpAny_bind fin
theorem qJ3 {X:Cx} {pins:List (Addr×Obj)} {σ:St} {H:Hp} {s:Shared} {a:Addr} {y:V} {o:Option V} (I:Inv X pins σ H s) (g:qI2 H a y o):s.TypeIs (.ref a) "dict":=by
 rcases g with ⟨kvs,k,e,_,_⟩ | ⟨kvs,k,b,e,_,_,_⟩
 ·obtain⟨_,_,vs,_,dd⟩:=qL7 I.hok e;exact dd.typeIs
 ·obtain⟨_,_,xs,_,dd⟩:=qL5 I.hok e;exact dd.typeIs
def qV2 (td ty:TE):TE:=fun σ H Q=>td σ H fun x H1=>ty σ H1 fun y H2=>∃ a v,x = .ref a/\qI2 H2 a y (some v)/\Q v H2
def qRp (ty td:TE):TE:=fun σ H Q=>ty σ H fun y H1=>td σ H1 fun x H2=>∃ a o,x = .ref a/\qI2 H2 a y o/\Q (.bl (!o.isSome)) H2
def qUb (td ty tv:TE):TS:=fun D σ H=>tv σ H fun v H1=>td σ H1 fun x H2=>ty σ H2 fun y H3=>∃ a H4,x = .ref a/\qVi H3 a y v H4/\D.nx σ H4
section
variable {X:Cx} {o i e value:Expr} {pos pos' tpos:Pos} {td ty tv:TE}
theorem qHe (hu:X.A.units+1<cLine) (ho:PE X o td) (hi:PE X i ty) (hs:qXc i):PE X (.Subscript o i pos) (qV2 td ty):=by
 intro pins s σ H Q I h;refine qRq PySem.F.slot_dict_getitem.lookup hs (thn (ho pins s σ H _ I h) fun u s1 ⟨x,H1,I1,rx,q1⟩=>thn (hi pins s1 σ H1 _ I1 q1) fun iv s2 ⟨y,H2,I2,ry,a,v,ex,g,q2⟩=>?_);subst ex;obtain rfl:u=Value.ref a:=rx;exact⟨qJ3 I2 g,qO2 hu I2 g ry fun w' s3 I3 rw'=>⟨v,H2,I3,rw',q2⟩⟩
theorem qIc (hu:X.A.units+1<cLine) (hi:PE X i ty) (ho:PE X o td):PC X .NotIn i o (qRp ty td):=by
 intro pins s σ H Q I h;refine thn (hi pins s σ H _ I h) fun iv s1 ⟨y,H1,I1,ry,q1⟩=>thn (ho pins s1 σ H1 _ I1 q1) fun u s2 ⟨x,H2,I2,rx,a,ov,ex,g,q2⟩=>?_
 subst ex;obtain rfl:u=Value.ref a:=rx;exact qS8 hu I2 g ry fun s3 I3=>⟨.bl (!ov.isSome),H2,I3,rfl,q2⟩
theorem qNm (hu:X.A.units+1<cLine) (ho:PE X o td) (hi:PE X i ty) (hv:PE X value tv) (hs:swapsWith value (some (.Subscript o i pos')) pos.line X.env=pure false) :
  PS X (.Assign [.Subscript o i pos'] value pos) (qUb td ty tv):=by
 intro pins s σ H D I h;refine wpAny_Assign_Subscript (thn (hv pins s σ H _ I h) fun r s1 ⟨v,H1,I1,rv,q1⟩=>thn (ho pins s1 σ H1 _ I1 q1) fun u s2 ⟨x,H2,I2,rx,q2⟩=>thn (hi pins s2 σ H2 _ I2 q2) fun iv s3 ⟨y,H3,I3,ry,a,H4,ex,g,q3⟩=>?_) hs;subst ex;obtain rfl:u=Value.ref a:=rx;exact qO1 hu I3 g ry rv fun s4 I4=>⟨σ,H4,I4,q3⟩
end
theorem qLf {P:Program} {w:World} {H:Hp} (h:Heap) (hb:sysModules<h.objs.size):qBo P w H (h.push { cls:=.type "dict",data:=.dict #[] }) h.objs.size (.dK []) :=
 ⟨hAk _,beq_eq_false_iff_ne.mpr (Ne.symm (hAi hb)),[],.nil,Heap.DictOf.new h⟩
def qTv:TE:=fun _ H Q=>∀ p,H p=none->Q (.ref p) (upd H p (.dK []))
section
variable {X:Cx} {pos:Pos}
theorem qPw:PE X (.Dict [] [] pos) qTv:=fun pins s σ H Q I h =>
 wpAny_Dict_empty ⟨.ref s.heap.objs.size,_,I.laid (a:=s.heap.objs.size) (o:=.dK []) (t':=s.toks) (fun _ _ q=>Heap.get?_push_of_some _ q) (hA4 _) (qLf s.heap I.big),rfl,h _ (I.hok.fresh (hA4 _))⟩
end
def qMt:List (TE×TE)->St->Hp->(List (V×V)->Hp->Prop)->Prop
 | [],_,H,Q=>Q [] H
 | (tk,tv) :: r,σ,H,Q=>tk σ H fun x H1=>tv σ H1 fun y H2=>qMt r σ H2 fun ps H3=>Q ((x,y) :: ps) H3
abbrev VV:List (V×V)->List (Value×Value)->Prop:=Paired fun p q=>qBl p.1 q.1/\qBl p.2 q.2
def PPs (X:Cx) (pos:Pos) (keys:List (Option Expr)) (values:List Expr) (trs:List (TE×TE)):Prop :=
 ∀ (pins:List (Addr×Obj)) (s:Shared) (σ:St) (H:Hp) (Q:List (V×V)->Hp->Prop),Inv X pins σ H s->qMt trs σ H Q ->
  wpAny (model X.prog X.w) X.A (evalPairs (pairTrees keys values X.env pos)) (fun vs s'=>∃ ps H',Inv X pins σ H' s'/\VV ps vs/\Q ps H') X.xe s
theorem qJh {X:Cx} {pos:Pos}:PPs X pos [] [] []:=fun pins s σ H Q I h=>pairTrees_nil_walk ⟨[],H,I,.nil,h⟩
theorem qE7 {X:Cx} {pos:Pos} {k v:Expr} {ks:List (Option Expr)} {vs:List Expr} {tk tv:TE} {trs:List (TE×TE)} (hk:PE X k tk) (hv:PE X v tv) (hr:PPs X pos ks vs trs) :
  PPs X pos (some k :: ks) (v :: vs) ((tk,tv) :: trs):=fun pins s σ H Q I h =>
 pairTrees_cons_walk (thn (hk pins s σ H _ I h) fun u s1 ⟨x,H1,I1,rx,q1⟩=>thn (hv pins s1 σ H1 _ I1 q1) fun w2 s2 ⟨y,H2,I2,ry,q2⟩ =>
  thn (hr pins s2 σ H2 _ I2 q2) fun ws s3 ⟨ps,H3,I3,rel,q3⟩=>⟨(x,y) :: ps,H3,I3,.cons ⟨rx,ry⟩ rel,q3⟩)
def qFn (kvs more:List (Key×V)):List (Key×V):=more.foldl (fun acc kv=>qDe acc kv.1 kv.2) kvs
theorem KV.merge:∀ {more:List (Key×V)} {rs:List (Key×Value)} {kvs:List (Key×V)} {vs:List (Key×Value)},KV more rs->KV kvs vs->KV (qFn kvs more) (merged vs rs):=by
 intro more rs kvs vs r;unfold KV at r
 induction r generalizing kvs vs with
 | nil=>intro q;exact q
 | @cons p q ps qs h t ih =>
  intro r0;have e:KV (qDe kvs p.1 p.2) (stored vs q.1 q.2):=by
   have:=r0.put p.1 h.2;rw[<-h.1];exact this
  exact ih e
theorem qD3:∀ (more kvs:List (Key×V)),(qFn kvs more).length<=kvs.length+more.length
 | [],kvs=>by show kvs.length<=kvs.length+0;omega
 | p :: r,kvs=>by
  have h1:=qD3 r (qDe kvs p.1 p.2);have h2:=qCu kvs p.1 p.2;show(qFn (qDe kvs p.1 p.2) r).length<=_;rw[hBo];omega
theorem qGs {P:Program} {w:World}:∀ {kvs:List (Key×V)} {ws:List (Value×Value)},VV (kvs.map fun kv=>(kV kv.1,kv.2)) ws->∃ rs,Carries (qA2 P w) ws rs/\KV kvs rs
 | [],_,r=>by rw[List.map_nil]at r;cases r;exact⟨[],True.intro,.nil⟩
 | p :: kvs,_,r=>by
  rw[hB2]at r;cases r with
  | @cons a b as bs h t =>
   obtain⟨rs,c,q⟩:=qGs (P:=P) (w:=w) t;obtain⟨b1,b2⟩:=b;exact⟨(p.1,b2) :: rs,⟨qJs h.1,rfl,c⟩,.cons ⟨rfl,h.2⟩ q⟩
def qV1 (trs:List (TE×TE)):TE:=fun σ H Q=>∀ p,H p=none->qMt trs σ (upd H p (.dK [])) fun ps H2=>H2 p=some (.dK [])/\∃ kvs:List (Key×V),ps=kvs.map (fun kv=>(kV kv.1,kv.2))/\kvs.length<=15/\Q (.ref p) (upd H2 p (.dK (qFn [] kvs)))
theorem qJj {X:Cx} {pos:Pos} {keys:List (Option Expr)} {values:List Expr} {trs:List (TE×TE)} (h:PPs X pos keys values trs) (hall:keys.all (·.isSome)=true) (hl:keys.length=values.length) (h0:keys≠[])
  (h15:keys.length<=15):PE X (.Dict keys values pos) (qV1 trs):=by
 intro pins s σ H Q I q;have hn:=I.hok.fresh (hA4 s.heap.objs.size);have I1:=I.laid (a:=s.heap.objs.size) (o:=.dK []) (h':=s.heap.push { cls:=.type "dict",data:=.dict #[] }) (t':=s.toks) (fun _ _ q=>Heap.get?_push_of_some _ q) (hA4 _) (qLf s.heap I.big);refine wpAny_Dict_walk (knd:=qA2 X.prog X.w) hall hl h0 h15 (thn (h pins _ σ _ _ I1 (q _ hn)) fun ws s2 ⟨ps,H2,I2,rel,e,kvs,ep,lk,q2⟩=>?_);subst ep;obtain⟨rs,c,rk⟩:=qGs (P:=X.prog) (w:=X.w) rel;obtain⟨z,hd,vs0,r0,dd⟩:=qOv I2.hok e;cases r0;refine⟨rs,c,dd,fun h' dd' hs=>⟨.ref s.heap.objs.size,_,?_,rfl,q2⟩⟩;have hz:(qFn [] kvs).length<=sizeLine:=by
  have h1:=qD3 kvs [];rw[List.length_nil]at h1;rw[sizeLine_eq];omega
 have he:∃ q,h'.get? s.heap.objs.size=some q:=let ⟨q,_,_,hq,_⟩:=dd';⟨q,hq⟩;exact qJ4 I2 (by rw[e];exact True.intro) hs he (qOw hz hd (rk.merge .nil) dd')
structure M1 (X:Cx) (o:Expr) (m:Str) (apos:Pos) (e:Expr) (cpos:Pos):Prop where
 base:attributeBase o m X.env (eval o X.env)=eval o X.env
 few:((backTo cpos (starEach [e] X.env)).all (fun x=>!x.1) && (backToKw cpos (keywordEach [] X.env)).all (fun x=>x.1.isSome)
  && decide (([e]:List Expr).length+([]:List Keyword).length+(if ([]:List Keyword).isEmpty then 0 else 1)<30))=true
 line:(apos.endLine == cpos.line)=true
 trees:backTo cpos (starEach [e] X.env)=[(false,eval e X.env)]
structure M2 (X:Cx) (o:Expr) (m:Str) (apos:Pos) (e f:Expr) (cpos:Pos):Prop where
 base:attributeBase o m X.env (eval o X.env)=eval o X.env
 few:((backTo cpos (starEach [e,f] X.env)).all (fun x=>!x.1) && (backToKw cpos (keywordEach [] X.env)).all (fun x=>x.1.isSome)
  && decide (([e,f]:List Expr).length+([]:List Keyword).length+(if ([]:List Keyword).isEmpty then 0 else 1)<30))=true
 line:(apos.endLine == cpos.line)=true
 trees:backTo cpos (starEach [e,f] X.env)=[(false,eval e X.env),(false,eval f X.env)]
def IsD (H:Hp) (a:Addr):Prop:=(∃ kvs,Rd H a (.dK kvs))\/∃ kvs,Rd H a (.dT kvs)
theorem qU4 {X:Cx} {pins:List (Addr×Obj)} {σ:St} {H:Hp} {s:Shared} {a:Addr} (I:Inv X pins σ H s) (d:IsD H a) :
  s.TypeIs (.ref a) "dict"/\(∀ b,Value.ref a = .ref b->∃ ob,s.heap.get? b=some ob/\ob.dict=none)/\(a == sysModules)=false:=by
 rcases d with ⟨kvs,e⟩ | ⟨kvs,e⟩
 ·obtain⟨_,hd,vs,_,dd⟩:=qL7 I.hok e;refine⟨dd.typeIs,fun b q=>?_,hd⟩;cases q;obtain⟨ob,_,_,h1,h2,_⟩:=dd;exact⟨ob,h1,h2.2.1⟩
 ·obtain⟨_,hd,xs,_,dd⟩:=qL5 I.hok e;refine⟨dd.typeIs,fun b q=>?_,hd⟩;cases q;obtain⟨ob,_,_,h1,h2,_⟩:=dd;exact⟨ob,h1,h2.2.1⟩
section
variable {X:Cx} {pins:List (Addr×Obj)} {σ:St} {H:Hp} {s:Shared} {a:Addr} {y d:V} {u r:Value} {o:Option V} {A:Around} {E:Value->Shared->Prop}
theorem qVe {Q:Value->Shared->Prop} (hu:A.units+1<cLine) (I:Inv X pins σ H s) (g:qI2 H a y o) (ry:qBl y u) (rd:qBl d r) (h:∀ w' s',Inv X pins σ H s'->qBl (o.getD d) w'->Q w' s') :
  wpAny (model X.prog X.w) A (call (.builtin "dict.get") [.ref a,u,r]) Q E s:=by
 rcases g with ⟨kvs,k,e,ey,l⟩ | ⟨kvs,k,b,e,ey,eb,l⟩
 ·subst ey;obtain⟨z,hd,vs,rel,dd⟩:=qL7 I.hok e;refine call_meetsIn PySem.F.slot_dict_get dd.typeIs PySem.F.entry_dict_get (PySem.F.args_dict_get_3 _ _ _) (meets_dict_get_default (qA2 X.prog X.w) a (qJs ry) hd r) ⟨_,dd.mapOf,h _ _ (I.tok _) ?_⟩;rw[l];exact(rel.val k).getD rd
 ·subst ey;cases(show u=Value.ref b from ry);obtain⟨z,hd,xs,rel,dd⟩:=qL5 I.hok e;refine call_meetsIn PySem.F.slot_dict_get dd.typeIs PySem.F.entry_dict_get (PySem.F.args_dict_get_3 _ _ _) (meetsH_dict_get_default (tupleKind (qA2 X.prog X.w)) a b hd r) ⟨tupleKind_room_in1 hu,k,xs,qIl I.hok eb,dd,h _ _ (I.tok _) ?_⟩;rw[l];exact(rel.val k).getD rd
end
def qQq (td ty tx:TE):TE:=fun σ H Q=>td σ H fun x H1=>∃ a,x = .ref a/\IsD H1 a/\ty σ H1 fun y H2=>tx σ H2 fun z H3=>∃ o,qI2 H3 a y o/\Q (o.getD z) H3
section
variable {X:Cx} {o e f:Expr} {apos cpos:Pos} {td ty tx:TE}
theorem qHd (hu:X.A.units+1<cLine) (ho:PE X o td) (he:PE X e ty) (hf:PE X f tx) (m:M2 X o "get" apos e f cpos):PE X (.Call (.Attribute o "get" apos) [e,f] [] cpos) (qQq td ty tx):=by
 intro pins s σ H Q I h;refine wpAny_Call_method m.base m.few m.line PySem.F.plainAttrs_dict PySem.F.slot_dict_get PySem.F.type_dict_get (thn (ho pins s σ H _ I h) fun u s1 ⟨x,H1,I1,rx,a,ex,d,q1⟩=>?_);subst ex;obtain rfl:u=Value.ref a:=rx;obtain⟨t1,t2,_⟩:=qU4 I1 d;refine⟨t1,t2,?_⟩;rw[m.trees];refine Calls.callWith_builtin rfl (Calls.evalArgs_plain (Calls.spliced_cons (thn (he pins s1 σ H1 _ I1 q1) fun iv s2 ⟨y,H2,I2,ry,q2⟩ =>
  Calls.spliced_cons (thn (hf pins s2 σ H2 _ I2 q2) fun fv s3 ⟨z,H3,I3,rz,ov,g,q3⟩=>Calls.spliced_nil ?_))))
 exact qVe hu I3 g ry rz fun w' s4 I4 rw'=>⟨_,H3,I4,rw',q3⟩
end
end L2
namespace L2
open PySem PySem.Spec PyProof.Rows
section
variable {κ:Type} [DecidableEq κ]
theorem qPi {kvs:List (κ×V)} {k:κ} (h:valV kvs k=none):¬k∈kvs.map (·.1):=by
 intro m;obtain⟨p,hp,e⟩:=hAj.mp m;have q:(kvs.any fun kv=>decide (kv.1=k))=true:=List.any_eq_true.mpr ⟨p,hp,decide_eq_true e⟩;rw[qE4,h]at q;exact absurd q (by simp)
end
end L2
namespace L2
open PySem PySem.Spec PyProof.Rows
def qCc (cells:List (Str×Addr)):List (Str×NameKind)->List (Str×Addr)->List (Str×Addr)
 | [],acc=>acc
 | (n,k) :: r,acc=>if k == .free then qCc cells r ((n,(cells.lookup n).getD 0) :: acc) else qCc cells r acc
theorem qGr (env:Env) (f:Str×NameKind->List (Str×Addr)->Sem (ForInStep (List (Str×Addr))))
  (hf:∀ n k cs,f (n,k) cs=if k == .free then (do let a ← cellOf env n;pure (.yield ((n,a) :: cs))) else pure (.yield cs)) :
  ∀ (names:List (Str×NameKind)) (acc:List (Str×Addr)),(∀ x∈names,x.2 = .free->∃ c,env.cells.lookup x.1=some c)->forIn names acc f=pure (qCc env.cells names acc)
 | [],acc,_=>by rw[List.forIn_nil];rfl
 | (n,k) :: r,acc,h=>by
  have ih:=qGr env f hf r;rw[List.forIn_cons,hf];unfold qCc;by_cases hk:(k == NameKind.free)=true
  ·rw[if_pos hk,if_pos hk];obtain⟨c,hc⟩:=h (n,k) hA6 (by simpa using hk);have e:cellOf env n=pure c:=by unfold cellOf;rw[hc]
   rw[e,hc];exact ih _ fun x hx=>h x (hA5 _ hx)
  ·rw[if_neg hk,if_neg hk];exact ih _ fun x hx=>h x (hA5 _ hx)
theorem qHu (h:∀ x∈scope.names,x.2 = .free->∃ c,env.cells.lookup x.1=some c):closureFor scope env=pure (qCc env.cells scope.names []):=by
 simp only[closureFor];rw[qGr env _ (fun n k cs=>by cases hk:k == NameKind.free <;> simp[hk]) scope.names [] h];rfl
theorem closL_mem:∀ {names:List (Str×NameKind)} {acc:List (Str×Addr)} {x:Str} {c:Addr},(x,c)∈qCc cells names acc->(x,c)∈acc\/((x,NameKind.free)∈names/\c=(cells.lookup x).getD 0)
 | [],acc,x,c,h=>.inl h
 | (n,k) :: r,acc,x,c,h=>by
  unfold qCc at h;by_cases hk:(k == NameKind.free)=true
  ·rw[if_pos hk]at h;rcases closL_mem h with q | ⟨q,e⟩
   ·rcases hA9.mp q with z | z
    ·cases z;exact .inr ⟨by rw[show NameKind.free=k from (by simpa using hk:k=NameKind.free).symm];exact hA6,rfl⟩
    ·exact .inl z
   ·exact .inr ⟨hA5 _ q,e⟩
  ·rw[if_neg hk]at h;rcases closL_mem h with q | ⟨q,e⟩
   ·exact .inl q
   ·exact .inr ⟨hA5 _ q,e⟩
theorem qE1 {α:Type} {x n:Str} {c:α} {l:List (Str×α)} (h:(l.lookup x).isSome=true):(((n,c) :: l).lookup x).isSome=true:=by
 rw[hBv];cases x == n <;> simp[h]
theorem qDh {cells:List (Str×Addr)} {x:Str}:∀ {names:List (Str×NameKind)} {acc:List (Str×Addr)},((x,NameKind.free)∈names\/(acc.lookup x).isSome=true)->((qCc cells names acc).lookup x).isSome=true
 | [],acc,h=>by
  rcases h with h | h
  ·cases h
  ·exact h
 | (n,k) :: r,acc,h=>by
  unfold qCc;by_cases hk:(k == NameKind.free)=true
  ·rw[if_pos hk];refine qDh ?_;rcases h with h | h
   ·rcases hA9.mp h with z | z
    ·cases z;exact .inr (by rw[hBv];simp)
    ·exact .inl z
   ·exact .inr (qE1 h)
  ·rw[if_neg hk];refine qDh ?_;rcases h with h | h
   ·rcases hA9.mp h with z | z
    ·cases z;exact absurd rfl hk
    ·exact .inl z
   ·exact .inr h
theorem cellsFrom_mem:∀ {names:List (Str×NameKind)} {n:Nat} {acc:List (Str×Addr)} {x:Str} {c:Addr},(x,c)∈cellsFrom n names acc->(x,c)∈acc\/(x,NameKind.cell)∈names
 | [],_,_,_,_,h=>.inl h
 | (y,k) :: r,n,acc,x,c,h=>by
  unfold cellsFrom at h;by_cases hk:(k == NameKind.cell)=true
  ·rw[if_pos hk]at h;rcases cellsFrom_mem h with q | q
   ·rcases hA9.mp q with z | z
    ·cases z;exact .inr (by rw[show NameKind.cell=k from (by simpa using hk:k=NameKind.cell).symm];exact hA6)
    ·exact .inl z
   ·exact .inr (hA5 _ q)
  ·rw[if_neg hk]at h;rcases cellsFrom_mem h with q | q
   ·exact .inl q
   ·exact .inr (hA5 _ q)
structure CellsTwo (h:Heap) (lo:Nat) (acc cs:List (Str×Addr)):Prop where
 part:∀ x c,(x,c)∈cs->(x,c)∈acc\/(h.IsCell c none/\lo<=c)
 inj:∀ x y c,lo<=c->(x,c)∈cs->(y,c)∈cs->x=y
theorem qCw:∀ (names:List (Str×NameKind)) (h:Heap) (lo:Nat) (acc:List (Str×Addr)),CellsTwo h lo acc0 acc->(∀ x c,(x,c)∈acc->c<h.objs.size)->lo<=h.objs.size ->
  CellsTwo (pushCells h names) lo acc0 (cellsFrom h.objs.size names acc)
 | [],_,_,_,x,_,_=>x
 | (name,kind) :: r,h,lo,acc,x,hl,hlo=>by
  unfold pushCells cellsFrom;split
  ·have:=qCw (acc0:=acc0) r (h.push { cls:=.type "cell",data:=.cell none }) lo ((name,h.objs.size) :: acc)
    ⟨fun n c hm=>by
      rcases hA9.mp hm with e | hm
      ·cases e;exact .inr ⟨⟨_,Heap.get?_push_size _ rfl,rfl⟩,hlo⟩
      ·rcases x.part n c hm with q | q
       ·exact .inl q
       ·exact .inr ⟨q.1.keeps fun b o e=>Heap.get?_push_of_some _ e,q.2⟩,
     fun a b c hc h1 h2=>by
      rcases hA9.mp h1 with e1 | h1 <;> rcases hA9.mp h2 with e2 | h2
      ·cases e1;cases e2;rfl
      ·cases e1;exact absurd (hl _ _ h2) (hB3 _)
      ·cases e2;exact absurd (hl _ _ h1) (hB3 _)
      ·exact x.inj a b c hc h1 h2⟩
    (fun n c hm=>by
     rw[Heap.size_push];rcases hA9.mp hm with e | hm
     ·cases e;exact hB8 _
     ·exact hAs (hl n c hm)) (by rw[Heap.size_push];omega)
   rwa [Heap.size_push]at this
  ·exact qCw r h lo acc x hl hlo
def qBz (env:Env) (scope:Scope) (C:Addr):Env :=
 { scope:=relabel scope env,locals:=C,globals:=env.globals,cells:=cellsFrom (C+1) scope.names (qCc env.cells scope.names []),qual:=env.qual,func:=none,code:=env.code,frame:=env.frame,builtins:=env.builtins }
theorem qDu
  (hQ:Q { scope:=scope,locals:=s.heap.objs.size,globals:=env.globals,cells:=cellsFrom (s.heap.objs.size+1) scope.names cl,qual:=env.qual,func:=none,code:=env.code,frame:=env.frame,builtins:=env.builtins }
   { s with heap:=pushCells (s.heap.push { cls:=.type "dict",data:=.dict #[] }) scope.names }) :
  wpAny M A (newFunctionEnv scope env.globals cl [] env.qual none .none (some env)) Q E s:=by
 simp only[newFunctionEnv,Option.isSome_some,if_true];refine wpAny_bind (wpAny_alloc ?_);refine wpAny_bind (wpAny_layCells _ (fun name kind cells=>by cases hkc:kind == NameKind.cell <;> simp[hkc]) _ _ _ _ ?_);rw[show({ s with heap:=s.heap.push { cls:=.type "dict",data:=.dict #[] } }:Shared).heap.objs.size=s.heap.objs.size+1 from Heap.size_push ..];rw[List.forIn_nil];exact wpAny_bind (wpAny_pure (wpAny_pure hQ))
theorem qIt (I:Nat->Shared->Prop)
  (turn:∀ n s,I n s->wpAny (model prog w) A (pyNext it) (fun r s₁=>match r with
   | none=>R (.ok .next) s₁
   | some v=>wpAny (model prog w) A (letOwnedTupleGo target it v) (fun _ s₁'=>wpAny (model prog w) A (assign target env v) (fun _ s₂ =>
     wpAny (model prog w) A (forIn ifs true fun c r=>if r=true then do let ok ← isTrue c env (eval c env);pure (ForInStep.yield ok) else pure (ForInStep.yield r)) (fun ok s₃ =>
      if ok=true then wpAny (model prog w) A (eval elt env) (fun x s₄ =>
       wpAny (model prog w) A (call (.builtin "list.append") [acc,x]) (fun _ s₅=>∃ m,m<n/\I m s₅) (fun _ _=>False) s₄) (fun _ _=>False) s₃
      else ∃ m,m<n/\I m s₃) (fun _ _=>False) s₂) (fun _ _=>False) s₁') (fun _ _=>False) s₁) (fun _ _=>False) s)
  (n:Nat) (h:I n s) :
  codeAny (model prog w) A (.compLoop (.ListComp elt [⟨target,iter,ifs,0⟩] scope pos) 0 it acc env) R s:=by
 refine codeAny_loop rfl I (fun n s hI=>?_) n h;show wpAny _ A ((compTurn (.ListComp elt [⟨target,iter,ifs,0⟩] scope pos) 0 it acc env).onRaise (fun x=>do noteFrame x env;theTreesLotGoes x)) _ _ s;refine wpAny_noted ?_;rw[compTurn_list];refine wpAny_bind (wpAny_standAt (wpAny_bind (wpAny_mono (turn n s hI) (fun r s₁ h₁=>?_) fun _ _ h'=>h'.elim)));cases r with
 | none=>exact wpAny_pure h₁
 | some v =>
  refine wpAny_bind (wpAny_mono h₁ (fun _ s₁' h₁=>?_) fun _ _ h'=>h'.elim);refine wpAny_bind (wpAny_mono h₁ (fun _ s₂ h₂=>wpAny_bind (wpAny_mono h₂ (fun ok s₃ h₃=>?_) fun _ _ h'=>h'.elim)) fun _ _ h'=>h'.elim);cases ok with
  | false=>exact wpAny_pure ⟨rfl,h₃⟩
  | true =>
   exact wpAny_bind (wpAny_bind (wpAny_mono h₃ (fun x s₄ h₄=>wpAny_bind (wpAny_mono h₄ (fun _ s₅ h₅=>wpAny_pure (wpAny_pure ⟨rfl,h₅⟩)) fun _ _ h'=>h'.elim)) fun _ _ h'=>h'.elim))
end L2
namespace L2
open PySem PySem.Spec PyProof.Rows
def qBr (X:Cx) (scope:Scope) (N':List Str) (C:Addr) (s:Shared) (H:Hp) (fp:List Addr):Cx :=
 { X with N:=N',s₀:=s,H₀:=H,env:=qBz X.env scope C,outer:=X.stack,stack:=X.stack,ex:=fp,fn:=fun x=>!(scope.names.lookup x == some .free),pn:=[],xe:=fun _ _=>False }
def subσ (sub:List (Option Nat)) (σ:St):St:=sub.map fun o=>o.bind fun i=>(σ[i]?).join
def qRi (N:List Str) (sc:Scope) (N':List Str) (scope:Scope) (sub:List (Option Nat)):Bool :=
 scope.kind == .function && decide ((scope.names.map (·.1)).Nodup) && decide N'.Nodup && sub.length == N'.length &&
 (scope.names.all fun x=>!(x.2 == .free) || sc.names.lookup x.1 == some .cell || sc.names.lookup x.1 == some .free) &&
 ((sub.zip N').all fun p=>match p.1 with
  | none=>true
  | some i=>N[i]? == some p.2 && scope.names.lookup p.2 == some .free)
structure CmpOk (N:List Str) (sc:Scope) (N':List Str) (scope:Scope) (sub:List (Option Nat)):Prop where
 kind:scope.kind = .function
 nd:(scope.names.map (·.1)).Nodup
 nd':N'.Nodup
 len:sub.length=N'.length
 free:∀ x∈scope.names,x.2 = .free->sc.names.lookup x.1=some .cell\/sc.names.lookup x.1=some .free
 sub:∀ (j i:Nat) (x:Str),sub[j]?=some (some i)->N'[j]?=some x->N[i]?=some x/\scope.names.lookup x=some .free
theorem CmpOk.of {N:List Str} {sc:Scope} {N':List Str} {scope:Scope} {sub:List (Option Nat)} (h:qRi N sc N' scope sub=true):CmpOk N sc N' scope sub:=by
 unfold qRi at h;simp only[hBm]at h;obtain⟨⟨⟨⟨⟨h1,h2⟩,h3⟩,h4⟩,h5⟩,h6⟩:=h;refine⟨by simpa using h1,of_decide_eq_true h2,of_decide_eq_true h3,by simpa using h4,fun x hx hf=>?_,fun j i x hj hx=>?_⟩
 ·have q:=hB9.mp h5 x hx;rw[hf]at q;simp only[beq_self_eq_true,Bool.not_true,Bool.false_or,Bool.or_eq_true]at q;rcases q with q | q
  ·exact .inl (by simpa using q)
  ·exact .inr (by simpa using q)
 ·have q:=hB9.mp h6 (some i,x) (by
   refine hAm (i:=j) ?_;rw[List.getElem?_zip_eq_some];exact⟨hj,hx⟩)
  simp only[hBm]at q;exact⟨by simpa using q.1,by simpa using q.2⟩
theorem qBm:∀ {l:List (Str×α)} {x:Str} {c:α},(l.map (·.1)).Nodup->(x,c)∈l->l.lookup x=some c
 | (y,d) :: r,x,c,nd,h=>by
  rw[hBv];rcases hA9.mp h with e | h
  ·cases e;simp
  ·have ne:x≠y:=fun e=>by
    rw[hB2]at nd;exact(hBt.mp nd).1 (by rw[<-e];exact hAj.mpr ⟨(x,c),h,rfl⟩)
   rw[show(x == y)=false from by simpa using ne];exact qBm (hBt.mp nd).2 h
theorem qC7 {sc:Scope}:∀ {names:List (Str×NameKind)} {x:Str},
  ((names.map fun (n,k)=>if (k == NameKind.free && sc.kind == .function && sc.names.lookup n == some .cell) then (n,NameKind.cell) else (n,k)).lookup x) =
   (names.lookup x).map fun k=>if (k == NameKind.free && sc.kind == .function && sc.names.lookup x == some .cell) then NameKind.cell else k
 | [],x=>rfl
 | (n,k) :: r,x=>by
  have ih:=@qC7 sc r x;rw[hB2];show List.lookup x ((if (k == NameKind.free && sc.kind == .function && sc.names.lookup n == some .cell)=true then (n,NameKind.cell) else (n,k)) :: _)=_;by_cases hc:(k == NameKind.free && sc.kind == .function && sc.names.lookup n == some .cell)=true
  ·rw[if_pos hc,hBv,hBv];by_cases hx:x=n
   ·subst hx;rw[show(x == x)=true from beq_self_eq_true x];show some NameKind.cell=Option.map _ (some k);rw[hC3,if_pos hc]
   ·rw[show(x == n)=false by simpa using hx];exact ih
  ·rw[if_neg hc,hBv,hBv];by_cases hx:x=n
   ·subst hx;rw[show(x == x)=true from beq_self_eq_true x];show some k=Option.map _ (some k);rw[hC3,if_neg hc]
   ·rw[show(x == n)=false by simpa using hx];exact ih
section
variable {X:Cx} {pins:List (Addr×Obj)} {σ:St} {H H':Hp} {s:Shared}
theorem qGp (I:Inv X pins σ H s) (hb:b∈frs X.stack) (n1:b≠X.env.locals):b∈X.fs:=(hA9.mp (I.stkSub b hb)).elim (fun e=>absurd e n1) id
theorem qFx {N':List Str} {scope:Scope} {sub:List (Option Nat)} {h3:Heap} (I:Inv X pins σ H s) (O:CmpOk X.N X.env.scope N' scope sub)
  (hk:∀ b o,s.heap.get? b=some o->h3.get? b=some o) :
  (∀ x c,(cellsFrom (h3.objs.size+1) scope.names (qCc X.env.cells scope.names [])).lookup x=some c ->
   (((pushCells (h3.push { cls:=.type "dict",data:=.dict #[] }) scope.names).IsCell c none/\h3.objs.size+1<=c/\(x,NameKind.cell)∈scope.names)\/((x,NameKind.free)∈scope.names/\X.env.cells.lookup x=some c))) /\
  (∀ x y c,(cellsFrom (h3.objs.size+1) scope.names (qCc X.env.cells scope.names [])).lookup x=some c->(cellsFrom (h3.objs.size+1) scope.names (qCc X.env.cells scope.names [])).lookup y=some c->x=y):=by
 have hin:∀ x c,(x,c)∈qCc X.env.cells scope.names []->(x,NameKind.free)∈scope.names/\X.env.cells.lookup x=some c:=fun x c h=>by
  rcases closL_mem h with q | ⟨q,e⟩
  ·cases q
  ·have hx:∃ c,X.env.cells.lookup x=some c:=by
    refine I.ok.has x ?_;rcases O.free _ q rfl with z | z
    ·exact .inl z
    ·exact .inr z
   obtain⟨c',hc'⟩:=hx;rw[hc']at e;exact⟨q,by rw[hc',e];rfl⟩
 have hlt:∀ x c,(x,c)∈qCc X.env.cells scope.names []->c<h3.objs.size:=fun x c h=>by
  obtain⟨v,o,ho,_⟩:=I.cell x c (hin x c h).2;exact Heap.lt_size (hk _ _ ho)
 have two:=qCw (acc0:=qCc X.env.cells scope.names []) scope.names (h3.push { cls:=.type "dict",data:=.dict #[] }) (h3.objs.size+1) (qCc X.env.cells scope.names [])
  ⟨fun x c h=>.inl h,fun x y c hc h1 _=>absurd (hlt x c h1) (Nat.not_lt.mpr (Nat.le_of_succ_le hc))⟩ (fun x c h=>by rw[Heap.size_push];exact hAs (hlt x c h)) (by rw[Heap.size_push];exact hA4 _)
 rw[Heap.size_push]at two;refine⟨fun x c h=>?_,fun x y c h1 h2=>?_⟩
 ·have m:=hB0 h;rcases two.part x c m with q | q
  ·exact .inr (hin x c q)
  ·refine .inl ⟨q.1,q.2,?_⟩;rcases cellsFrom_mem m with z | z
   ·exact absurd (hlt x c z) (Nat.not_lt.mpr (Nat.le_of_succ_le q.2))
   ·exact z
 ·have m1:=hB0 h1;have m2:=hB0 h2;by_cases hc:h3.objs.size+1<=c
  ·exact two.inj x y c hc m1 m2
  ·rcases two.part x c m1 with q1 | q1
   ·rcases two.part y c m2 with q2 | q2
    ·exact I.ok.inj x y c (hin x c q1).2 (hin y c q2).2
    ·exact absurd q2.2 hc
   ·exact absurd q1.2 hc
theorem qQe {N':List Str} {scope:Scope} {sub:List (Option Nat)} {fp:List Addr} (I:Inv X pins σ H s) (O:CmpOk X.N X.env.scope N' scope sub) (hf:∀ b∈fp,qHz X pins H b)
  (hfl:∀ b∈fp,b<s.heap.objs.size) :
  Inv (qBr X scope N' (s.heap.objs.size+1) s H fp) [(s.heap.objs.size,{ cls:=.type "list",data:=.seq #[] })] (subσ sub σ) H
   { s with heap:=pushCells ((s.heap.push { cls:=.type "list",data:=.seq #[] }).push { cls:=.type "dict",data:=.dict #[] }) scope.names }:=by
 have hk3:∀ b o,s.heap.get? b=some o->(s.heap.push { cls:=.type "list",data:=.seq #[] }).get? b=some o:=fun b o e=>Heap.get?_push_of_some _ e
 have sz3:(s.heap.push { cls:=.type "list",data:=.seq #[] }).objs.size=s.heap.objs.size+1:=Heap.size_push ..;have hk:∀ b o,s.heap.get? b=some o->(pushCells ((s.heap.push { cls:=.type "list",data:=.seq #[] }).push { cls:=.type "dict",data:=.dict #[] }) scope.names).get? b=some o :=
  fun b o e=>pushCells_keeps _ _ b o (Heap.get?_push_of_some _ (hk3 b o e))
 have cf:=qFx (h3:=s.heap.push { cls:=.type "list",data:=.seq #[] }) I O hk3;rw[sz3]at cf;have hC:H (s.heap.objs.size+1)=none:=I.hok.fresh (hAu _);have nsC:(pushCells ((s.heap.push { cls:=.type "list",data:=.seq #[] }).push { cls:=.type "dict",data:=.dict #[] }) scope.names).Ns (s.heap.objs.size+1) (fun _=>none):=by
  rw[<-sz3];exact(Heap.Ns.new _ _).keeps (pushCells_keeps _ _)
 have has:∀ x,(scope.names.lookup x=some .cell\/scope.names.lookup x=some .free)->∃ c,(cellsFrom (s.heap.objs.size+1+1) scope.names (qCc X.env.cells scope.names [])).lookup x=some c:=fun x hx=>by
  refine Option.isSome_iff_exists.mp (hC0 _ _ _ ?_);rcases hx with z | z
  ·exact .inl z
  ·exact .inr (qDh (.inl (hB0 z)))
 have kindB:∀ x,(qBz X.env scope (s.heap.objs.size+1)).kindOf x=(scope.names.lookup x).map fun k=>if (k == NameKind.free && X.env.scope.kind == .function && X.env.scope.names.lookup x == some .cell) then NameKind.cell else k:=fun x=>qC7
 have cellOk:∀ x c,(qBz X.env scope (s.heap.objs.size+1)).cells.lookup x=some c->∃ v,(pushCells ((s.heap.push { cls:=.type "list",data:=.seq #[] }).push { cls:=.type "dict",data:=.dict #[] }) scope.names).IsCell c v:=fun x c h=>by
  rcases cf.1 x c h with q | q
  ·exact⟨_,q.1⟩
  ·obtain⟨v,z⟩:=I.cell x c q.2;exact⟨v,z.keeps hk⟩
 refine⟨⟨I.ok.mod,O.kind,I.ok.glob,I.ok.blt,hAu _,fun x y c h1 h2=>cf.2 x y c h1 h2,fun x hx=>?_,fun x c hx h=>?_,I.ok.hd,I.ok.frames,.inl rfl,fun b hb=>?_,fun b o e=>I.bs b o e,hAt I.ok.bsz I.sz,fun b o e hb=>?_,fun b hb=>?_,I.stack,I.stkFree⟩,
  rfl,I.bare,Un.kept hk,⟨fun _=>none,nsC,fun i x v h1 h2 h3=>?_⟩,cellOk,hC,fun x c h=>?_,fun p hp=>?_,I.hok.kept hk,?_⟩
 ·-- has
  refine has x ?_;have hx:(qBz X.env scope (s.heap.objs.size+1)).kindOf x=some .cell\/(qBz X.env scope (s.heap.objs.size+1)).kindOf x=some .free:=hx;rw[kindB]at hx;cases e:scope.names.lookup x with
  | none=>rw[e]at hx;rcases hx with z | z <;> cases z
  | some k =>
   rw[e]at hx;cases k with
   | cell=>exact .inl rfl
   | free=>exact .inr rfl
   | _=>exfalso;rcases hx with z | z <;> simp at z
 ·-- cab
  rcases cf.1 x c h with q | q
  ·have:=q.2.1;show s.heap.objs.size<=c;omega
  ·exfalso;have e:=qBm O.nd q.1;have hx':(!(scope.names.lookup x == some NameKind.free))=true:=hx;rw[e]at hx';exact absurd hx' (by decide)
 ·-- exf
  obtain⟨f0,f1,f2,f3,f4,f5⟩:=hf b hb;have lt:=hfl b hb;refine⟨fun e=>?_,fun x c h e=>?_⟩
  ·have e':b=s.heap.objs.size+1:=e;rw[e']at lt;exact absurd lt (Nat.not_lt.mpr (hAu _))
  ·rcases cf.1 x c h with q | q
   ·have z:=q.2.1;rw[e]at z;exact absurd lt (Nat.not_lt.mpr (hAt (hAt (hAu _) (hAu _)) z))
   ·exact f4 x c q.2 e
 ·-- noex
  obtain⟨f0,f1,f2,f3,f4,f5⟩:=hf b hb;rcases f3 with z | z
  ·exact I.ok.noex b o e z
  ·exact absurd (hAo (Heap.lt_size (I.ok.bs b o e).1) z) (hB3 _)
 ·-- exfs
  obtain⟨f0,f1,f2,f3,f4,f5⟩:=hf b hb;exact fun z=>f2 (qGp I z f1)
 ·-- loc
  have h1':N'[i]?=some x:=h1;have hsub:∃ k,sub[i]?=some (some k)/\(σ[k]?).join=some v:=by
   unfold subσ at h2;rw[hAl]at h2;cases e:sub[i]? with
   | none=>rw[e]at h2;cases h2
   | some o =>
    rw[e]at h2;cases o with
    | none=>cases h2
    | some k=>exact⟨k,rfl,by simpa using h2⟩
  obtain⟨k,hk1,hk2⟩:=hsub;obtain⟨nk,fx⟩:=O.sub i k x hk1 h1';have sk:σ[k]?=some (some v):=by
   cases e:σ[k]? with
   | none=>rw[e]at hk2;cases hk2
   | some o=>rw[e]at hk2;cases o with
    | none=>cases hk2
    | some y=>cases hk2;rfl
  have cx:=O.free _ (hB0 fx) rfl;obtain⟨m,hn,hl⟩:=I.loc;obtain⟨u,ru,lk⟩:=hl k x v nk sk (by
   rcases cx with z | z
   ·exact .inr (.inl z)
   ·exact .inr (.inr z))
  refine⟨u,ru,.inr ⟨?_,?_⟩⟩
  ·show(qBz X.env scope (s.heap.objs.size+1)).kindOf x=some .cell\/(qBz X.env scope (s.heap.objs.size+1)).kindOf x=some .free;rw[kindB,fx];by_cases hc:(NameKind.free == NameKind.free && X.env.scope.kind == .function && X.env.scope.names.lookup x == some .cell)=true
   ·exact .inl (by rw[hC3,if_pos hc])
   ·exact .inr (by rw[hC3,if_neg hc])
  ·rcases lk with ⟨kl,_⟩ | ⟨_,c,hc,hcell⟩
   ·exfalso;have kl':X.env.scope.names.lookup x=some .local:=kl;rcases cx with z | z <;> rw[kl']at z <;> cases z
   ·obtain⟨c',hc'⟩:=has x (.inr fx);refine⟨c',hc',?_⟩;rcases cf.1 x c' hc' with q | q
    ·exfalso;have e:=qBm O.nd q.2.2;rw[fx]at e;cases e
    ·rw[hc]at q;have e:c=c':=hAg q.2;subst e;exact hcell.keeps hk
 ·-- freeC
  rcases cf.1 x c h with q | q
  ·exact I.hok.fresh (by have:=q.2.1;omega)
  ·exact I.freeC x c q.2
 ·-- pin
  have hp':p=(s.heap.objs.size,({ cls:=.type "list",data:=.seq #[] }:Obj)):=by
   have:p∈([]++[(s.heap.objs.size,({ cls:=.type "list",data:=.seq #[] }:Obj))]:List (Addr×Obj)):=hp
   simpa using this
  subst hp';refine⟨pushCells_keeps _ _ _ _ (Heap.get?_push_of_some _ (Heap.get?_push_size _ rfl)),I.hok.fresh (hA4 _),hAi (hB8 _),fun z=>?_,fun v z=>?_⟩
  ·rcases hA9.mp (I.stkSub _ z) with e | e
   ·exact absurd I.lt (by rw[<-e];exact hB3 _)
   ·exact I.nofs (hA4 _) e
  ·cases z
 ·-- len
  show(subσ sub σ).length=N'.length;unfold subσ;rw[hA1,O.len]
end
end L2
namespace L2
open PySem PySem.Spec PyProof.Rows
def Sle (σ σ2:St):Prop:=σ2.length=σ.length/\∀ (i:Nat) (v:V),σ[i]?=some (some v)->σ2[i]?=some (some v)
theorem Sle.refl (σ:St):Sle σ σ:=⟨rfl,fun _ _ h=>h⟩
theorem Sle.set (v:V) (h:Sle σ σ2) (hi:∀ u,σ[i]?≠some (some u)):Sle σ (σ2.set i (some v)):=by
 refine⟨by rw[List.length_set];exact h.1,fun j u hj=>?_⟩;have ne:i≠j:=fun e=>hi u (by rw[e];exact hj)
 rw[List.getElem?_set_ne ne];exact h.2 j u hj
def PTs (X:Cx) (ifs:List Expr) (t:TT):Prop :=
 ∀ (pins:List (Addr×Obj)) (s:Shared) (σ:St) (H:Hp) (Q:Bool->Hp->Prop),Inv X pins σ H s->t σ H Q ->
  wpAny (model X.prog X.w) X.A (forIn ifs true fun c r=>if r=true then do let ok ← isTrue c X.env (eval c X.env);pure (ForInStep.yield ok) else pure (ForInStep.yield r)) (TP X pins σ Q) X.xe s
def qMu:TT:=fun _ H Q=>Q true H
theorem qA5:PTs X [] qMu:=fun pins s σ H Q I h=>wpAny_tests_nil ⟨H,I,h⟩
theorem qCt (h:PT X c t):PTs X [c] t:=fun pins s σ H Q I hw=>wpAny_tests_one (h pins s σ H Q I hw)
def qCq (J:It) (σ0:St) (g:TG) (tt:TT) (te:TE) (Q:List V->Hp->Prop) (H1:Hp):Prop :=
 ∃ W:Nat->Nat->List V->Hp->Prop,(∃ m,W 0 m [] H1)/\∀ i m ys H,W i m ys H ->
  (J.stop i H/\Q ys H) \/
  (J.go i H/\∀ x H',J.yld i H x H'->g x σ0 H' fun σ2 H2=>Sle σ0 σ2/\tt σ2 H2 fun b H3 =>
   if b=true then te σ2 H3 (fun v H4=>ys.length<sizeLine/\∃ m',m'<m/\W (i+1) m' (ys++[v]) H4) else ∃ m',m'<m/\W (i+1) m' ys H3)
section
variable {X:Cx} {pins:List (Addr×Obj)} {σ:St} {H:Hp} {s:Shared}
theorem qIr {target iter elt:Expr} {ifs:List Expr} {scope:Scope} {pos:Pos} {N':List Str} {sub:List (Option Nat)} {J:It} {fp:List Addr} {it:Addr} {tn:Nat->Heap->Prop} {g:TG} {tt:TT} {te:TE}
  {Qe:List V->Hp->Prop} {E:Value->Shared->Prop} {RR:Value->Addr->Result->Shared->Prop}
  (hc:X.calm=true) (I:Inv X pins σ H s) (O:CmpOk X.N X.env.scope N' scope sub) (T:Turn X.prog X.w X.K target J fp it tn) (st:tn 0 s.heap) (hf:∀ b∈fp,qHz X pins H b)
  (B:∀ C s H fp,PG (qBr X scope N' C s H fp) target g/\PTs (qBr X scope N' C s H fp) ifs tt/\PE (qBr X scope N' C s H fp) elt te)
  (rd:qCq J (subσ sub σ) g tt te Qe H)
  (hRR:∀ (acc C:Addr) (ys:List V) (H':Hp) (s':Shared),Inv X pins σ (upd H' acc (.lst ys)) s'->qHz X pins (upd H' acc (.lst ys)) C->(∃ m,s'.heap.Ns C m)->H' acc=none->Qe ys H'->RR (.ref acc) C (.ok .next) s') :
  wpAny (model X.prog X.w) X.A (newList []) (fun acc s₃=>wpAny (model X.prog X.w) X.A (newFunctionEnv scope X.env.globals (qCc X.env.cells scope.names []) [] X.env.qual none .none (some X.env)) (fun cenv s₄ =>
   codeAny (model X.prog X.w) X.A (.compStart (.ListComp elt [⟨target,iter,ifs,0⟩] scope pos) 0 (.ref it) acc { cenv with scope:=relabel scope X.env }) (RR acc cenv.locals) s₄) E s₃) E s:=by
 refine wpAny_newObj_type (qDu ?_);have hfl:∀ b∈fp,b<s.heap.objs.size:=fun b hb=>by
  obtain⟨o,e,_⟩:=T.obj _ _ st b hb;exact Heap.lt_size e
 have I0:=qQe (sub:=sub) I O hf hfl;have sz3:(s.heap.push { cls:=.type "list",data:=.seq #[] }).objs.size=s.heap.objs.size+1:=Heap.size_push ..;dsimp only;show codeAny _ _ (.compStart _ 0 (.ref it) (.ref s.heap.objs.size) { scope:=relabel scope X.env,locals:=(s.heap.push { cls:=.type "list",data:=.seq #[] }).objs.size,globals:=X.env.globals,cells:=cellsFrom ((s.heap.push { cls:=.type "list",data:=.seq #[] }).objs.size+1) scope.names (qCc X.env.cells scope.names []),qual:=X.env.qual,func:=none,code:=X.env.code,frame:=X.env.frame,builtins:=X.env.builtins })
  (RR (.ref s.heap.objs.size) (s.heap.push { cls:=.type "list",data:=.seq #[] }).objs.size) { s with heap:=pushCells ((s.heap.push { cls:=.type "list",data:=.seq #[] }).push { cls:=.type "dict",data:=.dict #[] }) scope.names }
 rw[sz3];show codeAny _ _ (.compStart _ 0 (.ref it) (.ref s.heap.objs.size) (qBz X.env scope (s.heap.objs.size+1))) (RR (.ref s.heap.objs.size) (s.heap.objs.size+1)) _;generalize hs0:({ s with heap:=pushCells ((s.heap.push { cls:=.type "list",data:=.seq #[] }).push { cls:=.type "dict",data:=.dict #[] }) scope.names }:Shared)=s0 at I0 ⊢;have hk0:∀ b o,s.heap.get? b=some o->s0.heap.get? b=some o:=fun b o e=>by
  rw[<-hs0];exact pushCells_keeps _ _ b o (Heap.get?_push_of_some _ (Heap.get?_push_of_some _ e))
 have st0:tn 0 s0.heap:=T.keep _ _ _ st fun b hb o e=>hk0 b o e
 clear hs0 sz3;generalize hX:qBr X scope N' (s.heap.objs.size+1) s H fp=X' at I0;have xp:X'.prog=X.prog:=by rw[<-hX];rfl
 have xw:X'.w=X.w:=by rw[<-hX];rfl
 have xK:X'.K=X.K:=by rw[<-hX];rfl
 have xA:X'.A=X.A:=by rw[<-hX];rfl
 have xc:X'.calm=true:=by rw[<-hX];exact hc
 have xe:X'.env=qBz X.env scope (s.heap.objs.size+1):=by rw[<-hX];rfl
 have xx:X'.ex=fp:=by rw[<-hX];rfl
 have xo:X'.outer=X.stack:=by rw[<-hX];rfl
 have xf:X'.fs=frs X.stack:=by rw[<-hX];rfl
 have xpn:X'.pn=[]:=by rw[<-hX];rfl
 have x0:X'.s₀=s:=by rw[<-hX];rfl
 have xh:X'.H₀=H:=by rw[<-hX];rfl
 have xxe:X'.xe=fun _ _=>False:=by rw[<-hX];rfl
 obtain⟨hg,ht,he⟩:=B (s.heap.objs.size+1) s H fp;rw[hX]at hg ht he;clear hX;have stat:∀ {pl:List (Addr×Obj)} {H':Hp},(∀ p∈pl,p.1=s.heap.objs.size)->(∀ b∈fp,H' b=none)->∀ b∈fp,qHz X' pl H' b:=fun {pl H'} hp hn b hb=>by
  obtain⟨f0,f1,f2,f3,f4,f5⟩:=hf b hb;refine⟨hn b hb,(I0.ok.exf b (by rw[xx];exact hb)).1,I0.ok.exfs b (by rw[xx];exact hb),.inl (by rw[xx];exact hb),(I0.ok.exf b (by rw[xx];exact hb)).2,fun p hp'=>?_⟩;rw[xpn,List.nil_append]at hp';rw[hp p hp'];exact hBw (hfl b hb)
 obtain⟨W,⟨m0,w0⟩,turn⟩:=rd;have loop:∀ s3:Shared,s3=s0->codeAny (model X.prog X.w) X.A (.compLoop (.ListComp elt [⟨target,iter,ifs,0⟩] scope pos) 0 (.ref it) (.ref s.heap.objs.size) (qBz X.env scope (s.heap.objs.size+1))) (RR (.ref s.heap.objs.size) (s.heap.objs.size+1)) s3:=by
  intro s3 e3;refine qIt (fun n s'=>∃ (i:Nat) (ys:List V) (H':Hp) (its:List Value) (k:Nat),Inv X' [(s.heap.objs.size,{ cls:=.type "list",data:=.seq its.toArray k })] (subσ sub σ) H' s'/\qBe ys its/\ys.length<=sizeLine/\tn i s'.heap/\(∀ b∈fp,H' b=none)/\W i n ys H') ?_ m0
   ⟨0,[],H,[],0,by rw[e3];exact I0,.nil,hAk _,by rw[e3];exact st0,fun b hb=>(hf b hb).1,w0⟩
  rintro n s4 ⟨i,ys,H4,its,k,I4,rv,hz,st4,fr4,w4⟩;have pe:∀ p∈([(s.heap.objs.size,({ cls:=.type "list",data:=.seq its.toArray k }:Obj))]:List (Addr×Obj)),p.1=s.heap.objs.size:=fun p hp=>by
   rw[hA7]at hp;rw[hp]
  rcases turn i n ys H4 w4 with ⟨stop,q⟩ | ⟨go,step⟩
  ·-- the end
   have td:=T.done X' xp xw xK xc i _ s4 (subσ sub σ) H4 (fun _ _=>False) I4 (stat pe fr4) st4 stop;rw[xA]at td;refine thn td fun r s5 ⟨hr,I5⟩=>?_
   subst hr;have pa:=I5.pin (s.heap.objs.size,{ cls:=.type "list",data:=.seq its.toArray k }) (by rw[xpn];simp);have nacc:H4 s.heap.objs.size=none:=pa.2.1;have nC:H4 (s.heap.objs.size+1)=none:=by have z:=I5.free;rw[xe]at z;exact z
   have un:Un (frs X.stack) fp H H4 s.heap s5.heap:=by have z:=I5.base;rw[xf,xx,xh,x0]at z;exact z
   have un2:Un (frs X.stack) fp H (upd H4 s.heap.objs.size (.lst ys)) s.heap s5.heap:=by
    refine⟨un.keep,un.slot,fun b o e n hx=>?_,un.there,fun b xs e=>?_,fun b o u e=>?_,fun b ps e=>?_⟩
    ·rw[qAh (hAi (Heap.lt_size e))];exact un.free b o e n hx
    ·have z:=un.tups b xs e;rw[qAh (qAk z nacc)];exact z
    ·have z:=un.frzs b o u e;rw[qAh (qAk z nacc)];exact z
    ·obtain⟨more,z⟩:=un.tbls b ps e;exact⟨more,by rw[qAh (qAk z nacc)];exact z⟩
   have hok5:HOk X.prog X.w H4 s5.heap:=by have z:=I5.hok;rw[xp,xw]at z;exact z
   have hok2:HOk X.prog X.w (upd H4 s.heap.objs.size (.lst ys)) s5.heap:=fun b u e=>by
    by_cases hb:b=s.heap.objs.size
    ·subst hb;rw[upd_same]at e;cases e;exact⟨hz,its,k,rv,pa.1⟩
    ·rw[qAh hb]at e;exact(hok5 b u e).stay (fun _ _ _ q=>q) (fun c q=>by rw[qAh (qAk q nacc)];exact q) fun c xs q=>by rw[qAh (qAk q nacc)];exact q
   have os5:s5.os=s.os:=by have z:=I5.os;rw[x0]at z;exact z
   have J5:Inv X pins σ (upd H4 s.heap.objs.size (.lst ys)) s5:=I.call' os5 un2 hok2 I5.bare fun b hb=>by
    obtain⟨f0,f1,f2,f3,f4,f5⟩:=hf b hb;exact⟨f3,f1,f4,f5⟩
   refine hRR _ _ ys H4 s5 J5 (I.fpOk (hAu _) ?_) ?_ nacc q
   ·rw[qAh (Nat.succ_ne_self _)];exact nC
   ·obtain⟨m,hn,_⟩:=I5.loc;rw[xe]at hn;exact⟨m,hn⟩
  ·-- one turn
   have ti:=T.item X' xp xw xK xc i _ s4 (subσ sub σ) H4 (fun _ _=>False) I4 (stat pe fr4) st4 go;rw[xA]at ti;refine thn ti fun r s5 ⟨u,hr,h5⟩=>?_
   subst hr;refine thn h5 fun _ s6 ⟨x,H6,I6,r6,y6,st6,fr6⟩=>?_
   have I6':=I6.pinned (stat pe fr6) (T.obj _ _ st6);have tg:=hg _ s6 (subσ sub σ) H6 x u _ I6' r6 (step x H6 y6);rw[xp,xw,xA,xe,xxe]at tg;refine thn tg fun _ s7 ⟨σ7,H7,I7,le7,q7⟩=>?_
   have tts:=ht _ s7 σ7 H7 _ I7 q7;rw[xp,xw,xA,xe,xxe]at tts;refine thn tts fun b s8 ⟨H8,I8,q8⟩=>?_
   cases b with
   | false =>
    rw[if_neg hAe]at q8 ⊢;obtain⟨m',hm',w8⟩:=q8;have I9:Inv X' ([(s.heap.objs.size,{ cls:=.type "list",data:=.seq its.toArray k })]++pinsAt fp s6.heap) (subσ sub σ) H8 s8:=I8.weak le7.1.symm le7.2;refine⟨m',hm',i+1,ys,H8,its,k,I9.unpinned,rv,hz,T.keep _ _ _ st6 fun b hb o e=>(I9.pin (b,o) (hA8 _ (hA8 _ (qBv hb e)))).1,fun b hb=>?_,w8⟩;obtain⟨o,e,d⟩:=T.obj _ _ st6 b hb;exact(I9.pin (b,o) (hA8 _ (hA8 _ (qBv hb e)))).2.1
   | true =>
    rw[if_pos rfl]at q8 ⊢;have tee:=he _ s8 σ7 H8 _ I8 q8;rw[xp,xw,xA,xe,xxe]at tee;refine thn tee fun vv s9 ⟨v,H9,I9,r9,lz,m',hm',w9⟩=>?_
    have I10:Inv X' ([(s.heap.objs.size,{ cls:=.type "list",data:=.seq its.toArray k })]++pinsAt fp s6.heap) (subσ sub σ) H9 s9:=I9.weak le7.1.symm le7.2;have pa:=I10.pin (s.heap.objs.size,{ cls:=.type "list",data:=.seq its.toArray k }) (by rw[xpn];simp);have hlen:=rv.length;refine wpAny_list_append_plain (items:=its.toArray) ⟨k,pa.1⟩ (fun h' pl sb=>?_) (by rw[hAb];omega);obtain⟨k',pl⟩:=pl;have keepIt:∀ b∈fp,∀ o,s6.heap.get? b=some o->h'.get? b=some o:=fun b hb o e=>by
     have nb:b≠s.heap.objs.size:=hAi (hfl b hb);exact(sb.2 b nb).trans (I10.pin (b,o) (hA8 _ (hA8 _ (qBv hb e)))).1
    have I11:Inv X' [] (subσ sub σ) H9 s9:=I10.pins_of fun p hp=>absurd hp (by simp)
    have sacc:s.heap.objs.size≠X'.env.locals:=pa.2.2.1;have I12:Inv X' [] (subσ sub σ) H9 { s9 with heap:=h' }:=I11.turned (t':=s9.toks) (it:=s.heap.objs.size) (fun b o hb e=>(sb.2 b hb).trans e) pa.2.1 sacc (.inr (by rw[x0];exact hA4 _))
     (fun y c hy z=>by
      obtain⟨w',o',ho',hd'⟩:=I10.cell y c hy;rw[z,pa.1]at ho';have z2:=hAg ho';rw[<-z2]at hd';cases hd') (fun p hp=>absurd hp (by rw[xpn];simp))
    refine⟨m',hm',i+1,ys++[v],H9,its++[vv],k',I12.pins_of (fun p hp=>?_),rv.append (.cons r9 .nil),by rw[hA2,List.length_singleton];omega,T.keep _ _ _ st6 keepIt,fun b hb=>?_,w9⟩
    ·rw[hA7]at hp;subst hp;refine⟨?_,pa.2.1,sacc,pa.2.2.2.1,fun v z=>by cases z⟩;show h'.get? s.heap.objs.size=_;rw[pl];simp
    ·obtain⟨o,e,d⟩:=T.obj _ _ st6 b hb;exact(I10.pin (b,o) (hA8 _ (hA8 _ (qBv hb e)))).2.1
 exact codeAny_compStart_list (loop _ rfl) (T.self _ 0 _ _ _ st0 (loop _ rfl))
end
end L2
namespace L2
open PySem PySem.Spec PyProof.Rows
def qPj (sub:List (Option Nat)) (wi:TI) (g:TG) (tt:TT) (te:TE):TE:=fun σ H Q=>wi σ H fun J H1 =>
 qCq J (subσ sub σ) g tt te (fun ys H'=>∀ r,H' r=none->Q (.ref r) (upd H' r (.lst ys))) H1
section
variable {X:Cx} {target iter elt:Expr} {ifs:List Expr} {scope:Scope} {pos:Pos} {N':List Str} {sub:List (Option Nat)} {wi:TI} {g:TG} {tt:TT} {te:TE}
theorem qHv (I:Inv X pins σ H s) (O:CmpOk X.N X.env.scope N' scope sub):closureFor scope X.env=pure (qCc X.env.cells scope.names []) :=
 qHu fun x hx hf=>I.ok.has x.1 (by rcases O.free x hx hf with z | z;exact .inl z;exact .inr z)
theorem qE8 (O:CmpOk X.N X.env.scope N' scope sub):∀ y∈scope.names,y.2 = .local->scope.names.lookup y.1=some .local:=fun y hy e=>by
 obtain⟨n,k⟩:=y;cases e;exact qBm O.nd hy
theorem qSc (hc:X.calm=true) (O:CmpOk X.N X.env.scope N' scope sub) (hi:PI X target iter wi)
  (B:∀ C s H fp,PG (qBr X scope N' C s H fp) target g/\PTs (qBr X scope N' C s H fp) ifs tt/\PE (qBr X scope N' C s H fp) elt te)
  (hs:∀ x,foldedSetIterable iter X.env x=pure x:=by intro _;rfl):PE X (.ListComp elt [⟨target,iter,ifs,0⟩] scope pos) (qPj sub wi g tt te):=by
 intro pins s σ H Q I h;rw[eval_ListComp];refine wpAny_comprehension_free (use:=none) rfl hs (qHv I O) O.kind (qE8 O) (thn (hi pins s σ H _ I h) fun v s1 h1=>thn h1 fun itv s2 h2=>?_);obtain⟨it,fp,tn,J,H2,e,I2,T,st2,f2,rd⟩:=h2;subst e;refine qIr (RR:=fun acc C=>compPost (model X.prog X.w) X.A X.xe none (EP X pins σ Q) acc C) hc I2 O T st2 f2 B rd fun acc C ys H' s' I' fC hn na q=>?_
 obtain⟨m,hn⟩:=hn;obtain⟨f0,f1,f3,f4,f5,f6⟩:=fC;refine⟨m,hn,fun h' sb=>?_⟩;exact⟨.ref acc,upd H' acc (.lst ys),I'.turned (t':=s'.toks) (it:=C) (fun b o hb e=>(sb.2 b hb).trans e) f0 f1 f4 f5 f6,rfl,q acc na⟩
theorem qR9 (hc:X.calm=true) (O:CmpOk X.N X.env.scope N' scope sub) (hi:PI X target iter wi)
  (B:∀ C s H fp,PG (qBr X scope N' C s H fp) target g/\PTs (qBr X scope N' C s H fp) ifs tt/\PE (qBr X scope N' C s H fp) elt te)
  (hN:X.N.Nodup) (hy:X.N[i]?=some y) (hx:Loc X.env.scope y)
  (hsw:swapsWith (.ListComp elt [⟨target,iter,ifs,0⟩] scope pos) (some (.Name y py)) spos.line X.env=pure true)
  (hs:∀ x,foldedSetIterable iter X.env x=pure x:=by intro _;rfl) (hf:X.fn y=true\/X.env.scope.names.lookup y=some .local:=by first | exact .inl rfl | exact .inr rfl | assumption) :
  PS X (.Assign [.Name y py] (.ListComp elt [⟨target,iter,ifs,0⟩] scope pos) spos) (qTj (qPj sub wi g tt te) (qJ0 i)):=by
 intro pins s σ H D I h;rw[exec_Assign_Name_used _ _ _ _ hsw];refine wpAny_bind (wpAny_standAt (wpAny_bind ?_));show wpAny _ _ (do let _ ← comprehension (.ListComp elt [⟨target,iter,ifs,0⟩] scope pos) scope X.env _ (newList []) false (eval iter X.env) (some (assign (.Name y py) X.env))) _ _ s;refine wpAny_bind (wpAny_mono (wpAny_comprehension_free (use:=some (assign (.Name y py) X.env)) (Q:=fun _ s'=>SP X pins D .next s') rfl hs (qHv I O) O.kind (qE8 O)
  (thn (hi pins s σ H _ I h) fun v s1 h1=>thn h1 fun itv s2 h2=>?_)) (fun _ s' hq=>wpAny_pure (wpAny_pure hq)) fun _ _ e=>e)
 obtain⟨it,fp,tn,J,H2,e,I2,T,st2,f2,rd⟩:=h2;subst e;refine qIr (RR:=fun acc C=>compPost (model X.prog X.w) X.A X.xe (some (assign (.Name y py) X.env)) (fun _ s'=>SP X pins D .next s') acc C) hc I2 O T st2 f2 B rd fun acc C ys H' s' I' fC hn na q=>?_
 obtain⟨m,hn⟩:=hn;obtain⟨f0,f1,f3,f4,f5,f6⟩:=fC;show wpAny _ _ (assign (.Name y py) X.env (.ref acc)) _ _ s';refine wpAny_assign_Name (qFd (v:=.ref acc) I' hN hy hx rfl (fun s'' I'' ⟨a,sb,ha⟩=>?_) hf);have nCa:C≠a:=by
  rcases ha with z | z
  ·rw[z];exact f1
  ·exact fun e=>f5 _ _ z e.symm
 refine⟨m,hn.sameBut sb nCa,fun h' sb'=>?_⟩;exact⟨_,upd H' acc (.lst ys),I''.turned (t':=s''.toks) (it:=C) (fun b o hb e=>(sb'.2 b hb).trans e) f0 f1 f4 f5 f6,q acc na⟩
end
section
variable {σ0:St} {g:TG} {tt:TT} {te:TE} {Q:List V->Hp->Prop} {H1:Hp}
def Nxt (n i:Nat) (Pv:Nat->List V->Hp->Prop) (ys:List V) (H:Hp):Prop:=∃ m',m'<n - i/\m'=n - (i+1)/\i+1<=n/\Pv (i+1) ys H
theorem nxt (hi:i<n) (h:Pv (i+1) ys H):Nxt n i Pv ys H:=⟨_,by omega,rfl,hi,h⟩
theorem qBc {K:PySem.W.Frag} {a:Addr} {xs:List V} (Pv:Nat->List V->Hp->Prop) (h0:Pv 0 [] H1) (hl:∀ i ys H,i<=xs.length->Pv i ys H->SqL K H a xs)
  (hs:∀ i x ys H,xs[i]?=some x->Pv i ys H->g x σ0 H fun σ2 H2=>Sle σ0 σ2/\tt σ2 H2 fun b H3=>if b=true then te σ2 H3 (fun v H4=>ys.length<sizeLine/\Nxt xs.length i Pv (ys++[v]) H4) else Nxt xs.length i Pv ys H3)
  (hd:∀ ys H,Pv xs.length ys H->Q ys H):qCq (Itl K a) σ0 g tt te Q H1:=by
 refine⟨fun i m ys H=>m=xs.length - i/\i<=xs.length/\Pv i ys H,⟨xs.length,by simp,hAk _,h0⟩,?_⟩;rintro i m ys H ⟨rfl,hi,p⟩;have q:=hl i ys H hi p;by_cases hlt:i<xs.length
 ·refine .inr ⟨⟨xs,xs[i],q,by simp[hlt]⟩,fun x H' y=>?_⟩;obtain⟨e,y⟩:=y;subst e;exact hs i x ys _ (y xs q) p
 ·have e:i=xs.length:=by omega
  subst e;exact .inl ⟨⟨xs,q,hA4 _⟩,hd ys H p⟩
theorem qI7 {lo:Int} {n:Nat} (Pv:Nat->List V->Hp->Prop) (h0:Pv 0 [] H1)
  (hs:∀ i ys H,i<n->Pv i ys H->g (.int (lo+i)) σ0 H fun σ2 H2=>Sle σ0 σ2/\tt σ2 H2 fun b H3=>if b=true then te σ2 H3 (fun v H4=>ys.length<sizeLine/\Nxt n i Pv (ys++[v]) H4) else Nxt n i Pv ys H3)
  (hd:∀ ys H,Pv n ys H->Q ys H):qCq (Itr lo n) σ0 g tt te Q H1:=by
 refine⟨fun i m ys H=>m=n - i/\i<=n/\Pv i ys H,⟨n,by simp,hAk _,h0⟩,?_⟩;rintro i m ys H ⟨rfl,hi,p⟩;by_cases hlt:i<n
 ·refine .inr ⟨hlt,fun x H' y=>?_⟩;obtain⟨e,y⟩:=y;subst e y;exact hs i ys _ hlt p
 ·have e:i=n:=by omega
  subst e;exact .inl ⟨hA4 _,hd ys H p⟩
end
end L2
namespace L2
open PySem PySem.Spec PyProof.Rows PySem.SeqAt
mutual
inductive DR (K:PySem.W.Frag) (H:Hp):V->PyData->Prop
 | non:DR K H .non .none
 | bl (b:Bool):DR K H (.bl b) (.bool b)
 | int (i:Int):DR K H (.int i) (.int i)
 | str (x:Str):DR K H (.str x) (.str x)
 | lst {a:Addr} {xs:List V} {ds:List PyData}:SqL K H a xs->DRs K H xs ds->DR K H (.ref a) (.list ds)
 | tup {a:Addr} {xs:List V} {ds:List PyData}:SqT K H a xs->DRs K H xs ds->DR K H (.ref a) (.tuple ds)
inductive DRs (K:PySem.W.Frag) (H:Hp):List V->List PyData->Prop
 | nil:DRs K H [] []
 | cons {v:V} {d:PyData} {vs:List V} {ds:List PyData}:DR K H v d->DRs K H vs ds->DRs K H (v :: vs) (d :: ds)
end
section
variable {X:Cx} {pins:List (Addr×Obj)} {σ:St} {H:Hp} {s:Shared}
mutual
theorem DR.reads (I:Inv X pins σ H s):∀ {v:V} {d:PyData} {u:Value},DR X.K H v d->qBl v u->∃ as,Reads s.heap u d as
 | _,_,_,.non,r=>by cases r;exact⟨_,.none⟩
 | _,_,_,.bl b,r=>by cases r;exact⟨_,.bool b⟩
 | _,_,_,.int i,r=>by obtain⟨t,rfl⟩:=r;exact⟨_,.int i t⟩
 | _,_,_,.str x,r=>by obtain⟨t,rfl⟩:=r;exact⟨_,.str x t⟩
 | _,_,_,.lst hq hd,r=>by
  cases r;obtain⟨its,rv,⟨o,n,e,c,_,dt⟩,_⟩:=I.list hq;obtain⟨as,ra⟩:=DRs.reads I hd rv;exact⟨_,.list e c dt ra⟩
 | _,_,_,.tup hq hd,r=>by
  cases r;obtain⟨its,rv,⟨o,e,c,n,dt⟩,_⟩:=I.tuple hq;obtain⟨as,ra⟩:=DRs.reads I hd rv;exact⟨_,.tuple e c dt ra⟩
theorem DRs.reads (I:Inv X pins σ H s):∀ {vs:List V} {ds:List PyData} {us:List Value},DRs X.K H vs ds->qBe vs us->∃ as,ReadsAll s.heap us ds as
 | _,_,_,.nil,r=>by cases r;exact⟨_,.nil⟩
 | _,_,_,.cons h t,r=>by
  cases r with
  | cons r rr =>
   obtain⟨a1,q1⟩:=DR.reads I h r;obtain⟨a2,q2⟩:=DRs.reads I t rr;exact⟨_,.cons q1 q2⟩
end
end
def qW6 (K:PySem.W.Frag) (neg:Bool):R2:=fun x y H Q=>∃ dx dy,DR K H x dx/\DR K H y dy/\shaped dx=true/\shaped dy=true/\Q (.bl (if neg then !PyData.eqv dx dy else PyData.eqv dx dy)) H
section
variable {X:Cx}
theorem qNv (hu:X.A.units+64<cLine):OpR X (compareOp .Eq) (qW6 X.K false):=by
 intro pins s σ H x y v u Q I rx ry h;obtain⟨dx,dy,hx,hy,sx,sy,q⟩:=h;obtain⟨a1,r1⟩:=DR.reads I hx rx;obtain⟨a2,r2⟩:=DR.reads I hy ry;exact eq_dataH r1 r2 sx sy hu ⟨.bl (PyData.eqv dx dy),H,I,rfl,q⟩
theorem qIg (hu:X.A.units+64<cLine):OpR X (compareOp .NotEq) (qW6 X.K true):=by
 intro pins s σ H x y v u Q I rx ry h;obtain⟨dx,dy,hx,hy,sx,sy,q⟩:=h;obtain⟨a1,r1⟩:=DR.reads I hx rx;obtain⟨a2,r2⟩:=DR.reads I hy ry;exact ne_dataH r1 r2 sx sy hu ⟨.bl (!PyData.eqv dx dy),H,I,rfl,q⟩
theorem qDb:∀ {us:List Value},qBe (ss.map V.str) us->StrsAre us ss:=by
 induction ss with
 | nil=>intro us r;cases r;exact .nil
 | cons a l ih =>
  intro us r;cases r with
  | cons r rr =>
   obtain⟨t,rfl⟩:=r;exact .cons a t (ih rr)
theorem qGl:∀ {us:List Value},StrsAre us ss->qBe (ss.map V.str) us:=by
 induction ss with
 | nil=>intro us r;cases r;exact .nil
 | cons a l ih =>
  intro us r;cases r with
  | cons _ _ r=>exact .cons ⟨_,rfl⟩ (ih r)
theorem qIw:qB9 X (.builtin "sorted") (fun xs H Q=>∃ p ss,xs=[.ref p]/\SqL X.K H p (ss.map V.str)/\ss.length<64/\∀ r ss',H r=none->ss'.Perm ss->sortedS ss'=true->Q (.ref r) (upd H r (.lst (ss'.map V.str)))):=by
 intro pins s σ H xs us Q I r h;obtain⟨p,ss,rfl,hq,h64,q⟩:=h;obtain⟨u,rfl,rx⟩:=qC0 r;cases rx;obtain⟨its,rv,pl,hz⟩:=I.list hq;have hl:=rv.length;rw[hA1]at hl;refine sorted_strs pl.isList (qDb rv) (by omega) fun out ss' h1 h2 h3=>?_
 obtain⟨e,he⟩:=sortedAll_at s.heap its out;have nz:H (s.heap.objs.size+1)=none:=I.hok.fresh (hAu _);refine⟨.ref (s.heap.objs.size+1),_,I.laid (t':=s.toks) (a:=s.heap.objs.size+1) (o:=.lst (ss'.map V.str)) (fun b o eb=>sortedAll_old eb) (hAu _) ?_,rfl,q _ ss' nz h2 h3⟩;refine⟨?_,out.toList,e,qGl h1,by simpa using he⟩;rw[hA1,h2.length_eq];exact hAq (qAg (by omega))
end
end L2
namespace L2
open PySem PySem.Spec PyProof.Rows
section
variable {X:Cx}
theorem qKi:SlR X (fun x lo hi H Q=>∃ z:Str,x = .str z/\z.length<=sizeLine/\Q (.str (Txt.slice z lo hi)) H):=by
 intro pins s σ H x v vl vu lo hi sl Q I rx hs pl pu h;obtain⟨z,rfl,hz,q⟩:=h;obtain⟨t,rfl⟩:=rx;refine⟨"str",_,F.slot_str_getitem.lookup,typeIs_str _ _ _,?_⟩;obtain⟨o,ho,hc,hd⟩:=hs;have fin:∀ t' k,EP X pins σ Q (.str (Txt.slice z lo hi) t') { s with toks:=k }:=fun t' k=>⟨.str (Txt.slice z lo hi),H,I.tok k,⟨t',rfl⟩,q⟩
 cases pl with
 | none =>
  cases pu with
  | none=>exact wpAny_getItem_str_slice (l:=none) (u:=none) (st:=none) ⟨o,ho,hc,hd⟩ rfl (post_val_or_str ⟨hAt (Txt.slice_le z _ _) hz,fin⟩)
  | int j uj=>exact wpAny_getItem_str_slice (l:=none) (u:=some (j,uj)) (st:=none) ⟨o,ho,hc,hd⟩ rfl (post_val_or_str ⟨hAt (Txt.slice_le z _ _) hz,fin⟩)
 | int i ui =>
  cases pu with
  | none=>exact wpAny_getItem_str_slice (l:=some (i,ui)) (u:=none) (st:=none) ⟨o,ho,hc,hd⟩ rfl (post_val_or_str ⟨hAt (Txt.slice_le z _ _) hz,fin⟩)
  | int j uj=>exact wpAny_getItem_str_slice (l:=some (i,ui)) (u:=some (j,uj)) (st:=none) ⟨o,ho,hc,hd⟩ rfl (post_val_or_str ⟨hAt (Txt.slice_le z _ _) hz,fin⟩)
theorem qJl (h1:x.length<=100) (h2:0<=n) (h3:n<=100):PySem.MulOk x n:=by
 refine⟨?_,fun h _=>?_,fun h _=>?_⟩
 ·rw[Bool.or_eq_false_iff];exact⟨decide_eq_false (by omega),decide_eq_false (by omega)⟩
 ·have e:((2^63 - 1:Int) / n) >= 100:=by
   apply Int.le_ediv_of_mul_le (by omega);omega
  omega
 ·unfold Builtin.Str.tooLong;have:x.length*n.toNat<=100*100:=Nat.mul_le_mul h1 (by omega);exact decide_eq_false (by have:sizeLine > 10000:=(by decide);omega)
theorem qEk:OpR X (binaryOp .Mult) (fun x y H Q=>∃ (z:Str) (n:Int),x = .str z/\y = .int n/\z.length<=100/\0<=n/\n<=100/\Q (.str (Txt.mul z n)) H):=by
 intro pins s σ H x y v u Q I rx ry h;obtain⟨z,n,rfl,rfl,h1,h2,h3,q⟩:=h;obtain⟨t,rfl⟩:=rx;obtain⟨t',rfl⟩:=ry;exact SB.mul (qJl h1 h2 h3) fun t' k=>⟨.str (Txt.mul z n),H,I.tok k,⟨t',rfl⟩,q⟩
theorem qBs:qB9 X (.builtin "isinstance") (fun xs H Q=>∃ x t c b,xs=[x,.ty c]/\TyOf X.K H x t/\PySem.W.kitOne X.K t (.type c)=some b/\Q (.bl b) H):=by
 intro pins s σ H xs us Q I r h;obtain⟨x,t,c,b,rfl,ty,e,q⟩:=h;obtain⟨u,w',rfl,rx,rc⟩:=qLi r;cases(show w'=Value.type c from rc);exact qOe I rx ty e fun tk=>⟨.bl b,H,I.tok tk,rfl,q⟩
end
end L2
namespace L2
open PySem PySem.Spec PyProof.Rows
section
variable {X:Cx}
theorem qQj (bs:List Bool) (d:Bool):(List.range bs.length).all (fun i=>bs.getD i d)=bs.all id:=by
 induction bs with
 | nil=>rfl
 | cons b r ih =>
  rw[hBo,List.range_succ_eq_map,List.all_cons,List.all_map,List.all_cons];have e:((fun i=>(b :: r).getD i d)∘Nat.succ)=fun i=>r.getD i d:=by
   funext i;simp
  rw[e,ih];simp
theorem qTq {P:Program} {w:World} {A:Around} {bs:List Bool} {its:List Value} (rv:qBe (bs.map V.bl) its) (d:Bool):TruthOf P w A (fun i v=>its.toArray[i]?=some v) (fun i=>bs.getD i d):=by
 intro i v s Q E hv hQ;have hv':its[i]?=some v:=by simpa using hv
 have hi:i<its.length:=(hAr.mp hv').1;have hl:=rv.length;rw[hA1]at hl;have hb:(bs.map V.bl)[i]?=some (V.bl bs[i]):=by rw[hAl,hA3 (by omega)];rfl
 obtain⟨u,hu,ru⟩:=rv.get hb;rw[hv']at hu;have e:v=Value.bool bs[i]:=(hAg hu).trans ru;rw[e];have e2:bs.getD i d=bs[i]:=by rw[hAa,hA3 (by omega)];rfl
 have hQ:Q (bs.getD i d) s:=hQ;rw[e2]at hQ;exact wpAny_truthy_bool hQ
theorem qD7 (hc:X.calm=true):qB9 X (.builtin "all") (fun xs H Q=>∃ (p:Addr) (bs:List Bool),xs=[.ref p]/\SqL X.K H p (bs.map V.bl)/\Q (.bl (bs.all id)) H):=by
 intro pins s σ H xs us Q I r h;obtain⟨p,bs,rfl,hq,q⟩:=h;obtain⟨u,rfl,rx⟩:=qC0 r;cases rx;obtain⟨its,rv,pl,hz⟩:=I.list hq;have hl:=rv.length;rw[hA1]at hl;have hne:p≠s.heap.objs.size:=by
  obtain⟨o,n,e,_⟩:=pl;exact hAi (Heap.lt_size e)
 have hh:=I.ok.hd hc;refine call_all_walk (wpAny_pyIter_list pl.isList ?_);refine⟨s.heap.objs.size,_,_,_,_,_,fun i=>bs.getD i true,rfl,Walks.list (by exact hh) _ p hne its.toArray,⟨⟨_,Heap.get?_push_size _ rfl,rfl,rfl⟩,pl.isList.at fun o e=>Heap.get?_push_of_some _ e⟩,qTq rv true,fun h' tk hk=>?_⟩;refine⟨.bl (bs.all id),H,I.kept (t':=tk) fun b o e=>hk b o ?_ (Heap.get?_push_of_some _ e),?_,q⟩
 ·intro z;rw[hA7]at z;exact absurd (Heap.lt_size e) (by rw[z];exact hB3 _)
 ·show Value.bool _=Value.bool _;rw[hAb,<-hl,qQj]
def Itv (n:Nat) (xv:Nat->V):It:=⟨fun i _=>i<n,fun i H x H'=>H'=H/\x=xv i,fun i _=>n=i⟩
theorem qMo {P:Program} {w:World} {K:PySem.W.Frag} {tg:Expr} (it:Addr) (n:Nat) (xv:Nat->V) (Pv:Nat->Value->Prop) (St:Nat->Heap->Prop) (ty:String)
  (W:∀ A:Around,A.handled=none->Walks P w A it [it] [it] n Pv St) (hv:∀ i v,Pv i v->qBl (xv i) v)
  (ho:∀ i h,St i h->∃ o vs,h.get? it=some o/\o.cls = .type ty/\o.data = .fields vs)
  (hn:["enumerate","zip","dict_itemiterator","dict_reverseitemiterator","odict_iterator","itertools.zip_longest","itertools.pairwise"].contains ty=false)
  (hself:∀ (A:Around) (i:Nat) (s:Shared) (Q:Value->Shared->Prop) (E:Value->Shared->Prop),St i s.heap->Q (.ref it) s->wpAny (model P w) A (pyIter (.ref it)) Q E s):Turn P w K tg (Itv n xv) [it] it St where
 mem:=by simp
 obj:=fun i h st b hb=>by
  have e:b=it:=by simpa using hb
  subst e;obtain⟨o,vs,e,c,d⟩:=ho i h st;exact⟨o,e,fun v z=>by rw[d]at z;cases z⟩
 keep:=fun i h h' st k=>(W { handled:=none } rfl).frame i h h' st k
 item:=by
  intro X hP hw hK hc i pins s σ H E I hf st hg;subst hP hw hK;obtain⟨f0,f1,f2,f3,f4,f5⟩:=hf it (by simp);refine(W X.A (I.ok.hd hc)).item i s _ _ hg st fun v h' tk pv st' kk=>?_
  have I1:Inv X pins σ H { s with heap:=h',toks:=tk }:=I.turned (fun b o hb e=>kk b o (by simpa using hb) e) f0 f1 f3 f4 f5;obtain⟨o,vs,e,c,d⟩:=ho (i+1) h' st';exact⟨v,rfl,qQh (s:={ s with heap:=h',toks:=tk }) e c d hn ⟨xv i,H,I1,hv i v pv,⟨rfl,rfl⟩,st',fun b hb=>(hf b hb).1⟩⟩
 done:=by
  intro X hP hw hK hc i pins s σ H E I hf st hg;subst hP hw hK;obtain⟨f0,f1,f2,f3,f4,f5⟩:=hf it (by simp);have hg':n=i:=hg;subst hg';refine(W X.A (I.ok.hd hc)).done s _ _ st fun h' tk kk=>⟨rfl,?_⟩
  exact I.turned (fun b o hb e=>kk b o (by simpa using hb) e) f0 f1 f3 f4 f5
 self:=hself
def qRu (x:Str) (i:Nat):V:=.str ⟨#[x.cps.toList.getD i 0]⟩
def qX0 (t:TE):TI:=fun σ H R=>t σ H fun v H1=>∃ x:Str,v = .str x/\R (Itv x.cps.size (qRu x)) H1
theorem qM8 (h:SignAt x i v):qBl (qRu x i) v:=by
 obtain⟨c,u,hc,rfl⟩:=h;refine⟨u,?_⟩;have:x.cps.toList.getD i 0=c:=by
  rw[hAa,hAx,hc];rfl
 rw[this]
theorem qUl {e tg:Expr} {t:TE} (he:PE X e t):PI X tg e (qX0 t):=by
 intro pins s σ H R I h;refine thn (he pins s σ H _ I h) fun v s1 ⟨y,H1,I1,r1,q1⟩=>?_
 obtain⟨x,rfl,q⟩:=q1;obtain⟨tk,rfl⟩:=r1;have fin:∀ (o:Obj) (ty:String),o={ cls:=.type ty,data:=.fields #[.str x tk,.int 0 0] }->(["enumerate","zip","dict_itemiterator","dict_reverseitemiterator","odict_iterator","itertools.zip_longest","itertools.pairwise"].contains ty=false) ->
   (∀ A:Around,A.handled=none->Walks X.prog X.w A s1.heap.objs.size [s1.heap.objs.size] [s1.heap.objs.size] x.cps.size (SignAt x) (fun i h=>h.IsStrIter s1.heap.objs.size ty x tk i)) ->
   (∀ (A:Around) (i:Nat) (s:Shared) (Q:Value->Shared->Prop) (E:Value->Shared->Prop),s.heap.IsStrIter s1.heap.objs.size ty x tk i->Q (.ref s1.heap.objs.size) s->wpAny (model X.prog X.w) A (pyIter (.ref s1.heap.objs.size)) Q E s) ->
   PIE X pins σ tg R (.ref s1.heap.objs.size) { s1 with heap:=s1.heap.push o }:=by
  intro o ty eo hn W self;subst eo;refine⟨s1.heap.objs.size,[s1.heap.objs.size],_,_,H1,rfl,I1.kept (t':=s1.toks) fun b o e=>Heap.get?_push_of_some _ e,qMo s1.heap.objs.size x.cps.size (qRu x) _ _ ty W (fun i v=>qM8) (fun i h st=>?_) hn self,⟨_,Heap.get?_push_size _ rfl,rfl,rfl⟩,fun b hb=>?_,q⟩
  ·obtain⟨o,h1,h2,h3⟩:=st;exact⟨o,_,h1,h2,h3⟩
  ·have e:b=s1.heap.objs.size:=by simpa using hb
   subst e;exact I1.fpOk (hA4 _) (I1.hok.fresh (hA4 _))
 cases ha:x.cps.all (· < 128)
 ·exact wpAny_pyIter_wide ha (fin _ "str_iterator" rfl (by decide) (fun A hA=>Walks.strWide hA _ x tk) (fun A i s Q E st hQ=>wpAny_pyIter_striter_wide st hQ))
 ·exact wpAny_pyIter_ascii ha (fin _ "str_ascii_iterator" rfl (by decide) (fun A hA=>Walks.strAscii hA _ x tk) (fun A i s Q E st hQ=>wpAny_pyIter_striter_ascii st hQ))
theorem qMm (Pv:Nat->List V->Hp->Prop) (h0:Pv 0 [] H1)
  (hs:∀ i ys H,i<n->Pv i ys H->g (xv i) σ0 H fun σ2 H2=>Sle σ0 σ2/\tt σ2 H2 fun b H3=>if b=true then te σ2 H3 (fun v H4=>ys.length<sizeLine/\Nxt n i Pv (ys++[v]) H4) else Nxt n i Pv ys H3)
  (hd:∀ ys H,Pv n ys H->Q ys H):qCq (Itv n xv) σ0 g tt te Q H1:=by
 refine⟨fun i m ys H=>m=n - i/\i<=n/\Pv i ys H,⟨n,by simp,hAk _,h0⟩,?_⟩;rintro i m ys H ⟨rfl,hi,p⟩;by_cases hlt:i<n
 ·refine .inr ⟨hlt,fun x H' y=>?_⟩;obtain⟨e,y⟩:=y;subst e y;exact hs i ys _ hlt p
 ·have e:i=n:=by omega
  subst e;exact .inl ⟨rfl,hd ys H p⟩
end
end L2
namespace L2
open PySem PySem.Spec PyProof.Rows
theorem qJk (t:SetTable) (n:Nat):(t.orStandIn n).led=t.led:=by
 unfold SetTable.orStandIn;split <;> rfl
theorem qL3 (t:SetTable) (es:Array (Int×Value)) (h:Int) (x:Value):(layNew t es h x).2.1.led=t.led:=by
 unfold layNew;split
 ·exact qJk _ _
 ·rfl
theorem qNi (t:SetTable) (es:Array (Int×Value)) (k:Nat):(relayAll t es k).2.1.led=t.led:=by
 unfold relayAll;split
 ·rename_i u order e;have eu:u.led=t.led:=by
   unfold SetTable.relaid SetTable.laid at e;cases hc:SetTable.layClean (SetTable.sizeAbove k - 1) (es.map (·.1)) with
   | none=>rw[hc]at e;cases e
   | some o =>
    rw[hc]at e;injection e with e
    injection e with e1 e2
    rw[<-e1]
  dsimp only;split
  ·exact eu
  ·rfl
 ·rfl
theorem qJg (t:SetTable) (es:Array (Int×Value)) (k:Nat) (hp:t.plain=false):(relayAll t es k).2.1.plain=false:=by
 unfold relayAll;split
 ·rename_i u order e;have eu:u.plain=t.plain:=by
   unfold SetTable.relaid SetTable.laid at e;cases hc:SetTable.layClean (SetTable.sizeAbove k - 1) (es.map (·.1)) with
   | none=>rw[hc]at e;cases e
   | some o =>
    rw[hc]at e;injection e with e
    injection e with e1 e2
    rw[<-e1]
  dsimp only;split
  ·exact eu.trans hp
  ·rfl
 ·rfl
def qBh (P:Program) (w:World) (h:Heap) (a:Addr) (ss:List Str):Prop :=
 ∃ (es:Array (Int×Value)) (ep:Nat) (t:SetTable),h.get? a=some { cls:=.type "set",dict:=none,data:=.set es ep t,slots:=#[] }/\ElemsOf (PySem.strKind P w) es.toList /\
  StrsAre (es.toList.map (·.2)) ss/\es.size<scanBound/\t.fits es.size=true/\t.led=!w.params.followText "set-order"/\(es.size≠0->t.plain=false)
theorem qGv:∀ {vs:List Value} {ss:List Str},StrsAre vs ss->((∃ v∈vs,Value.isStrOf x v=true)↔x∈ss)
 | _,_,.nil=>by simp
 | _,_,.cons y t r=>by
  have ih:=qGv (x:=x) r;have hy:Value.isStrOf x (.str y t)=true↔x=y:=by
   constructor
   ·intro h;obtain⟨u,e⟩:=Value.isStrOf_shape h;cases e;rfl
   ·rintro rfl;simp[Value.isStrOf]
  constructor
  ·rintro⟨v,hv,hp⟩;rcases hA9.mp hv with rfl | hv
   ·rw[hy.mp hp];exact hA6
   ·exact hA5 _ (ih.mp ⟨v,hv,hp⟩)
  ·intro h;rcases hA9.mp h with h | h
   ·exact⟨_,hA6,hy.mpr h⟩
   ·obtain⟨v,hv,hp⟩:=ih.mpr h;exact⟨v,hA5 _ hv,hp⟩
theorem qMv {es es1:List (Int×Value)} {ss:List Str} {k:Int} {x:Str} {t:Tok} (hS:StrsAre (es.map (·.2)) ss) (p:es1.Perm (es++[(k,.str x t)])):∃ ss1,StrsAre (es1.map (·.2)) ss1/\ss1.Perm (ss++[x]):=by
 have hall:∀ v,v∈es1.map (·.2)->∃ y u,v = .str y u:=by
  intro v hv;obtain⟨e,he,rfl⟩:=hAj.mp hv;rcases hAd.mp (p.mem_iff.mp he) with z | z
  ·exact hS.all _ (List.mem_map_of_mem z)
  ·rw[hA7]at z;subst z;exact⟨x,t,rfl⟩
 refine⟨_,strsAre_map _ hall,?_⟩;have q:=(p.map (·.2)).map strOf;rw[hAc,hAc,hS.strs]at q;exact q
theorem qEb {es es1:List (Int×Value)} {ss:List Str} (hS:StrsAre (es.map (·.2)) ss) (p:es1.Perm es):∃ ss1,StrsAre (es1.map (·.2)) ss1/\ss1.Perm ss:=by
 have hall:∀ v,v∈es1.map (·.2)->∃ y u,v = .str y u:=by
  intro v hv;obtain⟨e,he,rfl⟩:=hAj.mp hv;exact hS.all _ (List.mem_map_of_mem (p.mem_iff.mp he))
 refine⟨_,strsAre_map _ hall,?_⟩;have q:=(p.map (·.2)).map strOf;rw[hS.strs]at q;exact q
section
variable {P:Program} {w:World} {A:Around} {E:Value->Shared->Prop} {s:Shared} {a:Addr} {ss:List Str}
theorem qGc (ho:s.heap.get? a=some { cls:=.type "set",dict:=none,data:=.set es ep t,slots:=#[] }) :
  (s.heap.update a (Obj.putSet es' t')).get? a=some { cls:=.type "set",dict:=none,data:=.set es' (ep+1) t',slots:=#[] }:=by
 have q:=Heap.get?_update_self (Obj.putSet es' t') ho (by rw[putSet_of es' t' rfl];rfl);rw[putSet_of es' t' rfl]at q;exact q
theorem qH2 {g:Bool->Sem Unit} (hg:∀ (b:Bool) (s1:Shared) (Q':Unit->Shared->Prop),Q' () s1->wpAny (model P w) A (g b) Q' E s1) {es es1:Array (Int×Value)} {ep:Nat} {t t2:SetTable} {ss1:List Str}
  (ho:s.heap.get? a=some { cls:=.type "set",dict:=none,data:=.set es ep t,slots:=#[] }) (e1:ElemsOf (PySem.strKind P w) es1.toList) (e2:StrsAre (es1.toList.map (·.2)) ss1) (e3:es1.size<scanBound) (e4:t2.fits es1.size=true)
  (e5:t2.led=!w.params.followText "set-order") (e6:t2.plain=false) {wasD:Bool} {R:Option Bool->Shared->Prop} (h:∀ h' ss',Heap.SameBut a s.heap h'->qBh P w h' a ss'->ss'.Perm ss1->R (some true) { s with heap:=h' }) :
  wpAny (model P w) A (do
    storeSet a es1 t2
    if (!wasD && t2.tooFull)=true then do
      g (relayAll t2 es1 (SetTable.grown es1.size)).2.2
      storeSet a (relayAll t2 es1 (SetTable.grown es1.size)).1 (relayAll t2 es1 (SetTable.grown es1.size)).2.1
      pure (some true)
     else pure (some true)) R E s:=by
 refine wpAny_bind (wpAny_storeSet_of ho rfl ?_ (fits_of_scanBound e3));have o1:(s.heap.update a (Obj.putSet es1 t2)).get? a=_:=qGc (s:=s) ho;have b1:=Heap.SameBut.update s.heap a (Obj.putSet es1 t2);split
 ·have p:=relayAll_perm t2 es1 (SetTable.grown es1.size);have f:=relayAll_fits t2 es1 (SetTable.grown es1.size);have l:=qNi t2 es1 (SetTable.grown es1.size);have pl:=qJg t2 es1 (SetTable.grown es1.size) e6;generalize relayAll t2 es1 (SetTable.grown es1.size)=Rl at p f l pl ⊢;obtain⟨es2,t3,gv⟩:=Rl;dsimp only at p f l pl ⊢;have z2:es2.size=es1.size:=by rw[<-hB6,p.length_eq,hB6]
  obtain⟨ss2,q1,q2⟩:=qEb e2 p;refine wpAny_bind (hg _ _ _ (wpAny_bind (wpAny_storeSet_of o1 rfl ?_ (fits_of_scanBound (by rw[z2];exact e3)))));have o2:((s.heap.update a (Obj.putSet es1 t2)).update a (Obj.putSet es2 t3)).get? a=_:=qGc (s:={ s with heap:=s.heap.update a (Obj.putSet es1 t2) }) o1;exact wpAny_pure (h _ ss2 (b1.trans (Heap.SameBut.update _ a _)) ⟨es2,_,t3,o2,e1.perm p,q1,by rw[z2];exact e3,f,l.trans e5,fun _=>pl⟩ q2)
 ·exact wpAny_pure (h _ ss1 b1 ⟨es1,_,t2,o1,e1,e2,e3,e4,e5,fun _=>e6⟩ (hC7 _))
theorem qKa (hS:qBh P w s.heap a ss) (room:ss.length+1<scanBound)
  (h:∀ h' ss',Heap.SameBut a s.heap h'->qBh P w h' a ss'->(if x∈ss then ss'=ss else ss'.Perm (ss++[x]))->Q (!decide (x∈ss)) { s with heap:=h' }) :
  wpAny (model P w) A (setAddHashed a (.str x tk) ((PySem.strKind P w).hash x)) Q E s:=by
 obtain⟨es,ep,t,ho,e1,e2,e3,e4,e5,e6⟩:=hS;have hk:(PySem.strKind P w).is x (.str x tk)=true:=strKind_is P w x tk;have hsc:Value.scannable (.str x tk)=true:=rfl;have hz:ss.length=es.size:=by rw[<-e2.strs,hA1,hA1,hB6]
 unfold setAddHashed setAddHashedIn;refine wpAny_holding (wpAny_bind (wpAny_setState_of ho rfl e4 ?_));dsimp only;rw[byScan_of hsc e3 e1,if_pos rfl];unfold setAddByScan;refine wpAny_bind (wpAny_bind (wpAny_rule (wpAny_bind (wpAny_setScan_of hk ho rfl e4 e1 ?_))));cases hr:List.findIdx? (fun e=>(PySem.strKind P w).is x e.2) es.toList with
 | some j =>
  dsimp only;obtain⟨hj,hp,_⟩:=List.findIdx?_eq_some_iff_getElem.mp hr;have hm:x∈ss:=(qGv e2).mp ⟨_,List.mem_map_of_mem (hBy hj),hp⟩;have q:=h s.heap ss (Heap.SameBut.refl a _) ⟨es,ep,t,ho,e1,e2,e3,e4,e5,e6⟩ (by rw[if_pos hm]);rw[decide_eq_true hm]at q;exact wpAny_pure (wpAny_pure q)
 | none =>
  dsimp only;have hm:¬x∈ss:=fun z=>by
   obtain⟨v,hv,hp⟩:=(qGv e2).mpr z;obtain⟨e,he,rfl⟩:=hAj.mp hv;have q:=List.findIdx?_eq_none_iff.mp hr e he;rw[show(PySem.strKind P w).is x e.2=true from hp]at q;cases q
  have gw:∀ (b:Bool) (s1:Shared) (Q':Unit->Shared->Prop),Q' () s1->wpAny (model P w) A (match b with | true=>rule "set.scan.the-table-gave-way" | false=>pure ()) Q' E s1:=fun b s1 Q' hq=>by
   cases b
   ·exact wpAny_pure hq
   ·exact wpAny_rule hq
  have p:=layNew_perm t es ((PySem.strKind P w).hash x) (.str x tk);have f:=layNew_fits t es ((PySem.strKind P w).hash x) (.str x tk);have l:=qL3 t es ((PySem.strKind P w).hash x) (.str x tk);generalize layNew t es ((PySem.strKind P w).hash x) (.str x tk)=L at p f l ⊢;obtain⟨es1,t1,wasD,gv⟩:=L;dsimp only at p f l ⊢;rw[Array.toList_push]at p;have d1:ElemsOf (PySem.strKind P w) es1.toList:=(e1.push hk hsc).perm p;obtain⟨ss1,d2,d3⟩:=qMv e2 p;have z1:es1.size=es.size+1:=by rw[<-hB6,p.length_eq,hA2,hB6];rfl
  have d4:es1.size<scanBound:=by rw[z1,<-hz];exact room
  have fin:∀ h' ss',Heap.SameBut a s.heap h'->qBh P w h' a ss'->ss'.Perm ss1->Q true { s with heap:=h' }:=fun h' ss' b1 b2 b3=>by
   have q:=h h' ss' b1 b2 (by rw[if_neg hm];exact b3.trans d3);rw[decide_eq_false hm]at q;exact q
  refine wpAny_bind (gw _ _ _ ?_);split
  ·rename_i hpl;refine wpAny_bind ?_;rw[hashByValue_scannable 8 hsc];refine wpAny_pure ?_;refine qH2 gw ho d1 d2 d4 (SetTable.fits_plain_off f) (l.trans e5) rfl fun h' ss' b1 b2 b3=>?_
   exact wpAny_pure (fin h' ss' b1 b2 b3)
  ·rename_i hpl;refine wpAny_bind (wpAny_pure ?_);rw[if_pos rfl];refine qH2 gw ho d1 d2 d4 f (l.trans e5) (by simpa using hpl) fun h' ss' b1 b2 b3=>?_
   exact wpAny_pure (fin h' ss' b1 b2 b3)
end
end L2
namespace L2
open PySem PySem.Spec PyProof.Rows
theorem qBh.at (x:qBh P w h a ss) (k:∀ o,h.get? a=some o->h'.get? a=some o):qBh P w h' a ss:=by
 obtain⟨es,ep,t,ho,r⟩:=x;exact⟨es,ep,t,k _ ho,r⟩
def qPh (val:Nat->Str) (i:Nat) (ss:List Str):Prop:=ss.Nodup/\ss.length<=i/\∀ x,x∈ss↔∃ j,j<i/\val j=x
theorem qPh.zero (val:Nat->Str):qPh val 0 []:=⟨List.nodup_nil,hA4 _,fun x=>by simp⟩
theorem qPh.next (h:qPh val i ss) (e:if val i∈ss then ss'=ss else ss'.Perm (ss++[val i])):qPh val (i+1) ss':=by
 obtain⟨h1,h2,h3⟩:=h;by_cases hm:val i∈ss
 ·rw[if_pos hm]at e;subst e;refine⟨h1,by omega,fun x=>(h3 x).trans ⟨fun ⟨j,a,b⟩=>⟨j,by omega,b⟩,fun ⟨j,a,b⟩=>?_⟩⟩;by_cases hj:j<i
  ·exact⟨j,hj,b⟩
  ·have:j=i:=by omega
   subst this;subst b;exact(h3 _).mp hm
 ·rw[if_neg hm]at e;refine⟨e.nodup_iff.mpr ?_,?_,fun x=>?_⟩
  ·rw[hC5];exact⟨h1,by simp,fun y hy z hz=>by rw[hA7]at hz;subst hz;rintro rfl;exact hm hy⟩
  ·rw[e.length_eq,hA2]
   simpa using h2
  ·rw[e.mem_iff,hAd,h3 x,hA7];constructor
   ·rintro(⟨j,a,b⟩ | rfl)
    ·exact⟨j,by omega,b⟩
    ·exact⟨i,by omega,rfl⟩
   ·rintro⟨j,a,b⟩;by_cases hj:j<i
    ·exact .inl ⟨j,hj,b⟩
    ·have:j=i:=by omega
     subst this;exact .inr b.symm
section
variable {P:Program} {w:World} {A:Around} {R:Result->Shared->Prop} {I:Addr} {fp wr:List Addr} {G:Array GenState->Array GenState->Prop} {n:Nat} {Pv:Nat->Value->Prop} {St:Nat->Shared->Prop}
theorem qMs (W:WalksS P w A.in1 I fp wr G n Pv St) (S:Addr) (nS:S∉fp) (val:Nat->Str) (hv:∀ i v,Pv i v->∃ t,v = .str (val i) t) (nb:n+1<scanBound):∀ (k i:Nat) (s:Shared) (ss:List Str),n - i=k->i<=n->St i s->qBh P w s.heap S ss->qPh val i ss ->
  (∀ s' ss',Moved (S :: wr) G s s'->qBh P w s'.heap S ss'->qPh val n ss'->R (.ok (.ret .none)) s')->codeAny (model P w) A (.builtin "set.update.loop" ⟨[.ref S,.ref I],[]⟩) R s:=by
 have nw:S∉wr:=fun z=>nS (W.sub _ z)
 have sub:∀ b∈wr,b∈S :: wr:=fun b z=>hA5 _ z
 intro k
 induction k with
 | zero =>
  intro i s ss hk hi st hS ho r;have e:i=n:=by omega
  subst e;refine codeAny_builtin PyProof.Rows.F.entry_set_update_loop ?_;rw[Around.under_plainId PyProof.Rows.F.plain_set_update_loop _];show wpAny _ A.in1 (pyNext (.ref I) >>= _) _ _ _;refine wpAny_bind (W.done s _ _ st fun s1 m1=>wpAny_pure (r s1 ss (m1.mono sub) (hS.at fun o z=>m1.heap S o nw z) ho))
 | succ k ih =>
  intro i s ss hk hi st hS ho r;have lt:i<n:=by omega
  refine codeAny_builtin PyProof.Rows.F.entry_set_update_loop ?_;rw[Around.under_plainId PyProof.Rows.F.plain_set_update_loop _];show wpAny _ A.in1 (pyNext (.ref I) >>= _) _ _ _;refine wpAny_bind (W.item i s _ _ lt st fun v s1 pv st1 m1=>?_);obtain⟨t,rfl⟩:=hv i v pv;have hS1:qBh P w s1.heap S ss:=hS.at fun o z=>m1.heap S o nw z
  show wpAny _ A.in1 (holding [Value.str (val i) t] (setAdd S (.str (val i) t)) >>= _) _ _ s1;refine wpAny_bind (wpAny_holding ?_);unfold setAdd;refine wpAny_holding (wpAny_bind ((PySem.strKind P w).pyHash (strKind_is P w _ _) ?_));refine qKa (s:={ s1 with toks:=s1.toks+1 }) hS1 (by have:=ho.2.1;omega) fun h2 ss2 sb2 hS2 q2=>?_
  refine wpAny_pure ⟨plainId_quiet PyProof.Rows.F.plain_set_update_loop _,ih (i+1) _ ss2 (by omega) lt (W.frame _ s1 _ _ st1 (hAu _) fun b hb o e=>?_) hS2 (ho.next q2) fun s3 ss3 m3 hS3 o3=>?_⟩
  ·rw[sb2.2 b (fun z:b=S=>nS (by rw[<-z];exact hb))];exact e
  ·refine r s3 ss3 (Moved.trans W.gtrans ((m1.mono sub).then_heap (hAu _) fun b o hb e=>?_) m3) hS3 o3;rw[sb2.2 b (fun z:b=S=>hb (by rw[z];exact hA6))];exact e
end
section
variable {P:Program} {w:World} {A:Around} {E:Value->Shared->Prop} {s:Shared}
abbrev qLt (w:World):Obj:={ cls:=.type "set",dict:=none,data:=.set #[] 0 (.fresh 0 0 (!w.params.followText "set-order")),slots:=#[] }
theorem qNb (P:Program) (w:World) (e:h.get? a=some (qLt w)):qBh P w h a []:=⟨#[],0,_,e,fun e he=>by simp at he,.nil,by show 0<scanBound;decide,by rfl,rfl,fun z=>absurd rfl z⟩
theorem qO3 (v:Value) (h:Q1 (.ref s.heap.objs.size) { s with heap:=s.heap.push (qLt w) }):codeAny (model P w) A (.call (.builtin "set.__new__") ⟨[.type "set",v],[]⟩) (wants Q1 E) s:=by
 refine codeAny_of_tree ?_;show wpAny _ A.in1 (do checkBuiltinCall "set.__new__" ⟨[.type "set",v],[]⟩;again (.builtin "set.__new__" ⟨[.type "set",v],[]⟩)) _ _ s;refine wpAny_bind (wpAny_of_eq (PySem.F.newCall_set_1 v) (wpAny_pure ⟨plainId_quiet PySem.F.plain_set_new _,codeAny_builtin PySem.F.entry_set_new ?_⟩));rw[Around.under_plainId PySem.F.plain_set_new _];unfold Builtin.«set.__new__» Builtin.Frozenset.newClass;have hsub:=sub_set_self;obtain⟨hp,g,d,tk,os⟩:=s;dsimp only
 wp_walk
 refine wpAny_askSetting (wpAny_pure ?_);dsimp only;simp only[newObj];exact wpAny_bind (wpAny_alloc (wpAny_pure (wpAny_pure h)))
theorem qO4 (hh:A.handled=none) (hl:s.heap.IsList l items) (hi:StrsAre items.toList ss0) (hb:items.size+1<scanBound)
  (h:∀ (h':Heap) (tk:Nat) (ss:List Str),qBh P w h' s.heap.objs.size ss->qPh (fun i=>ss0.getD i default) items.size ss->(∀ b o,b<s.heap.objs.size->s.heap.get? b=some o->h'.get? b=some o)->Q (.ref s.heap.objs.size) { s with heap:=h',toks:=tk }) :
  wpAny (model P w) A (call (.type "set") [.ref l]) Q E s:=by
 obtain⟨c,tl,hmro⟩:=hBg.mro;have hmade:=hBg.made;have hsub:=hBg.sub;refine wpAny_call (codeAny_of_tree ?_);show wpAny _ _ (callAny (.type "set") _) _ _ _;refine wpAny_pure ⟨Code.quiet_builtin _ (by decide +kernel),codeAny_builtin PySem.F.entry_type_call ?_⟩;rw[Around.under_plain (weight_type_call_type "set" [.ref l] []) rfl];have h1:=hBg.notType;have h2:=hBg.canCreate;have hct:=PySem.F.typeCall_set_1 (.ref l)
 repeat (any_goals (first | assumption | wp_step))
 refine codeAny_mono (qO3 (.ref l) (E:=E) (Q1:=fun obj s1=>obj = .ref s.heap.objs.size/\s1={ s with heap:=s.heap.push (qLt w) }) ⟨rfl,rfl⟩) fun r s1 hr=>?_
 cases r with
 | error e=>exact hr
 | ok fl =>
  cases fl with
  | ret obj =>
   obtain⟨rfl,rfl⟩:=hr;have hS:(s.heap.push (qLt w)).get? s.heap.objs.size=some (qLt w):=Heap.get?_push_size _ rfl;have hT:Shared.TypeIs { s with heap:=s.heap.push (qLt w) } (.ref s.heap.objs.size) "set":=⟨_,hS,rfl⟩;have hli:=hBg.init.lookup;have hbi:=hBg.init.bind (.ref s.heap.objs.size)
   repeat (any_goals (first | assumption | wp_step))
   refine codeAny_mono (codeAny_call_builtin (R:=wants (fun r s2=>r = .none/\∃ h' tk ss,s2={ s with heap:=h',toks:=tk }/\qBh P w h' s.heap.objs.size ss/\qPh (fun i=>ss0.getD i default) items.size ss /\
     (∀ b o,b<s.heap.objs.size->s.heap.get? b=some o->h'.get? b=some o)) E) hBg.init.plain PySem.F.entry_set_init (check_set_init_1 hT ?_)) fun r2 s2 hr2=>?_
   ·obtain⟨ol,hol,hcl,nl,hdl⟩:=hl;obtain⟨ocls,odict,odata,oslots⟩:=ol;simp only at hcl hdl;subst hcl;subst hdl;have hol':(s.heap.push (qLt w)).get? l=some { cls:=.type "list",dict:=odict,data:=.seq items nl,slots:=oslots }:=Heap.get?_push_of_some _ hol;have hsls:=PySem.F.sub_list_set;have hslf:=PySem.F.sub_list_frozenset;have hne:(Value.type "list" == Value.type "dict")=false:=by decide
    have hl1:(s.heap.push (qLt w)).IsList l items:=⟨_,hol',rfl,nl,rfl⟩;unfold Builtin.«set.__init__» noKeywords Builtin.Frozenset.updateFrom;generalize hPI:pyIter=PI
    wp_walk
    subst hPI;refine wpAny_pyIter_list hl1 (wpAny_bind (wpAny_runValue ?_));have lS:l<s.heap.objs.size:=Heap.lt_size hol;have h3:A.in1.in1.in1.handled=none:=by simp[hh]
    have nI:l≠(s.heap.push (qLt w)).objs.size:=by
     rw[Heap.size_push];exact hAi (hAs lS)
    have nF:s.heap.objs.size∉[(s.heap.push (qLt w)).objs.size,l]:=by
     rw[Heap.size_push];simp only[hA9,hA7,hAv,or_false,not_or];exact⟨hAi (hB8 _),hBw lS⟩
    have hval:∀ (i:Nat) (v:Value),items[i]?=some v->∃ t,v = .str ((fun i=>ss0.getD i default) i) t:=fun i v hv=>by
     have hv':items.toList[i]?=some v:=by rw[hAx];exact hv
     obtain⟨x,t,rfl⟩:=hi.all v (hAm hv');refine⟨t,?_⟩;have e:=congrArg (fun z=>z[i]?) hi.strs;simp only[hAl,hv']at e;show Value.str x t=Value.str (ss0.getD i default) t;rw[hAa,<-e];rfl
    refine qMs ((Walks.list h3 _ l nI items).toS) s.heap.objs.size nF (fun i=>ss0.getD i default) hval hb (items.size - 0) 0 _ [] (by omega) (hAk _) ⟨⟨_,Heap.get?_push_size _ rfl,rfl,rfl⟩,(hl1.push _)⟩ (qNb P w (Heap.get?_push_of_some _ hS)) (qPh.zero _) fun s' ss' hm hS' hO=>?_
    obtain⟨h',g',d',tk',os'⟩:=s';cases(show g'=s.gens from hm.gens);cases(show d'=s.drawn from hm.drawn);cases(show os'=s.os from hm.os);show wpAny _ _ _ _ _ _;refine wpAny_pure ?_;show wpAny _ _ (ret Value.none) _ _ _;refine wpAny_pure ⟨rfl,h',tk',ss',rfl,hS',hO,fun b o hb e=>?_⟩;have b1:b≠s.heap.objs.size:=hAi hb;have b2:b≠(s.heap.push (qLt w)).objs.size:=by
     rw[Heap.size_push];exact hAi (hAs hb)
    exact hm.heap b o (by simp only[hA9,hA7,hAv,or_false,not_or];exact⟨b1,b2⟩) (Heap.get?_push_of_some _ (Heap.get?_push_of_some _ e))
   ·cases r2 with
    | error e=>exact hr2
    | ok fl2 =>
     cases fl2 with
     | ret r =>
      obtain⟨rfl,h',tk,ss,rfl,hS',hO,hk'⟩:=hr2
      repeat (any_goals (first | assumption | wp_step))
      exact h _ _ _ hS' hO hk'
     | _=>exact hr2.elim
  | _=>exact hr.elim
end
end L2
namespace L2
open PySem PySem.Spec PyProof.Rows
namespace FS
theorem entry_set_iter':entryFor table "set.__iter__" = some Builtin.«frozenset.__iter__»:=entryFor_alias (id':="frozenset.__iter__") (by kernel_rfl) rfl (by decide +kernel) (by kernel_rfl)
theorem slot_sin:Slot "set_iterator" "__next__" "set_iterator.__next__":=.of (owner:="set_iterator") (n:="__next__") (by rw[typeLookup_type,builtinLookup_eq_fast];kernel_rfl) (by decide +kernel) (by decide +kernel) (by decide +kernel) (by first | exact .inl (by decide +kernel) | exact .inr (by decide +kernel)) (by rw[isSubtype_type];kernel_rfl)
theorem entry_sin:entryFor table "set_iterator.__next__" = some Builtin.«set_iterator.__next__»:=entryFor_of_tree (by kernel_rfl)
theorem qKw:Manifest.owners.lookup (String.ofList ['r','o','t','a','r','e','t','i','_','t','e','s'].reverse)=some Manifest.sig_set_iterator:=by kernel_rfl
theorem args_sin (a:Value):argsOk "set_iterator.__next__" ⟨[a],[]⟩:=by
 unfold argsOk;rw[signature?_of (id:="set_iterator.__next__") (n:=['_','_','t','x','e','n','_','_']) (o:=['r','o','t','a','r','e','t','i','_','t','e','s']) (by kernel_rfl) qKw];kernel_rfl
theorem slot_sii:Slot "set_iterator" "__iter__" "set_iterator.__iter__":=.of (owner:="set_iterator") (n:="__iter__") (by rw[typeLookup_type,builtinLookup_eq_fast];kernel_rfl) (by decide +kernel) (by decide +kernel) (by decide +kernel) (by first | exact .inl (by decide +kernel) | exact .inr (by decide +kernel)) (by rw[isSubtype_type];kernel_rfl)
theorem entry_sii:entryFor table "set_iterator.__iter__" = some Builtin.«dict_keyiterator.__iter__»:=entryFor_alias (id':="dict_keyiterator.__iter__") (by kernel_rfl) (by first | rfl | decide +kernel | (unfold String.splitOn;simp +decide [String.splitOnAux])) (by decide +kernel) (by kernel_rfl)
theorem args_sii (a:Value):argsOk "set_iterator.__iter__" ⟨[a],[]⟩:=by
 unfold argsOk;rw[signature?_of (id:="set_iterator.__iter__") (n:=['_','_','r','e','t','i','_','_']) (o:=['r','o','t','a','r','e','t','i','_','t','e','s']) (by kernel_rfl) qKw];kernel_rfl
end FS
theorem qEm:∀ (l:List α) (i:Nat) (x:α),l[i]?=some x->(x :: l.eraseIdx i).Perm l
 | [],i,x,h=>by simp at h
 | y :: l,0,x,h=>by simp at h;subst h;exact hC7 _
 | y :: l,i+1,x,h=>by
  have q:=qEm l i x (by simpa using h);rw[List.eraseIdx_cons_succ];exact(List.Perm.swap y x _).trans (q.cons y)
section
variable {M:Model} {A:Around} {E:Value->Shared->Prop} {s:Shared}
theorem qMh (hn:n≠0) (h:∀ i d,i<n->Q i { s with drawn:=d }):wpAny M A (choose src n) Q E s:=fun Γ p _=>⟨hn,h _ _ (hCd _ (Nat.pos_of_ne_zero hn))⟩
theorem qEo:∀ (n:Nat) (xs:List α) (s:Shared) (Q:List α->Shared->Prop),xs.length=n->(∀ ys d,ys.Perm xs->Q ys { s with drawn:=d })->wpAny M A (drawOrder n xs) Q E s
 | 0,xs,s,Q,hl,h=>by
  have e:xs=[]:=List.length_eq_zero_iff.mp hl;subst e;exact wpAny_pure (h [] s.drawn (hC7 _))
 | n+1,[],s,Q,hl,h=>by simp at hl
 | n+1,y :: ys,s,Q,hl,h=>by
  show wpAny M A (choose .order (y :: ys).length >>= _) Q E s;refine wpAny_bind (qMh (by simp) fun i d hi=>?_);have e:(y :: ys)[i]?=some (y :: ys)[i]:=hA3 hi;rw[e];dsimp only;have p:=qEm (y :: ys) i _ e;refine wpAny_bind (qEo n ((y :: ys).eraseIdx i) _ _ ?_ fun zs d2 pz=>wpAny_pure (h _ d2 ((pz.cons _).trans p)));have:=p.length_eq;simp only[hBo]at this hl ⊢;omega
end
theorem qNp (next:Nat->Nat):∀ (n k:Nat) (left:List α) (out:Array α),left.length=n->(pickOrder.go next n k left out).toList.Perm (out.toList++left)
 | 0,k,left,out,hl=>by
  have e:left=[]:=List.length_eq_zero_iff.mp hl;subst e;rw[pickOrder.go,hC2]
 | n+1,k,left,out,hl=>by
  rw[pickOrder.go];have hi:next k % left.length<left.length:=hCd _ (by omega);have e:left[next k % left.length]?=some left[next k % left.length]:=hA3 hi;rw[e];dsimp only;have p:=qEm left _ _ e;have l:=p.length_eq;simp only[hBo]at l;refine(qNp next n (k+1) _ _ (by omega)).trans ?_;rw[Array.toList_push,hC4];exact List.Perm.append_left _ p
theorem pick_perm (next:Nat->Nat) (xs:Array α):(pickOrder next xs).toList.Perm xs.toList:=by
 have q:=qNp next xs.size 0 xs.toList #[] (by simp)
 simpa [pickOrder] using q
section
variable {P:Program} {w:World} {A:Around} {E:Value->Shared->Prop} {s:Shared} {a:Addr} {es:Array (Int×Value)} {ep:Nat} {t:SetTable}
theorem qI5 (ho:s.heap.get? a=some { cls:=.type "set",dict:=none,data:=.set es ep t,slots:=#[] }) (hf:t.fits es.size=true) (h:Q (!w.params.followText "set-order" && (!t.plain && decide (es.size > 1))) s):wpAny (model P w) A (setDrawn a) Q E s:=by
 unfold setDrawn;refine wpAny_bind (wpAny_setState_of ho rfl hf ?_);unfold setsByText;exact wpAny_bind (wpAny_bind (wpAny_askSetting (wpAny_pure (wpAny_pure h))))
theorem qI3 (ho:s.heap.get? a=some { cls:=.type "set",dict:=none,data:=.set es ep t,slots:=#[] }) (hf:t.fits es.size=true) (hb:w.params.followText "set-order" = true)
  (h:Q (((pickOrder (w.params.setOrder a ep) es)[i]?).map fun e=>(e.2,slot)) s):wpAny (model P w) A (setNext a slot i ep) Q E s:=by
 unfold setNext;refine wpAny_bind (wpAny_setState_of ho rfl hf ?_);unfold setsByText;refine wpAny_bind (wpAny_bind (wpAny_askSetting (wpAny_pure ?_)));show wpAny _ _ (if (w.params.followText "set-order")=true then _ else _) _ _ _;rw[if_pos hb];rw[if_neg (by simp)];unfold setWalk;refine wpAny_bind (wpAny_bind (wpAny_setState_of ho rfl hf ?_));unfold setsByText;refine wpAny_bind (wpAny_bind (wpAny_askSetting (wpAny_pure ?_)));show wpAny _ _ (if (w.params.followText "set-order")=true then _ else _) _ _ _;rw[if_pos hb];exact wpAny_bind (wpAny_askSetting (wpAny_pure (wpAny_pure h)))
theorem qI4 (ho:s.heap.get? a=some { cls:=.type "set",dict:=none,data:=.set es ep t,slots:=#[] }) (hf:t.fits es.size=true) (hb:w.params.followText "set-order" = false) (h1:es.size<=1) (hl:t.led=true)
  (h:Q (match es[SetTable.below t.place slot]?,t.place[SetTable.below t.place slot]? with | some (_,x),some j=>some (x,j+1) | _,_=>none) s):wpAny (model P w) A (setNext a slot i ep) Q E s:=by
 unfold setNext;refine wpAny_bind (wpAny_setState_of ho rfl hf ?_);unfold setsByText;refine wpAny_bind (wpAny_bind (wpAny_askSetting (wpAny_pure ?_)));show wpAny _ _ (if (w.params.followText "set-order")=true then _ else _) _ _ _;rw[if_neg (by rw[hb];exact hAe)];show wpAny _ _ (if (!t.plain && decide (es.size > 1))=true then _ else _) _ _ _;rw[if_neg (by rw[hBm];rintro⟨_,z⟩;have:=of_decide_eq_true z;omega)];refine wpAny_bind ?_;show wpAny _ _ (if (!t.led && !es.isEmpty)=true then _ else _) _ _ _;rw[if_neg (by rw[hl];simp)];exact wpAny_pure (wpAny_pure h)
end
end L2
namespace L2
open PySem PySem.Spec PyProof.Rows
abbrev sIt (a:Addr) (f0:Value) (i n ep:Nat):Obj:={ cls:=.type "set_iterator",dict:=none,data:=.fields #[f0,rawInt i,.ref a,rawInt n,rawInt ep],slots:=#[] }
abbrev sOb (es:Array (Int×Value)) (ep:Nat) (t:SetTable):Obj:={ cls:=.type "set",dict:=none,data:=.set es ep t,slots:=#[] }
section
variable {P:Program} {w:World} {A:Around} {E:Value->Shared->Prop} {s:Shared} {a I:Addr} {es:Array (Int×Value)} {ep:Nat} {t:SetTable}
theorem qKk {T:Obj} {Q:Fin->Shared->Prop} {f0:Value} {i n:Nat} {pre:Sem Unit} (hh:A.handled=none) (hI:s.heap.get? I=some (sIt a f0 i n ep))
  (hp:∀ {Q':Unit->Shared->Prop},(∀ h1,Heap.SameBut I s.heap h1->(∃ g0,h1.get? I=some (sIt a g0 i n ep))->Q' () { s with heap:=h1 })->wpAny (model P w) A pre Q' E s)
  (hE:∀ h' e,Heap.ExtBut I s.heap h'->(∃ o,h'.get? e=some o/\o.cls = .type "StopIteration")->E (.ref e) { s with heap:=h' }) :
  wpAny (model P w) A (do pre;setField (.ref I) 2 .none;raiseNew (← newExc (.type "StopIteration") [])) Q E s:=by
 refine wpAny_bind (hp fun h1 b1 hg=>?_);obtain⟨g0,hI1⟩:=hg;refine wpAny_bind (wpAny_setField_rec hI1 (by simp) fun h2 hI2 b2=>?_);show wpAny _ _ (newExc (.type "StopIteration") [] >>= fun e=>raiseNew e) _ _ _;refine wpAny_bind ?_;simp only[newExc,newTuple];refine wpAny_bind (wpAny_newObj_type ?_ (by size_fits));refine wpAny_bind (m:=firstArgMember _ _) (wpAny_of_eq (a:=Value.none) (by first | rfl | (simp only[firstArgMember];rfl)) ?_);refine wpAny_newObj_type ?_ (by size_fits);simp only[raiseNew];refine wpAny_bind (wpAny_handled ?_);rw[hh];exact wpAny_bind (wpAny_pure (wpAny_throw (hE _ _ (((b1.trans b2).extBut.push _).push _) ⟨_,Heap.get?_push_size _ rfl,rfl⟩)))
end
section
variable {P:Program} {w:World} {a I:Addr} {es:Array (Int×Value)} {ep:Nat} {t:SetTable}
theorem qH0 (hne:a≠I) (hf:t.fits es.size=true) (order:List Value) (sl:Nat->Nat)
  (nx:∀ (A:Around) (E:Value->Shared->Prop) (s:Shared) (Q:Option (Value×Nat)->Shared->Prop) (i:Nat),i<=order.length->s.heap.get? a=some (sOb es ep t)->Q ((order[i]?).map fun x=>(x,sl (i+1))) s->wpAny (model P w) A (setNext a (sl i) i ep) Q E s) :
  ∀ A:Around,A.handled=none->Walks P w A I [I,a] [I] order.length (fun i v=>order[i]?=some v) (fun i h=>h.get? I=some (sIt a (rawInt (sl i)) i es.size ep)/\h.get? a=some (sOb es ep t)):=fun A hh=>{
 sub:=fun b hb=>by simp at hb ⊢;exact .inl hb
 frame:=fun i h h' st k=>⟨k I (by simp) _ st.1,k a (by simp) _ st.2⟩
 item:=fun i s Q E hi st hQ=>by
  obtain⟨hI,ho⟩:=st;have hT:s.TypeIs (.ref I) "set_iterator":=⟨_,hI,rfl⟩;unfold pyNext;refine wpAny_bind (wpAny_attempt (wpAny_callSpecial?_slot (name:=Str.ofString "__next__") hT FS.slot_sin (wpAny_call_entry FS.slot_sin hT FS.entry_sin ?_ (FS.args_sin _))));unfold Builtin.«set_iterator.__next__»;refine wpAny_bind (wpAny_pure (wpAny_bind (wpAny_fieldsOf hI rfl ?_)));show wpAny _ _ (setEntries a >>= _) _ _ _;refine wpAny_bind (wpAny_setEntries_of ho rfl hf ?_);rw[if_neg (by simp)];show wpAny _ _ (setNext a (sl i) i ep >>= _) _ _ _;refine wpAny_bind (nx _ _ s _ i (hAq hi) ho ?_);rw[hA3 hi];show wpAny _ _ (setField (.ref I) 0 (rawInt (sl (i+1))) >>= _) _ _ _;refine wpAny_bind (wpAny_setField_rec hI (by simp) fun h1 hI1 b1=>wpAny_bind (wpAny_setField_rec hI1 (by simp) fun h2 hI2 b2=>?_));refine wpAny_pure ⟨_,rfl,wpAny_pure (hQ _ h2 s.toks (hA3 hi) ⟨hI2,?_⟩ fun b o hb e=>?_)⟩
  ·exact b2.extBut _ _ hne (b1.extBut _ _ hne ho)
  ·have nb:b≠I:=by simpa using hb
   exact b2.extBut _ _ nb (b1.extBut _ _ nb e)
 done:=fun s Q E st hQ=>by
  obtain⟨hI,ho⟩:=st;have hT:s.TypeIs (.ref I) "set_iterator":=⟨_,hI,rfl⟩;unfold pyNext;refine wpAny_bind (wpAny_attempt (wpAny_callSpecial?_slot (name:=Str.ofString "__next__") hT FS.slot_sin (wpAny_call_entry FS.slot_sin hT FS.entry_sin ?_ (FS.args_sin _))));unfold Builtin.«set_iterator.__next__»;refine wpAny_bind (wpAny_pure (wpAny_bind (wpAny_fieldsOf hI rfl ?_)));show wpAny _ _ (setEntries a >>= _) _ _ _;refine wpAny_bind (wpAny_setEntries_of ho rfl hf ?_);rw[if_neg (by simp)];show wpAny _ _ (setNext a (sl order.length) order.length ep >>= _) _ _ _;refine wpAny_bind (nx _ _ s _ order.length (hA4 _) ho ?_);rw[hAy (hA4 _)];refine qKk (pre:=pure ()) (T:=sOb es ep t) (by exact hh) hI (fun q=>wpAny_pure (q _ (Heap.SameBut.refl ..) ⟨_,hI⟩)) fun h' e k he=>?_
  obtain⟨oe,h1,h2⟩:=he;refine wpAny_bind (wpAny_isInstance (T:="StopIteration") (b:=true) ⟨oe,h1,h2⟩ isSubtype_stop (wpAny_pure (hQ _ s.toks fun b o hb e=>k _ _ (by simpa using hb) e)))
 self:=fun i s Q E st hQ=>by
  have hT:s.TypeIs (.ref I) "set_iterator":=⟨_,st.1,rfl⟩;refine wpAny_pyIter_slot hT FS.slot_sii (wpAny_call_entry FS.slot_sii hT FS.entry_sii ?_ (FS.args_sii _));exact wpAny_pure ⟨_,rfl,"set_iterator",_,hT,FS.slot_sin.lookup,hQ⟩ }
end
end L2
namespace L2
open PySem PySem.Spec PyProof.Rows
abbrev tOb (xs:Array Value):Obj:={ cls:=.type "tuple",data:=.seq xs }
section
variable {P:Program} {w:World} {a I T:Addr} {es:Array (Int×Value)} {ep:Nat} {t:SetTable}
theorem qMi (hne:a≠I) (hT0:T≠I) (hf:t.fits es.size=true) (ps:List Nat) (order:List Value) (hl:order.length=ps.length) (hp:∀ (i p:Nat),ps[i]?=some p->∃ k x,es[p]?=some (k,x)/\order[i]?=some x) :
  ∀ A:Around,A.handled=none->Walks P w A I [I,a,T] [I] order.length (fun i v=>order[i]?=some v) (fun i h=>h.get? I=some (sIt a (.ref T) i es.size ep)/\h.get? a=some (sOb es ep t)/\h.get? T=some (tOb (ps.map fun (p:Nat)=>rawInt p).toArray)):=fun A hh=>{
 sub:=fun b hb=>by simp at hb ⊢;exact .inl hb
 frame:=fun i h h' st k=>⟨k I (by simp) _ st.1,k a (by simp) _ st.2.1,k T (by simp) _ st.2.2⟩
 item:=fun i s Q E hi st hQ=>by
  obtain⟨hI,ho,hTt⟩:=st;have hT:s.TypeIs (.ref I) "set_iterator":=⟨_,hI,rfl⟩;unfold pyNext;refine wpAny_bind (wpAny_attempt (wpAny_callSpecial?_slot (name:=Str.ofString "__next__") hT FS.slot_sin (wpAny_call_entry FS.slot_sin hT FS.entry_sin ?_ (FS.args_sin _))));unfold Builtin.«set_iterator.__next__»;refine wpAny_bind (wpAny_pure (wpAny_bind (wpAny_fieldsOf hI rfl ?_)));show wpAny _ _ (setEntries a >>= _) _ _ _;refine wpAny_bind (wpAny_setEntries_of ho rfl hf ?_);rw[if_neg (by simp)];show wpAny _ _ (seqItems? (.ref T) >>= _) _ _ _;refine wpAny_bind (wpAny_seqItems hTt rfl ?_);have hip:i<ps.length:=by rw[<-hl];exact hi
  obtain⟨k,x,h1,h2⟩:=hp i _ (hA3 hip);have e1:((ps.map fun (p:Nat)=>rawInt p).toArray)[i]?=some (rawInt ((ps[i]:Nat):Int)):=by simp[hip]
  show wpAny _ _ (match ((ps.map fun (p:Nat)=>rawInt p).toArray)[((i:Int)).toNat]? with | some (.int place _)=>_ | some _=>_ | none=>_) _ _ _;rw[Int.toNat_natCast,e1];show wpAny _ _ (setNextDrawn a ps[i] ep >>= _) _ _ _;unfold setNextDrawn;refine wpAny_bind (wpAny_bind (wpAny_setState_of ho rfl hf ?_));dsimp only;rw[if_neg (by simp),h1];refine wpAny_pure (wpAny_bind (wpAny_setField_rec hI (by simp) fun h3 hI3 b3=>?_));refine wpAny_pure ⟨_,rfl,wpAny_pure (hQ _ h3 s.toks h2 ⟨hI3,b3.extBut _ _ hne ho,b3.extBut _ _ hT0 hTt⟩ fun b o hb e=>b3.extBut _ _ (by simpa using hb) e)⟩
 done:=fun s Q E st hQ=>by
  obtain⟨hI,ho,hTt⟩:=st;have hT:s.TypeIs (.ref I) "set_iterator":=⟨_,hI,rfl⟩;unfold pyNext;refine wpAny_bind (wpAny_attempt (wpAny_callSpecial?_slot (name:=Str.ofString "__next__") hT FS.slot_sin (wpAny_call_entry FS.slot_sin hT FS.entry_sin ?_ (FS.args_sin _))));unfold Builtin.«set_iterator.__next__»;refine wpAny_bind (wpAny_pure (wpAny_bind (wpAny_fieldsOf hI rfl ?_)));show wpAny _ _ (setEntries a >>= _) _ _ _;refine wpAny_bind (wpAny_setEntries_of ho rfl hf ?_);rw[if_neg (by simp)];show wpAny _ _ (seqItems? (.ref T) >>= _) _ _ _;refine wpAny_bind (wpAny_seqItems hTt rfl ?_);have e1:((ps.map fun (p:Nat)=>rawInt p).toArray)[order.length]?=none:=by simp[hl]
  show wpAny _ _ (match ((ps.map fun (p:Nat)=>rawInt p).toArray)[((order.length:Int)).toNat]? with | some (.int place _)=>_ | some _=>_ | none=>_) _ _ _;rw[Int.toNat_natCast,e1];refine qKk (pre:=setField (.ref I) 0 (rawInt 0)) (T:=sOb es ep t) (by exact hh) hI (fun q=>wpAny_setField_rec hI (by simp) fun h1 hI1 b1=>q _ b1 ⟨_,hI1⟩) fun h' e k he=>?_
  obtain⟨oe,h1,h2⟩:=he;refine wpAny_bind (wpAny_isInstance (T:="StopIteration") (b:=true) ⟨oe,h1,h2⟩ isSubtype_stop (wpAny_pure (hQ _ s.toks fun b o hb e=>k _ _ (by simpa using hb) e)))
 self:=fun i s Q E st hQ=>by
  have hT:s.TypeIs (.ref I) "set_iterator":=⟨_,st.1,rfl⟩;refine wpAny_pyIter_slot hT FS.slot_sii (wpAny_call_entry FS.slot_sii hT FS.entry_sii ?_ (FS.args_sii _));exact wpAny_pure ⟨_,rfl,"set_iterator",_,hT,FS.slot_sin.lookup,hQ⟩ }
end
theorem qQo (h:j<=p):SetTable.below #[p] j=0:=by
 unfold SetTable.below;show SetTable.below.go #[p] j 1 0 1=0;unfold SetTable.below.go;have e:¬(#[p]:Array Nat).getD ((0+1) / 2) j<j:=by show ¬p<j;omega
 rw[if_pos (by decide)];dsimp only;rw[if_neg e];rfl
theorem qQp (h:p<j):SetTable.below #[p] j=1:=by
 unfold SetTable.below;show SetTable.below.go #[p] j 1 0 1=1;unfold SetTable.below.go;have e:(#[p]:Array Nat).getD ((0+1) / 2) j<j:=by show p<j;omega
 rw[if_pos (by decide)];dsimp only;rw[if_pos e];rfl
theorem qPa (j:Nat):SetTable.below #[] j=0:=rfl
section
variable {P:Program} {w:World} {A:Around} {E:Value->Shared->Prop} {s:Shared} {a:Addr} {ss:List Str}
theorem qOd (hS:qBh P w s.heap a ss)
  (h:∀ (I:Addr) (fp:List Addr) (vs:List Value) (ss1:List Str) (St:Nat->Heap->Prop) (h1:Heap) (d:Drawn),StrsAre vs ss1->ss1.Perm ss->(∀ b o,s.heap.get? b=some o->h1.get? b=some o)->(∀ A:Around,A.handled=none->Walks P w A I fp [I] vs.length (fun i v=>vs[i]?=some v) St) ->
   St 0 h1->I∈fp->(∀ b∈fp,b<h1.objs.size/\(b=a\/s.heap.objs.size<=b))->s.heap.objs.size<=I->s.heap.objs.size<=h1.objs.size->Q (.ref I) { s with heap:=h1,drawn:=d }):wpAny (model P w) A (pyIter (.ref a)) Q E s:=by
 obtain⟨es,ep,t,ho,e1,e2,e3,e4,e5,e6⟩:=hS;have hT:s.TypeIs (.ref a) "set":=⟨_,ho,rfl⟩;have ha:a<s.heap.objs.size:=Heap.lt_size ho;have hp4:t.place.size=es.size:=by
  unfold SetTable.fits at e4;rw[hBm]at e4;exact eq_of_beq e4.1
 refine wpAny_pyIter_slot hT PySem.F.slot_set_iter (wpAny_call_entry PySem.F.slot_set_iter hT FS.entry_set_iter' ?_ (PySem.F.args_set_iter_1 _));unfold Builtin.«frozenset.__iter__» Builtin.Frozenset.slot0;refine wpAny_bind (wpAny_bind (wpAny_pure (wpAny_pure ?_)));unfold Builtin.Frozenset.sizeOf;refine wpAny_bind (wpAny_bind (wpAny_setEntries_of ho rfl e4 (wpAny_pure ?_)));refine wpAny_bind (qI5 ho e4 ?_);dsimp only;cases hb:w.params.followText "set-order" with
 | true =>
  rw[if_neg (by simp)];refine wpAny_bind (wpAny_pure (wpAny_bind (wpAny_setEpoch_of ho rfl e4 ?_)));show wpAny _ _ (newFields "set_iterator" _ >>= _) _ _ _;refine wpAny_bind (wpAny_newObj_type (wpAny_pure ⟨_,rfl,"set_iterator",_,⟨_,Heap.get?_push_size _ rfl,rfl⟩,FS.slot_sin.lookup,?_⟩) (by show 5<=_;decide));have p:=pick_perm (w.params.setOrder a ep) es;obtain⟨ss1,q1,q2⟩:=qEb e2 p;refine h s.heap.objs.size [s.heap.objs.size,a] _ ss1 _ _ s.drawn q1 q2 (fun b o e=>Heap.get?_push_of_some _ e) (qH0 (ep:=ep) (es:=es) (t:=t) (hAi ha) e4 _ (fun _=>0) ?_) ⟨Heap.get?_push_size _ rfl,Heap.get?_push_of_some _ ho⟩ (by simp) ?_ (hA4 _) (by rw[Heap.size_push];exact hAu _)
  ·intro A' E' s' Q' i hi ho' hq;refine qI3 ho' e4 hb ?_;rw[hAl,hAx,Option.map_map]at hq;exact hq
  ·intro b hbm;rw[Heap.size_push];simp at hbm;rcases hbm with rfl | rfl
   ·exact⟨hB8 _,.inr (hA4 _)⟩
   ·exact⟨hAs ha,.inl rfl⟩
 | false =>
  have led:t.led=true:=by rw[e5,hb];rfl
  by_cases hz:es.size > 1
  ·have pl:t.plain=false:=e6 (by omega);rw[if_pos (by rw[pl,decide_eq_true hz];rfl)];refine wpAny_bind (qEo es.size (List.range es.size) s _ (by simp) fun ps d pp=>?_);refine wpAny_bind (wpAny_newTuple (s:={ s with drawn:=d }) ?_ (by rw[hA1,pp.length_eq,hBe];exact fits_of_scanBound e3));have ho1:(s.heap.push (tOb (ps.map fun (p:Nat)=>rawInt p).toArray)).get? a=some (sOb es ep t):=Heap.get?_push_of_some _ ho;refine wpAny_bind (wpAny_setEpoch_of (s:={ s with heap:=s.heap.push (tOb (ps.map fun (p:Nat)=>rawInt p).toArray),drawn:=d }) ho1 rfl e4 ?_);show wpAny _ _ (newFields "set_iterator" _ >>= _) _ _ _;refine wpAny_bind (wpAny_newObj_type (wpAny_pure ⟨_,rfl,"set_iterator",_,⟨_,Heap.get?_push_size _ rfl,rfl⟩,FS.slot_sin.lookup,?_⟩) (by show 5<=_;decide));have hlt:∀ p∈ps,p<es.size:=fun p hm=>hBj.mp (pp.mem_iff.mp hm)
   have ep1:(ps.filterMap fun p=>es[p]?).Perm es.toList:=by
    have q:=pp.filterMap fun p=>es[p]?
    rw[filterMap_getElem?_range]at q;exact q
   have hfm:∀ l:List Nat,(∀ p∈l,p<es.size)->(l.filterMap fun p=>es[p]?).length=l.length/\∀ (i p:Nat),l[i]?=some p->∃ k x,es[p]?=some (k,x)/\((l.filterMap fun p=>es[p]?).map (·.2))[i]?=some x:=by
    intro l
    induction l with
    | nil=>intro _;exact⟨rfl,fun i p z=>by simp at z⟩
    | cons c l ih =>
     intro hm;obtain⟨i1,i2⟩:=ih fun p hp=>hm p (hA5 _ hp)
     have hcl:c<es.size:=hm c hA6;have hc:es[c]?=some es[c]:=hBk hcl;rw[hAz,hc];refine⟨by simp[i1],fun i p z=>?_⟩;cases i with
     | zero =>
      have e:c=p:=by simpa using z
      subst e;exact⟨_,_,hc,by simp⟩
     | succ i =>
      obtain⟨k,x,a1,a2⟩:=i2 i p (by simpa using z);exact⟨k,x,a1,by simpa using a2⟩
   obtain⟨f1,f2⟩:=hfm ps hlt;obtain⟨ss1,q1,q2⟩:=qEb e2 ep1;have sz1:(s.heap.push (tOb (ps.map fun (p:Nat)=>rawInt p).toArray)).objs.size=s.heap.objs.size+1:=Heap.size_push ..;refine h (s.heap.push (tOb (ps.map fun (p:Nat)=>rawInt p).toArray)).objs.size [(s.heap.push (tOb (ps.map fun (p:Nat)=>rawInt p).toArray)).objs.size,a,s.heap.objs.size] _ ss1 _ _ d q1 q2 (fun b o e=>Heap.get?_push_of_some _ (Heap.get?_push_of_some _ e))
    (qMi (ep:=ep) (es:=es) (t:=t) (T:=s.heap.objs.size) ?_ ?_ e4 ps _ (by rw[hA1,f1]) f2) ⟨Heap.get?_push_size _ rfl,Heap.get?_push_of_some _ ho1,Heap.get?_push_of_some _ (Heap.get?_push_size _ rfl)⟩ (by simp) ?_ ?_ ?_
   ·rw[sz1];exact hAi (hAs ha)
   ·rw[sz1];exact hAi (hB8 _)
   ·intro b hbm;rw[Heap.size_push,sz1];rw[sz1]at hbm;simp at hbm;rcases hbm with rfl | rfl | rfl
    ·exact⟨hB8 _,.inr (hAu _)⟩
    ·exact⟨hAs (hAs ha),.inl rfl⟩
    ·exact⟨hAs (hB8 _),.inr (hA4 _)⟩
   ·rw[sz1];exact hAu _
   ·rw[Heap.size_push,sz1];exact Nat.le_succ_of_le (hAu _)
  ·rw[if_neg (by rw[decide_eq_false hz];simp)];refine wpAny_bind (wpAny_pure (wpAny_bind (wpAny_setEpoch_of ho rfl e4 ?_)));show wpAny _ _ (newFields "set_iterator" _ >>= _) _ _ _;refine wpAny_bind (wpAny_newObj_type (wpAny_pure ⟨_,rfl,"set_iterator",_,⟨_,Heap.get?_push_size _ rfl,rfl⟩,FS.slot_sin.lookup,?_⟩) (by show 5<=_;decide));refine h s.heap.objs.size [s.heap.objs.size,a] _ ss _ _ s.drawn e2 (hC7 _) (fun b o e=>Heap.get?_push_of_some _ e) (qH0 (ep:=ep) (es:=es) (t:=t) (hAi ha) e4 _ (fun i=>if i=0 then 0 else t.place.getD 0 0+1) ?_) ⟨Heap.get?_push_size _ rfl,Heap.get?_push_of_some _ ho⟩ (by simp) ?_ (hA4 _) (by rw[Heap.size_push];exact hAu _)
   ·intro A' E' s' Q' i hi ho' hq;refine qI4 ho' e4 hb (by omega) led ?_;rw[hA1,hB6]at hi;rcases Nat.lt_or_ge es.size 1 with z0 | z1
    ·have e0:es=#[]:=Array.eq_empty_of_size_eq_zero (by omega);have p0:t.place=#[]:=Array.eq_empty_of_size_eq_zero (by omega);subst e0;rw[p0]at hq ⊢;rw[qPa]
     simpa using hq
    ·have z:es.size=1:=by omega
     obtain⟨x,e0⟩:∃ x,es=#[x]:=by
      have:=Array.size_eq_one_iff.mp z;exact this
     obtain⟨p,p0⟩:∃ p,t.place=#[p]:=Array.size_eq_one_iff.mp (by omega);subst e0;rw[p0]at hq ⊢;obtain⟨k,x⟩:=x;by_cases i0:i=0
     ·subst i0;rw[if_pos rfl,qQo (hAk _)]
      simpa using hq
     ·have i1:i=1:=by simp at hi;omega
      subst i1;rw[if_neg (by decide)];show Q' (match (#[(k,x)]:Array (Int×Value))[SetTable.below #[p] (p+1)]?,(#[p]:Array Nat)[SetTable.below #[p] (p+1)]? with | some (_,x),some j=>some (x,j+1) | _,_=>none) s';rw[qQp (hB8 _)]
      simpa using hq
   ·intro b hbm;rw[Heap.size_push];simp at hbm;rcases hbm with rfl | rfl
    ·exact⟨hB8 _,.inr (hA4 _)⟩
    ·exact⟨hAs ha,.inl rfl⟩
end
end L2
namespace L2
open PySem PySem.Spec PyProof.Rows
section
variable {X:Cx} {pins:List (Addr×Obj)} {σ:St} {H:Hp} {s:Shared} {h':Heap}
theorem Inv.turnedT {t':Nat} {d':Drawn} {ch:List Addr} {a:Addr} {o:HO} (I:Inv X pins σ H s) (k:∀ b u,b∉ch->s.heap.get? b=some u->h'.get? b=some u) (f:∀ b∈ch,qHz X pins H b) (hp:s.heap.objs.size<=a) (new:qBo X.prog X.w (upd H a o) h' a o) :
  Inv X pins σ (upd H a o) { s with heap:=h',toks:=t',drawn:=d' }:=by
 have nit:∀ b u,H b=some u->b∉ch:=fun b u e z=>by rw[(f b z).1]at e;cases e
 have hn:H a=none:=I.hok.fresh hp;refine I.step (g':=s.gens) (d':=d') (ch:=ch) (fun b hb=>?_) (fun b u _ _ hc e _=>k b u hc e) (fun b u _ _ hc e _=>⟨u.slots,k b u hc e⟩) (fun b u _ e n=>?_) (fun b u hc e=>⟨u,k b u hc e⟩) (fun b xs q=>by rw[qAh (qAk q hn)];exact q) (fun b u v q=>by rw[qAh (qAk q hn)];exact q)
  (fun b ps q=>⟨#[],by rw[qAh (qAk q hn),q];simp⟩) (fun m hm=>?_) (fun b u e=>?_) I.bare
 ·obtain⟨_,f1,_,f3,f4,f5⟩:=f b hb;exact⟨f3,f1,f4,f5⟩
 ·rw[qAh (hAi (hAo (Heap.lt_size e) hp))];exact n
 ·obtain⟨ob,es,ep,ho,r⟩:=hm;exact⟨ob,es,ep,k _ ob (fun z=>(f _ z).2.1 rfl) ho,r⟩
 ·by_cases hb:b=a
  ·subst hb;rw[upd_same]at e;cases e;exact new
  ·rw[qAh hb]at e;refine(I.hok b u e).stay (fun c v hc q=>k c v ?_ q) (fun c q=>by rw[qAh (qAk q hn)];exact q) fun c xs q=>by rw[qAh (qAk q hn)];exact q
   rcases hc with z | z
   ·rw[z];exact nit b u e
   ·exact nit c _ z
end
section
variable {P:Program} {w:World} {A:Around} {E:Value->Shared->Prop} {s:Shared} {a:Addr} {ss:List Str}
theorem qIu (hh:A.handled=none) (hS:qBh P w s.heap a ss)
  (h:∀ (vs:List Value) (ss1:List Str) (h1:Heap) (tk:Nat) (d:Drawn),StrsAre vs ss1->ss1.Perm ss->(∀ b o,s.heap.get? b=some o->h1.get? b=some o)->s.heap.objs.size<=h1.objs.size->Q vs { s with heap:=h1,toks:=tk,drawn:=d }):wpAny (model P w) A (collect (.ref a)) Q E s:=by
 unfold collect;refine wpAny_bind (wpAny_runValue (codeAny_builtin PySem.F.entry_proto_collect ?_));rw[Around.under_plainId PySem.F.plain_proto_collect _];show wpAny _ A.in1 (newList [] >>= fun l=>again (.builtin "list.__iadd__" ⟨[l,.ref a],[]⟩)) _ _ _;refine wpAny_bind (wpAny_newObj_type ?_);refine wpAny_pure ⟨plainId_quiet PySem.F.plain_list_iadd _,codeAny_builtin PySem.F.entry_list_iadd ?_⟩;rw[Around.under_plainId PySem.F.plain_list_iadd _];have hS1:qBh P w (s.heap.push (seqObj "list" #[] 0)) a ss:=hS.at fun o e=>Heap.get?_push_of_some _ e
 have hL1:(s.heap.push (seqObj "list" #[] 0)).get? s.heap.objs.size=some (seqObj "list" #[] 0):=Heap.get?_push_size _ rfl;have hT:∀ s':Shared,qBh P w s'.heap a ss->s'.TypeIs (.ref a) "set":=fun s' z=>by
  obtain⟨es,ep,t,ho,_⟩:=z;exact⟨_,ho,rfl⟩
 have ha:a<s.heap.objs.size:=by
  obtain⟨es,ep,t,ho,_⟩:=hS;exact Heap.lt_size ho
 have hz:ss.length<scanBound:=by
  obtain⟨es,ep,t,_,_,e2,e3,_⟩:=hS;rw[<-e2.strs,hA1,hA1,hB6];exact e3
 have hne:Builtin.List.listSameRef (.ref s.heap.objs.size) (.ref a)=false:=by
  show(s.heap.objs.size == a)=false;exact beq_eq_false_iff_ne.mpr (hBw ha)
 show wpAny _ A.in1 (Builtin.List.listExtendWith (.ref s.heap.objs.size) (.ref a) (.ref s.heap.objs.size)) _ _ { s with heap:=s.heap.push (seqObj "list" #[] 0) };unfold Builtin.List.listExtendWith;refine wpAny_bind (wpAny_typeOf (hT _ hS1) ?_);rw[if_neg (by rw[hne];decide)];refine wpAny_bind (qOd hS1 fun I fp vs ss1 St h1 d q1 q2 q3 W st hI hfp hge hsz=>?_);have hS2:qBh P w h1 a ss:=hS1.at fun o e=>q3 _ _ e
 have hL2:h1.get? s.heap.objs.size=some (seqObj "list" #[] 0):=q3 _ _ hL1;refine wpAny_bind (wpAny_holding ?_);unfold Builtin.List.listLengthHint;refine wpAny_bind (wpAny_specialOf (hT { s with heap:=h1,drawn:=d } hS2) PySem.F.slot_set_len.lookup ?_);dsimp only;rw[show splitId "set.__len__" = some ("set","__len__") from by decide +kernel];dsimp only;refine wpAny_bind (wpAny_isInstance (b:=true) (hT { s with heap:=h1,drawn:=d } hS2) sub_set_self ?_);rw[if_neg (by decide),if_pos (by decide +kernel)];refine wpAny_bind (wpAny_typeOf (hT { s with heap:=h1,drawn:=d } hS2) (wpAny_pure ?_));rw[if_pos (by decide +kernel)];refine wpAny_bind (wpAny_rule ?_);unfold Builtin.List.listTouch;have hL3:=get?_update_seq hL2 (·.push .none);have hL4:=get?_update_seq hL3 (·.pop);refine wpAny_bind (wpAny_bind (listUpdate_at (s:={ s with heap:=h1,drawn:=d }) hL2 rfl (listUpdate_at (s:={ s with heap:=h1.update s.heap.objs.size (Obj.mapSeq (·.push .none)),drawn:=d }) hL3 rfl ?_)));have nS:s.heap.objs.size∉fp:=fun z=>by
  rcases(hfp _ z).2 with e | e
  ·exact absurd e (hBw ha)
  ·rw[size_push']at e;exact absurd e (Nat.not_succ_le_self _)
 have upd2:∀ b o,b≠s.heap.objs.size->h1.get? b=some o->((h1.update s.heap.objs.size (Obj.mapSeq (·.push .none))).update s.heap.objs.size (Obj.mapSeq (·.pop))).get? b=some o:=fun b o hb e=>by
  rw[Heap.get?_update_ne _ _ _ _ hb,Heap.get?_update_ne _ _ _ _ hb];exact e
 have hv:vs.length<=sizeLine:=by
  have e1:=q2.length_eq;have e2:vs.length=ss1.length:=by rw[<-q1.strs,hA1]
  rw[e2,e1];exact fits_of_scanBound hz
 have st3:=(W A.in1.in1.in1 (by exact hh)).frame 0 _ ((h1.update s.heap.objs.size (Obj.mapSeq (·.push .none))).update s.heap.objs.size (Obj.mapSeq (·.pop))) st fun b hb o e=>upd2 b o (fun z=>nS (z▸hb)) e
 refine wpAny_pure ⟨plainId_quiet PySem.F.plain_extend_loop _,codeAny_extend_loopS ((W _ (by exact hh)).toS) hv _ nS _ vs.length 0 _ _ _ rfl (hAk _) st3 hL4 (ItemsOf.nil _) fun s' acc' c' hm hS' hacc=>?_⟩;show wpAny _ A (load s.heap.objs.size >>= _) _ _ s';refine wpAny_bind (wpAny_load hS' ?_);have eacc:acc'.toList=vs:=by
  refine hBr fun i=>?_
  by_cases hi:i<vs.length
  ·have hi':i<acc'.size:=by rw[hacc.1];exact hi
   rw[hAx,hBk hi'];exact(hacc.2 i _ (hBk hi')).symm
  ·rw[hAx,Array.getElem?_eq_none (by rw[hacc.1];omega),hAy (by omega)]
 show wpAny _ A (pure acc'.toList) _ _ s';rw[eacc];obtain⟨h5,g5,d5,tk5,os5⟩:=s';cases(show g5=s.gens from hm.gens);cases(show d5=d from hm.drawn);cases(show os5=s.os from hm.os);have keep:∀ b o,h1.get? b=some o->b≠s.heap.objs.size->b≠I->h5.get? b=some o:=fun b o e n1 n2=>hm.heap b o (by simp only[hA9,hAv,or_false,not_or];exact⟨n1,n2⟩) (upd2 b o n1 e)
 refine wpAny_pure (h vs ss1 h5 tk5 d q1 q2 (fun b o e=>?_) ?_)
 ·have lt:=Heap.lt_size e;refine keep b o (q3 b o (Heap.get?_push_of_some _ e)) (hAi lt) (hAi (hAo lt ?_));rw[size_push']at hge;exact Nat.le_of_succ_le hge
 ·exact hAq (Heap.lt_size hS')
end
def qVg (P:Program) (w:World) (a:Addr) (ss:List Str):HO:=.ext fun h=>qBh P w h a ss
section
variable {X:Cx}
theorem qO5 (hc:X.calm=true):qB9 X (.type "set") (fun xs H Q=>∃ (p:Addr) (ss0:List Str),xs=[.ref p]/\SqL X.K H p (ss0.map V.str)/\ss0.length<1000/\∀ (r:Addr) (ss:List Str),H r=none->ss.Nodup->ss.length<=ss0.length->(∀ x,x∈ss↔x∈ss0)->Q (.ref r) (upd H r (qVg X.prog X.w r ss))):=by
 intro pins s σ H xs us Q I r h;obtain⟨p,ss0,rfl,hq,hl,q⟩:=h;obtain⟨u,rfl,rx⟩:=qC0 r;cases rx;obtain⟨its,rv,pl,hz⟩:=I.list hq;have hlen:=rv.length;rw[hA1]at hlen;refine qO4 (I.ok.hd hc) pl.isList (by simpa using qDb rv) (by have:scanBound=4096:=rfl;simp;omega) fun h' tk ss hS hO hk=>?_
 obtain⟨o1,o2,o3⟩:=hO;rw[hAb,<-hlen]at o2 o3;refine⟨.ref s.heap.objs.size,_,I.laid (t':=tk) (a:=s.heap.objs.size) (o:=qVg X.prog X.w s.heap.objs.size ss) (fun b o e=>hk b o (Heap.lt_size e) e) (hA4 _) ⟨hS,?_,fun h1 h2 z k=>z.at k⟩,rfl,q _ ss (I.hok.fresh (hA4 _)) o1 o2 fun x=>?_⟩
 ·obtain⟨es,ep,t,ho,_⟩:=hS;exact⟨_,ho⟩
 ·rw[o3 x,List.mem_iff_getElem?];constructor
  ·rintro⟨j,hj,rfl⟩;exact⟨j,by show ss0[j]?=some (ss0.getD j default);rw[hAa,hA3 hj];rfl⟩
  ·rintro⟨j,hj⟩;exact⟨j,(hAr.mp hj).1,by show ss0.getD j default=x;rw[hAa,hj];rfl⟩
theorem qDk (hc:X.calm=true):qB9 X (.builtin "sorted") (fun xs H Q=>∃ (p:Addr) (ss:List Str),xs=[.ref p]/\H p=some (qVg X.prog X.w p ss)/\ss.length<64/\∀ (r:Addr) (ss':List Str),H r=none->ss'.Perm ss->sortedS ss'=true->Q (.ref r) (upd H r (.lst (ss'.map V.str)))):=by
 intro pins s σ H xs us Q I r h;obtain⟨p,ss,rfl,hp,h64,q⟩:=h;obtain⟨u,rfl,rx⟩:=qC0 r;cases rx;have hS:qBh X.prog X.w s.heap p ss:=(I.hok p _ hp).1;refine Calls.call_function_entry kind_sorted plain_sorted entry_sorted (args_sorted1 _) ?_;unfold Builtin.«sorted»;refine wpAny_bind (m:=checkCount "sorted" 1 1 _) (wpAny_pure (wpAny_bind (qIu (I.ok.hd hc) hS fun vs ss1 h1 tk d a1 a2 a3 a4=>?_)));have hvl:vs.length=ss1.length:=by rw[<-a1.strs,hA1]
 have hl64:vs.length<64:=by rw[hvl,a2.length_eq];exact h64
 refine wpAny_bind (wpAny_newList ?_ (by have:sizeLine > 64:=(by decide);omega));have hoL:(h1.push (seqObj "list" vs.toArray 0)).get? h1.objs.size=some (seqObj "list" vs.toArray 0):=Heap.get?_push_size _ rfl;refine wpAny_bind (wpAny_holding (wpAny_call_entry slot_list_sort ⟨_,hoL,rfl⟩ entry_list_sort (list_sort_treeK strKind_oneLt hoL a1.keysOf (fun v1 v2 rest e=>keyKind_strs (by rw[<-e];exact a1)) hl64 fun st' b1 b2=>⟨_,rfl,?_⟩) (args_list_sort _)));obtain⟨ss',c1,c2,c3⟩:=sorted_out_str a1 b1 b2;refine wpAny_pure ⟨_,rfl,?_⟩;have nz:H h1.objs.size=none:=I.hok.fresh a4;obtain⟨e,he⟩:=sortedHeap_at (out:=(arrOf st').map (·.2)) hoL;refine⟨.ref h1.objs.size,_,I.turnedT (t':=tk) (d':=d) (ch:=[]) (a:=h1.objs.size) (o:=.lst (ss'.map V.str)) (fun b o _ eb=>?_) (fun b z=>nomatch z) a4 ?_,rfl,q _ ss' nz (c2.trans a2) c3⟩
 ·have e1:=a3 b o eb;have lt:=Heap.lt_size e1;rw[sortedHeap_old (hAi lt) (by rw[size_push'];exact hAs lt)];exact Heap.get?_push_of_some _ e1
 ·refine⟨?_,((arrOf st').map (·.2)).toList,e,qGl c1,he⟩;rw[hA1,c2.length_eq,a2.length_eq];exact hAq (qAg (by omega))
end
end L2
namespace L2
open PySem PySem.Spec PyProof.Rows
section
variable {X:Cx} {pins:List (Addr×Obj)} {σ:St} {H:Hp} {s:Shared} {h':Heap}
theorem Inv.turnedL {t':Nat} {ch:List Addr} (I:Inv X pins σ H s) (k:∀ b u,b∉ch->s.heap.get? b=some u->h'.get? b=some u) (f:∀ b∈ch,qHz X pins H b):Inv X pins σ H { s with heap:=h',toks:=t' }:=by
 have nit:∀ b u,H b=some u->b∉ch:=fun b u e z=>by rw[(f b z).1]at e;cases e
 refine I.step (g':=s.gens) (d':=s.drawn) (ch:=ch) (fun b hb=>?_) (fun b u _ _ hc e _=>k b u hc e) (fun b u _ _ hc e _=>⟨u.slots,k b u hc e⟩) (fun b u _ e n=>n) (fun b u hc e=>⟨u,k b u hc e⟩) (fun b xs q=>q) (fun b u v q=>q) (fun b ps q=>⟨#[],by rw[q];simp⟩) (fun m hm=>?_) (fun b u e=>?_) I.bare
 ·obtain⟨_,f1,_,f3,f4,f5⟩:=f b hb;exact⟨f3,f1,f4,f5⟩
 ·obtain⟨ob,es,ep,ho,r⟩:=hm;exact⟨ob,es,ep,k _ ob (fun z=>(f _ z).2.1 rfl) ho,r⟩
 ·refine(I.hok b u e).stay (fun c v hc q=>k c v ?_ q) (fun c q=>q) fun c xs q=>q
  rcases hc with z | z
  ·rw[z];exact nit b u e
  ·exact nit c _ z
end
def Itp (n:Nat) (Ls:Hp->Prop) (xv:Nat->List V):It:=⟨fun i H=>Ls H/\i<n,fun i H x H'=>∃ T,H T=none/\H'=upd H T (.tup (xv i))/\x = .ref T,fun i H=>Ls H/\i=n⟩
theorem qLl {P:Program} {w:World} {K:PySem.W.Frag} {elts:List Expr} {ct:Nat} {pos:Pos} (it:Addr) (fp fpW wr:List Addr) (n:Nat) (Ls:Hp->Prop) (xv:Nat->List V) (tn:Nat->Heap->Prop)
  (hit:it∈fp) (hwr:∀ b∈wr,b∈fp) (hobj:∀ i h,tn i h->∀ b∈fp,∃ o,h.get? b=some o/\∀ v,o.data≠.cell v) (hkeep:∀ i h h',tn i h->(∀ b∈fp,∀ o,h.get? b=some o->h'.get? b=some o)->tn i h')
  (hx:∀ i,(xv i).length<=sizeLine)
  (W:∀ (X:Cx),X.prog=P->X.w=w->X.K=K->X.calm=true->∀ (pins:List (Addr×Obj)) (s:Shared) (σ:L2.St) (H:Hp),Inv X pins σ H s->Ls H->∃ (Pt:Nat->Array Value->Prop) (St:Nat->Heap->Prop) (Mid:Nat->Addr->Heap->Prop),WalksT P w X.A it fpW wr n Pt St Mid/\(∀ i,tn i s.heap->St i s.heap)/\(∀ i h,St i h->tn i h) /\
   (∀ i vals,Pt i vals->qBe (xv i) vals.toList))
  (hself:∀ (A:Around) (i:Nat) (s:Shared) (Q:Value->Shared->Prop) (E:Value->Shared->Prop),tn i s.heap->Q (.ref it) s->wpAny (model P w) A (pyIter (.ref it)) Q E s):Turn P w K (.Tuple elts ct pos) (Itp n Ls xv) fp it tn where
 mem:=hit
 obj:=hobj
 keep:=hkeep
 item:=by
  intro X hP hw hK hc i pins s σ H E I hf st hg;obtain⟨hL,hi⟩:=hg;obtain⟨Pt,St,Mid,Wt,w1,w2,w3⟩:=W X hP hw hK hc pins s σ H I hL;subst hP hw hK;refine Wt.item i s _ _ hi (w1 i st) fun T vals h1 tk pv hT ht mid k1=>?_
  have hTw:T∉wr:=Wt.apart i T h1 mid;refine⟨_,rfl,Wt.go elts ct pos i T _ _ _ mid fun h2 st2 k2=>?_⟩;have ht2:IsTup h2 T (vals.toList).toArray:=by
   obtain⟨o,a1,a2,nn,a3⟩:=ht;exact⟨o,k2 _ _ hTw a1,a2,nn,by simpa using a3⟩
  refine⟨.ref T,upd H T (.tup (xv i)),I.turnedT (t':=tk) (d':=s.drawn) (ch:=wr) (fun b u hb e=>k2 b u hb (k1 b u hb e)) (fun b hb=>hf b (hwr b hb)) hT ⟨hx i,vals.toList,w3 i vals pv,ht2⟩,rfl,⟨T,I.hok.fresh hT,rfl,rfl⟩,w2 _ _ st2,fun b hb=>?_⟩;have e:b≠T:=by
   obtain⟨o,ho,_⟩:=hobj i _ st b hb;exact hAi (hAo (Heap.lt_size ho) hT)
  rw[qAh e];exact(hf b hb).1
 done:=by
  intro X hP hw hK hc i pins s σ H E I hf st hg;obtain⟨hL,hi⟩:=hg;obtain⟨Pt,St,Mid,Wt,w1,w2,w3⟩:=W X hP hw hK hc pins s σ H I hL;subst hP hw hK hi;exact Wt.done s _ _ (w1 _ st) fun h1 tk k1=>⟨rfl,I.turnedL (ch:=wr) (fun b u hb e=>k1 b u hb e) fun b hb=>hf b (hwr b hb)⟩
 self:=hself
theorem qMg (n a b:Nat) (h1:a<n) (h2:b<n):ZipApart (n+4) (n+2) (n+3) n (n+1) a b:=by
 constructor <;> (show @Ne Nat _ _;omega)
section
variable {X:Cx}
def qXz (K:PySem.W.Frag) (ta:TA):TI:=fun σ H R=>ta σ H fun vs H1=>∃ (a b:Addr) (xs ys:List V),vs=[.ref a,.ref b]/\SqL K H1 a xs/\SqL K H1 b ys/\R (Itp (min xs.length ys.length) (fun H=>SqL K H a xs/\SqL K H b ys) (fun i=>[xs.getD i .non,ys.getD i .non])) H1
theorem qQn:bootBuiltins "zip" = some (.type "zip"):=by decide +kernel
theorem qUk {a b:Expr} {ta:TA} {p pos tpos:Pos} {elts:List Expr} {ct:Nat} (hg:Gl X "zip") (hm:X.mg "zip" = none) (ha:PA X [a,b] ta) (hs:starEach [a,b] X.env=[(false,eval a X.env),(false,eval b X.env)]:=by rfl) (hs2:starEach [b] X.env=[(false,eval b X.env)]:=by rfl) :
  PI X (.Tuple elts ct tpos) (.Call (.Name "zip" p) [a,b] [] pos) (qXz X.K ta):=by
 intro pins s σ H R I h;refine Call_ (qGn I hg hm qQn (hBs (thn (ha pos pins s σ H _ I h) fun us s1 ⟨vs,H1,I1,r1,q1⟩=>?_) (by rw[hs,hs2]) (by rw[hs2];rfl)));obtain⟨l1,l2,xs,ys,e,hx,hy,q⟩:=q1;subst e;obtain⟨u1,u2,rfl,r1,r2⟩:=qLi r1;cases r1;cases r2;obtain⟨it1,rv1,pl1,hz1⟩:=I1.list hx;obtain⟨it2,rv2,pl2,hz2⟩:=I1.list hy;have n1:=rv1.length;have n2:=rv2.length;have b1:l1<s1.heap.objs.size:=by obtain⟨o,n,e,_⟩:=pl1;exact Heap.lt_size e
 have b2:l2<s1.heap.objs.size:=by obtain⟨o,n,e,_⟩:=pl2;exact Heap.lt_size e
 refine call_zip_2 pl1.isList pl2.isList fun h1 z1 z2 z3 z4 z5 z6 z7=>?_
 refine wpAny_pyIter_zip z1 ?_;have D:=qMg s1.heap.objs.size l1 l2 b1 b2;have hfp:∀ b∈[s1.heap.objs.size+4,s1.heap.objs.size+2,s1.heap.objs.size+3,s1.heap.objs.size,s1.heap.objs.size+1],s1.heap.objs.size<=b:=fun b hb=>by
  simp only[hA9,hAv,or_false]at hb;rcases hb with rfl | rfl | rfl | rfl | rfl
  ·exact Nat.le_add_right _ _
  ·exact Nat.le_add_right _ _
  ·exact Nat.le_add_right _ _
  ·exact hA4 _
  ·exact Nat.le_add_right _ _
 refine⟨s1.heap.objs.size+4,[s1.heap.objs.size+4,s1.heap.objs.size+2,s1.heap.objs.size+3,s1.heap.objs.size,s1.heap.objs.size+1],
  fun i h=>IsZip h (s1.heap.objs.size+4) (s1.heap.objs.size+2) (s1.heap.objs.size+3) .none/\IsPair h (s1.heap.objs.size+2) (.ref s1.heap.objs.size) (.ref (s1.heap.objs.size+1))/\(∃ a b,IsPair h (s1.heap.objs.size+3) a b)/\h.IsListIter s1.heap.objs.size l1 i/\h.IsListIter (s1.heap.objs.size+1) l2 i,
  _,H1,rfl,I1.kept (t':=s1.toks) z7,
  qLl (s1.heap.objs.size+4) _ [s1.heap.objs.size+4,s1.heap.objs.size+2,s1.heap.objs.size+3,s1.heap.objs.size,s1.heap.objs.size+1,l1,l2] [s1.heap.objs.size+4,s1.heap.objs.size+3,s1.heap.objs.size,s1.heap.objs.size+1] _ _ _ _ (by simp) (fun b hb=>?_) (fun i h st b hb=>?_) (fun i h h' st k=>?_) (fun i=>by show 2<=sizeLine;decide) ?_ (fun A i s' Q E st hQ=>wpAny_pyIter_zip st.1 hQ),
  ⟨z1,z2,⟨_,_,z3⟩,z4,z5⟩,fun b hb=>I1.fpOk (hfp b hb) (I1.hok.fresh (hfp b hb)),q⟩
 ·simp only[hA9,hAv,or_false]at hb ⊢;rcases hb with h | h | h | h
  ·exact .inl h
  ·exact .inr (.inr (.inl h))
  ·exact .inr (.inr (.inr (.inl h)))
  ·exact .inr (.inr (.inr (.inr h)))
 ·obtain⟨a1,a2,⟨c,d,a3⟩,⟨o4,a4,c4,d4⟩,⟨o5,a5,c5,d5⟩⟩:=st;simp only[hA9,hAv,or_false]at hb;rcases hb with rfl | rfl | rfl | rfl | rfl
  ·exact⟨_,a1,fun v z=>by cases z⟩
  ·exact⟨_,a2,fun v z=>by cases z⟩
  ·exact⟨_,a3,fun v z=>by cases z⟩
  ·exact⟨_,a4,fun v z=>by rw[d4]at z;cases z⟩
  ·exact⟨_,a5,fun v z=>by rw[d5]at z;cases z⟩
 ·obtain⟨a1,a2,⟨c,d,a3⟩,a4,a5⟩:=st;exact⟨k _ (by simp) _ a1,k _ (by simp) _ a2,⟨c,d,k _ (by simp) _ a3⟩,a4.at fun o e=>k _ (by simp) o e,a5.at fun o e=>k _ (by simp) o e⟩
 ·intro X' hP hw hK hc pins' s' σ' H' I' hL;obtain⟨hx',hy'⟩:=hL;rw[<-hK]at hx' hy';obtain⟨jt1,sv1,ql1,_⟩:=I'.list hx';obtain⟨jt2,sv2,ql2,_⟩:=I'.list hy';have m1:=sv1.length;have m2:=sv2.length;have Wz:=WalksT.zip2 (prog:=X.prog) (w:=X.w) (I'.ok.hd hc) _ _ _ _ _ l1 l2 D jt1.toArray jt2.toArray;rw[show min jt1.toArray.size jt2.toArray.size=min xs.length ys.length by show min jt1.length jt2.length=_;rw[m1,m2]]at Wz;refine⟨_,_,_,Wz,fun i st=>?_,fun i h st=>?_,fun i vals pv=>?_⟩
  ·obtain⟨a1,a2,a3,a4,a5⟩:=st;exact⟨a1,a2,a3,a4,a5,ql1.isList,ql2.isList⟩
  ·obtain⟨a1,a2,a3,a4,a5,_⟩:=st;exact⟨a1,a2,a3,a4,a5⟩
  ·obtain⟨x,y,e1,e2,rfl⟩:=pv;have e1:jt1[i]?=some x:=by simpa using e1
   have e2:jt2[i]?=some y:=by simpa using e2
   have c1:i<xs.length:=by rw[m1];exact(hAr.mp e1).1
   have c2:i<ys.length:=by rw[m2];exact(hAr.mp e2).1
   obtain⟨u,d1,d2⟩:=sv1.get (hA3 c1);obtain⟨v,f1,f2⟩:=sv2.get (hA3 c2);rw[e1]at d1;rw[e2]at f1;cases d1;cases f1;show qBe [xs.getD i .non,ys.getD i .non] [x,y];rw[hAa,hA3 c1,hAa,hA3 c2];exact .cons d2 (.cons f2 .nil)
end
section
variable {σ0:St} {g:TG} {tt:TT} {te:TE} {Q:List V->Hp->Prop} {H1:Hp}
theorem qMn (Pv:Nat->List V->Hp->Prop) (h0:Pv 0 [] H1) (hl:∀ i ys H,i<=n->Pv i ys H->Ls H)
  (hs:∀ i ys H T,i<n->Pv i ys H->H T=none->g (.ref T) σ0 (upd H T (.tup (xv i))) fun σ2 H2=>Sle σ0 σ2/\tt σ2 H2 fun b H3=>if b=true then te σ2 H3 (fun v H4=>ys.length<sizeLine/\Nxt n i Pv (ys++[v]) H4) else Nxt n i Pv ys H3)
  (hd:∀ ys H,Pv n ys H->Q ys H):qCq (Itp n Ls xv) σ0 g tt te Q H1:=by
 refine⟨fun i m ys H=>m=n - i/\i<=n/\Pv i ys H,⟨n,by simp,hAk _,h0⟩,?_⟩;rintro i m ys H ⟨rfl,hi,p⟩;have q:=hl i ys H hi p;by_cases hlt:i<n
 ·refine .inr ⟨⟨q,hlt⟩,fun x H' y=>?_⟩;obtain⟨T,e1,e2,e3⟩:=y;subst e2 e3;exact hs i ys H T hlt p e1
 ·have e:i=n:=by omega
  subst e;exact .inl ⟨⟨q,rfl⟩,hd ys H p⟩
end
end L2
namespace L2
open PySem PySem.Spec PyProof.Rows
section
variable {X:Cx} {pins:List (Addr×Obj)} {σ:St} {H H':Hp} {s:Shared}
theorem qOh (I:Inv X pins σ H s) (O:CmpOk X.N X.env.scope N' scope sub) (hf:∀ b∈fp,qHz X pins H b)
  (hfl:∀ b∈fp,b<s.heap.objs.size) (nf:o0.isFreed=false) (nc:∀ v,o0.data≠.cell v) :
  Inv (qBr X scope N' (s.heap.objs.size+1) s H fp) [(s.heap.objs.size,o0)] (subσ sub σ) H
   { s with heap:=pushCells ((s.heap.push o0).push { cls:=.type "dict",data:=.dict #[] }) scope.names }:=by
 have hk3:∀ b o,s.heap.get? b=some o->(s.heap.push o0).get? b=some o:=fun b o e=>Heap.get?_push_of_some _ e
 have sz3:(s.heap.push o0).objs.size=s.heap.objs.size+1:=Heap.size_push ..;have hk:∀ b o,s.heap.get? b=some o->(pushCells ((s.heap.push o0).push { cls:=.type "dict",data:=.dict #[] }) scope.names).get? b=some o :=
  fun b o e=>pushCells_keeps _ _ b o (Heap.get?_push_of_some _ (hk3 b o e))
 have cf:=qFx (h3:=s.heap.push o0) I O hk3;rw[sz3]at cf;have hC:H (s.heap.objs.size+1)=none:=I.hok.fresh (hAu _);have nsC:(pushCells ((s.heap.push o0).push { cls:=.type "dict",data:=.dict #[] }) scope.names).Ns (s.heap.objs.size+1) (fun _=>none):=by
  rw[<-sz3];exact(Heap.Ns.new _ _).keeps (pushCells_keeps _ _)
 have has:∀ x,(scope.names.lookup x=some .cell\/scope.names.lookup x=some .free)->∃ c,(cellsFrom (s.heap.objs.size+1+1) scope.names (qCc X.env.cells scope.names [])).lookup x=some c:=fun x hx=>by
  refine Option.isSome_iff_exists.mp (hC0 _ _ _ ?_);rcases hx with z | z
  ·exact .inl z
  ·exact .inr (qDh (.inl (hB0 z)))
 have kindB:∀ x,(qBz X.env scope (s.heap.objs.size+1)).kindOf x=(scope.names.lookup x).map fun k=>if (k == NameKind.free && X.env.scope.kind == .function && X.env.scope.names.lookup x == some .cell) then NameKind.cell else k:=fun x=>qC7
 have cellOk:∀ x c,(qBz X.env scope (s.heap.objs.size+1)).cells.lookup x=some c->∃ v,(pushCells ((s.heap.push o0).push { cls:=.type "dict",data:=.dict #[] }) scope.names).IsCell c v:=fun x c h=>by
  rcases cf.1 x c h with q | q
  ·exact⟨_,q.1⟩
  ·obtain⟨v,z⟩:=I.cell x c q.2;exact⟨v,z.keeps hk⟩
 refine⟨⟨I.ok.mod,O.kind,I.ok.glob,I.ok.blt,hAu _,fun x y c h1 h2=>cf.2 x y c h1 h2,fun x hx=>?_,fun x c hx h=>?_,I.ok.hd,I.ok.frames,.inl rfl,fun b hb=>?_,fun b o e=>I.bs b o e,hAt I.ok.bsz I.sz,fun b o e hb=>?_,fun b hb=>?_,I.stack,I.stkFree⟩,
  rfl,I.bare,Un.kept hk,⟨fun _=>none,nsC,fun i x v h1 h2 h3=>?_⟩,cellOk,hC,fun x c h=>?_,fun p hp=>?_,I.hok.kept hk,?_⟩
 ·-- has
  refine has x ?_;have hx:(qBz X.env scope (s.heap.objs.size+1)).kindOf x=some .cell\/(qBz X.env scope (s.heap.objs.size+1)).kindOf x=some .free:=hx;rw[kindB]at hx;cases e:scope.names.lookup x with
  | none=>rw[e]at hx;rcases hx with z | z <;> cases z
  | some k =>
   rw[e]at hx;cases k with
   | cell=>exact .inl rfl
   | free=>exact .inr rfl
   | _=>exfalso;rcases hx with z | z <;> simp at z
 ·-- cab
  rcases cf.1 x c h with q | q
  ·have:=q.2.1;show s.heap.objs.size<=c;omega
  ·exfalso;have e:=qBm O.nd q.1;have hx':(!(scope.names.lookup x == some NameKind.free))=true:=hx;rw[e]at hx';exact absurd hx' (by decide)
 ·-- exf
  obtain⟨f0,f1,f2,f3,f4,f5⟩:=hf b hb;have lt:=hfl b hb;refine⟨fun e=>?_,fun x c h e=>?_⟩
  ·have e':b=s.heap.objs.size+1:=e;rw[e']at lt;exact absurd lt (Nat.not_lt.mpr (hAu _))
  ·rcases cf.1 x c h with q | q
   ·have z:=q.2.1;rw[e]at z;exact absurd lt (Nat.not_lt.mpr (hAt (hAt (hAu _) (hAu _)) z))
   ·exact f4 x c q.2 e
 ·-- noex
  obtain⟨f0,f1,f2,f3,f4,f5⟩:=hf b hb;rcases f3 with z | z
  ·exact I.ok.noex b o e z
  ·exact absurd (hAo (Heap.lt_size (I.ok.bs b o e).1) z) (hB3 _)
 ·-- exfs
  obtain⟨f0,f1,f2,f3,f4,f5⟩:=hf b hb;exact fun z=>f2 (qGp I z f1)
 ·-- loc
  have h1':N'[i]?=some x:=h1;have hsub:∃ k,sub[i]?=some (some k)/\(σ[k]?).join=some v:=by
   unfold subσ at h2;rw[hAl]at h2;cases e:sub[i]? with
   | none=>rw[e]at h2;cases h2
   | some o =>
    rw[e]at h2;cases o with
    | none=>cases h2
    | some k=>exact⟨k,rfl,by simpa using h2⟩
  obtain⟨k,hk1,hk2⟩:=hsub;obtain⟨nk,fx⟩:=O.sub i k x hk1 h1';have sk:σ[k]?=some (some v):=by
   cases e:σ[k]? with
   | none=>rw[e]at hk2;cases hk2
   | some o=>rw[e]at hk2;cases o with
    | none=>cases hk2
    | some y=>cases hk2;rfl
  have cx:=O.free _ (hB0 fx) rfl;obtain⟨m,hn,hl⟩:=I.loc;obtain⟨u,ru,lk⟩:=hl k x v nk sk (by
   rcases cx with z | z
   ·exact .inr (.inl z)
   ·exact .inr (.inr z))
  refine⟨u,ru,.inr ⟨?_,?_⟩⟩
  ·show(qBz X.env scope (s.heap.objs.size+1)).kindOf x=some .cell\/(qBz X.env scope (s.heap.objs.size+1)).kindOf x=some .free;rw[kindB,fx];by_cases hc:(NameKind.free == NameKind.free && X.env.scope.kind == .function && X.env.scope.names.lookup x == some .cell)=true
   ·exact .inl (by rw[hC3,if_pos hc])
   ·exact .inr (by rw[hC3,if_neg hc])
  ·rcases lk with ⟨kl,_⟩ | ⟨_,c,hc,hcell⟩
   ·exfalso;have kl':X.env.scope.names.lookup x=some .local:=kl;rcases cx with z | z <;> rw[kl']at z <;> cases z
   ·obtain⟨c',hc'⟩:=has x (.inr fx);refine⟨c',hc',?_⟩;rcases cf.1 x c' hc' with q | q
    ·exfalso;have e:=qBm O.nd q.2.2;rw[fx]at e;cases e
    ·rw[hc]at q;have e:c=c':=hAg q.2;subst e;exact hcell.keeps hk
 ·-- freeC
  rcases cf.1 x c h with q | q
  ·exact I.hok.fresh (by have:=q.2.1;omega)
  ·exact I.freeC x c q.2
 ·-- pin
  have hp':p=(s.heap.objs.size,o0):=by
   have:p∈([]++[(s.heap.objs.size,o0)]:List (Addr×Obj)):=hp
   simpa using this
  subst hp';refine⟨pushCells_keeps _ _ _ _ (Heap.get?_push_of_some _ (Heap.get?_push_size _ nf)),I.hok.fresh (hA4 _),hAi (hB8 _),fun z=>?_,fun v z=>?_⟩
  ·rcases hA9.mp (I.stkSub _ z) with e | e
   ·exact absurd I.lt (by rw[<-e];exact hB3 _)
   ·exact I.nofs (hA4 _) e
  ·exact nc v z
 ·-- len
  show(subσ sub σ).length=N'.length;unfold subσ;rw[hA1,O.len]
theorem Inv.repin (I:Inv X ((acc,o) :: pins) σ H s) (k:∀ b u,b≠acc->s.heap.get? b=some u->h'.get? b=some u) (e:h'.get? acc=some o') (nc:∀ v,o'.data≠.cell v) (hx:acc∈X.ex\/X.s₀.heap.objs.size<=acc) (np:∀ p∈X.pn++pins,p.1≠acc) :
  Inv X ((acc,o') :: pins) σ H { s with heap:=h',toks:=t' }:=by
 have pa:=I.pin (acc,o) (hA8 _ hA6);have I1:Inv X pins σ H s:=I.pins_of fun p hp=>I.pin p (hA8 _ (hA5 _ hp))
 have I2:Inv X pins σ H { s with heap:=h',toks:=t' }:=I1.turned (t':=t') (it:=acc) k pa.2.1 pa.2.2.1 hx
  (fun y c hy z=>by
   obtain⟨w',o2,ho2,hd2⟩:=I.cell y c hy;rw[z,pa.1]at ho2;exact pa.2.2.2.2 _ (by cases ho2;exact hd2)) np
 refine I2.pins_of fun p hp=>?_
 rcases hA9.mp hp with z | z
 ·subst z;exact⟨e,pa.2.1,pa.2.2.1,pa.2.2.2.1,nc⟩
 ·exact I2.pin p (hA8 _ z)
end
def qB7 (tpos:Pos) (it:Value) (target:Expr) (env:Env) (ifs:List Expr) (body:Sem Unit) (k:Sem Fin):Sem Fin:=do
 standAt tpos
 match ← pyNext it with
 | none=>pure (.done .next)
 | some v =>
  letOwnedTupleGo target it v
  assign target env v
  let mut ok:=true
  for c in ifs do
   if ok then ok ← isTrue c env (eval c env)
  if ok then
   body
  k
theorem qIs (hsh:compTurn e d it acc env=qB7 tpos it target env ifs body (again (.compLoop e d it acc env))) (hdn:∀ (A:Around) (Q:PySem.Fin->Shared->Prop) (E:Value->Shared->Prop) (s:Shared),wpAny (model prog w) A ((compTurn e d it acc env).onRaise (fun x=>do noteFrame x env;theTreesLotGoes x)) Q E s->wpAny (model prog w) (A.under (.compLoop e d it acc env)) ((model prog w).den (.compLoop e d it acc env)) Q E s) (I:Nat->Shared->Prop)
  (turn:∀ n s,I n s->wpAny (model prog w) A (pyNext it) (fun r s₁=>match r with
   | none=>R (.ok .next) s₁
   | some v=>wpAny (model prog w) A (letOwnedTupleGo target it v) (fun _ s₁'=>wpAny (model prog w) A (assign target env v) (fun _ s₂ =>
     wpAny (model prog w) A (forIn ifs true fun c r=>if r=true then do let ok ← isTrue c env (eval c env);pure (ForInStep.yield ok) else pure (ForInStep.yield r)) (fun ok s₃ =>
      if ok=true then wpAny (model prog w) A body (fun _ s₅=>∃ m,m<n/\I m s₅) (fun _ _=>False) s₃
      else ∃ m,m<n/\I m s₃) (fun _ _=>False) s₂) (fun _ _=>False) s₁') (fun _ _=>False) s₁) (fun _ _=>False) s)
  (n:Nat) (h:I n s):codeAny (model prog w) A (.compLoop e d it acc env) R s:=by
 refine codeAny_loop rfl I (fun n s hI=>?_) n h;refine hdn _ _ _ _ (wpAny_noted ?_);rw[hsh];unfold qB7;refine wpAny_bind (wpAny_standAt (wpAny_bind (wpAny_mono (turn n s hI) (fun r s₁ h₁=>?_) fun _ _ h'=>h'.elim)));cases r with
 | none=>exact wpAny_pure h₁
 | some v =>
  refine wpAny_bind (wpAny_mono h₁ (fun _ s₁' h₁=>?_) fun _ _ h'=>h'.elim);refine wpAny_bind (wpAny_mono h₁ (fun _ s₂ h₂=>wpAny_bind (wpAny_mono h₂ (fun ok s₃ h₃=>?_) fun _ _ h'=>h'.elim)) fun _ _ h'=>h'.elim);cases ok with
  | false=>exact wpAny_pure ⟨rfl,h₃⟩
  | true=>exact wpAny_bind (wpAny_mono h₃ (fun _ s₅ h₅=>wpAny_pure ⟨rfl,h₅⟩) fun _ _ h'=>h'.elim)
section
variable {AS:Type}
abbrev TB (AS:Type):=AS->St->Hp->(AS->St->Hp->Prop)->Prop
def PBd (X:Cx) (AO:AS->Obj->Prop) (acc:Addr) (body:Sem Unit) (tb:TB AS):Prop :=
 ∀ (pins:List (Addr×Obj)) (s:Shared) (σ:St) (H:Hp) (a:AS) (o:Obj) (Q:AS->St->Hp->Prop),Inv X ((acc,o) :: pins) σ H s->(∀ p∈X.pn++pins,p.1≠acc)->(acc∈X.ex\/X.s₀.heap.objs.size<=acc)->AO a o->tb a σ H Q ->
  wpAny (model X.prog X.w) X.A body (fun _ s'=>∃ (a':AS) (o':Obj) (σ':St) (H':Hp),Inv X ((acc,o') :: pins) σ' H' s'/\AO a' o'/\Q a' σ' H') (fun _ _=>False) s
def qFv (J:It) (g:TG) (tt:TT) (tb:TB AS) (Q:AS->St->Hp->Prop) (a0:AS) (σ0:St) (H0:Hp):Prop :=
 ∃ W:Nat->Nat->AS->St->Hp->Prop,(∃ m,W 0 m a0 σ0 H0)/\∀ i m a σ H,W i m a σ H ->
  (J.stop i H/\Q a σ H) \/
  (J.go i H/\∀ x H',J.yld i H x H'->g x σ H' fun σ2 H2=>tt σ2 H2 fun b H3 =>
   if b=true then tb a σ2 H3 (fun a' σ' H'=>∃ m',m'<m/\W (i+1) m' a' σ' H') else ∃ m',m'<m/\W (i+1) m' a σ2 H3)
theorem qU7
  (hc:X.calm=true) (xxe:X.xe=fun _ _=>False) (hsh:compTurn e d (.ref it) (.ref acc) X.env=qB7 tpos (.ref it) target X.env ifs body (again (.compLoop e d (.ref it) (.ref acc) X.env))) (hdn:∀ (A:Around) (Q:PySem.Fin->Shared->Prop) (E:Value->Shared->Prop) (s:Shared),wpAny (model X.prog X.w) A ((compTurn e d (.ref it) (.ref acc) X.env).onRaise (fun x=>do noteFrame x X.env;theTreesLotGoes x)) Q E s->wpAny (model X.prog X.w) (A.under (.compLoop e d (.ref it) (.ref acc) X.env)) ((model X.prog X.w).den (.compLoop e d (.ref it) (.ref acc) X.env)) Q E s)
  (T:Turn X.prog X.w X.K target J fp it tn) (st:tn 0 s.heap) (hf:∀ b∈fp,qHz X ((acc,o) :: pins) H b) (hg:PG X target g) (ht:PTs X ifs tt) (hb:PBd X AO acc body tb)
  (I:Inv X ((acc,o) :: pins) σ H s) (np:∀ p∈X.pn++pins,p.1≠acc) (hx:acc∈X.ex\/X.s₀.heap.objs.size<=acc) (ha:AO a o) (rd:qFv J g tt tb Q a σ H)
  (hR:∀ (s':Shared) (a':AS) (o':Obj) (σ':St) (H':Hp),Inv X ((acc,o') :: pins) σ' H' s'->AO a' o'->Q a' σ' H'->(∀ b∈fp,H' b=none)->R (.ok .next) s') :
  codeAny (model X.prog X.w) X.A (.compLoop e d (.ref it) (.ref acc) X.env) R s:=by
 obtain⟨W,⟨m0,w0⟩,turn⟩:=rd;have stat:∀ {o':Obj} {H':Hp},(∀ b∈fp,H' b=none)->∀ b∈fp,qHz X ((acc,o') :: pins) H' b:=fun {o' H'} hn b hb=>by
  obtain⟨f0,f1,f2,f3,f4,f5⟩:=hf b hb;refine⟨hn b hb,f1,f2,f3,f4,fun p hp=>?_⟩;rcases hAd.mp hp with z | z
  ·exact f5 p (hB1 _ z)
  ·rcases hA9.mp z with z | z
   ·rw[z];exact f5 (acc,o) (hA8 _ hA6)
   ·exact f5 p (hA8 _ (hA5 _ z))
 refine qIs hsh hdn (fun n s'=>∃ (i:Nat) (a':AS) (o':Obj) (σ':St) (H':Hp),Inv X ((acc,o') :: pins) σ' H' s'/\AO a' o'/\tn i s'.heap/\(∀ b∈fp,H' b=none)/\W i n a' σ' H') ?_ m0 ⟨0,a,o,σ,H,I,ha,st,fun b hb=>(hf b hb).1,w0⟩;rintro n s4 ⟨i,a4,o4,σ4,H4,I4,ha4,st4,fr4,w4⟩;rcases turn i n a4 σ4 H4 w4 with ⟨stop,q⟩ | ⟨go,step⟩
 ·refine thn (T.done X rfl rfl rfl hc i _ s4 σ4 H4 (fun _ _=>False) I4 (stat fr4) st4 stop) fun r s5 ⟨hr,I5⟩=>?_
  subst hr;exact hR s5 a4 o4 σ4 H4 I5 ha4 q fr4
 ·refine thn (T.item X rfl rfl rfl hc i _ s4 σ4 H4 (fun _ _=>False) I4 (stat fr4) st4 go) fun r s5 ⟨u,hr,h5⟩=>?_
  subst hr;refine thn h5 fun _ s6 ⟨x,H6,I6,r6,y6,st6,fr6⟩=>?_
  have I6':=I6.pinned (stat fr6) (T.obj _ _ st6);have back:∀ {o':Obj} {σ':St} {H':Hp} {s':Shared},Inv X ((acc,o') :: (pins++pinsAt fp s6.heap)) σ' H' s'->Inv X ((acc,o') :: pins) σ' H' s'/\tn (i+1) s'.heap/\∀ b∈fp,H' b=none:=fun {o' σ' H' s'} I'=>by
   refine⟨Inv.unpinned (pl:=pinsAt fp s6.heap) I',T.keep _ _ _ st6 fun b hb o e=>?_,fun b hb=>?_⟩
   ·exact(I'.pin (b,o) (hA8 _ (hA5 _ (hA8 _ (qBv hb e))))).1
   ·obtain⟨o,e,d⟩:=T.obj _ _ st6 b hb;exact(I'.pin (b,o) (hA8 _ (hA5 _ (hA8 _ (qBv hb e))))).2.1
  have np':∀ p∈X.pn++(pins++pinsAt fp s6.heap),p.1≠acc:=fun p hp=>by
   rcases hAd.mp hp with z | z
   ·exact np p (hB1 _ z)
   ·rcases hAd.mp z with z | z
    ·exact np p (hA8 _ z)
    ·obtain⟨hb,_⟩:=qIi z;exact Ne.symm ((stat (o':=o4) fr6 p.1 hb).2.2.2.2.2 (acc,o4) (hA8 _ hA6))
  have tg:=hg _ s6 σ4 H6 x u _ I6' r6 (step x H6 y6);rw[xxe]at tg;refine thn tg fun _ s7 ⟨σ7,H7,I7,q7⟩=>?_
  have tts:=ht _ s7 σ7 H7 _ I7 q7;rw[xxe]at tts;refine thn tts fun b s8 ⟨H8,I8,q8⟩=>?_
  cases b with
  | false =>
   rw[if_neg hAe]at q8 ⊢;obtain⟨m',hm',w8⟩:=q8;obtain⟨b1,b2,b3⟩:=back I8;exact⟨m',hm',i+1,a4,o4,σ7,H8,b1,ha4,b2,b3,w8⟩
  | true =>
   rw[if_pos rfl]at q8 ⊢;refine thn (hb _ s8 σ7 H8 a4 o4 _ I8 np' hx ha4 q8) fun _ s9 ⟨a9,o9,σ9,H9,I9,ha9,m',hm',w9⟩=>?_
   obtain⟨b1,b2,b3⟩:=back I9;exact⟨m',hm',i+1,a9,o9,σ9,H9,b1,ha9,b2,b3,w9⟩
end
end L2
namespace L2
open PySem PySem.Spec PyProof.Rows
theorem qD5 (hcl:(clausesOf e)[d]?=some g) (hga:g.is_async=0)
  (hdn:∀ (A:Around) (Q:PySem.Fin->Shared->Prop) (E:Value->Shared->Prop) (s:Shared),wpAny (model prog w) A ((compStart e d it acc env).onRaise (fun x=>do noteFrame x env;standAt theWindowsPlace)) Q E s->wpAny (model prog w) (A.under (.compStart e d it acc env)) ((model prog w).den (.compStart e d it acc env)) Q E s)
  (hq:∀ it',(Code.compLoop e d it' acc env).quiet=true)
  (h0:codeAny (model prog w) A (.compLoop e d it acc env) R s)
  (h:wpAny (model prog w) A (pyIter it) (fun it' s'=>codeAny (model prog w) A (.compLoop e d it' acc env) R s') (fun _ _=>False) s):codeAny (model prog w) A (.compStart e d it acc env) R s:=by
 refine codeAny_of_tree (hdn _ _ _ _ (wpAny_notedAt ?_));unfold compStart;rw[hcl];show wpAny _ _ (if (g.is_async != 0)=true then _ else _) _ _ s;rw[if_neg (by rw[hga];decide)];refine wpAny_bind (wpAny_askSetting (wpAny_ite ?_));split
 ·first
   | exact wpAny_bind (wpAny_pure (wpAny_pure (And.intro (hq _) h0)))
   | exact wpAny_pure (And.intro (hq _) h0)
 ·exact wpAny_bind (wpAny_rule (wpAny_bind (wpAny_standAt (wpAny_bind (wpAny_mono h (fun it' s' h'=>wpAny_pure (And.intro (hq _) h')) fun _ _ x=>x.elim)))))
section
variable {X:Cx} {pins:List (Addr×Obj)} {σ:St} {H:Hp} {s:Shared} {AS:Type}
theorem qU8 {e target:Expr} {gcl:Comprehension} {tpos:Pos} {ifs:List Expr} {scope:Scope} {N':List Str} {sub:List (Option Nat)} {J:It} {fp:List Addr} {it:Addr} {tn:Nat->Heap->Prop} {g:TG} {tt:TT} {tb:TB AS} {o0:Obj} {a0:AS} {AO:AS->Obj->Prop} {HOf:Addr->AS->HO} {newAcc:Sem Value} {body:Addr->Env->Sem Unit}
  {Qe:AS->Hp->Prop} {E:Value->Shared->Prop} {RR:Value->Addr->Result->Shared->Prop}
  (hnew:∀ (A:Around) (s:Shared) (Q:Value->Shared->Prop) (E:Value->Shared->Prop),Q (.ref s.heap.objs.size) { s with heap:=s.heap.push o0 }->wpAny (model X.prog X.w) A newAcc Q E s) (nf:o0.isFreed=false) (nc:∀ a o,AO a o->∀ v,o.data≠.cell v) (hA0:AO a0 o0)
  (hHO:∀ (H':Hp) (h:Heap) (acc:Addr) (a:AS) (o:Obj),sysModules<acc->AO a o->h.get? acc=some o->qBo X.prog X.w H' h acc (HOf acc a))
  (hcl:(clausesOf e)[0]?=some gcl) (hga:gcl.is_async=0)
  (hdnS:∀ (it acc:Value) (env:Env) (A:Around) (Q:PySem.Fin->Shared->Prop) (E:Value->Shared->Prop) (s:Shared),wpAny (model X.prog X.w) A ((compStart e 0 it acc env).onRaise (fun x=>do noteFrame x env;standAt theWindowsPlace)) Q E s->wpAny (model X.prog X.w) (A.under (.compStart e 0 it acc env)) ((model X.prog X.w).den (.compStart e 0 it acc env)) Q E s)
  (hdnL:∀ (it acc:Value) (env:Env) (A:Around) (Q:PySem.Fin->Shared->Prop) (E:Value->Shared->Prop) (s:Shared),wpAny (model X.prog X.w) A ((compTurn e 0 it acc env).onRaise (fun x=>do noteFrame x env;theTreesLotGoes x)) Q E s->wpAny (model X.prog X.w) (A.under (.compLoop e 0 it acc env)) ((model X.prog X.w).den (.compLoop e 0 it acc env)) Q E s)
  (hq:∀ it acc env,(Code.compLoop e 0 it acc env).quiet=true)
  (hsh:∀ (it acc:Addr) (env:Env),compTurn e 0 (.ref it) (.ref acc) env=qB7 tpos (.ref it) target env ifs (body acc env) (again (.compLoop e 0 (.ref it) (.ref acc) env)))
  (hc:X.calm=true) (I:Inv X pins σ H s) (O:CmpOk X.N X.env.scope N' scope sub) (T:Turn X.prog X.w X.K target J fp it tn) (st:tn 0 s.heap) (hf:∀ b∈fp,qHz X pins H b)
  (B:∀ C s H fp,PG (qBr X scope N' C s H fp) target g/\PTs (qBr X scope N' C s H fp) ifs tt/\∀ acc,PBd (qBr X scope N' C s H fp) AO acc (body acc (qBr X scope N' C s H fp).env) tb)
  (rd:qFv J g tt tb (fun a _ H'=>Qe a H') a0 (subσ sub σ) H)
  (hRR:∀ (acc C:Addr) (a:AS) (H':Hp) (s':Shared),Inv X pins σ (upd H' acc (HOf acc a)) s'->qHz X pins (upd H' acc (HOf acc a)) C->(∃ m,s'.heap.Ns C m)->H' acc=none->Qe a H'->RR (.ref acc) C (.ok .next) s') :
  wpAny (model X.prog X.w) X.A newAcc (fun acc s₃=>wpAny (model X.prog X.w) X.A (newFunctionEnv scope X.env.globals (qCc X.env.cells scope.names []) [] X.env.qual none .none (some X.env)) (fun cenv s₄ =>
   codeAny (model X.prog X.w) X.A (.compStart e 0 (.ref it) acc { cenv with scope:=relabel scope X.env }) (RR acc cenv.locals) s₄) E s₃) E s:=by
 refine hnew _ _ _ _ (qDu ?_);have hfl:∀ b∈fp,b<s.heap.objs.size:=fun b hb=>by
  obtain⟨o,e,_⟩:=T.obj _ _ st b hb;exact Heap.lt_size e
 have I0:=qOh (o0:=o0) (sub:=sub) I O hf hfl nf (nc a0 o0 hA0);have sz3:(s.heap.push o0).objs.size=s.heap.objs.size+1:=Heap.size_push ..;dsimp only;show codeAny _ _ (.compStart _ 0 (.ref it) (.ref s.heap.objs.size) { scope:=relabel scope X.env,locals:=(s.heap.push o0).objs.size,globals:=X.env.globals,cells:=cellsFrom ((s.heap.push o0).objs.size+1) scope.names (qCc X.env.cells scope.names []),qual:=X.env.qual,func:=none,code:=X.env.code,frame:=X.env.frame,builtins:=X.env.builtins })
  (RR (.ref s.heap.objs.size) (s.heap.push o0).objs.size) { s with heap:=pushCells ((s.heap.push o0).push { cls:=.type "dict",data:=.dict #[] }) scope.names }
 rw[sz3];show codeAny _ _ (.compStart _ 0 (.ref it) (.ref s.heap.objs.size) (qBz X.env scope (s.heap.objs.size+1))) (RR (.ref s.heap.objs.size) (s.heap.objs.size+1)) _;generalize hs0:({ s with heap:=pushCells ((s.heap.push o0).push { cls:=.type "dict",data:=.dict #[] }) scope.names }:Shared)=s0 at I0 ⊢;have hk0:∀ b o,s.heap.get? b=some o->s0.heap.get? b=some o:=fun b o e=>by
  rw[<-hs0];exact pushCells_keeps _ _ b o (Heap.get?_push_of_some _ (Heap.get?_push_of_some _ e))
 have st0:tn 0 s0.heap:=T.keep _ _ _ st fun b hb o e=>hk0 b o e
 clear hs0 sz3;generalize hX:qBr X scope N' (s.heap.objs.size+1) s H fp=X' at I0;have xp:X'.prog=X.prog:=by rw[<-hX];rfl
 have xw:X'.w=X.w:=by rw[<-hX];rfl
 have xK:X'.K=X.K:=by rw[<-hX];rfl
 have xA:X'.A=X.A:=by rw[<-hX];rfl
 have xc:X'.calm=true:=by rw[<-hX];exact hc
 have xe:X'.env=qBz X.env scope (s.heap.objs.size+1):=by rw[<-hX];rfl
 have xx:X'.ex=fp:=by rw[<-hX];rfl
 have xf:X'.fs=frs X.stack:=by rw[<-hX];rfl
 have xpn:X'.pn=[]:=by rw[<-hX];rfl
 have x0:X'.s₀=s:=by rw[<-hX];rfl
 have xh:X'.H₀=H:=by rw[<-hX];rfl
 have xxe:X'.xe=fun _ _=>False:=by rw[<-hX];rfl
 obtain⟨hg,ht,hbd⟩:=B (s.heap.objs.size+1) s H fp;rw[hX]at hg ht hbd;clear hX;have f0':∀ b∈fp,qHz X' [(s.heap.objs.size,o0)] H b:=fun b hb=>by
  obtain⟨f0,f1,f2,f3,f4,f5⟩:=hf b hb;refine⟨f0,(I0.ok.exf b (by rw[xx];exact hb)).1,I0.ok.exfs b (by rw[xx];exact hb),.inl (by rw[xx];exact hb),(I0.ok.exf b (by rw[xx];exact hb)).2,fun p hp'=>?_⟩;rw[xpn,List.nil_append,hA7]at hp';rw[hp'];exact hBw (hfl b hb)
 have loop:codeAny (model X.prog X.w) X.A (.compLoop e 0 (.ref it) (.ref s.heap.objs.size) (qBz X.env scope (s.heap.objs.size+1))) (RR (.ref s.heap.objs.size) (s.heap.objs.size+1)) s0:=by
  have T':Turn X'.prog X'.w X'.K target J fp it tn:=by rw[xp,xw,xK];exact T
  have hb0:=hbd s.heap.objs.size;have key:=qU7 (X:=X') (AO:=AO) (e:=e) (d:=0) (tpos:=tpos) (R:=RR (.ref s.heap.objs.size) (s.heap.objs.size+1)) (pins:=[]) (a:=a0) (o:=o0) (acc:=s.heap.objs.size) xc xxe (hsh it s.heap.objs.size X'.env) (by rw[xp,xw];exact hdnL _ _ _) T' st0 f0' hg ht hb0 I0 (by rw[xpn];exact fun p hp=>absurd hp (by simp)) (.inr (by rw[x0];exact hA4 _)) hA0 rd ?_
  ·rw[xp,xw,xA,xe]at key;exact key
  intro s5 a5 o5 σ5 H4 I5 ha5 q fr5;have pa:=I5.pin (s.heap.objs.size,o5) (by rw[xpn];simp);have nacc:H4 s.heap.objs.size=none:=pa.2.1;have nC:H4 (s.heap.objs.size+1)=none:=by have z:=I5.free;rw[xe]at z;exact z
  have un:Un (frs X.stack) fp H H4 s.heap s5.heap:=by have z:=I5.base;rw[xf,xx,xh,x0]at z;exact z
  have un2:Un (frs X.stack) fp H (upd H4 s.heap.objs.size (HOf s.heap.objs.size a5)) s.heap s5.heap:=by
   refine⟨un.keep,un.slot,fun b o e n hx=>?_,un.there,fun b xs e=>?_,fun b o u e=>?_,fun b ps e=>?_⟩
   ·rw[qAh (hAi (Heap.lt_size e))];exact un.free b o e n hx
   ·have z:=un.tups b xs e;rw[qAh (qAk z nacc)];exact z
   ·have z:=un.frzs b o u e;rw[qAh (qAk z nacc)];exact z
   ·obtain⟨more,z⟩:=un.tbls b ps e;exact⟨more,by rw[qAh (qAk z nacc)];exact z⟩
  have hok5:HOk X.prog X.w H4 s5.heap:=by have z:=I5.hok;rw[xp,xw]at z;exact z
  have hok2:HOk X.prog X.w (upd H4 s.heap.objs.size (HOf s.heap.objs.size a5)) s5.heap:=fun b u e=>by
   by_cases hb:b=s.heap.objs.size
   ·subst hb;rw[upd_same]at e;cases e;exact hHO _ _ _ _ _ I.big ha5 pa.1
   ·rw[qAh hb]at e;exact(hok5 b u e).stay (fun _ _ _ q=>q) (fun c q=>by rw[qAh (qAk q nacc)];exact q) fun c xs q=>by rw[qAh (qAk q nacc)];exact q
  have os5:s5.os=s.os:=by have z:=I5.os;rw[x0]at z;exact z
  have J5:Inv X pins σ (upd H4 s.heap.objs.size (HOf s.heap.objs.size a5)) s5:=I.call' os5 un2 hok2 I5.bare fun b hb=>by
   obtain⟨f0,f1,f2,f3,f4,f5⟩:=hf b hb;exact⟨f3,f1,f4,f5⟩
  refine hRR _ _ a5 H4 s5 J5 (I.fpOk (hAu _) ?_) ?_ nacc q
  ·rw[qAh (Nat.succ_ne_self _)];exact nC
  ·obtain⟨m,hn,_⟩:=I5.loc;rw[xe]at hn;exact⟨m,hn⟩
 exact qD5 hcl hga (hdnS _ _ _) (fun it'=>hq _ _ _) loop (T.self _ 0 _ _ _ st0 loop)
end
end L2
namespace L2
open PySem PySem.Spec PyProof.Rows
def qDf (e iter2:Expr) (acc:Addr) (env:Env):Sem Unit:=do
 let x ← eval iter2 env
 standAt iter2.pos
 let x ← foldedSetIterable iter2 env x
 let _ ← runOwn (.compStart e 1 (← holding [x] (pyIter x)) (.ref acc) env) env
def qVy {AS:Type} (wi:TI) (g:TG) (tt:TT) (tb:TB AS):TB AS:=fun a σ H Q=>wi σ H fun J H1=>qFv J g tt tb Q a σ H1
theorem qHf {X:Cx} {AS:Type} {AO:AS->Obj->Prop} {acc:Addr} {e iter2 target2:Expr} {ifs2:List Expr} {tpos2:Pos} {gcl:Comprehension} {body:Sem Unit} {wi:TI} {g:TG} {tt:TT} {tb:TB AS} (hc:X.calm=true) (xxe:X.xe=fun _ _=>False)
  (hi:PI X target2 iter2 wi) (hg:PG X target2 g) (ht:PTs X ifs2 tt) (hb:PBd X AO acc body tb) (hfold:∀ x,foldedSetIterable iter2 X.env x=pure x)
  (hcl:(clausesOf e)[1]?=some gcl) (hga:gcl.is_async=0)
  (hsh:∀ it:Addr,compTurn e 1 (.ref it) (.ref acc) X.env=qB7 tpos2 (.ref it) target2 X.env ifs2 body (again (.compLoop e 1 (.ref it) (.ref acc) X.env)))
  (hdnS:∀ (it:Value) (A:Around) (Q:PySem.Fin->Shared->Prop) (E:Value->Shared->Prop) (s:Shared),wpAny (model X.prog X.w) A ((compStart e 1 it (.ref acc) X.env).onRaise (fun x=>do noteFrame x X.env;standAt theWindowsPlace)) Q E s->wpAny (model X.prog X.w) (A.under (.compStart e 1 it (.ref acc) X.env)) ((model X.prog X.w).den (.compStart e 1 it (.ref acc) X.env)) Q E s)
  (hdnL:∀ (it:Value) (A:Around) (Q:PySem.Fin->Shared->Prop) (E:Value->Shared->Prop) (s:Shared),wpAny (model X.prog X.w) A ((compTurn e 1 it (.ref acc) X.env).onRaise (fun x=>do noteFrame x X.env;theTreesLotGoes x)) Q E s->wpAny (model X.prog X.w) (A.under (.compLoop e 1 it (.ref acc) X.env)) ((model X.prog X.w).den (.compLoop e 1 it (.ref acc) X.env)) Q E s)
  (hq:∀ it,(Code.compLoop e 1 it (.ref acc) X.env).quiet=true):PBd X AO acc (qDf e iter2 acc X.env) (qVy wi g tt tb):=by
 intro pins s σ H a o Q I np hx ha h;have h0:=hi _ s σ H _ I h;rw[xxe]at h0;unfold qDf;refine wpAny_bind (thn h0 fun v s1 h1=>wpAny_bind (wpAny_standAt (wpAny_bind (wpAny_of_eq (hfold v) (wpAny_bind (wpAny_holding (thn h1 fun itv s2 h2=>?_)))))));obtain⟨it,fp,tn,J,H2,e2,I2,T,st2,f2,rd⟩:=h2;subst e2;refine wpAny_bind (wpAny_runOwn ?_);have loop:=qU7 (X:=X) (AO:=AO) (e:=e) (d:=1) (tpos:=tpos2) (R:=fun r s'=>match r with
   | .ok f=>wpAny (model X.prog X.w) X.A (pure ():Sem Unit) (fun _ s'=>∃ (a':AS) (o':Obj) (σ':St) (H':Hp),Inv X ((acc,o') :: pins) σ' H' s'/\AO a' o'/\Q a' σ' H') (fun _ _=>False) s'
   | .error e=>cameBackBy (model X.prog X.w) X.A X.env (fun _ _=>False) e s') hc xxe (hsh it) (hdnL _) T st2 f2 hg ht hb I2 np hx ha rd
  (fun s' a' o' σ' H' I' ha' q' _=>wpAny_pure ⟨a',o',σ',H',I',ha',q'⟩)
 exact qD5 hcl hga (hdnS _) hq loop (T.self _ 0 _ _ _ st2 loop)
def qF6 (P:Program) (w:World) (ss:List Str) (o:Obj):Prop :=
 ∃ (es:Array (Int×Value)) (ep:Nat) (t:SetTable),o=sOb es ep t/\ElemsOf (PySem.strKind P w) es.toList/\StrsAre (es.toList.map (·.2)) ss/\es.size<scanBound/\t.fits es.size=true/\t.led=!w.params.followText "set-order"/\(es.size≠0->t.plain=false)
theorem qF6.set (x:qF6 P w ss o) (e:h.get? a=some o):qBh P w h a ss:=by
 obtain⟨es,ep,t,rfl,r⟩:=x;exact⟨es,ep,t,e,r⟩
theorem qBh.obj (x:qBh P w h a ss):∃ o,h.get? a=some o/\qF6 P w ss o:=by
 obtain⟨es,ep,t,e,r⟩:=x;exact⟨_,e,es,ep,t,rfl,r⟩
theorem qF6.nocell (x:qF6 P w ss o):∀ v,o.data≠.cell v:=by
 obtain⟨es,ep,t,rfl,_⟩:=x;intro v z;cases z
def qNc (elt:Expr) (acc:Addr) (env:Env):Sem Unit:=do
 let v ← eval elt env
 standAt elt.pos
 let _ ← call (.builtin "set.add") [.ref acc,v]
def qXg (te:TE):TB (List Str):=fun ss σ H Q=>te σ H fun v H'=>∃ x:Str,v = .str x/\ss.length<1000/\∀ ss',(if x∈ss then ss'=ss else ss'.Perm (ss++[x]))->Q ss' σ H'
theorem qSe (xxe:X.xe=fun _ _=>False) (he:PE X elt te):PBd X (qF6 X.prog X.w) acc (qNc elt acc X.env) (qXg te):=by
 intro pins s σ H a o Q I np hx ha h;have h0:=he _ s σ H _ I h;rw[xxe]at h0;unfold qNc;refine wpAny_bind (thn h0 fun v s1 ⟨y,H1,I1,r1,x,ex,hl,q⟩=>wpAny_bind (wpAny_standAt (wpAny_bind ?_)));subst ex;obtain⟨tk,rfl⟩:=r1;have pa:=I1.pin (acc,o) (hA8 _ hA6);have hS:qBh X.prog X.w s1.heap acc a:=ha.set pa.1;have hT:s1.TypeIs (.ref acc) "set":=by
  obtain⟨es,ep,t,ho,_⟩:=hS;exact⟨_,ho,rfl⟩
 refine wpAny_call_entry PySem.F.slot_set_add hT PySem.F.entry_set_add ?_ (PySem.F.args_set_add_2 _ _);unfold Builtin.«set.add» Builtin.Frozenset.oneOther;simp only[List.isEmpty_nil,bind_assoc];unfold Builtin.Frozenset.addrOf setAdd;refine wpAny_bind (wpAny_pure ?_);try dsimp only
 refine wpAny_bind (wpAny_pure ?_);try dsimp only
 refine wpAny_bind (wpAny_holding (wpAny_bind ((PySem.strKind X.prog X.w).pyHash (strKind_is X.prog X.w x tk) ?_)));refine qKa (s:={ s1 with toks:=s1.toks+1 }) hS (by have:scanBound=4096:=rfl;omega) fun h2 ss2 sb2 hS2 q2=>?_
 show wpAny _ _ (ret Value.none) _ _ _;refine wpAny_pure ⟨_,rfl,wpAny_pure ?_⟩;obtain⟨o2,e2,ho2⟩:=hS2.obj;exact⟨ss2,o2,σ,H1,I1.repin (t':=s1.toks+1) (fun b u hb e=>(sb2.2 b hb).trans e) e2 ho2.nocell hx np,ho2,q ss2 q2⟩
end L2
namespace L2
open PySem PySem.Spec PyProof.Rows
structure GC (P:Program) (w:World) {AS:Type} (e target iter:Expr) (ifs:List Expr) (scope:Scope) (tpos:Pos) (newAcc:Sem Value) (body:Addr->Env->Sem Unit) (o0:Obj) (a0:AS) (AO:AS->Obj->Prop) (HOf:Addr->AS->HO):Prop where
 new:∀ (A:Around) (s:Shared) (Q:Value->Shared->Prop) (E:Value->Shared->Prop),Q (.ref s.heap.objs.size) { s with heap:=s.heap.push o0 }->wpAny (model P w) A newAcc Q E s
 nf:o0.isFreed=false
 nc:∀ a o,AO a o->∀ v,o.data≠.cell v
 hA0:AO a0 o0
 hHO:∀ (H':Hp) (h:Heap) (acc:Addr) (a:AS) (o:Obj),sysModules<acc->AO a o->h.get? acc=some o->qBo P w H' h acc (HOf acc a)
 cl:∃ gs,clausesOf e=⟨target,iter,ifs,0⟩ :: gs
 dnS:∀ (it acc:Value) (env:Env) (A:Around) (Q:PySem.Fin->Shared->Prop) (E:Value->Shared->Prop) (s:Shared),wpAny (model P w) A ((compStart e 0 it acc env).onRaise (fun x=>do noteFrame x env;standAt theWindowsPlace)) Q E s->wpAny (model P w) (A.under (.compStart e 0 it acc env)) ((model P w).den (.compStart e 0 it acc env)) Q E s
 dnL:∀ (it acc:Value) (env:Env) (A:Around) (Q:PySem.Fin->Shared->Prop) (E:Value->Shared->Prop) (s:Shared),wpAny (model P w) A ((compTurn e 0 it acc env).onRaise (fun x=>do noteFrame x env;theTreesLotGoes x)) Q E s->wpAny (model P w) (A.under (.compLoop e 0 it acc env)) ((model P w).den (.compLoop e 0 it acc env)) Q E s
 q:∀ it acc env,(Code.compLoop e 0 it acc env).quiet=true
 sh:∀ (it acc:Addr) (env:Env),compTurn e 0 (.ref it) (.ref acc) env=qB7 tpos (.ref it) target env ifs (body acc env) (again (.compLoop e 0 (.ref it) (.ref acc) env))
def qTu {AS:Type} (sub:List (Option Nat)) (wi:TI) (g:TG) (tt:TT) (tb:TB AS) (a0:AS) (HOf:Addr->AS->HO):TE:=fun σ H Q=>wi σ H fun J H1 =>
 qFv J g tt tb (fun a _ H'=>∀ r,H' r=none->Q (.ref r) (upd H' r (HOf r a))) a0 (subσ sub σ) H1
section
variable {X:Cx} {AS:Type} {e target iter:Expr} {ifs:List Expr} {scope sc:Scope} {pos tpos cpos:Pos} {N N':List Str} {sub:List (Option Nat)} {wi:TI} {g:TG} {tt:TT} {tb:TB AS} {newAcc:Sem Value} {body:Addr->Env->Sem Unit} {o0:Obj} {a0:AS} {AO:AS->Obj->Prop} {HOf:Addr->AS->HO}
theorem qWg (GG:GC X.prog X.w e target iter ifs scope tpos newAcc body o0 a0 AO HOf) (hev:eval e X.env=comprehension e scope X.env cpos newAcc false (eval iter X.env)) (hN:X.N=N) (hsc:X.env.scope=sc) (O:CmpOk N sc N' scope sub) (hc:X.calm=true) (hi:PI X target iter wi)
  (B:∀ C s H fp,PG (qBr X scope N' C s H fp) target g/\PTs (qBr X scope N' C s H fp) ifs tt/\∀ acc,PBd (qBr X scope N' C s H fp) AO acc (body acc (qBr X scope N' C s H fp).env) tb)
  (hs:∀ x,foldedSetIterable iter X.env x=pure x:=by intro _;rfl):PE X e (qTu sub wi g tt tb a0 HOf):=by
 subst hN hsc;intro pins s σ H Q I h;rw[hev];obtain⟨gs,hcl⟩:=GG.cl;refine wpAny_comprehension_free (use:=none) hcl hs (qHv I O) O.kind (qE8 O) (thn (hi pins s σ H _ I h) fun v s1 h1=>thn h1 fun itv s2 h2=>?_);obtain⟨it,fp,tn,J,H2,e,I2,T,st2,f2,rd⟩:=h2;subst e;refine qU8 (RR:=fun acc C=>compPost (model X.prog X.w) X.A X.xe none (EP X pins σ Q) acc C) GG.new GG.nf GG.nc GG.hA0 GG.hHO (by rw[hcl];rfl) rfl GG.dnS GG.dnL GG.q GG.sh hc I2 O T st2 f2 B rd fun acc C a H' s' I' fC hn na q=>?_
 obtain⟨m,hn⟩:=hn;obtain⟨f0,f1,f3,f4,f5,f6⟩:=fC;refine⟨m,hn,fun h' sb=>?_⟩;exact⟨.ref acc,upd H' acc (HOf acc a),I'.turned (t':=s'.toks) (it:=C) (fun b o hb e=>(sb.2 b hb).trans e) f0 f1 f4 f5 f6,rfl,q acc na⟩
theorem qW8 (GG:GC X.prog X.w e target iter ifs scope tpos newAcc body o0 a0 AO HOf)
  (hev:∀ use,evalThenUse e X.env use=(do let _ ← comprehension e scope X.env cpos newAcc false (eval iter X.env) (some use))) (hN:X.N=N) (hsc:X.env.scope=sc) (O:CmpOk N sc N' scope sub) (hc:X.calm=true) (hi:PI X target iter wi)
  (B:∀ C s H fp,PG (qBr X scope N' C s H fp) target g/\PTs (qBr X scope N' C s H fp) ifs tt/\∀ acc,PBd (qBr X scope N' C s H fp) AO acc (body acc (qBr X scope N' C s H fp).env) tb)
  (nd:X.N.Nodup) (hy:X.N[i]?=some y) (hx:Loc X.env.scope y) (hsw:swapsWith e (some (.Name y py)) spos.line X.env=pure true:=by rfl)
  (hs:∀ x,foldedSetIterable iter X.env x=pure x:=by intro _;rfl) (hf:X.fn y=true\/X.env.scope.names.lookup y=some .local:=by first | exact .inl rfl | exact .inr rfl | assumption):PS X (.Assign [.Name y py] e spos) (qTj (qTu sub wi g tt tb a0 HOf) (qJ0 i)):=by
 subst hN hsc;intro pins s σ H D I h;rw[exec_Assign_Name_used _ _ _ _ hsw,hev];obtain⟨gs,hcl⟩:=GG.cl;refine wpAny_bind (wpAny_standAt (wpAny_bind ?_));refine wpAny_bind (wpAny_mono (wpAny_comprehension_free (use:=some (assign (.Name y py) X.env)) (Q:=fun _ s'=>SP X pins D .next s') hcl hs (qHv I O) O.kind (qE8 O) (thn (hi pins s σ H _ I h) fun v s1 h1=>thn h1 fun itv s2 h2=>?_)) (fun _ s' hq=>wpAny_pure (wpAny_pure hq)) fun _ _ e=>e);obtain⟨it,fp,tn,J,H2,e,I2,T,st2,f2,rd⟩:=h2;subst e;refine qU8 (RR:=fun acc C=>compPost (model X.prog X.w) X.A X.xe (some (assign (.Name y py) X.env)) (fun _ s'=>SP X pins D .next s') acc C) GG.new GG.nf GG.nc GG.hA0 GG.hHO (by rw[hcl];rfl) rfl GG.dnS GG.dnL GG.q GG.sh hc I2 O T st2 f2 B rd fun acc C a H' s' I' fC hn na q=>?_
 obtain⟨m,hn⟩:=hn;obtain⟨f0,f1,f3,f4,f5,f6⟩:=fC;show wpAny _ _ (assign (.Name y py) X.env (.ref acc)) _ _ s';refine wpAny_assign_Name (qFd (v:=.ref acc) I' nd hy hx rfl (fun s'' I'' ⟨b,sb,ha⟩=>?_) hf);have nCa:C≠b:=by
  rcases ha with z | z
  ·rw[z];exact f1
  ·exact fun e=>f5 _ _ z e.symm
 refine⟨m,hn.sameBut sb nCa,fun h' sb'=>?_⟩;exact⟨_,upd H' acc (HOf acc a),I''.turned (t':=s''.toks) (it:=C) (fun b o hb e=>(sb'.2 b hb).trans e) f0 f1 f4 f5 f6,q acc na⟩
end
section
variable {P:Program} {w:World} {target iter target2 iter2 elt kx vx:Expr} {ifs ifs2:List Expr} {scope:Scope} {pos:Pos}
theorem qS5:GC P w (.SetComp elt [⟨target,iter,ifs,0⟩,⟨target2,iter2,ifs2,0⟩] scope pos) target iter ifs scope iter.pos (newSet (.type "set")) (qDf (.SetComp elt [⟨target,iter,ifs,0⟩,⟨target2,iter2,ifs2,0⟩] scope pos) iter2) (qLt w) ([]:List Str) (qF6 P w) (qVg P w) where
 new:=fun A s Q E h=>by
  unfold newSet setsByText;refine wpAny_bind (wpAny_bind (wpAny_askSetting (wpAny_pure ?_)));dsimp only;simp only[newObj];exact wpAny_bind (wpAny_alloc (wpAny_pure h))
 nf:=rfl
 nc:=fun a o h=>h.nocell
 hA0:=by
  obtain⟨o,e,r⟩:=(qNb P w (h:=(({}:Heap).push (qLt w))) (a:=({}:Heap).objs.size) (Heap.get?_push_size _ rfl)).obj;rw[Heap.get?_push_size _ rfl]at e;cases e;exact r
 hHO:=fun H' h acc a o _ x e=>⟨x.set e,⟨o,e⟩,fun h1 h2 z k=>z.at k⟩
 cl:=⟨_,rfl⟩
 dnS:=fun _ _ _ _ _ _ _ h=>h
 dnL:=fun _ _ _ _ _ _ _ h=>h
 q:=fun _ _ _=>rfl
 sh:=fun it acc env=>by
  unfold qB7 qDf;simp only[bind_assoc];rfl
end
end L2
namespace L2
open PySem PySem.Spec PyProof.Rows
def DOb (P:Program) (w:World) (kvs:List (Key×V)) (o:Obj):Prop :=
 kvs.length<=sizeLine/\∃ (vs:List (Key×Value)) (es:Array DictEntry) (ep:Nat),KV kvs vs/\o.ExactDict/\o.data = .dict es ep/\KeysOf (qA2 P w) es/\Pairs (qA2 P w) es.toList vs/\(vs.map (·.1)).Nodup
def qHt (kx vx:Expr) (acc:Addr) (env:Env):Sem Unit:=do
 let kv ← eval kx env
 let vv ← holding [kv] (eval vx env)
 standAt { kx.pos with endLine:=vx.pos.endLine,endCol:=vx.pos.endCol }
 holding [kv,vv] (dictSet acc kv vv)
def qVw (tk tv:TE):TB (List (Key×V)):=fun kvs σ H Q=>tk σ H fun x H1=>tv σ H1 fun y H2=>∃ k:Key,x=kV k/\kvs.length<sizeLine/\Q (qDe kvs k y) σ H2
theorem qKv (xxe:X.xe=fun _ _=>False) (hk:PE X kx tk) (hv:PE X vx tv):PBd X (DOb X.prog X.w) acc (qHt kx vx acc X.env) (qVw tk tv):=by
 intro pins s σ H a o Q I np hx ha h;have h0:=hk _ s σ H _ I h;rw[xxe]at h0;unfold qHt;refine wpAny_bind (thn h0 fun u s1 ⟨x,H1,I1,r1,q1⟩=>wpAny_bind (wpAny_holding ?_));have h2:=hv _ s1 σ H1 _ I1 q1;rw[xxe]at h2;refine thn h2 fun r s2 ⟨y,H2,I2,r2,k,ex,hl,q⟩=>wpAny_bind (wpAny_standAt (wpAny_holding ?_))
 subst ex;obtain⟨hz,vs,es,ep,kv,d1,d2,d3,d4,d5⟩:=ha;have pa:=I2.pin (acc,o) (hA8 _ hA6);have hlen:=kv.length;refine wpAny_dictSet_pairs (hsz:=by omega) (qJs r1) (show s2.heap.DictOf (qA2 X.prog X.w) acc vs from ⟨o,es,ep,pa.1,d1,d2,d3,d4,d5⟩) fun h3 dd sb=>?_
 obtain⟨o3,es3,ep3,e1,e2,e3,e4,e5,e6⟩:=dd;have hl3:=qCu a k y;exact⟨qDe a k y,o3,σ,H2,I2.repin (t':=s2.toks+1) (fun b u hb e=>(sb.2 b hb).trans e) e1 (fun v z=>by rw[e3]at z;cases z) hx np,⟨by omega,_,es3,ep3,kv.put k r2,e2,e3,e4,e5,e6⟩,q⟩
theorem qOm :
  GC P w (.DictComp kx vx [⟨target,iter,ifs,0⟩] scope pos) target iter ifs scope iter.pos (newDict) (qHt kx vx) { cls:=.type "dict",data:=.dict #[] } ([]:List (Key×V)) (DOb P w) (fun _ kvs=>.dK kvs) where
 new:=fun A s Q E h=>wpAny_newObj_type h (by size_fits)
 nf:=rfl
 nc:=fun a o h v z=>by
  obtain⟨_,vs,es,ep,_,_,e,_⟩:=h;rw[e]at z;cases z
 hA0:=⟨hAk _,[],#[],0,.nil,⟨rfl,rfl,rfl⟩,rfl,fun e he=>by simp at he,.nil,List.nodup_nil⟩
 hHO:=fun H' h acc a o hb x e=>by
  obtain⟨hz,vs,es,ep,kv,d1,d2,d3,d4,d5⟩:=x;exact qOw hz (beq_eq_false_iff_ne.mpr (hBw hb)) kv ⟨o,es,ep,e,d1,d2,d3,d4,d5⟩
 cl:=⟨_,rfl⟩
 dnS:=fun _ _ _ _ _ _ _ h=>h
 dnL:=fun _ _ _ _ _ _ _ h=>h
 q:=fun _ _ _=>rfl
 sh:=fun _ _ _=>rfl
end L2
namespace L2
open PySem PySem.Spec PyProof.Rows
theorem FS.entry_dii:entryFor table "dict_itemiterator.__iter__" = some Builtin.«dict_keyiterator.__iter__»:=entryFor_alias (id':="dict_keyiterator.__iter__") (by kernel_rfl) (by first | rfl | decide +kernel | (unfold String.splitOn;simp +decide [String.splitOnAux])) (by decide +kernel) (by kernel_rfl)
def itV (kvs:List (Key×V)) (i:Nat):List V:=match kvs[i]? with
 | some p=>[kV p.1,p.2]
 | none=>[]
theorem qLo {P:Program} {w:World} {K:PySem.W.Frag} {elts:List Expr} {ct:Nat} {pos:Pos} (it d:Addr) (o:Obj) (kvs:List (Key×V)) (vs:List (Key×Value)) (es:Array DictEntry) (ep:Nat)
  (hne:d≠it) (kv:KV kvs vs) (hx:o.ExactDict) (hd:o.data = .dict es ep) (hk:KeysOf (qA2 P w) es) (hp:Pairs (qA2 P w) es.toList vs) (nd:(vs.map (·.1)).Nodup) :
  Turn P w K (.Tuple elts ct pos) (Itp kvs.length (fun H=>H d=some (.frz o (.dK kvs))) (itV kvs)) [it] it (fun i h=>∃ ok ov,IsItemIter h it d i vs.length ep ok ov) where
 mem:=by simp
 obj:=fun i h st b hb=>by
  have e:b=it:=by simpa using hb
  subst e;obtain⟨ok,ov,e⟩:=st;exact⟨_,e,fun v z=>by cases z⟩
 keep:=fun i h h' st k=>by
  obtain⟨ok,ov,e⟩:=st;exact⟨ok,ov,k it (by simp) _ e⟩
 item:=by
  intro X hP hw hK hc i pins s σ H E I hf st hg;subst hP hw hK;obtain⟨hH,hi⟩:=hg;obtain⟨ok,ov,hit⟩:=st;have ho:s.heap.get? d=some o:=(I.hok d _ hH).1;have da:s.heap.DictAt (qA2 X.prog X.w) d vs ep:=⟨o,es,ho,hx,hd,hk,hp,nd⟩;obtain⟨⟨k,xv⟩,hkx⟩:∃ p,kvs[i]?=some p:=⟨kvs[i],by simp[hi]⟩;have hvl:i<vs.length:=by have:=kv.length;omega
  obtain⟨⟨k',uv⟩,hkv⟩:∃ p,vs[i]?=some p:=⟨vs[i],by simp[hvl]⟩;have pr:(k=k'/\qBl xv uv):=by
   have:∀ {a:List (Key×V)} {b:List (Key×Value)} {i:Nat} {p:Key×V} {q:Key×Value},KV a b->a[i]?=some p->b[i]?=some q->p.1=q.1/\qBl p.2 q.2:=by
    intro a b i p q r
    induction r generalizing i with
    | nil=>intro h;simp at h
    | cons h t ih =>
     cases i with
     | zero=>intro e1 e2;simp at e1 e2;subst e1 e2;exact h
     | succ i=>intro e1 e2;exact ih (by simpa using e1) (by simpa using e2)
   exact this kv hkx hkv
  obtain⟨rfl,rv⟩:=pr;refine wpAny_pyNext_items_item hit da hkv fun key h1 hkey ho1 ht hs1 k1=>?_
  refine⟨_,rfl,wpAny_letOwnedTupleGo_items ho1 fun h2 hi2 sb2=>?_⟩;have hTit:s.heap.objs.size≠it:=hBw (Heap.lt_size hit);have ht2:h2.get? s.heap.objs.size=some { cls:=.type "tuple",data:=.seq #[key,uv] }:=sb2.extBut _ _ hTit ht;have rk:qBl (kV k) key:=by
   rcases keyIs_shape (show keyIs k key=true from hkey) with ⟨j,t,rfl,rfl⟩ | ⟨x,t,rfl,rfl⟩
   ·exact⟨t,rfl⟩
   ·exact⟨t,rfl⟩
  have ei:itV kvs i=[kV k,xv]:=by unfold itV;rw[hkx]
  refine⟨.ref s.heap.objs.size,upd H s.heap.objs.size (.tup (itV kvs i)),I.turnedT (t':=s.toks) (d':=s.drawn) (ch:=[it]) (fun b u hb e=>?_) hf (hA4 _) ⟨?_,[key,uv],?_,⟨_,ht2,rfl,_,rfl⟩⟩,rfl,⟨_,I.hok.fresh (hA4 _),rfl,rfl⟩,⟨_,_,hi2⟩,fun b hb=>?_⟩
  ·have nb:b≠it:=by simpa using hb
   exact sb2.extBut _ _ nb (k1 b u nb e)
  ·rw[ei];show 2<=sizeLine;decide
  ·rw[ei];exact .cons rk (.cons rv .nil)
  ·have e:b=it:=by simpa using hb
   subst e;rw[qAh (Ne.symm hTit)];exact(hf b (by simp)).1
 done:=by
  intro X hP hw hK hc i pins s σ H E I hf st hg;subst hP hw hK;obtain⟨hH,rfl⟩:=hg;obtain⟨ok,ov,hit⟩:=st;have ho:s.heap.get? d=some o:=(I.hok d _ hH).1;have da:s.heap.DictAt (qA2 X.prog X.w) d vs ep:=⟨o,es,ho,hx,hd,hk,hp,nd⟩;obtain⟨f0,f1,f2,f3,f4,f5⟩:=hf it (by simp);have hl:=kv.length;exact wpAny_pyNext_items_end (I.ok.hd hc) hit da (by simp;omega) fun h' eb=>⟨rfl,I.turned (t':=s.toks) (fun b o hb e=>eb b o hb e) f0 f1 f3 f4 f5⟩
 self:=fun A i s Q E st h=>by
  obtain⟨ok,ov,hit⟩:=st;have hT:s.TypeIs (.ref it) "dict_itemiterator":=⟨_,hit,rfl⟩;refine wpAny_pyIter_slot hT PySem.F.slot_dict_itemiterator_iter (wpAny_call_entry PySem.F.slot_dict_itemiterator_iter hT FS.entry_dii ?_ (PySem.F.args_dict_itemiterator_iter_1 _));exact wpAny_pure ⟨_,rfl,"dict_itemiterator",_,hT,PySem.F.slot_dict_itemiterator_next.lookup,h⟩
def qU5 (td:TE):TI:=fun σ H R=>td σ H fun x H1=>∃ d kvs,x = .ref d/\H1 d=some (.dK kvs)/\∀ o,R (Itp kvs.length (fun H=>H d=some (.frz o (.dK kvs))) (itV kvs)) (upd H1 d (.frz o (.dK kvs)))
theorem qPv {X:Cx} {oe:Expr} {td:TE} {apos cpos tpos:Pos} {elts:List Expr} {ct:Nat} (he:PE X oe td) (hbase:attributeBase oe "items" X.env (eval oe X.env)=eval oe X.env:=by rfl) (hline:(apos.endLine == cpos.line)=true:=by rfl) :
  PI X (.Tuple elts ct tpos) (.Call (.Attribute oe "items" apos) [] [] cpos) (qU5 td):=by
 intro pins s σ H R I h;refine wpAny_Call_method0_late hbase hline (thn (he pins s σ H _ I h) fun v s1 ⟨x,H1,I1,r1,q1⟩=>?_);obtain⟨d,kvs,e,hH,q⟩:=q1;subst e;cases r1;obtain⟨h1,h2⟩:=qMl I1 (x:=.ref d) (v:=.ref d) (T:="dict") rfl (.inr (.inr (.inl ⟨rfl,.inl ⟨kvs,hH⟩⟩)));obtain⟨hz,hsm,vs,kv,o,es,ep,ho,hx,hd,hk,hp,nd⟩:=qOv I1.hok hH;refine⟨"dict","dict.items",PySem.F.plainAttrs_dict,PySem.F.slot_dict_items,PySem.F.type_dict_items,h1,h2,Calls.callWith_builtin rfl (PySem.evalArgs_none ?_)⟩;refine wpAny_call_entry PySem.F.slot_dict_items h1 PySem.F.entry_dict_items ?_ (PySem.F.args_dict_items_1 _);unfold Builtin.«dict.items» Builtin.Dict.noArgs;refine wpAny_bind (wpAny_bind (wpAny_notOrdered_dict h1 ?_));refine wpAny_pure ?_;show wpAny _ _ (Builtin.Dict.showsAll d >>= _) _ _ _;unfold Builtin.Dict.showsAll;rw[if_neg (by rw[hsm];exact hAe)];refine wpAny_bind (wpAny_pure (wpAny_bind (wpAny_newObj_type (wpAny_pure ⟨_,rfl,?_⟩))));have I2:Inv X pins σ (upd H1 d (.frz o (.dK kvs))) s1:=by
  refine I1.write (t':=s1.toks) (h':=s1.heap) (x:=d) (e:=d) (by rw[hH];trivial) (.inl rfl) (fun _ _ _ q=>q) ⟨o,ho⟩ ⟨ho,?_⟩;exact⟨hz,hsm,vs,kv,o,es,ep,ho,hx,hd,hk,hp,nd⟩
 have I3:Inv X pins σ (upd H1 d (.frz o (.dK kvs))) { s1 with heap:=s1.heap.push { cls:=.type "dict_items",data:=.fields #[.ref d] } }:=I2.kept (t':=s1.toks) fun b o e=>Heap.get?_push_of_some _ e
 have da:(s1.heap.push { cls:=.type "dict_items",data:=.fields #[.ref d] }).DictAt (qA2 X.prog X.w) d vs ep:=⟨o,es,Heap.get?_push_of_some _ ho,hx,hd,hk,hp,nd⟩;refine wpAny_pyIter_items (s:={ s1 with heap:=s1.heap.push { cls:=.type "dict_items",data:=.fields #[.ref d] } }) ⟨_,Heap.get?_push_size _ rfl,rfl,rfl⟩ da ?_;have hd1:d<s1.heap.objs.size:=Heap.lt_size ho;have hne:d≠(s1.heap.push { cls:=.type "dict_items",data:=.fields #[.ref d] }).objs.size:=by rw[Heap.size_push];exact hAi (hAs hd1)
 refine⟨_,[(s1.heap.push { cls:=.type "dict_items",data:=.fields #[.ref d] }).objs.size],_,_,_,rfl,I3.kept (t':=s1.toks) fun b o e=>Heap.get?_push_of_some _ e,qLo _ d o kvs vs es ep hne kv hx hd hk hp nd,⟨_,_,Heap.get?_push_size _ rfl⟩,fun b hb=>?_,q o⟩;have e:b=(s1.heap.push { cls:=.type "dict_items",data:=.fields #[.ref d] }).objs.size:=by simpa using hb
 subst e;exact I3.fpOk (hA4 _) (I3.hok.fresh (hA4 _))
end L2
namespace L2
open PySem PySem.Spec PyProof.Rows
def VwS (v d:Addr):HO:=.ext fun h=>h.IsValuesView v d
def qWa:V->List V->Hp->VK->Prop:=fun x xs H Q=>∃ d kvs,x = .ref d/\xs=[]/\H d=some (.dK kvs)/\∀ v,H v=none->Q (.ref v) (upd H v (VwS v d))
section
variable {X:Cx}
theorem qN3:MtR X "dict.values" qWa:=by
 intro pins s σ H x xs v us Q I rx r h;obtain⟨d,kvs,rfl,rfl,hH,q⟩:=h;cases rx;cases r;obtain⟨hz,hsm,vs,kv,o,es,ep,ho,hx,hd,hk,hp,nd⟩:=qOv I.hok hH;have h1:s.TypeIs (.ref d) "dict":=⟨o,ho,hx.1⟩;refine wpAny_call_entry PySem.F.slot_dict_values h1 PySem.F.entry_dict_values ?_ (PySem.F.args_dict_values_1 _);refine wpAny_bind ?_;unfold Builtin.Dict.noArgs;refine wpAny_bind (wpAny_notOrdered_dict h1 (wpAny_pure ?_));show wpAny _ _ (Builtin.Dict.showsAll d >>= _) _ _ _;unfold Builtin.Dict.showsAll;rw[if_neg (by rw[hsm];exact hAe)];refine wpAny_bind (wpAny_pure (wpAny_bind (wpAny_newObj_type (wpAny_pure ⟨_,rfl,?_⟩))));refine⟨.ref s.heap.objs.size,_,I.laid (t':=s.toks) (a:=s.heap.objs.size) (o:=VwS s.heap.objs.size d) (fun b o e=>Heap.get?_push_of_some _ e) (hA4 _) ⟨⟨_,Heap.get?_push_size _ rfl,rfl,rfl⟩,⟨_,Heap.get?_push_size _ rfl⟩,fun h1 h2 z k=>?_⟩,rfl,q _ (I.hok.fresh (hA4 _))⟩;obtain⟨o',e',r'⟩:=z;exact⟨o',k _ e',r'⟩
theorem qS1:∀ {a:List (Key×V)} {b:List (Key×Value)},KV a b->qBe (a.map (·.2)) (b.map (·.2)):=by
 intro a b r
 induction r with
 | nil=>exact .nil
 | cons h t ih=>exact .cons h.2 ih
end
end L2
namespace L2
open PySem PySem.Spec PyProof.Rows PySem.W
abbrev Rng (n:Nat):Array Nat:=List.toArray (List.range n)
def Gd (n:Nat) (p:Array Nat):Prop:=p.Perm (Rng n)
theorem Gd.lt (h:Gd n p) (h0:0<n) (i:Nat):p.getD i 0<n:=by
 by_cases hi:i<p.size
 ·have e:p.getD i 0=p[i]:=by simp[Array.getD,hi]
  rw[e];have m:p[i]∈p.toList:=by simp
  have m2:=(hBc.mp h).mem_iff.mp m
  simpa using m2
 ·have e:p.getD i 0=0:=by simp[Array.getD,hi]
  rw[e];exact h0
theorem Gd.rev (h:Gd n p) (i j:Nat):Gd n (kas_rev p i j):=(mirror_perm _ _ _ _).trans h
theorem Gd.bub (h:Gd n p) (i j:Nat):Gd n (bubble p i j):=(bubble_perm _ _ _).trans h
section
variable {n:Nat} {cmp:Nat->Nat->(Bool->Shared->Prop)->Shared->Prop} {s:Shared} (hask:∀ i j C,i<n->j<n->(∀ b,C b s)->cmp i j C s) (h0:0<n)
include hask h0
theorem qN8 (g:Gd n p) (hq:∀ m,Q m s):∀ f m,(kas_asc p f m).kasWp cmp Q s
 | 0,m=>hq m
 | f+1,m=>by
  refine hask _ _ _ (g.lt h0 _) (g.lt h0 _) fun b=>?_
  dsimp only;split
  ·exact hq m
  ·exact qN8 g hq f (m+1)
theorem qHn (hq:∀ p m q,Gd n p->Q (p,m,q) s):∀ f p m q,Gd n p->(kas_desc f p m q).kasWp cmp Q s
 | 0,p,m,q,g=>hq p m q g
 | f+1,p,m,q,g=>by
  refine hask _ _ _ (g.lt h0 _) (g.lt h0 _) fun b=>?_
  dsimp only;split
  ·split
   ·exact qHn hq f _ _ _ (g.rev _ _)
   ·exact qHn hq f _ _ _ g
  ·refine hask _ _ _ (g.lt h0 _) (g.lt h0 _) fun d=>?_
   dsimp only;split
   ·exact hq p m q g
   ·exact qHn hq f _ _ _ g
theorem qK3 (g:Gd n p) (hq:∀ m p,Gd n p->Q (m,p) s) (a b:Nat):(kas_tail3 a b p).kasWp cmp Q s:=by
 unfold kas_tail3;rw[KasT.kasWp_bind];exact qN8 hask h0 (g.rev _ _) (fun m=>hq m _ (g.rev _ _)) _ _
theorem qFq (g:Gd n p) (hq:∀ m p,Gd n p->Q (m,p) s) (a b:Nat):(kas_descPart a b p).kasWp cmp Q s:=by
 unfold kas_descPart;rw[KasT.kasWp_bind];refine qHn hask h0 (fun p' m q g'=>?_) _ _ _ _ g;dsimp only;split
 ·exact qK3 hask h0 (g'.rev _ _) hq _ _
 ·exact qK3 hask h0 g' hq _ _
theorem qQd (g:Gd n p) (hq:∀ m p,Gd n p->Q (m,p) s) (b:Nat):(kas_count b p).kasWp cmp Q s:=by
 unfold kas_count;rw[KasT.kasWp_bind];refine qN8 hask h0 g (fun m=>?_) _ _;split
 ·exact hq _ _ g
 ·split
  ·refine hask _ _ _ (g.lt h0 _) (g.lt h0 _) fun c=>?_
   dsimp only;split
   ·exact hq _ _ g
   ·exact qFq hask h0 (g.rev _ _) hq _ _
  ·exact qFq hask h0 g hq _ _
theorem qHm (g:Gd n p) (hq:∀ m,Q m s) (k:Nat):∀ f l r,(kas_place p k f l r).kasWp cmp Q s
 | 0,l,r=>hq l
 | f+1,l,r=>by
  unfold kas_place;split
  ·exact hq l
  ·refine hask _ _ _ (g.lt h0 _) (g.lt h0 _) fun c=>?_
   dsimp only;split
   ·exact qHm g hq k f _ _
   ·exact qHm g hq k f _ _
theorem qRc (hq:∀ p,Gd n p->Q p s):∀ f p k,Gd n p->(kas_bin f p k).kasWp cmp Q s
 | 0,p,k,g=>hq p g
 | f+1,p,k,g=>by
  unfold kas_bin;rw[KasT.kasWp_bind];exact qHm hask h0 g (fun m=>qRc hq f _ _ (g.bub _ _)) k _ _ _
theorem qS2 (hq:∀ p,Gd n p->Q p s):(kas_sort n).kasWp cmp Q s:=by
 unfold kas_sort;rw[KasT.kasWp_bind];refine qQd hask h0 (Array.Perm.refl _) (fun m p g=>?_) _;dsimp only;split
 ·exact qRc hask h0 hq _ _ _ g
 ·exact hq _ g
end
def qVq (h:Heap) (v:Value) (t:List Str):Prop:=∃ a its,v = .ref a/\IsTup h a its/\StrsAre its.toList t/\t≠[]
theorem qFr (hQ:∀ c,Q c s):∀ {vs us:List Value} {x y:List Str} (i:Nat),StrsAre vs x->StrsAre us y->KatLex P w A b fin Q (vs.zip us) i s
 | _,_,_,_,i,.nil,_=>hQ fin
 | _,_,_,_,i,.cons _ _ _,.nil=>hQ fin
 | _,_,_,_,i,.cons p t r,.cons q u r'=>by
  refine kat_cons (wpAny_eqBool_str (kat_go (fun _=>kat_yes (qFr hQ (i+1) r r')) fun _=>kat_no ?_));cases hb:(b && i == 0) with
  | true=>exact strKind_oneLt P w A _ s _ _ _ _ rfl rfl (hQ _)
  | false=>exact kat_one _ _ (lt_str (hQ _))
section
variable {P:Program} {w:World} {A:Around} {E:Value->Shared->Prop} {s:Shared}
theorem qFc (k:∀ b o,b≠a->h.get? b=some o->h'.get? b=some o):∀ {vs:List Value} {ts:List (List Str)},Paired (qVq h) vs ts->(∀ v∈vs,v≠.ref a)->∃ fs:List Value,KatTups h' vs fs/\fs.length=vs.length/\∀ f∈fs,∃ x t,f=Value.str x t
 | _,_,.nil,_=>⟨[],trivial,rfl,fun f hf=>by cases hf⟩
 | _,_,@Paired.cons _ _ _ v t l1 l2 hh tt,hn=>by
  obtain⟨fs,q1,q2,q3⟩:=qFc k tt fun u hu=>hn u (hA5 _ hu)
  obtain⟨b,its,rfl,⟨o,g,c,n,d⟩,st,ne⟩:=hh;have nb:b≠a:=fun z=>hn _ hA6 (by rw[z])
  cases t with
  | nil=>exact absurd rfl ne
  | cons x r =>
   have e:=st.strs;cases hi:its.toList with
   | nil=>rw[hi]at e;cases e
   | cons f fr =>
    have hf:its[0]?=some f:=by rw[<-hAx,hi];rfl
    refine⟨f :: fs,.cons (k b o nb g) c d hf q1,by simp[q2],fun g' hg'=>?_⟩;rcases hA9.mp hg' with z | z
    ·subst z;exact st.all _ (by rw[hi];exact hA6)
    ·exact q3 g' z
theorem qI8 (k:∀ b o,b≠a->h.get? b=some o->h'.get? b=some o):∀ {vs:List Value} {ts:List (List Str)} {i:Nat},Paired (qVq h) vs ts->(∀ v∈vs,v≠.ref a)->i<vs.length->∃ (t:List Str) (b:Addr) (its:Array Value),IsTup h' b its/\vs.getD i Value.none = .ref b/\StrsAre its.toList t
 | _,_,i,.nil,_,hi=>absurd hi (Nat.not_lt_zero _)
 | _,_,0,@Paired.cons _ _ _ v t l1 l2 hh tt,hn,_=>by
  obtain⟨b,its,rfl,⟨o,g,c,n,d⟩,st,ne⟩:=hh;have nb:b≠a:=fun z=>hn _ hA6 (by rw[z])
  exact⟨t,b,its,⟨o,k b o nb g,c,n,d⟩,rfl,st⟩
 | _,_,i+1,@Paired.cons _ _ _ v t l1 l2 hh tt,hn,hi=>qI8 (i:=i) k tt (fun u hu=>hn u (hA5 _ hu)) (by simpa using hi)
theorem qM6 (ho:s.heap.get? a=some (seqObj "list" vs.toArray n)) (ht:Paired (qVq s.heap) vs ts) (h64:vs.length<64) (hna:∀ v∈vs,v≠.ref a)
  (h:∀ out:List Value,out.Perm vs->R (.done (.ret .none)) { s with heap:=sortedHeap s.heap a vs out.toArray }):wpAny (model P w) A (Builtin.«list.sort» ⟨[.ref a],[]⟩) R E s:=by
 rw[list_sort_plain];have ha:a<s.heap.objs.size:=Heap.lt_size ho;refine wpAny_bind (listItems_at ho rfl (wpAny_bind (listUpdate_at ho rfl ?_ (by rw[hAb,sizeLine_eq];omega) (hAk _))));obtain⟨e1,ho1⟩:∃ e1,(s.heap.update a (Obj.mapSeq fun _=>#[])).get? a=some (seqObj "list" #[] e1):=⟨_,get?_update_seq ho (fun _=>#[])⟩;refine wpAny_bind (seqEpoch_at ho1 rfl (wpAny_bind (wpAny_newTuple ?_ (by show vs.length<=_;rw[sizeLine_eq];omega))));refine wpAny_bind (wpAny_newList ?_ (hAk _));refine wpAny_holding ?_;have ho6:(((s.heap.update a (Obj.mapSeq fun _=>#[])).push (seqObj "tuple" vs.toArray 0)).push (seqObj "list" #[] 0)).get? a=some (seqObj "list" #[] e1):=Heap.get?_push_of_some _ (Heap.get?_push_of_some _ ho1);have keep:∀ b o,b≠a->s.heap.get? b=some o->(((s.heap.update a (Obj.mapSeq fun _=>#[])).push (seqObj "tuple" vs.toArray 0)).push (seqObj "list" #[] 0)).get? b=some o:=fun b o hb e=>by
  refine Heap.get?_push_of_some _ (Heap.get?_push_of_some _ ?_);rw[Heap.get?_update_ne _ _ _ _ hb];exact e
 show wpAny (model P w) A _ R E { s with heap:=((s.heap.update a (Obj.mapSeq fun _=>#[])).push (seqObj "tuple" vs.toArray 0)).push (seqObj "list" #[] 0) };dsimp only;have fin:∀ (st':SortSt) (out:List Value),(arrOf st').map (·.2)=out.toArray->failedOf st'=none->out.Perm vs->wpAny (model P w) A (do
   let touched:=(← seqEpoch a) != e1
   Builtin.List.listUpdate (.ref a) fun _=>(arrOf st').map (·.2)
   if let some e:=failedOf st' then rule "list.sort.comparison-raised";throw e
   if touched then rule "list.sort.modified";raiseError "ValueError" "list modified during sort"
   ret .none) R E { s with heap:=((s.heap.update a (Obj.mapSeq fun _=>#[])).push (seqObj "tuple" vs.toArray 0)).push (seqObj "list" #[] 0) }:=by
  intro st' out e hf hp;refine wpAny_bind (seqEpoch_at ho6 rfl ?_);refine wpAny_bind (listUpdate_at ho6 rfl ?_ (hAk _) (by rw[e,hAb,hp.length_eq,sizeLine_eq];omega));rw[hf];simp only[bne_self_eq_false,Bool.false_eq_true,if_false];rw[e];exact wpAny_pure (h out hp)
 by_cases h2:vs.toArray.size<2
 ·rw[if_pos h2,if_pos h2];refine wpAny_bind (wpAny_pure ?_);rw[StateT.run_pure];refine wpAny_bind (wpAny_pure (fin _ vs ?_ rfl (hC7 _)));show(vs.toArray.zip vs.toArray).map (·.2)=vs.toArray;apply Array.toList_inj.mp;rw[Array.toList_map,Array.toList_zip];exact List.map_snd_zip (hA4 _)
 ·rw[if_neg h2,if_neg h2];have hl2:2<=vs.length:=by rw[hAb]at h2;omega
  obtain⟨fs,kt,fl,fa⟩:=qFc (a:=a) keep ht hna;refine wpAny_bind (kat_kind (T:=.type "str") kt (by omega) (fun v hv=>?_) (by decide) ?_)
  ·obtain⟨x,t,rfl⟩:=fa v hv;exact .now
  refine wpAny_bind (wpAny_mono (kat_run (ks:=vs) (Q:=fun st' s'=>s'={ s with heap:=((s.heap.update a (Obj.mapSeq fun _=>#[])).push (seqObj "tuple" vs.toArray 0)).push (seqObj "list" #[] 0) }/\∃ out:List Value,(arrOf st').map (·.2)=out.toArray/\failedOf st'=none/\out.Perm vs) (G:=fun p s'=>s'={ s with heap:=((s.heap.update a (Obj.mapSeq fun _=>#[])).push (seqObj "tuple" vs.toArray 0)).push (seqObj "list" #[] 0) }/\Gd vs.length p) rfl hl2 h64 (fun p st' s' a1 a2 a3 a4=>?_) ?_) ?_ fun _ _ e=>e)
  ·obtain⟨rfl,g⟩:=a4;refine⟨rfl,_,kat_snds rfl a2,a3,?_⟩;have q:=(hBc.mp g).map fun i=>vs.getD i Value.none
   refine q.trans (List.Perm.of_eq ?_);show(List.range vs.length).map (fun i=>vs.getD i Value.none)=vs;refine hBr fun i=>?_
   by_cases hi:i<vs.length
   ·rw[hAl,hCb hi,hA3 hi];show some (vs.getD i Value.none)=_;rw[hAa,hA3 hi];rfl
   ·rw[hAy (by simp;omega),hAy (by omega)]
  ·refine qS2 (fun i j C hi hj hC=>?_) (by omega) fun p g=>⟨rfl,g⟩
   obtain⟨ti,x1,y1,z1,v1,w1⟩:=qI8 keep ht hna hi;obtain⟨tj,x2,y2,z2,v2,w2⟩:=qI8 keep ht hna hj;show wpAny _ _ (keyLt' _ (vs.getD i Value.none) (vs.getD j Value.none)) C _ _;rw[v1,v2];obtain⟨o1,g1,c1,n1,d1⟩:=z1;obtain⟨o2,g2,c2,n2,d2⟩:=z2;exact kat_lt g1 d1 g2 d2 (qFr hC 0 w1 w2)
  ·rintro⟨⟨⟩,st'⟩ s' ⟨rfl,out,q1,q2,q3⟩;exact fin st' out q1 q2 q3
end
end L2
namespace L2
open PySem PySem.Spec PyProof.Rows PySem.W
section
variable {X:Cx}
theorem refs_of:∀ {as:List Addr} {us:List Value},qBe (as.map V.ref) us->us=as.map Value.ref
 | [],_,r=>by cases r;rfl
 | a :: as,_,r=>by
  cases r with
  | cons h t=>cases h;rw[refs_of t];rfl
theorem qDv:∀ as:List Addr,qBe (as.map V.ref) (as.map Value.ref)
 | []=>.nil
 | a :: as=>.cons rfl (qDv as)
theorem qMq (I:Inv X pins σ H s) (k:∀ b o,s.heap.get? b=some o->h'.get? b=some o):∀ {as:List Addr} {ts:List (List Str)},Paired (fun a t=>SqT X.K H a (t.map V.str)/\t≠[]) as ts->Paired (qVq h') (as.map Value.ref) ts
 | _,_,.nil=>.nil
 | _,_,.cons h t=>by
  obtain⟨h1,h2⟩:=h;obtain⟨its,rv,⟨o,g,c,n,d⟩,_⟩:=I.tuple h1;exact .cons ⟨_,its.toArray,rfl,⟨o,k _ _ g,c,n,d⟩,by simpa using qDb rv,h2⟩ (qMq I k t)
theorem qMr (I:Inv X pins σ H s):∀ {as:List Addr} {ts:List (List Str)},Paired (fun a t=>SqT X.K H a (t.map V.str)/\t≠[]) as ts->∀ b∈as,b<s.heap.objs.size
 | _,_,.nil,b,hb=>by cases hb
 | _,_,.cons h t,b,hb=>by
  rcases hA9.mp hb with z | z
  ·subst z;obtain⟨its,rv,⟨o,g,_⟩,_⟩:=I.tuple h.1;exact Heap.lt_size g
  ·exact qMr I t b z
theorem qEx:qB9 X (.builtin "sorted") (fun xs H Q=>∃ (p:Addr) (as:List Addr) (ts:List (List Str)),xs=[.ref p]/\SqL X.K H p (as.map V.ref)/\Paired (fun a t=>SqT X.K H a (t.map V.str)/\t≠[]) as ts/\as.length<64/\∀ (r:Addr) (as':List Addr),H r=none->as'.Perm as->Q (.ref r) (upd H r (.lst (as'.map V.ref)))):=by
 intro pins s σ H xs us Q I r h;obtain⟨p,as,ts,rfl,hq,ht,h64,q⟩:=h;obtain⟨u,rfl,rx⟩:=qC0 r;cases rx;obtain⟨its,rv,pl,hz⟩:=I.list hq;have ei:=refs_of rv;subst ei;refine Calls.call_function_entry kind_sorted plain_sorted entry_sorted (args_sorted1 _) ?_;unfold Builtin.«sorted»;refine wpAny_bind (m:=checkCount "sorted" 1 1 _) (wpAny_pure (wpAny_bind (collect_list pl.isList ?_ (by rw[hA1,sizeLine_eq];omega))));refine wpAny_bind (wpAny_newList ?_ (by rw[hA1,sizeLine_eq];omega));have hsz:((s.heap.push (seqObj "list" #[] 0)).update s.heap.objs.size (Obj.mapSeq (·++(as.map Value.ref).toArray))).objs.size=s.heap.objs.size+1:=by rw[Heap.size_update,size_push']
 have hoL:(((s.heap.push (seqObj "list" #[] 0)).update s.heap.objs.size (Obj.mapSeq (·++(as.map Value.ref).toArray))).push (seqObj "list" (as.map Value.ref).toArray 0)).get? (s.heap.objs.size+1)=some (seqObj "list" (as.map Value.ref).toArray 0):=by
  rw[<-hsz];exact Heap.get?_push_size _ rfl
 have keep:∀ b o,s.heap.get? b=some o->(((s.heap.push (seqObj "list" #[] 0)).update s.heap.objs.size (Obj.mapSeq (·++(as.map Value.ref).toArray))).push (seqObj "list" (as.map Value.ref).toArray 0)).get? b=some o:=fun b o e=>by
  have hlt:b<s.heap.objs.size:=Heap.lt_size e;rw[Heap.get?_push_ne _ _ _ (by rw[hsz];exact hAi (hAs hlt)),Heap.get?_update_ne _ _ _ _ (hAi hlt),Heap.get?_push_ne _ _ _ (hAi hlt)];exact e
 show wpAny _ _ _ _ _ { s with heap:=((s.heap.push (seqObj "list" #[] 0)).update s.heap.objs.size (Obj.mapSeq (·++(as.map Value.ref).toArray))).push (seqObj "list" (as.map Value.ref).toArray 0) };rw[hsz];have tp:=qMq (h':=((s.heap.push (seqObj "list" #[] 0)).update s.heap.objs.size (Obj.mapSeq (·++(as.map Value.ref).toArray))).push (seqObj "list" (as.map Value.ref).toArray 0)) I keep ht;refine wpAny_bind (wpAny_holding (wpAny_call_entry slot_list_sort ⟨_,hoL,rfl⟩ entry_list_sort (qM6 hoL tp (by rw[hA1];exact h64) (fun v hv z=>?_) fun out hp=>⟨_,rfl,?_⟩) (args_list_sort _)))
 ·obtain⟨b,hb,e⟩:=hAj.mp hv;rw[<-e]at z;injection z with z
  have lt:=qMr I ht b hb;exact absurd lt (by rw[z];exact Nat.not_lt_of_le (hAu _))
 obtain⟨as',rfl,pa⟩:∃ as':List Addr,out=as'.map Value.ref/\as'.Perm as:=by
  have:∀ v∈out,∃ b,v=Value.ref b:=fun v hv=>by
   obtain⟨b,_,e⟩:=hAj.mp (hp.mem_iff.mp hv);exact⟨b,e.symm⟩
  have mk:∀ l:List Value,(∀ v∈l,∃ b,v=Value.ref b)->∃ as':List Addr,l=as'.map Value.ref:=by
   intro l
   induction l with
   | nil=>intro _;exact⟨[],rfl⟩
   | cons v l ih =>
    intro hv;obtain⟨b,rfl⟩:=hv v hA6;obtain⟨as',rfl⟩:=ih fun u hu=>hv u (hA5 _ hu)
    exact⟨b :: as',rfl⟩
  obtain⟨as',rfl⟩:=mk out this;refine⟨as',rfl,?_⟩;have q:=hp.map fun v=>match v with | Value.ref b=>b | _=>(0:Addr)
  rw[hBf,hBf]at q;have eid:∀ l:List Addr,l.map ((fun v=>match v with | Value.ref b=>b | _=>(0:Addr))∘Value.ref)=l:=fun l=>by
   induction l with
   | nil=>rfl
   | cons b l ih=>rw[hB2,ih];rfl
  rw[eid,eid]at q;exact q
 have nz:H (s.heap.objs.size+1)=none:=I.hok.fresh (hAu _);obtain⟨e,he⟩:=sortedAll_at s.heap (as.map Value.ref) (as'.map Value.ref).toArray;refine wpAny_pure ⟨_,rfl,.ref (s.heap.objs.size+1),_,I.laid (t':=s.toks) (a:=s.heap.objs.size+1) (o:=.lst (as'.map V.ref)) (h':=sortedAll s.heap (as.map Value.ref) (as'.map Value.ref).toArray) (fun b o eb=>sortedAll_old eb) (hAu _) ⟨?_,as'.map Value.ref,e,qDv as',he⟩,rfl,q _ as' nz pa⟩;rw[hA1,pa.length_eq];exact hAq (qAg (by omega))
end
end L2
namespace L2
open PySem PySem.Spec PyProof.Rows PySem.W
section
variable {AS:Type} {g:TG} {tt:TT} {tb:TB AS} {Q:AS->St->Hp->Prop} {a0:AS} {σ0:St} {H0:Hp}
def NxG (n i:Nat) (Pv:Nat->AS->St->Hp->Prop) (a:AS) (σ:St) (H:Hp):Prop:=∃ m',m'<n - i/\m'=n - (i+1)/\i+1<=n/\Pv (i+1) a σ H
theorem nxg (hi:i<n) (h:Pv (i+1) a σ H):NxG n i Pv a σ H:=⟨_,by omega,rfl,hi,h⟩
theorem qK8 {K:PySem.W.Frag} {p:Addr} {xs:List V} (Pv:Nat->AS->St->Hp->Prop) (h0:Pv 0 a0 σ0 H0) (hl:∀ i a σ H,i<=xs.length->Pv i a σ H->SqL K H p xs)
  (hs:∀ i x a σ H,xs[i]?=some x->Pv i a σ H->g x σ H fun σ2 H2=>tt σ2 H2 fun b H3=>if b=true then tb a σ2 H3 (NxG xs.length i Pv) else NxG xs.length i Pv a σ2 H3)
  (hd:∀ a σ H,Pv xs.length a σ H->Q a σ H):qFv (Itl K p) g tt tb Q a0 σ0 H0:=by
 refine⟨fun i m a σ H=>m=xs.length - i/\i<=xs.length/\Pv i a σ H,⟨xs.length,by simp,hAk _,h0⟩,?_⟩;rintro i m a σ H ⟨rfl,hi,pv⟩;have q:=hl i a σ H hi pv;by_cases hlt:i<xs.length
 ·refine .inr ⟨⟨xs,xs[i],q,by simp[hlt]⟩,fun x H' y=>?_⟩;obtain⟨e,y⟩:=y;subst e;exact hs i x a σ _ (y xs q) pv
 ·have e:i=xs.length:=by omega
  subst e;exact .inl ⟨⟨xs,q,hA4 _⟩,hd a σ H pv⟩
theorem qJz {K:PySem.W.Frag} {p:Addr} {xs:List V} (Pv:Nat->AS->St->Hp->Prop) (h0:Pv 0 a0 σ0 H0) (hl:∀ i a σ H,i<=xs.length->Pv i a σ H->SqT K H p xs)
  (hs:∀ i x a σ H,xs[i]?=some x->Pv i a σ H->g x σ H fun σ2 H2=>tt σ2 H2 fun b H3=>if b=true then tb a σ2 H3 (NxG xs.length i Pv) else NxG xs.length i Pv a σ2 H3)
  (hd:∀ a σ H,Pv xs.length a σ H->Q a σ H):qFv (Itt K p) g tt tb Q a0 σ0 H0:=by
 refine⟨fun i m a σ H=>m=xs.length - i/\i<=xs.length/\Pv i a σ H,⟨xs.length,by simp,hAk _,h0⟩,?_⟩;rintro i m a σ H ⟨rfl,hi,pv⟩;have q:=hl i a σ H hi pv;by_cases hlt:i<xs.length
 ·refine .inr ⟨⟨xs,xs[i],q,by simp[hlt]⟩,fun x H' y=>?_⟩;obtain⟨e,y⟩:=y;subst e;exact hs i x a σ _ (y xs q) pv
 ·have e:i=xs.length:=by omega
  subst e;exact .inl ⟨⟨xs,q,hA4 _⟩,hd a σ H pv⟩
theorem qS6 (Pv:Nat->AS->St->Hp->Prop) (h0:Pv 0 a0 σ0 H0) (hl:∀ i a σ H,i<=n->Pv i a σ H->Ls H)
  (hs:∀ i a σ H T,i<n->Pv i a σ H->H T=none->g (.ref T) σ (upd H T (.tup (xv i))) fun σ2 H2=>tt σ2 H2 fun b H3=>if b=true then tb a σ2 H3 (NxG n i Pv) else NxG n i Pv a σ2 H3)
  (hd:∀ a σ H,Pv n a σ H->Q a σ H):qFv (Itp n Ls xv) g tt tb Q a0 σ0 H0:=by
 refine⟨fun i m a σ H=>m=n - i/\i<=n/\Pv i a σ H,⟨n,by simp,hAk _,h0⟩,?_⟩;rintro i m a σ H ⟨rfl,hi,pv⟩;have q:=hl i a σ H hi pv;by_cases hlt:i<n
 ·refine .inr ⟨⟨q,hlt⟩,fun x H' y=>?_⟩;obtain⟨T,e1,e2,e3⟩:=y;subst e2 e3;exact hs i a σ H T hlt pv e1
 ·have e:i=n:=by omega
  subst e;exact .inl ⟨⟨q,rfl⟩,hd a σ H pv⟩
end
end L2
namespace L2
open PySem PySem.Spec PyProof.Rows PySem.W
structure Ordr (lt:Nat->Nat->Bool):Prop where
 asym:∀ a b,lt a b=true->lt b a=false
 tr:∀ a b c,lt b a=false->lt c b=false->lt c a=false
theorem Ordr.irr (o:Ordr lt) (a:Nat):lt a a=false:=by
 cases h:lt a a with
 | false=>rfl
 | true=>exact(o.asym a a h).symm.trans h▸rfl
def SPk (lt:Nat->Nat->Bool) (p:Array Nat) (k:Nat):Prop:=∀ i j,i<j->j<k->lt (p.getD j 0) (p.getD i 0)=false
def DPk (lt:Nat->Nat->Bool) (p:Array Nat) (k:Nat):Prop:=∀ i j,i<j->j<k->lt (p.getD i 0) (p.getD j 0)=false
def ERk (lt:Nat->Nat->Bool) (p:Array Nat) (a b:Nat):Prop:=∀ i j,a<=i->i<b->a<=j->j<b->lt (p.getD i 0) (p.getD j 0)=false
theorem Gd.size (h:Gd n p):p.size=n:=by
 have:=Array.Perm.size_eq h
 simpa using this
theorem qGi (hj:j<=p.size) (k:Nat):(kas_rev p i j).getD k 0=if i<=k/\k<j then p.getD (i+j - 1 - k) 0 else p.getD k 0:=by
 unfold kas_rev;rw[hBa,getElem?_mirror_all hj];split <;> rw[<-hBa]
theorem qRj (hk:k<p.size) (hl:l<=k) (i:Nat):(bubble p k (k - l)).getD i 0=if i=l then p.getD k 0 else if l<i/\i<=k then p.getD (i - 1) 0 else p.getD i 0:=by
 rw[hBa,getElem?_bubble hk _ (by omega)];have e:k - (k - l)=l:=by omega
 rw[e];by_cases e1:i=l
 ·rw[if_pos e1,if_pos e1,<-hBa]
 ·rw[if_neg e1,if_neg e1];by_cases e2:l<i/\i<=k
  ·rw[if_pos e2,if_pos e2,<-hBa]
  ·rw[if_neg e2,if_neg e2,<-hBa]
section
variable {lt:Nat->Nat->Bool} (o:Ordr lt)
include o
theorem SPk.snoc (h:SPk lt p k) (h1:1<=k) (hk:lt (p.getD k 0) (p.getD (k - 1) 0)=false):SPk lt p (k+1):=fun i j hij hj=>by
 by_cases e:j=k
 ·subst e;by_cases e2:i=j - 1
  ·subst e2;exact hk
  ·exact o.tr _ _ _ (h i (j - 1) (by omega) (by omega)) hk
 ·exact h i j hij (by omega)
theorem DPk.snoc (h:DPk lt p k) (h1:1<=k) (hk:lt (p.getD (k - 1) 0) (p.getD k 0)=false):DPk lt p (k+1):=fun i j hij hj=>by
 by_cases e:j=k
 ·subst e;by_cases e2:i=j - 1
  ·subst e2;exact hk
  ·exact o.tr _ _ _ hk (h i (j - 1) (by omega) (by omega))
 ·exact h i j hij (by omega)
omit o in
theorem DPk.rev (h:DPk lt p k) (hb:b<=p.size) (hbk:b<=k) (e:ERk lt p a b):DPk lt (kas_rev p a b) k:=fun i j hij hj=>by
 rw[qGi hb,qGi hb];split
 ·split
  ·exact e _ _ (by omega) (by omega) (by omega) (by omega)
  ·exact h _ _ (by omega) (by omega)
 ·split
  ·exact h _ _ (by omega) (by omega)
  ·exact h _ _ (by omega) (by omega)
omit o in
theorem DPk.turn (h:DPk lt p k) (hk:k<=p.size):SPk lt (kas_rev p 0 k) k:=fun i j hij hj=>by
 rw[qGi hk,qGi hk,if_pos (by omega),if_pos (by omega)];exact h _ _ (by omega) (by omega)
variable {n:Nat} {cmp:Nat->Nat->(Bool->Shared->Prop)->Shared->Prop} {s:Shared} (hask:∀ i j C,i<n->j<n->C (lt i j) s->cmp i j C s) (h0:0<n)
include hask h0
theorem qM7 (g:Gd n p) (N:Nat) (hq:∀ m,SPk lt p m->1<=m->m<=N->(m<N->lt (p.getD m 0) (p.getD (m - 1) 0)=true)->Q m s):∀ f m,1<=m->m+f=N->SPk lt p m->(kas_asc p f m).kasWp cmp Q s
 | 0,m,h1,hN,sp=>hq m sp h1 (by omega) (fun z=>by omega)
 | f+1,m,h1,hN,sp=>by
  refine hask _ _ _ (g.lt h0 _) (g.lt h0 _) ?_;dsimp only;split
  ·rename_i c;exact hq m sp h1 (by omega) fun _=>c
  ·rename_i c;exact qM7 g N hq f (m+1) (by omega) (by omega) (sp.snoc o h1 (by simpa using c))
theorem qG4 (N:Nat) (hN:N<=n) (hq:∀ p m q,Gd n p->1<=m->q+1<=m->m<=N->DPk lt p m->ERk lt p (m - (q+1)) m->Q (p,m,q) s):∀ f p m q,Gd n p->1<=m->q+1<=m->m+f=N->DPk lt p m->ERk lt p (m - (q+1)) m->(kas_desc f p m q).kasWp cmp Q s
 | 0,p,m,q,g,h1,h2,h3,dp,er=>hq p m q g h1 h2 (by omega) dp er
 | f+1,p,m,q,g,h1,h2,h3,dp,er=>by
  have sz:=g.size;refine hask _ _ _ (g.lt h0 _) (g.lt h0 _) ?_;dsimp only;split
  ·rename_i c;have dp':=dp.snoc o h1 (o.asym _ _ c);have one:∀ p':Array Nat,ERk lt p' (m+1 - (0+1)) (m+1):=fun p' i j hi hi' hj hj'=>by
    have e1:i=m:=by omega
    have e2:j=m:=by omega
    subst e1 e2;exact o.irr _
   split
   ·exact qG4 N hN hq f _ (m+1) 0 (g.rev _ _) (by omega) (by omega) (by omega) (dp'.rev (by omega) (by omega) er) (one _)
   ·exact qG4 N hN hq f p (m+1) 0 g (by omega) (by omega) (by omega) dp' (one _)
  ·rename_i c;refine hask _ _ _ (g.lt h0 _) (g.lt h0 _) ?_;dsimp only;split
   ·exact hq p m q g h1 h2 (by omega) dp er
   ·rename_i d;have c':lt (p.getD m 0) (p.getD (m - 1) 0)=false:=by simpa using c
    have d':lt (p.getD (m - 1) 0) (p.getD m 0)=false:=by simpa using d
    refine qG4 N hN hq f p (m+1) (q+1) g (by omega) (by omega) (by omega) (dp.snoc o h1 d') fun i j hi hi' hj hj'=>?_
    by_cases ei:i=m
    ·subst ei;by_cases ej:j=i
     ·subst ej;exact o.irr _
     ·exact o.tr _ _ _ (er (i - 1) j (by omega) (by omega) (by omega) (by omega)) c'
    ·by_cases ej:j=m
     ·subst ej;exact o.tr _ _ _ d' (er i (j - 1) (by omega) (by omega) (by omega) (by omega))
     ·exact er i j (by omega) (by omega) (by omega) (by omega)
theorem qKj (g:Gd n p) (N:Nat) (hN:N<=n) (hq:∀ m p,Gd n p->SPk lt p m->1<=m->m<=N->Q (m,p) s) (m:Nat) (h1:1<=m) (h2:m<=N) (dp:DPk lt p m):(kas_tail3 m N p).kasWp cmp Q s:=by
 unfold kas_tail3;rw[KasT.kasWp_bind];have sz:=g.size;exact qM7 o hask h0 (g.rev _ _) N (fun m' sp a b _=>hq m' _ (g.rev _ _) sp a b) _ _ h1 (by omega) (dp.turn (by omega))
theorem qFf (g:Gd n p) (N:Nat) (hN:N<=n) (hq:∀ m p,Gd n p->SPk lt p m->1<=m->m<=N->Q (m,p) s) (m:Nat) (h2:m+1<=N) (dp:DPk lt p (m+1)):(kas_descPart m N p).kasWp cmp Q s:=by
 unfold kas_descPart;rw[KasT.kasWp_bind];refine qG4 o hask h0 N hN (fun p' m' q g' a b c dp' er=>?_) _ _ _ _ g (by omega) (by omega) (by omega) dp fun i j hi hi' hj hj'=>?_
 ·have sz:=g'.size;dsimp only;split
  ·exact qKj o hask h0 (g'.rev _ _) N hN hq _ a c (dp'.rev (by omega) (hA4 _) er)
  ·exact qKj o hask h0 g' N hN hq _ a c dp'
 ·have e1:i=m:=by omega
  have e2:j=m:=by omega
  subst e1 e2;exact o.irr _
theorem qPl (g:Gd n p) (hq:∀ m p,Gd n p->SPk lt p m->1<=m->m<=n->Q (m,p) s):(kas_count n p).kasWp cmp Q s:=by
 unfold kas_count;rw[KasT.kasWp_bind];have sz:=g.size;refine qM7 o hask h0 g n (fun m sp m1 mn st=>?_) _ _ (hA4 _) (by omega) (fun i j hij hj=>by omega);split
 ·exact hq _ _ g sp m1 mn
 ·rename_i c;have c':m≠n:=by simpa using c
  have lt1:=st (by omega);have ge1:=o.asym _ _ lt1;split
  ·refine hask _ _ _ (g.lt h0 _) (g.lt h0 _) ?_;dsimp only;split
   ·exact hq _ _ g sp m1 mn
   ·rename_i d;have d':lt (p.getD 0 0) (p.getD (m - 1) 0)=false:=by simpa using d
    have lo:∀ i,i<m->lt (p.getD (m - 1) 0) (p.getD i 0)=false:=fun i hi=>by
     by_cases e:i=m - 1
     ·subst e;exact o.irr _
     ·exact sp i (m - 1) (by omega) (by omega)
    have hi0:∀ j,j<m->lt (p.getD j 0) (p.getD 0 0)=false:=fun j hj=>by
     by_cases e:j=0
     ·subst e;exact o.irr _
     ·exact sp 0 j (by omega) hj
    have er:ERk lt p 0 m:=fun i j _ hi _ hj=>o.tr _ _ _ (o.tr _ _ _ (lo j hj) d') (hi0 i hi)
    refine qFf o hask h0 (g.rev _ _) n (hA4 _) hq m (by omega) fun i j hij hj=>?_
    rw[qGi (by omega),qGi (by omega)];by_cases ej:j=m
    ·subst ej;rw[if_pos (by omega),if_neg (by omega)];exact o.tr _ _ _ ge1 (er _ _ (by omega) (by omega) (by omega) (by omega))
    ·rw[if_pos (by omega),if_pos (by omega)];exact er _ _ (by omega) (by omega) (by omega) (by omega)
  ·have e:m=1:=by omega
   subst e;refine qFf o hask h0 g n (hA4 _) hq 1 (by omega) fun i j hij hj=>?_
   have e1:i=0:=by omega
   have e2:j=1:=by omega
   subst e1 e2;exact ge1
theorem qG3 (g:Gd n p) (k:Nat) (sp:SPk lt p k) (hq:∀ l,l<=k->(∀ i,i<l->lt (p.getD k 0) (p.getD i 0)=false)->(∀ i,l<=i->i<k->lt (p.getD i 0) (p.getD k 0)=false)->Q l s) :
  ∀ f l r,l<=r->r<=k->r - l<=f->(∀ i,i<l->lt (p.getD k 0) (p.getD i 0)=false)->(∀ i,r<=i->i<k->lt (p.getD i 0) (p.getD k 0)=false)->(kas_place p k f l r).kasWp cmp Q s
 | 0,l,r,h1,h2,h3,a,b=>hq l (by omega) a fun i hi hk=>b i (by omega) hk
 | f+1,l,r,h1,h2,h3,a,b=>by
  unfold kas_place;split
  ·exact hq l (by omega) a fun i hi hk=>b i (by omega) hk
  ·refine hask _ _ _ (g.lt h0 _) (g.lt h0 _) ?_;dsimp only;split
   ·rename_i c;have c':=o.asym _ _ c;refine qG3 g k sp hq f l ((l+r) / 2) (by omega) (by omega) (by omega) a fun i hi hk=>?_
    by_cases e:i=(l+r) / 2
    ·subst e;exact c'
    ·exact o.tr _ _ _ c' (sp _ _ (by omega) hk)
   ·rename_i c;have c':lt (p.getD k 0) (p.getD ((l+r) / 2) 0)=false:=by simpa using c
    refine qG3 g k sp hq f ((l+r) / 2+1) r (by omega) h2 (by omega) (fun i hi=>?_) b;by_cases e:i=(l+r) / 2
    ·subst e;exact c'
    ·exact o.tr _ _ _ (sp i ((l+r) / 2) (by omega) (by omega)) c'
theorem qQy (hq:∀ p,Gd n p->SPk lt p n->Q p s):∀ f p k,Gd n p->k+f=n->SPk lt p k->(kas_bin f p k).kasWp cmp Q s
 | 0,p,k,g,h1,sp=>hq p g (by rw[<-h1];exact sp)
 | f+1,p,k,g,h1,sp=>by
  unfold kas_bin;rw[KasT.kasWp_bind];have sz:=g.size;refine qG3 o hask h0 g k sp (fun l hl a b=>qQy hq f _ _ (g.bub _ _) (by omega) fun i j hij hj=>?_) k 0 k (by omega) (hA4 _) (by omega) (fun i hi=>by omega) (fun i hi hk=>by omega);rw[qRj (by omega) hl,qRj (by omega) hl];by_cases ej:j=l
  ·rw[if_pos ej,if_neg (by omega),if_neg (by omega)];exact a i (by omega)
  ·rw[if_neg ej];by_cases ej2:l<j/\j<=k
   ·rw[if_pos ej2];by_cases ei:i=l
    ·rw[if_pos ei];exact b (j - 1) (by omega) (by omega)
    ·rw[if_neg ei];split
     ·exact sp _ _ (by omega) (by omega)
     ·exact sp _ _ (by omega) (by omega)
   ·rw[if_neg ej2,if_neg (by omega),if_neg (by omega)];exact sp _ _ hij (by omega)
theorem qRt (hq:∀ p,Gd n p->SPk lt p n->Q p s):(kas_sort n).kasWp cmp Q s:=by
 unfold kas_sort;rw[KasT.kasWp_bind];refine qPl o hask h0 (Array.Perm.refl _) (fun m p g sp m1 mn=>?_);dsimp only;have e:max m 1=m:=by omega
 rw[e];split
 ·exact qQy o hask h0 hq _ _ _ g (by omega) sp
 ·have e2:m=n:=by omega
  subst e2;exact hq _ g sp
end
end L2
namespace L2
open PySem PySem.Spec PyProof.Rows PySem.W
theorem txTri:∀ a b:List Nat,a<b\/a=b\/b<a
 | [],[]=>.inr (.inl rfl)
 | [],_ :: _=>.inl (List.nil_lt_cons _ _)
 | _ :: _,[]=>.inr (.inr (List.nil_lt_cons _ _))
 | x :: a,y :: b=>by
  rcases Nat.lt_trichotomy x y with h | h | h
  ·exact .inl (hBb.mpr (.inl h))
  ·subst h;rcases txTri a b with h | h | h
   ·exact .inl (hBb.mpr (.inr ⟨rfl,h⟩))
   ·exact .inr (.inl (by rw[h]))
   ·exact .inr (.inr (hBb.mpr (.inr ⟨rfl,h⟩)))
  ·exact .inr (.inr (hBb.mpr (.inl h)))
theorem qVt {x y:Str} (h:x.cps.toList=y.cps.toList):x=y:=by
 cases x;cases y;simp only[Str.mk.injEq];exact Array.toList_inj.mp h
def qPp (x y:Str):Bool:=decide (x.cps.toList<y.cps.toList)
theorem qE6 (x:Str):qPp x x=false:=decide_eq_false (List.lt_irrefl _)
theorem qEh (h:qPp x y=true) (h':qPp y z=true):qPp x z=true:=decide_eq_true (List.lt_trans (of_decide_eq_true h) (of_decide_eq_true h'))
theorem sLtB_tri (x y:Str):qPp x y=true\/x=y\/qPp y x=true:=by
 rcases txTri x.cps.toList y.cps.toList with h | h | h
 ·exact .inl (decide_eq_true h)
 ·exact .inr (.inl (qVt h))
 ·exact .inr (.inr (decide_eq_true h))
def ltL:List Str->List Str->Bool
 | [],[]=>false
 | [],_ :: _=>true
 | _ :: _,[]=>false
 | x :: r,y :: t=>if x=y then ltL r t else qPp x y
theorem qN4:∀ a:List Str,ltL a a=false
 | []=>rfl
 | x :: r=>by unfold ltL;rw[if_pos rfl];exact qN4 r
theorem ltL_tri:∀ a b:List Str,ltL a b=true\/a=b\/ltL b a=true
 | [],[]=>.inr (.inl rfl)
 | [],_ :: _=>.inl rfl
 | _ :: _,[]=>.inr (.inr rfl)
 | x :: r,y :: t=>by
  unfold ltL;by_cases e:x=y
  ·subst e;rw[if_pos rfl,if_pos rfl];rcases ltL_tri r t with h | h | h
   ·exact .inl h
   ·exact .inr (.inl (by rw[h]))
   ·exact .inr (.inr h)
  ·rw[if_neg e,if_neg (fun z=>e z.symm)];rcases sLtB_tri x y with h | h | h
   ·exact .inl h
   ·exact absurd h e
   ·exact .inr (.inr h)
theorem qFo:∀ a b c:List Str,ltL a b=true->ltL b c=true->ltL a c=true
 | [],_,[],h,h'=>by
  rename_i b;cases b with
  | nil=>exact h
  | cons _ _=>cases h'
 | [],_,_ :: _,_,_=>rfl
 | _ :: _,[],_,h,_=>by cases h
 | _ :: _,_ :: _,[],_,h'=>by cases h'
 | x :: r,y :: t,z :: u,h,h'=>by
  unfold ltL at h h' ⊢;by_cases e1:x=y
  ·subst e1;rw[if_pos rfl]at h;by_cases e2:x=z
   ·subst e2;rw[if_pos rfl]at h' ⊢;exact qFo r t u h h'
   ·rw[if_neg e2]at h' ⊢;exact h'
  ·rw[if_neg e1]at h;by_cases e2:y=z
   ·subst e2;rw[if_neg e1];exact h
   ·rw[if_neg e2]at h';have q:=qEh h h';have e3:¬x=z:=fun e=>by rw[e,qE6]at q;cases q
    rw[if_neg e3];exact q
theorem qK0 (a b:List Str) (h:ltL a b=true):ltL b a=false:=by
 cases q:ltL b a with
 | false=>rfl
 | true=>have:=qFo a b a h q;rw[qN4]at this;cases this
def ltI (ts:List (List Str)) (i j:Nat):Bool:=ltL (ts.getD i []) (ts.getD j [])
theorem qSw (ts:List (List Str)):Ordr (ltI ts):=⟨fun a b h=>qK0 _ _ h,fun a b c h h'=>by
 have h1:ltL (ts.getD b []) (ts.getD a [])=false:=h;have h2:ltL (ts.getD c []) (ts.getD b [])=false:=h';show ltL (ts.getD c []) (ts.getD a [])=false;rcases ltL_tri (ts.getD a []) (ts.getD b []) with q | q | q
 ·rcases ltL_tri (ts.getD b []) (ts.getD c []) with r | r | r
  ·exact qK0 _ _ (qFo _ _ _ q r)
  ·rw[<-r];exact h1
  ·rw[h2]at r;cases r
 ·rw[q];exact h2
 ·rw[h1]at q;cases q⟩
theorem qGo (vs:List Value):(List.range vs.length).map (fun i=>vs.getD i Value.none)=vs:=by
 refine hBr fun i=>?_
 by_cases hi:i<vs.length
 ·rw[hAl,hCb hi,hA3 hi];show some (vs.getD i Value.none)=_;rw[hAa,hA3 hi];rfl
 ·rw[hAy (by simp;omega),hAy (by omega)]
end L2
namespace L2
open PySem PySem.Spec PyProof.Rows PySem.W
theorem qK6 (g:Gd n o) (hi:i∈o.toList):i<n:=by
 have:=(hBc.mp g).mem_iff.mp hi
 simpa using this
theorem qOl (g:Gd n o):o.toList.length=n:=by
 have:=g.size
 simpa using this
theorem qIf {as:List Addr} {l:List Nat} (h:∀ i∈l,i<as.length):l.map (fun i=>(as.map Value.ref).getD i Value.none)=(l.map fun i=>as.getD i 0).map Value.ref:=by
 rw[hBf];refine hCc fun i hi=>?_
 have:=h i hi;show(as.map Value.ref).getD i Value.none=Value.ref (as.getD i 0);rw[hAa,hAa,hAl,hA3 this];rfl
end L2
namespace L2
open PySem PySem.Spec PyProof.Rows PySem.W
open AutoSeq1 (wpAny_loadPart')
open MeetsSeq MeetsSeq2 MeetsSeq3 SeqRoads2
theorem qMw (h:StrsAre vs x):∀ {i:Nat},i<vs.length->∃ t,vs[i]?=some (.str (x.getD i "") t):=by
 induction h with
 | nil=>intro i hi;exact absurd hi (Nat.not_lt_zero _)
 | cons p t r ih =>
  intro i hi;cases i with
  | zero=>exact⟨t,rfl⟩
  | succ i=>simpa using ih (i:=i) (by simpa using hi)
theorem qOs {x:List Str} {i:Nat} (h:i<x.length):x.drop i=x.getD i "" :: x.drop (i+1):=by
 rw[List.drop_eq_getElem_cons h,hAa,hA3 h];rfl
theorem qQa (l b:Addr) (items items2:Array Value) (n n2:Nat) (dd dd2:Option Addr) (sl sl2:Array (Option Value)) (x y:List Str) (hx:StrsAre items.toList x) (hy:StrsAre items2.toList y):∀ (k i:Nat),items.size - i=k->i<=items.size->i<=items2.size ->
  Meets (Builtin.«list.__eq__.loop» ⟨[.ref l,.ref b,rawInt i,rawInt 0],[]⟩)
   (fun A R s=>(s.heap.get? l=some { cls:=.type "list",dict:=dd,data:=.seq items n,slots:=sl }/\s.heap.get? b=some { cls:=.type "list",dict:=dd2,data:=.seq items2 n2,slots:=sl2 })/\R (.ok (.ret (.bool (ltL (x.drop i) (y.drop i))))) s):=by
 have lx:items.size=x.length:=by rw[<-hx.strs];simp
 have ly:items2.size=y.length:=by rw[<-hy.strs];simp
 intro k
 induction k with
 | zero =>
  intro i hk h1 h2 prog w A R s h;obtain⟨hp,g,d,tk,os⟩:=s;obtain⟨⟨hl,hb⟩,h⟩:=h;have e1:i=items.size:=by omega
  have q1:items[((i:Nat):Int).toNat]?=none:=by simp;omega
  wp_walk using wpAny_loadPart' hl,wpAny_loadPart' hb
  rw[q1]
  wp_walk using wpAny_loadPart' hl,wpAny_loadPart' hb
  have dx:x.drop i=[]:=by simp;omega
  rw[dx]at h;show R (.ok (.ret (.bool (decide (items.size<items2.size))))) _;cases hd:y.drop i with
  | nil =>
   rw[hd]at h;have:y.length<=i:=by simpa using hd
   rw[decide_eq_false (by omega)];exact h
  | cons a r =>
   rw[hd]at h;have:i<y.length:=by
    have:=congrArg List.length hd;rw[hC8,hBo]at this;omega
   rw[decide_eq_true (by omega)];exact h
 | succ k ih =>
  intro i hk h1 h2 prog w A R s h;obtain⟨hp,g,d,tk,os⟩:=s;obtain⟨⟨hl,hb⟩,h⟩:=h;have hlt:i<items.size:=by omega
  obtain⟨t1,q1⟩:=qMw hx (i:=i) (by simpa using hlt);rw[hAx]at q1;have q1':items[((i:Nat):Int).toNat]?=some (.str (x.getD i "") t1):=q1;have dx:=qOs (x:=x) (i:=i) (by omega)
  wp_walk using wpAny_loadPart' hl,wpAny_loadPart' hb
  rw[q1'];by_cases hlt2:i<items2.size
  ·obtain⟨t2,q2⟩:=qMw hy (i:=i) (by simpa using hlt2);rw[hAx]at q2;have q2':items2[((i:Nat):Int).toNat]?=some (.str (y.getD i "") t2):=q2;have dy:=qOs (x:=y) (i:=i) (by omega);have hc:((i:Int)+1)=((i+1:Nat):Int):=by push_cast;rfl
   rw[dx,dy]at h;unfold ltL at h;rw[q2'];refine wpAny_bind (wpAny_eqBool_str ?_);by_cases e:x.getD i "" = y.getD i ""
   ·rw[if_pos e]at h;rw[decide_eq_true e]
    wp_walk
    rw[hc];exact⟨plainId_quiet plain_eq_loop _,codeAny_builtin entry_eq_loop (by
     rw[Around.under_plainId plain_eq_loop _];exact ih (i+1) (by omega) (by omega) (by omega) prog w A R _ ⟨⟨hl,hb⟩,h⟩)⟩
   ·rw[if_neg e]at h;rw[decide_eq_false e]
    wp_walk using wpAny_loadPart' hl,wpAny_loadPart' hb
    rw[q1',q2'];refine wpAny_bind (richCompare_gives (op:=.Lt) (typeIs_str _ _ _) (typeIs_str _ _ _) F.slot_str_lt F.entry_str_lt (F.args_str_lt_2 _ _) (gives_str_lt _ _ _ _) (fun e=>nomatch e) ?_);exact wpAny_pure h
  ·have q2':items2[((i:Nat):Int).toNat]?=none:=by simp;omega
   rw[q2']
   wp_walk using wpAny_loadPart' hl,wpAny_loadPart' hb
   have dy:y.drop i=[]:=by simp;omega
   rw[dx,dy]at h;show R (.ok (.ret (.bool (decide (items.size<items2.size))))) _;rw[decide_eq_false (by omega)];exact h
theorem qQb (l b:Addr) (items items2:Array Value) (n n2:Nat) (dd dd2:Option Addr) (sl sl2:Array (Option Value)) (x y:List Str) (hx:StrsAre items.toList x) (hy:StrsAre items2.toList y) :
  Meets (Builtin.«list.__lt__» ⟨[.ref l,.ref b],[]⟩)
   (fun A R s=>(s.heap.get? l=some { cls:=.type "list",dict:=dd,data:=.seq items n,slots:=sl }/\s.heap.get? b=some { cls:=.type "list",dict:=dd2,data:=.seq items2 n2,slots:=sl2 })/\R (.ok (.ret (.bool (ltL x y)))) s):=by
 intro prog w A R s h;obtain⟨hp,g,d,tk,os⟩:=s;obtain⟨⟨hl,hb⟩,h⟩:=h;have f3:=AutoSeq1.sub_list_list
 wp_walk using wpAny_loadPart' hl,wpAny_loadPart' hb
 exact⟨plainId_quiet plain_eq_loop _,codeAny_builtin entry_eq_loop (by
  rw[Around.under_plainId plain_eq_loop _];exact qQa l b items items2 n n2 dd dd2 sl sl2 x y hx hy _ 0 rfl (hAk _) (hAk _) prog w A R _ ⟨⟨hl,hb⟩,h⟩)⟩
theorem qJr (hu:A.units<cLine) (hl:s.heap.IsList l items) (hb:s.heap.IsList b items2) (hx:StrsAre items.toList x) (hy:StrsAre items2.toList y)
  (h:Q (ltL x y) s):wpAny (model P w) A (keyLt' oneType' (.ref l) (.ref b)) Q E s:=by
 obtain⟨⟨cls,dd,data,sl⟩,ho,hc,n,hd⟩:=hl;obtain⟨⟨cls2,dd2,data2,sl2⟩,ho2,hc2,n2,hd2⟩:=hb;simp only at hc hd hc2 hd2;subst hc hd hc2 hd2;rw[keyLt'_oneType,oneLt'_eq];simp only[if_true];refine wpAny_bind (wpAny_cRoomFor hu ?_);refine wpAny_bind (wpAny_callSpecialIfBound?_slot (⟨_,ho,rfl⟩:s.TypeIs (.ref l) "list") F.slot_list_lt (call_meets F.slot_list_lt ⟨_,ho,rfl⟩ F.entry_list_lt (F.args_list_lt_2 _ _) (qQb l b items items2 n n2 dd dd2 sl sl2 x y hx hy) ⟨⟨ho,ho2⟩,?_⟩));exact wpAny_truthy_bool h
end L2
namespace L2
open PySem PySem.Spec PyProof.Rows PySem.W
def qVh (h:Heap) (v:Value) (t:List Str):Prop:=∃ a its,v = .ref a/\h.IsList a its/\StrsAre its.toList t
theorem qIk:∀ {vs:List Value} {ts:List (List Str)},Paired (qVh h) vs ts->∀ v∈vs,∃ t∈ts,qVh h v t
 | _,_,.nil,v,hv=>by cases hv
 | _,_,.cons x r,v,hv=>by
  rcases hA9.mp hv with z | z
  ·subst z;exact⟨_,hA6,x⟩
  ·obtain⟨t,ht,q⟩:=qIk r v z;exact⟨t,hA5 _ ht,q⟩
section
variable {P:Program} {w:World} {A:Around} {E:Value->Shared->Prop} {s:Shared}
theorem qFp {h h':Heap} {a:Addr} (k:∀ b o,b≠a->h.get? b=some o->h'.get? b=some o):∀ {vs:List Value} {ts:List (List Str)} {i:Nat},Paired (qVh h) vs ts->(∀ v∈vs,v≠.ref a)->i<vs.length->∃ (b:Addr) (its:Array Value),h'.IsList b its/\vs.getD i Value.none = .ref b/\StrsAre its.toList (ts.getD i [])
 | _,_,i,.nil,_,hi=>absurd hi (Nat.not_lt_zero _)
 | _,_,0,@Paired.cons _ _ _ v t l1 l2 hh tt,hn,_=>by
  obtain⟨b,its,rfl,⟨o,g,c,n,d⟩,st⟩:=hh;have nb:b≠a:=fun z=>hn _ hA6 (by rw[z])
  exact⟨b,its,⟨o,k b o nb g,c,n,d⟩,rfl,st⟩
 | _,_,i+1,@Paired.cons _ _ _ v t l1 l2 hh tt,hn,hi=>qFp (i:=i) k tt (fun u hu=>hn u (hA5 _ hu)) (by simpa using hi)
theorem qFe (hu:A.units<cLine) (ho:s.heap.get? a=some (seqObj "list" vs.toArray n)) (ht:Paired (qVh s.heap) vs ts) (h64:vs.length<64) (hna:∀ v∈vs,v≠.ref a)
  (h:∀ (out:List Value) (p:Array Nat),out.Perm vs->Gd vs.length p->SPk (ltI ts) p vs.length->out=p.toList.map (fun i=>vs.getD i Value.none)->R (.done (.ret .none)) { s with heap:=sortedHeap s.heap a vs out.toArray }):wpAny (model P w) A (Builtin.«list.sort» ⟨[.ref a],[]⟩) R E s:=by
 rw[list_sort_plain];have ha:a<s.heap.objs.size:=Heap.lt_size ho;refine wpAny_bind (listItems_at ho rfl (wpAny_bind (listUpdate_at ho rfl ?_ (by rw[hAb,sizeLine_eq];omega) (hAk _))));obtain⟨e1,ho1⟩:∃ e1,(s.heap.update a (Obj.mapSeq fun _=>#[])).get? a=some (seqObj "list" #[] e1):=⟨_,get?_update_seq ho (fun _=>#[])⟩;refine wpAny_bind (seqEpoch_at ho1 rfl (wpAny_bind (wpAny_newTuple ?_ (by show vs.length<=_;rw[sizeLine_eq];omega))));refine wpAny_bind (wpAny_newList ?_ (hAk _));refine wpAny_holding ?_;have ho6:(((s.heap.update a (Obj.mapSeq fun _=>#[])).push (seqObj "tuple" vs.toArray 0)).push (seqObj "list" #[] 0)).get? a=some (seqObj "list" #[] e1):=Heap.get?_push_of_some _ (Heap.get?_push_of_some _ ho1);have keep:∀ b o,b≠a->s.heap.get? b=some o->(((s.heap.update a (Obj.mapSeq fun _=>#[])).push (seqObj "tuple" vs.toArray 0)).push (seqObj "list" #[] 0)).get? b=some o:=fun b o hb e=>by
  refine Heap.get?_push_of_some _ (Heap.get?_push_of_some _ ?_);rw[Heap.get?_update_ne _ _ _ _ hb];exact e
 show wpAny (model P w) A _ R E { s with heap:=((s.heap.update a (Obj.mapSeq fun _=>#[])).push (seqObj "tuple" vs.toArray 0)).push (seqObj "list" #[] 0) };dsimp only;have fin:∀ (st':SortSt) (out:List Value),(arrOf st').map (·.2)=out.toArray->failedOf st'=none->out.Perm vs->(∃ p,Gd vs.length p/\SPk (ltI ts) p vs.length/\out=p.toList.map (fun i=>vs.getD i Value.none))->wpAny (model P w) A (do
   let touched:=(← seqEpoch a) != e1
   Builtin.List.listUpdate (.ref a) fun _=>(arrOf st').map (·.2)
   if let some e:=failedOf st' then rule "list.sort.comparison-raised";throw e
   if touched then rule "list.sort.modified";raiseError "ValueError" "list modified during sort"
   ret .none) R E { s with heap:=((s.heap.update a (Obj.mapSeq fun _=>#[])).push (seqObj "tuple" vs.toArray 0)).push (seqObj "list" #[] 0) }:=by
  intro st' out e hf hp ⟨p,hg,hsp,ep⟩;refine wpAny_bind (seqEpoch_at ho6 rfl ?_);refine wpAny_bind (listUpdate_at ho6 rfl ?_ (hAk _) (by rw[e,hAb,hp.length_eq,sizeLine_eq];omega));rw[hf];simp only[bne_self_eq_false,Bool.false_eq_true,if_false];rw[e];exact wpAny_pure (h out p hp hg hsp ep)
 by_cases h2:vs.toArray.size<2
 ·rw[if_pos h2,if_pos h2];refine wpAny_bind (wpAny_pure ?_);rw[StateT.run_pure];refine wpAny_bind (wpAny_pure (fin _ vs ?_ rfl (hC7 _) ⟨Rng vs.length,Array.Perm.refl _,fun i j hij hj=>absurd hj (by rw[hAb]at h2;omega),(qGo vs).symm⟩));show(vs.toArray.zip vs.toArray).map (·.2)=vs.toArray;apply Array.toList_inj.mp;rw[Array.toList_map,Array.toList_zip];exact List.map_snd_zip (hA4 _)
 ·rw[if_neg h2,if_neg h2];have hl2:2<=vs.length:=by rw[hAb]at h2;omega
  refine wpAny_bind (kas_kind (T:=.type "list") hl2 (fun v hv=>?_) (by decide) (by decide) ?_)
  ·obtain⟨t,_,b,its,rfl,⟨o,g,c,_⟩,st⟩:=qIk ht v hv;have nb:b≠a:=fun z=>hna _ hv (by rw[z])
   exact kitAt_ty _ _ ⟨o,keep b o nb g,c⟩
  refine wpAny_bind (wpAny_mono (kat_run (ks:=vs) (Q:=fun st' s'=>s'={ s with heap:=((s.heap.update a (Obj.mapSeq fun _=>#[])).push (seqObj "tuple" vs.toArray 0)).push (seqObj "list" #[] 0) }/\∃ out:List Value,(arrOf st').map (·.2)=out.toArray/\failedOf st'=none/\out.Perm vs/\∃ p,Gd vs.length p/\SPk (ltI ts) p vs.length/\out=p.toList.map (fun i=>vs.getD i Value.none)) (G:=fun p s'=>s'={ s with heap:=((s.heap.update a (Obj.mapSeq fun _=>#[])).push (seqObj "tuple" vs.toArray 0)).push (seqObj "list" #[] 0) }/\Gd vs.length p/\SPk (ltI ts) p vs.length) rfl hl2 h64 (fun p st' s' a1 a2 a3 a4=>?_) ?_) ?_ fun _ _ e=>e)
  ·obtain⟨rfl,g,sp⟩:=a4;refine⟨rfl,_,kat_snds rfl a2,a3,?_,p,g,sp,rfl⟩;have q:=(hBc.mp g).map fun i=>vs.getD i Value.none
   exact q.trans (List.Perm.of_eq (qGo vs))
  ·refine qRt (qSw ts) (fun i j C hi hj hC=>?_) (by omega) fun p g sp=>⟨rfl,g,sp⟩
   obtain⟨x1,y1,z1,v1,w1⟩:=qFp keep ht hna hi;obtain⟨x2,y2,z2,v2,w2⟩:=qFp keep ht hna hj;show wpAny _ _ (keyLt' _ (vs.getD i Value.none) (vs.getD j Value.none)) C _ _;rw[v1,v2];exact qJr hu z1 z2 w1 w2 hC
  ·rintro⟨⟨⟩,st'⟩ s' ⟨rfl,out,q1,q2,q3,q4⟩;exact fin st' out q1 q2 q3 q4
end
section
variable {X:Cx}
theorem qHi (I:Inv X pins σ H s) (k:∀ b o,s.heap.get? b=some o->h'.get? b=some o):∀ {as:List Addr} {ts:List (List Str)},Paired (fun a t=>SqL X.K H a (t.map V.str)) as ts->Paired (qVh h') (as.map Value.ref) ts
 | _,_,.nil=>.nil
 | _,_,.cons h t=>by
  obtain⟨its,rv,⟨o,n,e,c,_,dt⟩,_⟩:=I.list h;exact .cons ⟨_,its.toArray,rfl,⟨o,k _ _ e,c,_,dt⟩,by simpa using qDb rv⟩ (qHi I k t)
theorem qHj (I:Inv X pins σ H s):∀ {as:List Addr} {ts:List (List Str)},Paired (fun a t=>SqL X.K H a (t.map V.str)) as ts->∀ b∈as,b<s.heap.objs.size
 | _,_,.nil,b,hb=>by cases hb
 | _,_,.cons h t,b,hb=>by
  rcases hA9.mp hb with z | z
  ·subst z;obtain⟨its,rv,⟨o,n,e,_⟩,_⟩:=I.list h;exact Heap.lt_size e
  ·exact qHj I t b z
theorem qHx (hu:X.A.units+2<cLine):qB9 X (.builtin "sorted") (fun xs H Q=>∃ (p:Addr) (as:List Addr) (ts:List (List Str)),xs=[.ref p]/\SqL X.K H p (as.map V.ref)/\Paired (fun a t=>SqL X.K H a (t.map V.str)) as ts/\as.length<64/\∀ (r:Addr) (o:Array Nat),H r=none->Gd as.length o->SPk (ltI ts) o as.length->Q (.ref r) (upd H r (.lst ((o.toList.map fun i=>as.getD i 0).map V.ref)))):=by
 intro pins s σ H xs us Q I r h;obtain⟨p,as,ts,rfl,hq,ht,h64,q⟩:=h;obtain⟨u,rfl,rx⟩:=qC0 r;cases rx;obtain⟨its,rv,pl,hz⟩:=I.list hq;have ei:=refs_of rv;subst ei;refine Calls.call_function_entry kind_sorted plain_sorted entry_sorted (args_sorted1 _) ?_;unfold Builtin.«sorted»;refine wpAny_bind (m:=checkCount "sorted" 1 1 _) (wpAny_pure (wpAny_bind (collect_list pl.isList ?_ (by rw[hA1,sizeLine_eq];omega))));refine wpAny_bind (wpAny_newList ?_ (by rw[hA1,sizeLine_eq];omega));have hsz:((s.heap.push (seqObj "list" #[] 0)).update s.heap.objs.size (Obj.mapSeq (·++(as.map Value.ref).toArray))).objs.size=s.heap.objs.size+1:=by rw[Heap.size_update,size_push']
 have hoL:(((s.heap.push (seqObj "list" #[] 0)).update s.heap.objs.size (Obj.mapSeq (·++(as.map Value.ref).toArray))).push (seqObj "list" (as.map Value.ref).toArray 0)).get? (s.heap.objs.size+1)=some (seqObj "list" (as.map Value.ref).toArray 0):=by
  rw[<-hsz];exact Heap.get?_push_size _ rfl
 have keep:∀ b o,s.heap.get? b=some o->(((s.heap.push (seqObj "list" #[] 0)).update s.heap.objs.size (Obj.mapSeq (·++(as.map Value.ref).toArray))).push (seqObj "list" (as.map Value.ref).toArray 0)).get? b=some o:=fun b o e=>by
  have hlt:b<s.heap.objs.size:=Heap.lt_size e;rw[Heap.get?_push_ne _ _ _ (by rw[hsz];exact hAi (hAs hlt)),Heap.get?_update_ne _ _ _ _ (hAi hlt),Heap.get?_push_ne _ _ _ (hAi hlt)];exact e
 show wpAny _ _ _ _ _ { s with heap:=((s.heap.push (seqObj "list" #[] 0)).update s.heap.objs.size (Obj.mapSeq (·++(as.map Value.ref).toArray))).push (seqObj "list" (as.map Value.ref).toArray 0) };rw[hsz];have tp:=qHi (h':=((s.heap.push (seqObj "list" #[] 0)).update s.heap.objs.size (Obj.mapSeq (·++(as.map Value.ref).toArray))).push (seqObj "list" (as.map Value.ref).toArray 0)) I keep ht;refine wpAny_bind (wpAny_holding (wpAny_call_entry slot_list_sort ⟨_,hoL,rfl⟩ entry_list_sort (qFe ?hu hoL tp (by rw[hA1];exact h64) (fun v hv z=>?_) fun out o hp hg hsp eo=>⟨_,rfl,?_⟩) (args_list_sort _)))
 case hu=>omega
 ·obtain⟨b,hb,e⟩:=hAj.mp hv;rw[<-e]at z;injection z with z
  have lt:=qHj I ht b hb;exact absurd lt (by rw[z];exact Nat.not_lt_of_le (hAu _))
 rw[hA1]at hg hsp;rw[qIf fun i hi=>qK6 hg hi]at eo;subst eo;have nz:H (s.heap.objs.size+1)=none:=I.hok.fresh (hAu _);obtain⟨e,he⟩:=sortedAll_at s.heap (as.map Value.ref) ((o.toList.map fun i=>as.getD i 0).map Value.ref).toArray;refine wpAny_pure ⟨_,rfl,.ref (s.heap.objs.size+1),_,I.laid (t':=s.toks) (a:=s.heap.objs.size+1) (o:=.lst ((o.toList.map fun i=>as.getD i 0).map V.ref)) (h':=sortedAll s.heap (as.map Value.ref) ((o.toList.map fun i=>as.getD i 0).map Value.ref).toArray) (fun b o eb=>sortedAll_old eb) (hAu _) ⟨?_,(o.toList.map fun i=>as.getD i 0).map Value.ref,e,qDv _,he⟩,rfl,q _ o nz hg hsp⟩;rw[hA1,hA1,qOl hg];exact hAq (qAg (by omega))
end
end L2
namespace L2
open PySem PySem.Spec PyProof.Rows
def LOb (xs:List V) (o:Obj):Prop:=xs.length<=sizeLine/\∃ (its:List Value) (n:Nat),qBe xs its/\o={ cls:=.type "list",data:=.seq its.toArray n }
def qK1 (elt:Expr) (acc:Addr) (env:Env):Sem Unit:=do
 let _ ← call (.builtin "list.append") [.ref acc,<-eval elt env]
def qXk (te:TE):TB (List V):=fun xs σ H Q=>te σ H fun v H'=>xs.length<sizeLine/\Q (xs++[v]) σ H'
theorem qKu (xxe:X.xe=fun _ _=>False) (he:PE X elt te):PBd X LOb acc (qK1 elt acc X.env) (qXk te):=by
 intro pins s σ H a o Q I np hx ha h;have h0:=he _ s σ H _ I h;rw[xxe]at h0;unfold qK1;refine wpAny_bind (thn h0 fun v s1 ⟨y,H1,I1,r1,hl,q⟩=>wpAny_bind ?_);have pa:=I1.pin (acc,o) (hA8 _ hA6);obtain⟨hz,its,n,rv,rfl⟩:=ha;have hlen:=rv.length;refine wpAny_list_append_plain (items:=its.toArray) ⟨n,pa.1⟩ (fun h' pl sb=>?_) (by rw[hAb];omega);obtain⟨k',pl⟩:=pl;refine wpAny_pure ⟨a++[y],_,σ,H1,I1.repin (t':=s1.toks) (fun b u hb e=>(sb.2 b hb).trans e) pl (fun v z=>by cases z) hx np,⟨by rw[hA2];show _+1<=_;omega,its++[v],k',rv.append (.cons r1 .nil),by simp⟩,q⟩
section
variable {P:Program} {w:World} {target iter target2 iter2 elt:Expr} {ifs ifs2:List Expr} {scope:Scope} {pos:Pos}
theorem qK7:GC P w (.ListComp elt [⟨target,iter,ifs,0⟩,⟨target2,iter2,ifs2,0⟩] scope pos) target iter ifs scope iter.pos (newList []) (qDf (.ListComp elt [⟨target,iter,ifs,0⟩,⟨target2,iter2,ifs2,0⟩] scope pos) iter2) (seqObj "list" #[] 0) ([]:List V) LOb (fun _ xs=>.lst xs) where
 new:=fun A s Q E h=>wpAny_newList h (hAk _)
 nf:=rfl
 nc:=fun a o h v z=>by
  obtain⟨_,its,n,_,rfl⟩:=h;cases z
 hA0:=⟨hAk _,[],0,.nil,rfl⟩
 hHO:=fun H' h acc a o hb x e=>by
  obtain⟨hz,its,n,rv,rfl⟩:=x;exact⟨hz,its,n,rv,e⟩
 cl:=⟨_,rfl⟩
 dnS:=fun _ _ _ _ _ _ _ h=>h
 dnL:=fun _ _ _ _ _ _ _ h=>h
 q:=fun _ _ _=>rfl
 sh:=fun it acc env=>by
  unfold qB7 qDf;simp only[bind_assoc];rfl
end
end L2
namespace L2
open PySem PySem.Spec PyProof.Rows PySem.W
abbrev Srt (a:List (List Str)):Prop:=a.Pairwise fun x y=>ltL y x=false
theorem qJx (ts:List (List Str)):(List.range ts.length).map (fun i=>ts.getD i [])=ts:=by
 refine hBr fun i=>?_
 by_cases hi:i<ts.length
 ·rw[hAl,hCb hi,hA3 hi];show some (ts.getD i [])=_;rw[hAa,hA3 hi];rfl
 ·rw[hAy (by simp;omega),hAy (by omega)]
theorem qGk (g:Gd ts.length o) (sp:SPk (ltI ts) o ts.length):Srt (o.toList.map fun i=>ts.getD i [])/\(o.toList.map fun i=>ts.getD i []).Perm ts:=by
 have sz:=g.size;refine⟨?_,?_⟩
 ·rw[Srt,List.pairwise_iff_getElem];intro i j hi hj hij;rw[hA1]at hi hj;have h:=sp i j hij (by simpa [sz] using hj);rw[List.getElem_map,List.getElem_map];have e:∀ k (hk:k<o.toList.length),o.getD k 0=o.toList[k]:=fun k hk=>by
   have hk':k<o.size:=by simpa using hk
   simp[Array.getD,hk']
  rw[e i hi,e j hj]at h;exact h
 ·have q:=(hBc.mp g).map fun i=>ts.getD i []
  exact q.trans (List.Perm.of_eq (qJx ts))
theorem qKd:∀ {a b:List (List Str)},Srt a->Srt b->a.Perm b->a=b
 | [],b,_,_,p=>(List.nil_perm.mp p).symm▸rfl
 | x :: a,[],_,_,p=>by have:=p.length_eq;simp at this
 | x :: a,y :: b,ha,hb,p=>by
  obtain⟨a1,a2⟩:=hBx.mp ha;obtain⟨b1,b2⟩:=hBx.mp hb;have e:x=y:=by
   rcases hA9.mp (p.mem_iff.mp hA6) with z | z
   ·exact z
   ·rcases hA9.mp (p.mem_iff.mpr hA6) with w' | w'
    ·exact w'.symm
    ·have h1:=b1 x z;have h2:=a1 y w';rcases ltL_tri x y with q | q | q
     ·rw[q]at h1;cases h1
     ·exact q
     ·rw[q]at h2;cases h2
  subst e;rw[qKd a2 b2 ((List.perm_cons _).mp p)]
end L2
namespace L2
open PySem PySem.Spec PyProof.Rows
theorem qCo {X:Cx} {target iter elt:Expr} {ifs:List Expr} {scope sc:Scope} {pos:Pos} {N N':List Str} {sub:List (Option Nat)} {wi:TI} {g:TG} {tt:TT} {te:TE} (hN:X.N=N) (hsc:X.env.scope=sc)
  (O:CmpOk N sc N' scope sub) (hc:X.calm=true) (hi:PI X target iter wi)
  (B:∀ C s H fp,PG (qBr X scope N' C s H fp) target g/\PTs (qBr X scope N' C s H fp) ifs tt/\PE (qBr X scope N' C s H fp) elt te)
  (hs:∀ x,foldedSetIterable iter X.env x=pure x:=by intro _;rfl):PE X (.ListComp elt [⟨target,iter,ifs,0⟩] scope pos) (qPj sub wi g tt te) :=
 qSc hc (by rw[hN,hsc];exact O) hi B hs
theorem qL1 {X:Cx} {target iter elt:Expr} {ifs:List Expr} {scope sc:Scope} {pos:Pos} {N N':List Str} {sub:List (Option Nat)} {wi:TI} {g:TG} {tt:TT} {te:TE} {i:Nat} {y:Str} {py spos:Pos} (hN:X.N=N) (hsc:X.env.scope=sc)
  (O:CmpOk N sc N' scope sub) (hc:X.calm=true) (hi:PI X target iter wi)
  (B:∀ C s H fp,PG (qBr X scope N' C s H fp) target g/\PTs (qBr X scope N' C s H fp) ifs tt/\PE (qBr X scope N' C s H fp) elt te)
  (nd:X.N.Nodup) (hy:X.N[i]?=some y) (hx:Loc X.env.scope y)
  (hsw:swapsWith (.ListComp elt [⟨target,iter,ifs,0⟩] scope pos) (some (.Name y py)) spos.line X.env=pure true:=by rfl)
  (hs:∀ x,foldedSetIterable iter X.env x=pure x:=by intro _;rfl) (hf:X.fn y=true\/X.env.scope.names.lookup y=some .local:=by first | exact .inl rfl | exact .inr rfl | assumption) :
  PS X (.Assign [.Name y py] (.ListComp elt [⟨target,iter,ifs,0⟩] scope pos) spos) (qTj (qPj sub wi g tt te) (qJ0 i)) :=
 qR9 hc (by rw[hN,hsc];exact O) hi B nd hy hx hsw hs hf
end L2
namespace My
open PySem L2
structure Cl (P:Program) (w:World) (K:PySem.W.Frag) (mg:Str->Option Value) (base:Heap) (CX:CXT) (k:Nat) (f:Addr) (fd:FuncData) (ps:List Str) (sp:Sp) (n:Str):Prop where
 g:FnOk P w K mg base CX k f fd ps sp
 b:qMd K fd ps []
 k:PySem.W.keepIn K (.ref f)=true
 m:mg n=some (.ref f)
theorem qAs {X:Cx} {CX:CXT} {k:Nat} {f:Addr} {fd:FuncData} {ps:List Str} {sp:Sp} {x:Str} {dvs:List V} {E:XK} {e:Expr} {es:List Expr} {t:TA} {p pos:Pos} (G:Cl X.prog X.w X.K X.mg X.base CX k f fd ps sp x) (hr:Room k X.A) (hg:Gl X x) (hd:qBe dvs []) (hx:qI1 CX X E)
  (ha:PA X (e :: es) t) (hdb:(x == ("__debug__" : Str))=false:=by decide) (he:starEach (e :: es) X.env=(false,eval e X.env) :: starEach es X.env:=by rfl) (hpl:(backTo pos (starEach es X.env)).any (·.1)=false:=by rfl):PE X (.Call (.Name x p) (e :: es) [] pos) (qTw sp dvs E t):=qSd G.g hr hg G.m G.k G.b hd hx ha hdb he hpl
def top (i:Nat):Stmt:=PySem.Challenge.pw_roundsalone_k69_roads_looked_at.main.body.getD i (.Pass ⟨0,0,0,0⟩)
abbrev qJf:Stmt:=top 3
abbrev qEq:Stmt:=top 4
abbrev qJc:Stmt:=top 6
abbrev qDm:Stmt:=top 7
abbrev qJd:Stmt:=top 8
abbrev qFh:Stmt:=top 9
abbrev qEr:Stmt:=top 10
abbrev qDn:Stmt:=top 15
abbrev qCr:Stmt:=top 16
abbrev qEp:Stmt:=top 17
abbrev qR3:Stmt:=top 18
abbrev qEg:Stmt:=top 19
abbrev qCm:Stmt:=top 20
abbrev qLy:Stmt:=top 21
abbrev qGf:Stmt:=top 22
abbrev qLz:Stmt:=top 23
abbrev qGh:Stmt:=top 26
abbrev qL0:Stmt:=top 28
abbrev qGg:Stmt:=top 29
abbrev qLu:Stmt:=top 30
abbrev qD0:Stmt:=top 31
abbrev qR2:Stmt:=top 32
abbrev qR1:Stmt:=top 33
abbrev qLw:Stmt:=top 34
abbrev qTl:Stmt:=top 35
abbrev qJe:Stmt:=top 36
abbrev qH8:Stmt:=top 37
abbrev qTk:Stmt:=top 38
abbrev qLx:Stmt:=top 39
abbrev qG9:Stmt:=top 40
abbrev qPg:Stmt:=top 41
abbrev qLv:Stmt:=top 42
abbrev qPq:Stmt:=top 43
def Ext (H H':Hp):Prop:=∀ b o,H b=some o->H' b=some o
theorem Ext.refl (H:Hp):Ext H H:=fun _ _ h=>h
theorem Ext.trans {H H1 H2:Hp} (a:Ext H H1) (b:Ext H1 H2):Ext H H2:=fun c o h=>b c o (a c o h)
theorem Ext.new {H:Hp} {p:Addr} (h:H p=none) (o:HO):Ext H (upd H p o):=fun b u q=>by rw[qAh (qAk q h)];exact q
theorem Ext.none {H H':Hp} (e:Ext H H') {p:Addr} (h:H' p=none):H p=none:=by
 cases q:H p with
 | none=>rfl
 | some o=>rw[e p o q]at h;cases h
theorem Ext.sqL {K:PySem.W.Frag} {H H':Hp} {a:Addr} {xs:List V} (e:Ext H H') (h:SqL K H a xs):SqL K H' a xs:=by
 rcases h with (h | ⟨o,h⟩) | h
 ·exact .inl (.inl (e _ _ h))
 ·exact .inl (.inr ⟨o,e _ _ h⟩)
 ·exact .inr h
def qQx (K:PySem.W.Frag):Sp:=fun vs H Q _=>∃ (a:Addr) (ns:List Int) (k:Int),vs=[.ref a,.int k]/\SqL K H a (ns.map V.int)/\0<=k/\∀ v,Q (.int v) H
section
variable {P:Program} {w:World} {K:PySem.W.Frag} {mg:Str->Option Value} {base:Heap} {f f1:Addr} {fd fd1:FuncData}
theorem qUa:FnScope ["_law_script","_law_k"] ["_law_script","_law_k"] (qAd qL0):=⟨rfl,rfl,rfl,by decide +kernel,rfl,by decide +kernel,by decide +kernel⟩
theorem qSr (F:Fun K "_law_cell_at" "_law_cell_at" qL0 f fd) (ml:mg "len" = none):FnOk P w K mg base CX0 1 f fd ["_law_script","_law_k"] (qQx K):=by
 refine F.ok qUa (fun vs H Q E h=>?_) (fun cdv A outer s H vs Q E hr h=>?_)
 ·obtain⟨a,ns,k,rfl,_⟩:=h;rfl
 obtain⟨a,ns,k,rfl,hS,h0,q⟩:=h;refine⟨_,qAc (qBf (qAn qIh (pv 1) (qAj qAm rfl ml hAn (qAa (pv 0) qAb)) (qAr _)) (qAf (qAq (qA9 qBa (pv 0) (pv 1) (fun _ _=>rfl)))) qAt) (qAf (qAq qAe)),?_⟩;refine⟨_,rfl,_,rfl,a,_,rfl,.inl hS,_,_,rfl,rfl,_,rfl,?_⟩;refine qBw (fun c=>?_) (fun c=>q 0);have c':k<(((ns.map V.int).length:Nat):Int):=of_decide_eq_true c;rw[hA1]at c';have hk:k.toNat<ns.length:=by omega
 have hv:atI (ns.map V.int) ((k.toNat:Nat):Int)=some (.int ns[k.toNat]):=atI_nat (by rw[hAl,hA3 hk] <;> rfl);rw[hBi h0]at hv;exact⟨_,rfl,_,rfl,a,_,_,_,rfl,rfl,hS,hv,q _⟩
end
end My
namespace My
open PySem L2
theorem qL9:bootBuiltins "bool" = some (.type "bool"):=by decide +kernel
theorem qBt:bootBuiltins "isinstance" = some (.builtin "isinstance"):=by decide +kernel
theorem qCv (K:PySem.W.Frag) (t:Value):PySem.W.kitOne K t t=some true:=by unfold PySem.W.kitOne;rw[if_pos (beq_self_eq_true t)]
end My
namespace My
open PySem L2
section
variable {σ0:St} {g:TG} {tt:TT} {te:TE} {Q:List V->Hp->Prop} {H1:Hp}
theorem qLj {K:PySem.W.Frag} {a:Addr} {xs:List V} (f:V->Option V) (hS:SqL K H1 a xs) (hz:xs.length<=sizeLine)
  (hs:∀ x∈xs,∀ C:Option V->Hp->Prop,C (f x) H1->g x σ0 H1 fun σ2 H2=>Sle σ0 σ2/\tt σ2 H2 fun b H3=>if b=true then te σ2 H3 (fun v H4=>C (some v) H4) else C none H3)
  (hd:Q (xs.filterMap f) H1):qCq (Itl K a) σ0 g tt te Q H1:=by
 refine qBc (xs:=xs) (fun i ys H=>H=H1/\ys=(xs.take i).filterMap f) ⟨rfl,by simp⟩ (fun i ys H _ h=>by rw[h.1];exact hS) ?_ ?_
 ·rintro i x ys H hx ⟨rfl,rfl⟩;have hi:i<xs.length:=(hAr.mp hx).1;have hm:x∈xs:=hAm hx;have tk:(xs.take (i+1)).filterMap f=(xs.take i).filterMap f++(f x).toList:=by
   rw[List.take_add_one,hx,List.filterMap_append];cases e:f x <;> simp[e]
  have hl:((xs.take i).filterMap f).length<sizeLine:=by
   have h1:=List.length_filterMap_le f (xs.take i);rw[hAp]at h1;omega
  refine hs x hm (fun o H4=>match o with | some v=>((xs.take i).filterMap f).length<sizeLine/\Nxt xs.length i _ ((xs.take i).filterMap f++[v]) H4 | none=>Nxt xs.length i _ ((xs.take i).filterMap f) H4) ?_;cases e:f x with
  | none=>exact nxt hi ⟨rfl,by rw[tk,e];simp⟩
  | some v=>exact⟨hl,nxt hi ⟨rfl,by rw[tk,e];simp⟩⟩
 ·rintro ys H ⟨rfl,rfl⟩;rw[hAf (hA4 _)];exact hd
theorem qFb {K:PySem.W.Frag} {a:Addr} {xs:List V} (f:V->Option V) (hS:SqL K H1 a xs) (hz:xs.length<=sizeLine)
  (hs:∀ x∈xs,∀ H,Ext H1 H->∀ C:Option V->Hp->Prop,(∀ H',Ext H H'->C (f x) H')->g x σ0 H fun σ2 H2=>Sle σ0 σ2/\tt σ2 H2 fun b H3=>if b=true then te σ2 H3 (fun v H4=>C (some v) H4) else C none H3)
  (hd:∀ H',Ext H1 H'->Q (xs.filterMap f) H'):qCq (Itl K a) σ0 g tt te Q H1:=by
 refine qBc (xs:=xs) (fun i ys H=>Ext H1 H/\ys=(xs.take i).filterMap f) ⟨Ext.refl _,by simp⟩ (fun i ys H _ h=>h.1.sqL hS) ?_ ?_
 ·rintro i x ys H hx ⟨he,rfl⟩;have hi:i<xs.length:=(hAr.mp hx).1;have hm:x∈xs:=hAm hx;have tk:(xs.take (i+1)).filterMap f=(xs.take i).filterMap f++(f x).toList:=by
   rw[List.take_add_one,hx,List.filterMap_append];cases e:f x <;> simp[e]
  have hl:((xs.take i).filterMap f).length<sizeLine:=by
   have h1:=List.length_filterMap_le f (xs.take i);rw[hAp]at h1;omega
  refine hs x hm H he (fun o H4=>match o with | some v=>((xs.take i).filterMap f).length<sizeLine/\Nxt xs.length i _ ((xs.take i).filterMap f++[v]) H4 | none=>Nxt xs.length i _ ((xs.take i).filterMap f) H4) (fun H' he'=>?_);cases e:f x with
  | none=>exact nxt hi ⟨he.trans he',by rw[tk,e];simp⟩
  | some v=>exact⟨hl,nxt hi ⟨he.trans he',by rw[tk,e];simp⟩⟩
 ·rintro ys H ⟨he,rfl⟩;rw[hAf (hA4 _)];exact hd H he
end
theorem qC8 (n:Str):∀ other:List Str,inV (.str n) (other.map V.str)=decide (n∈other)
 | []=>by simp[inV]
 | x :: r=>by
  have ih:=qC8 n r;unfold inV at ih ⊢;rw[hB2,List.any_cons,ih];show(x == n || decide (n∈r))=_;by_cases e:n=x
  ·subst e;simp
  ·have e':¬x=n:=fun z=>e z.symm
   simp[e,e']
theorem flat_strs:∀ other:List Str,(other.map V.str).all qHp=true:=fun other=>by
 rw[hB9];intro x hx;obtain⟨y,_,rfl⟩:=hAj.mp hx;rfl
def LsS (H:Hp) (a:Addr) (ss:List Str):Prop:=H a=some (.lst (ss.map V.str))
end My
namespace My
open PySem L2
abbrev sg:Str:="abcdefghijklmnopqrstuvwxyz0123456789"
def sgC (n:Nat):Nat:=sg.cps.toList.getD n 0
theorem qH5:sg.cps.toList.length=36:=by decide +kernel
theorem qV7:sg.cps.toList.Nodup:=by decide +kernel
theorem qKl:∀ c∈sg.cps.toList,c<128:=by decide +kernel
theorem qLs {i:Int} (h0:0<=i) (h1:i<36):atI sg.cps.toList i=some (sgC i.toNat):=by
 have hk:i.toNat<sg.cps.toList.length:=by rw[qH5];omega
 have:=atI_nat (xs:=sg.cps.toList) (j:=i.toNat) (v:=sgC i.toNat) (by
  unfold sgC;rw[hAa,hA3 hk];rfl)
 rw[hBi h0]at this;exact this
theorem qNa {i j:Nat} (hi:i<36) (hj:j<36) (e:sgC i=sgC j):i=j:=by
 have hi':i<sg.cps.toList.length:=by rw[qH5];exact hi
 have hj':j<sg.cps.toList.length:=by rw[qH5];exact hj
 unfold sgC at e;rw[hAa,hAa,hA3 hi',hA3 hj']at e;exact(List.getElem_inj qV7).mp e
theorem qH6 {i:Nat} (hi:i<36):sgC i<128:=by
 have hi':i<sg.cps.toList.length:=by rw[qH5];exact hi
 unfold sgC;rw[hAa,hA3 hi'];exact qKl _ (hBy hi')
def Sm (x:Str):Prop:=∀ c∈x.cps.toList,c<128
theorem Sm.ok {x:Str} (h:Sm x):PyData.strOk x=true:=by
 unfold PyData.strOk;rw[Array.all_eq_true_iff_forall_mem];intro c hc;have:=h c (by simpa using hc);exact decide_eq_true (by omega)
end My
namespace My
open PySem L2
def rowD (r:List Str):PyData:=.list (r.map .str)
def qDi (F:List (List Str)):PyData:=.list (F.map rowD)
theorem qLb:∀ a b:List Str,PyData.eqvAll (a.map .str) (b.map .str)=decide (a=b)
 | [],[]=>rfl
 | [],_ :: _=>rfl
 | _ :: _,[]=>rfl
 | x :: a,y :: b=>by
  show(x == y && PyData.eqvAll (a.map .str) (b.map .str))=_;rw[qLb a b];by_cases e:x=y
  ·subst e;simp
  ·simp[e]
theorem qJ1 (a b:List Str):PyData.eqv (rowD a) (rowD b)=decide (a=b):=qLb a b
def SOk (r:List Str):Prop:=∀ x∈r,PyData.strOk x=true
theorem qFa:∀ {r:List Str},SOk r->PyData.canLayAll0 (r.map .str)=true/\PyData.depthAll (r.map .str)=0
 | [],_=>⟨rfl,rfl⟩
 | x :: r,h=>by
  obtain⟨h1,h2⟩:=qFa (r:=r) fun y hy=>h y (hA5 _ hy)
  refine⟨?_,?_⟩
  ·show(PyData.strOk x && PyData.canLayAll0 (r.map .str))=true;rw[h1,h x hA6];rfl
  ·show max 0 (PyData.depthAll (r.map .str))=0;rw[h2];rfl
theorem qGd {r:List Str} (h:SOk r):SeqAt.shaped (rowD r)=true:=by
 obtain⟨h3,h4⟩:=qFa h;show(PyData.canLayAll0 (r.map .str) && decide (PyData.depthAll (r.map .str)+1<=64))=true;rw[h3,h4];rfl
theorem qOt {K:PySem.W.Frag} {H:Hp}:∀ r:List Str,DRs K H (r.map V.str) (r.map .str)
 | []=>.nil
 | x :: r=>.cons (.str x) (qOt r)
theorem qLd {K:PySem.W.Frag} {H:Hp} {a:Addr} {r:List Str} (h:LsS H a r):DR K H (.ref a) (rowD r):=.lst (SqL.of h) (qOt r)
end My
namespace My
open PySem L2
theorem qEs {k:Nat} {A:Around} (hr:Room k A):A.units+64<cLine:=by have:=hr.un;omega
theorem qA4:bootBuiltins "list" = some (.type "list"):=by decide +kernel
theorem qO7:bootBuiltins "str" = some (.type "str"):=by decide +kernel
theorem qBk:bootBuiltins "sorted" = some (.builtin "sorted"):=by decide +kernel
theorem qD8:bootBuiltins "all" = some (.builtin "all"):=by decide +kernel
theorem qO9:bootBuiltins "set" = some (.type "set"):=by decide +kernel
theorem qCy:bootBuiltins "tuple" = some (.type "tuple"):=by decide +kernel
end My
namespace My
open PySem L2
theorem qGz {α:Type} {P:List α->Prop} (h0:P []) (hs:∀ l t,P l->P (l++[t])) (l:List α):P l:=by
 have:∀ r:List α,P r.reverse:=fun r=>by
  induction r with
  | nil=>exact h0
  | cons a r ih=>rw[List.reverse_cons];exact hs _ _ ih
 have q:=this l.reverse
 rwa [List.reverse_reverse]at q
abbrev Tr:=Str×Str×Str
abbrev lab (f:Str->Str) (t:Tr):Str->Str:=fun p=>if f p=f t.2.2 then f t.2.1 else f p
def qDg (net:List Tr):Str->Str:=net.foldl lab id
theorem qOi (net:List Tr) (t:Tr):qDg (net++[t])=lab (qDg net) t:=by unfold qDg;rw[List.foldl_append];rfl
def qJt (net:List Tr) (x:Str):Prop:=∃ t∈net,x=t.2.1\/x=t.2.2
theorem qOf {net:List Tr} {t:Tr} {x:Str}:qJt (net++[t]) x↔qJt net x\/x=t.2.1\/x=t.2.2:=by
 unfold qJt;constructor
 ·rintro⟨u,hu,h⟩;rcases hAd.mp hu with z | z
  ·exact .inl ⟨u,z,h⟩
  ·rw[hA7]at z;subst z;exact .inr h
 ·rintro(⟨u,hu,h⟩ | h)
  ·exact⟨u,hB1 _ hu,h⟩
  ·exact⟨t,hA8 _ (hA7.mpr rfl),h⟩
end My
namespace My
open PySem L2
abbrev qPd (l:List Str):Prop:=l.Pairwise fun a b=>qPp a b=true
theorem qKp:∀ {a b:List Str},qPd a->qPd b->(∀ x,x∈a↔x∈b)->a=b
 | [],[],_,_,_=>rfl
 | [],y :: b,_,_,h=>by have:=(h y).mpr hA6;cases this
 | x :: a,[],_,_,h=>by have:=(h x).mp hA6;cases this
 | x :: a,y :: b,ha,hb,h=>by
  obtain⟨a1,a2⟩:=hBx.mp ha;obtain⟨b1,b2⟩:=hBx.mp hb;have e:x=y:=by
   rcases hA9.mp ((h x).mp hA6) with z | z
   ·exact z
   ·rcases hA9.mp ((h y).mpr hA6) with w | w
    ·exact w.symm
    ·have q:=qEh (b1 x z) (a1 y w);rw[qE6]at q;cases q
  subst e;refine congrArg _ (qKp a2 b2 fun z=>⟨fun hz=>?_,fun hz=>?_⟩)
  ·rcases hA9.mp ((h z).mp (hA5 _ hz)) with w | w
   ·have:=a1 z hz;rw[w,qE6]at this;cases this
   ·exact w
  ·rcases hA9.mp ((h z).mpr (hA5 _ hz)) with w | w
   ·have:=b1 z hz;rw[w,qE6]at this;cases this
   ·exact w
end My
namespace My
open PySem L2
abbrev trV (t:Tr):List V:=[.str t.1,.str t.2.1,.str t.2.2]
def qAy (H:Hp) (p:Addr) (net:List Tr):Prop:=∃ as:List Addr,H p=some (.lst (as.map V.ref))/\Paired (fun a t=>H a=some (.tup (trV t))) as net
theorem qAy.ext {H H':Hp} {p:Addr} {net:List Tr} (h:qAy H p net) (e:Ext H H'):qAy H' p net:=by
 obtain⟨as,h1,h2⟩:=h;exact⟨as,e _ _ h1,Paired.mapP h2 fun a t z=>e _ _ z⟩
theorem qEj {α β:Type} {R:α->β->Prop}:∀ {as:List α} {bs:List β} {i:Nat} {a:α},Paired R as bs->as[i]?=some a->∃ b,bs[i]?=some b/\R a b
 | _,_,_,_,.nil,e=>by simp at e
 | _,_,0,_,.cons h _,e=>by simp at e;subst e;exact⟨_,rfl,h⟩
 | _,_,i+1,_,.cons _ t,e=>by
  obtain⟨b,h1,h2⟩:=qEj (i:=i) t (by simpa using e);exact⟨b,by simpa using h1,h2⟩
theorem qB8 {H:Hp} {as:List Addr} {net:List Tr} {i:Nat} {x:V} (h:Paired (fun a t=>H a=some (.tup (trV t))) as net) (e:(as.map V.ref)[i]?=some x):∃ a t,x = .ref a/\net[i]?=some t/\H a=some (.tup (trV t)):=by
 rw[hAl]at e;cases ha:as[i]? with
 | none=>rw[ha]at e;cases e
 | some a =>
  rw[ha]at e;obtain⟨t,h1,h2⟩:=qEj h ha;exact⟨a,t,(hAg e).symm,h1,h2⟩
theorem qA0 {α:Type} {l:List α} {i:Nat} {t:α} (h:l[i]?=some t):l.take (i+1)=l.take i++[t]:=by rw[List.take_add_one,h];rfl
theorem qBg {α:Type} {l:List α} {i:Nat} {t:α} (h:l[i]?=some t):i<l.length:=(hAr.mp h).1
theorem qNh:∀ (l:List Str) (p:Str),PyProof.Rows.risingS p l=true->(p :: l).Nodup->qPd (p :: l)
 | [],p,_,_=>List.pairwise_singleton _ _
 | x :: r,p,h,nd=>by
  have h':(!PySem.Spec.ltCps x.cps.toList p.cps.toList && PyProof.Rows.risingS x r)=true:=h;rw[hBm]at h';have nd':=hBt.mp nd;have ih:=qNh r x h'.2 nd'.2;have px:qPp p x=true:=by
   have z:=h'.1;rw[PyProof.Rows.ltCps_eq]at z;rcases sLtB_tri p x with t | t | t
   ·exact t
   ·exact absurd t (fun e=>nd'.1 (by rw[e];exact hA6))
   ·rw[decide_eq_true (of_decide_eq_true t)]at z;cases z
  refine hBx.mpr ⟨fun y hy=>?_,ih⟩;rcases hA9.mp hy with e | hy
  ·rw[e];exact px
  ·exact qEh px ((hBx.mp ih).1 y hy)
theorem qR4 {l:List Str} (h:PyProof.Rows.sortedS l=true) (nd:l.Nodup):qPd l:=by
 cases l with
 | nil=>exact List.Pairwise.nil
 | cons x r=>exact qNh r x h nd
def qE3 (net:List Tr) (ps:List Str):Prop:=ps.Nodup/\∀ x,x∈ps↔qJt net x
def qDy:Sp:=fun vs H Q _=>∃ (p:Addr) (net:List Tr),vs=[.ref p]/\qAy H p net/\net.length<=12/\∀ r ps H',Ext H H'->H r=none->LsS H' r ps->qE3 net ps->qPd ps->ps.length<=24->Q (.ref r) H'
section
variable {P:Program} {w:World} {K:PySem.W.Frag} {mg:Str->Option Value} {base:Heap} {f f1:Addr} {fd fd1:FuncData}
theorem qPn:FnScope ["net"] ["net"] (qAd qDm):=⟨rfl,rfl,rfl,by decide +kernel,rfl,by decide +kernel,by decide +kernel⟩
abbrev ptN:List Str:=["tie","one","other","end"]
theorem qNy (F:Fun K "points" "points" qDm f fd) (mso:mg "sorted" = none):FnOk P w K mg base CX0 1 f fd ["net"] qDy:=by
 refine F.ok qPn (fun vs H Q E h=>?_) (fun cdv A outer s H vs Q E hr h=>?_)
 ·obtain⟨p,net,rfl,_⟩:=h;rfl
 obtain⟨p,net,rfl,⟨as,hp,pr⟩,hl,q⟩:=h;refine⟨_,qAf (qAq (qAj (qDk rfl) rfl mso qBk (qAa
  (qWg qS5 rfl (N:=["net"]) (sc:=qAd qDm) (N':=ptN) (sub:=[none,none,none,none]) rfl rfl (CmpOk.of (by decide +kernel)) rfl (qAx (pv 0))
   (fun C s H fp=>⟨(show PG _ _ (qRd K 3 _) from qCh rfl (qAo (qAi (i:=0) (by show ptN.Nodup;decide) rfl (Or.inl rfl)) (qAo (qAi (i:=1) (by show ptN.Nodup;decide) rfl (Or.inl rfl)) (qAo (qAi (i:=2) (by show ptN.Nodup;decide) rfl (Or.inl rfl)) qBq)))),qA5,
    fun acc=>qHf rfl rfl (show PI _ _ _ (qVo K _) from qGj (qB5 (qAa (pv 1) (qAa (pv 2) qAb)))) (qAi (i:=3) (by show ptN.Nodup;decide) rfl (Or.inl rfl)) qA5 (qSe rfl (pv 3)) (fun _=>rfl) rfl rfl (fun _=>rfl) (fun _ _ _ _ _ h=>h) (fun _ _ _ _ _ h=>h) (fun _=>rfl)⟩)) qAb))),?_⟩
 have lA:as.length=net.length:=pr.length;refine⟨_,rfl,p,rfl,⟨_,SqL.of hp⟩,?_⟩;refine qK8 (xs:=as.map V.ref) (fun i ss σ H'=>Ext H H'/\(∃ x0 x1 x2 x3:Option V,σ=[x0,x1,x2,x3])/\ss.Nodup/\(∀ x,x∈ss↔qJt (net.take i) x)/\ss.length<=2*i) ⟨Ext.refl _,⟨none,none,none,none,rfl⟩,List.nodup_nil,fun x=>⟨fun z=>(by cases z),fun ⟨t,ht,_⟩=>(by simp at ht)⟩,hAk _⟩ (fun i ss σ H' _ h=>SqL.of (h.1 _ _ hp)) ?_ ?_
 ·rintro i x ss σ H' hx ⟨he,⟨x0,x1,x2,x3,rfl⟩,nd,mem,ln⟩;obtain⟨a,t,rfl,ht,ha⟩:=qB8 pr hx;have hi:=qBg ht;refine⟨a,_,rfl,SqT.of (he _ _ ha),rfl,_,_,rfl,_,_,rfl,_,_,rfl,rfl,iteT (B:=False) ?_⟩;refine⟨_,rfl,_,rfl,(by show 2<=sizeLine;decide),fun T hT=>⟨T,rfl,⟨_,SqT.of upd_same⟩,?_⟩⟩;have X1:=Ext.new hT (.tup [V.str t.2.1,V.str t.2.2]);refine qJz (xs:=[V.str t.2.1,V.str t.2.2]) (fun j ss σ H2=>Ext (upd H' T (.tup [V.str t.2.1,V.str t.2.2])) H2/\(∃ y:Option V,σ=[some (.str t.1),some (.str t.2.1),some (.str t.2.2),y])/\ss.Nodup/\(∀ x,x∈ss↔qJt (net.take i) x\/(0<j/\x=t.2.1)\/(1<j/\x=t.2.2))/\ss.length<=2*i+j)
   ⟨Ext.refl _,⟨_,rfl⟩,nd,fun x=>by rw[mem];simp,by omega⟩ (fun j ss σ H2 _ h=>SqT.of (h.1 _ _ upd_same)) ?_ ?_
  ·rintro j z ss2 σ H2 hz ⟨h2,⟨y,rfl⟩,nd2,mem2,ln2⟩;have hj:j<2:=qBg hz;obtain⟨v,rfl,hv⟩:∃ v:Str,z = .str v/\((j=0/\v=t.2.1)\/(j=1/\v=t.2.2)):=by
    rcases(show j=0\/j=1 by omega) with rfl | rfl
    ·exact⟨t.2.1,(hAg hz).symm,.inl ⟨rfl,rfl⟩⟩
    ·exact⟨t.2.2,(hAg hz).symm,.inr ⟨rfl,rfl⟩⟩
   refine iteT (B:=False) ⟨_,rfl,v,rfl,by omega,fun ss3 h3=>nxg hj ⟨h2,⟨_,rfl⟩,?_⟩⟩;have key:ss3.Nodup/\(∀ x,x∈ss3↔x∈ss2\/x=v)/\ss3.length<=ss2.length+1:=by
    by_cases m:v∈ss2
    ·rw[if_pos m]at h3;subst h3;exact⟨nd2,fun x=>⟨.inl,fun z=>z.elim id fun e=>e▸m⟩,hAu _⟩
    ·rw[if_neg m]at h3;refine⟨h3.nodup_iff.mpr ?_,fun x=>by rw[h3.mem_iff,hAd,hA7],by rw[h3.length_eq,hA2];exact hA4 _⟩;rw[hC5];exact⟨nd2,by simp,fun y hy z hz=>by rw[hA7]at hz;subst hz;rintro rfl;exact m hy⟩
   refine⟨key.1,fun x=>?_,by have:=key.2.2;omega⟩;rw[key.2.1,mem2];rcases hv with ⟨rfl,rfl⟩ | ⟨rfl,rfl⟩
   ·simp
   ·simp[or_assoc]
  ·rintro ss2 σ H2 ⟨h2,⟨y,rfl⟩,nd2,mem2,ln2⟩;refine nxg (qBg hx) ⟨he.trans (X1.trans h2),⟨_,_,_,_,rfl⟩,nd2,fun x=>?_,by have:ss2.length<=2*i+2:=ln2;omega⟩;rw[mem2,qA0 ht,qOf];simp
 ·rintro ss σ H' ⟨he,_,nd,mem,ln⟩ r hr1;rw[hA1,lA,hAf (hA4 _)]at mem;rw[hA1,lA]at ln;refine⟨r,ss,rfl,upd_same,by omega,fun r2 ss2 hr2 pm srt=>?_⟩;exact q r2 ss2 _ ((he.trans (Ext.new hr1 _)).trans (Ext.new hr2 _)) ((he.trans (Ext.new hr1 _)).none hr2) upd_same ⟨pm.nodup_iff.mpr nd,fun x=>by rw[pm.mem_iff,mem]⟩ (qR4 srt (pm.nodup_iff.mpr nd)) (by rw[pm.length_eq];omega)
end
end My
namespace My
open PySem L2
theorem Ext.over {H H':Hp} {d:Addr} (e:Ext H H') (h:H d=Option.none) (o:HO):Ext H (upd H' d o):=fun b u q=>by rw[qAh (qAk q h)];exact e b u q
def hD (ps:List Str) (f:Str->Str):List (Key×V):=ps.map fun p=>(Sum.inr p,V.str (f p))
theorem qFu (f:Str->Str) (x:Str):∀ ps:List Str,valV (hD ps f) (Sum.inr x)=if x∈ps then some (.str (f x)) else none
 | []=>by simp[hD,valV]
 | p :: r=>by
  have ih:=qFu f x r;by_cases e:p=x
  ·subst e;rw[if_pos hA6];exact qDw rfl
  ·have:valV (hD (p :: r) f) (Sum.inr x)=valV (hD r f) (Sum.inr x):=qC9 fun z=>e (Sum.inr.inj z)
   rw[this,ih];have e':¬x=p:=fun z=>e z.symm
   simp[e']
theorem qJw {ps:List Str} {f:Str->Str} {i:Nat} {p:Str} (nd:ps.Nodup) (h:ps[i]?=some p):qDe (hD (ps.take i) f) (Sum.inr p) (.str (f p))=hD (ps.take (i+1)) f:=by
 have np:p∉ps.take i:=fun z=>by
  have e:=qA0 h;have nd':(ps.take (i+1)).Nodup:=nd.sublist (List.take_sublist _ _);rw[e,hC5]at nd';exact nd'.2.2 p z p (by simp) rfl
 rw[qKr _ (by rw[qFu,if_neg np]),qA0 h];unfold hD;rw[hAc];rfl
theorem qU6 {ps:List Str} {f:Str->Str} {i:Nat} {p:Str} (h:ps[i]?=some p):itV (hD ps f) i=[V.str p,V.str (f p)]:=by
 unfold itV hD;rw[hAl,h];rfl
def qM4:Sp:=fun vs H Q _=>∃ (p:Addr) (net:List Tr),vs=[.ref p]/\qAy H p net/\net.length<=12/\∀ r ps H',Ext H H'->H r=none->H' r=some (.dK (hD ps (qDg net)))->qE3 net ps->ps.length<=24->Q (.ref r) H'
section
variable {P:Program} {w:World} {K:PySem.W.Frag} {mg:Str->Option Value} {base:Heap} {f f1:Addr} {fd fd1:FuncData}
abbrev hoN:List Str:=["net","home","tie","one","other","old","new"]
theorem qC3:FnScope hoN ["net"] (qAd qEr):=⟨rfl,rfl,rfl,by decide +kernel,rfl,by decide +kernel,by decide +kernel⟩
theorem qP4 (F:Fun K "homes" "homes" qEr f fd) (G:Cl P w K mg base CX0 1 f1 fd1 ["net"] qDy "points"):FnOk P w K mg base CX0 2 f fd ["net"] qM4:=by
 refine F.ok qC3 (fun vs H Q E h=>?_) (fun cdv A outer s H vs Q E hr h=>?_)
 ·obtain⟨p,net,rfl,_⟩:=h;rfl
 obtain⟨p,net,rfl,nt,hl,q⟩:=h;refine⟨_,qAc (qW8 (i:=1) qOm (fun _=>rfl) (N:=hoN) (sc:=qAd qEr) (N':=["point"]) (sub:=[none]) rfl rfl (CmpOk.of (by decide +kernel)) rfl (qAx (qAs G hr rfl .nil qAu (qAa (pv 0) qAb)))
   (fun C s H fp=>⟨qAi (i:=0) (by show(["point"]:List Str).Nodup;decide) rfl (Or.inl rfl),qA5,fun acc=>qKv rfl (pv 0) (pv 0)⟩) qC3.nd rfl (Or.inl rfl))
  (qAc (qCd PassesOwn.never rfl (qAx (pv 0)) (qCh rfl (qAo (qAi (i:=2) qC3.nd rfl (Or.inl rfl)) (qAo (qAi (i:=3) qC3.nd rfl (Or.inl rfl)) (qAo (qAi (i:=4) qC3.nd rfl (Or.inl rfl)) qBq))))
   (qAc (qH9 (qB5 (qAa (qHe (qGa hr) (pv 1) (pv 4) (fun _ _=>rfl)) (qAa (qHe (qGa hr) (pv 1) (pv 3) (fun _ _=>rfl)) qAb))) (qCh rfl (qAo (qAi (i:=5) qC3.nd rfl (Or.inr rfl)) (qAo (qAi (i:=6) qC3.nd rfl (Or.inr rfl)) qBq))))
   (qAf (qW8 (i:=1) qOm (fun _=>rfl) (N:=hoN) (sc:=qAd qEr) (N':=["point","at","new","old"]) (sub:=[none,none,some 6,some 5]) rfl rfl (CmpOk.of (by decide +kernel)) rfl (qPv (pv 1))
    (fun C s H fp=>⟨(show PG _ _ (qRd K 2 _) from qCh rfl (qAo (qAi (i:=0) (by show(["point","at","new","old"]:List Str).Nodup;decide) rfl (Or.inl rfl)) (qAo (qAi (i:=1) (by show(["point","at","new","old"]:List Str).Nodup;decide) rfl (Or.inl rfl)) qBq))),qA5,
     fun acc=>qKv rfl (pv 0) (qHc (qAn qB0 (pv 1) (pv 3) (qAr _)) (pv 2) (pv 1))⟩) qC3.nd rfl (Or.inl rfl)))))
  (qAf (qAq (pv 1)))),?_⟩
 obtain⟨as,hp,pr⟩:=id nt;have lA:as.length=net.length:=pr.length;refine⟨_,rfl,p,net,rfl,nt,hl,fun r ps H1 e1 hr1 hps pok _ lps=>⟨r,rfl,⟨_,SqL.of hps⟩,?_⟩⟩;have pnd:=pok.1;refine qK8 (xs:=ps.map V.str) (fun i kvs σ H2=>H2=H1/\(∃ x:Option V,σ=[x])/\kvs=hD (ps.take i) id) ⟨rfl,⟨none,rfl⟩,rfl⟩ (fun i kvs σ H2 _ h=>by rw[h.1];exact SqL.of hps) ?_ ?_
 ·rintro i x kvs σ H2 hx ⟨rfl,⟨x0,rfl⟩,rfl⟩;obtain⟨y,hy,rfl⟩:∃ y,ps[i]?=some y/\V.str y=x:=by
   rw[hAl]at hx;cases e:ps[i]? with
   | none=>rw[e]at hx;cases hx
   | some y=>rw[e]at hx;exact⟨y,rfl,hAg hx⟩
  refine iteT (B:=False) ⟨_,rfl,_,rfl,Sum.inr y,rfl,?_,nxg (qBg hx) ⟨rfl,⟨_,rfl⟩,qJw pnd hy⟩⟩;have:=qBg hy;unfold hD;rw[hA1,hAp];exact qAg (by omega)
 ·rintro kvs σ H2 ⟨rfl,_,rfl⟩ d hd;rw[hA1,hAf (hA4 _)];have hd0:=e1.none hd;refine⟨_,rfl,p,rfl,⟨_,SqL.of ((e1.over hd0 _) _ _ hp)⟩,?_⟩;refine qCj (xs:=as.map V.ref) (fun i σ H3=>∃ (d:Addr) (x2 x3 x4 x5 x6:Option V),σ=[some (.ref p),some (.ref d),x2,x3,x4,x5,x6]/\Ext H H3/\H d=none/\H3 d=some (.dK (hD ps (qDg (net.take i))))) ⟨d,_,_,_,_,_,rfl,e1.over hd0 _,hd0,upd_same⟩ ?_ ?_ ?_
  ·rintro i σ H3 _ ⟨d,x2,x3,x4,x5,x6,_,e3,_⟩;exact SqL.of (e3 _ _ hp)
  ·rintro i x σ H3 hx ⟨d,x2,x3,x4,x5,x6,rfl,e3,hd0,hd3⟩;obtain⟨a,t,rfl,ht,ha⟩:=qB8 pr hx;have i1:t.2.1∈ps:=(pok.2 _).mpr ⟨t,hAm ht,.inl rfl⟩;have i2:t.2.2∈ps:=(pok.2 _).mpr ⟨t,hAm ht,.inr rfl⟩;have v1:=qFu (qDg (net.take i)) t.2.1 ps;have v2:=qFu (qDg (net.take i)) t.2.2 ps;rw[if_pos i1]at v1;rw[if_pos i2]at v2;refine⟨a,_,rfl,SqT.of (e3 _ _ ha),rfl,_,_,rfl,_,_,rfl,_,_,rfl,rfl,?_⟩;have g2:=qI2.k (k:=Sum.inr t.2.2) hd3;rw[v2]at g2;have g1:=qI2.k (k:=Sum.inr t.2.1) hd3;rw[v1]at g1;refine⟨_,rfl,_,rfl,d,_,rfl,g2,_,rfl,_,rfl,d,_,rfl,g1,(by show 2<=sizeLine;decide),fun T hT=>⟨T,_,rfl,SqT.of upd_same,rfl,_,_,rfl,_,_,rfl,rfl,?_⟩⟩;have e4:=Ext.new hT (.tup [V.str (qDg (net.take i) t.2.2),V.str (qDg (net.take i) t.2.1)]);refine⟨_,rfl,d,_,rfl,e4 _ _ hd3,fun o=>?_⟩;have ln:(hD ps (qDg (net.take i))).length=ps.length:=by unfold hD;rw[hA1]
   have g0:=(e3.trans e4).over hd0 (.frz o (.dK (hD ps (qDg (net.take i)))));rw[ln];refine qS6 (fun j kvs σ H5=>(∃ x0 x1:Option V,σ=[x0,x1,some (.str (qDg (net.take i) t.2.1)),some (.str (qDg (net.take i) t.2.2))])/\Ext H H5/\H5 d=some (.frz o (.dK (hD ps (qDg (net.take i)))))/\kvs=hD (ps.take j) (lab (qDg (net.take i)) t))
    ⟨⟨none,none,rfl⟩,g0,upd_same,rfl⟩ (fun j kvs σ H5 _ h=>h.2.2.1) ?_ ?_
   ·rintro j kvs σ H5 T2 hj ⟨⟨x0,x1,rfl⟩,e5,f5,rfl⟩ hT2;have hy:ps[j]?=some ps[j]:=hA3 hj;refine⟨T2,_,rfl,SqT.of upd_same,?_⟩;rw[qU6 hy];refine⟨rfl,_,_,rfl,_,_,rfl,rfl,iteT (B:=False) ?_⟩;have e6:=e5.trans (Ext.new hT2 (.tup [V.str ps[j],V.str (qDg (net.take i) ps[j])]));have f6:=Ext.new hT2 (.tup [V.str ps[j],V.str (qDg (net.take i) ps[j])]) _ _ f5;have sm:(hD (ps.take j) (lab (qDg (net.take i)) t)).length<sizeLine:=by
     unfold hD;rw[hA1,hAp];exact qAg (by omega)
    refine⟨_,rfl,_,rfl,_,rfl,rfl,_,rfl,?_⟩;refine qBw (fun c=>?_) (fun c=>?_)
    ·refine⟨_,rfl,Sum.inr ps[j],rfl,sm,nxg hj ⟨⟨_,_,rfl⟩,e6,f6,?_⟩⟩;have c':qDg (net.take i) ps[j]=qDg (net.take i) t.2.2:=by simpa using c
     have h:=qJw (f:=lab (qDg (net.take i)) t) pnd hy
     rwa [show lab (qDg (net.take i)) t ps[j]=qDg (net.take i) t.2.1 from if_pos c']at h
    ·refine⟨_,rfl,Sum.inr ps[j],rfl,sm,nxg hj ⟨⟨_,_,rfl⟩,e6,f6,?_⟩⟩;have c':¬qDg (net.take i) ps[j]=qDg (net.take i) t.2.2:=by simpa using c
     have h:=qJw (f:=lab (qDg (net.take i)) t) pnd hy
     rwa [show lab (qDg (net.take i)) t ps[j]=qDg (net.take i) ps[j] from if_neg c']at h
   ·rintro kvs σ H5 ⟨⟨x0,x1,rfl⟩,e5,f5,rfl⟩ d2 hd2;rw[hAf (hA4 _)];have hd20:=e5.none hd2;refine⟨d2,_,_,_,_,_,rfl,e5.over hd20 _,hd20,?_⟩;rw[qA0 ht,qOi];exact upd_same
  ·rintro σ H3 ⟨d,x2,x3,x4,x5,x6,rfl,e3,hd0,hd3⟩;rw[hA1,lA,hAf (hA4 _)]at hd3;exact⟨_,rfl,q d ps H3 e3 hd0 hd3 pok lps⟩
end
end My
namespace My
open PySem L2
theorem qUe {k:Nat} {A:Around} (hr:Room k A):A.units+2<cLine:=by have:=hr.un;omega
def qGt (H:Hp) (p:Addr) (F:List (List Str)):Prop:=∃ as:List Addr,H p=some (.lst (as.map V.ref))/\Paired (LsS H) as F
theorem qGt.ext {H H':Hp} {p:Addr} {F:List (List Str)} (h:qGt H p F) (e:Ext H H'):qGt H' p F:=by
 obtain⟨as,h1,h2⟩:=h;exact⟨as,e _ _ h1,Paired.mapP h2 fun a r z=>e _ _ z⟩
def qTf (H0 H:Hp) (fo:Addr) (F:List (List Str)):Prop:=∃ as:List Addr,H fo=some (.lst (as.map V.ref))/\Paired (fun a r=>LsS H a r/\H0 a=none/\a≠fo) as F
theorem qTf.rows {H0 H:Hp} {p:Addr} {F:List (List Str)} (h:qTf H0 H p F):qGt H p F:=by
 obtain⟨as,h1,h2⟩:=h;exact⟨as,h1,Paired.mapP h2 fun a r z=>z.1⟩
def qTe (H0 H:Hp) (fo:Addr) (F:List (List Str)):Prop:=∃ as:List Addr,as.Nodup/\H fo=some (.lst (as.map V.ref))/\Paired (fun a r=>LsS H a r/\H0 a=none/\a≠fo) as F
theorem qTe.y {H0 H:Hp} {p:Addr} {F:List (List Str)} (h:qTe H0 H p F):qTf H0 H p F:=by
 obtain⟨as,_,h1,h2⟩:=h;exact⟨as,h1,h2⟩
theorem qFk {α β:Type} {R:α->β->Prop}:∀ {as:List α} {bs:List β},Paired R as bs->∀ a∈as,∃ b∈bs,R a b
 | _,_,.nil,a,h=>by cases h
 | _,_,.cons h t,a,ha=>by
  rcases hA9.mp ha with rfl | z
  ·exact⟨_,hA6,h⟩
  ·obtain⟨b,hb,hr⟩:=qFk t a z;exact⟨b,hA5 _ hb,hr⟩
theorem qJy (as:List Addr):(List.range as.length).map (fun i=>as.getD i 0)=as:=by
 refine hBr fun i=>?_
 by_cases hi:i<as.length
 ·rw[hAl,hCb hi,hA3 hi];show some (as.getD i 0)=_;rw[hAa,hA3 hi];rfl
 ·rw[hAy (by simp;omega),hAy (by omega)]
theorem pick_perm {as:List Addr} {o:Array Nat} (g:Gd as.length o):(o.toList.map fun i=>as.getD i 0).Perm as :=
 ((hBc.mp g).map fun i=>as.getD i 0).trans (List.Perm.of_eq (qJy as))
theorem qIe {R:Addr->List Str->Prop}:∀ {as:List Addr} {ts:List (List Str)} {i:Nat},Paired R as ts->i<as.length->R (as.getD i 0) (ts.getD i [])
 | _,_,i,.nil,hi=>absurd hi (Nat.not_lt_zero _)
 | _,_,0,.cons h _,_=>h
 | _,_,i+1,.cons _ t,hi=>by simpa using qIe (i:=i) t (by simpa using hi)
theorem qDp {R:Addr->List Str->Prop} {as:List Addr} {ts:List (List Str)} (pr:Paired R as ts):∀ {l:List Nat},(∀ i∈l,i<as.length)->Paired R (l.map fun i=>as.getD i 0) (l.map fun i=>ts.getD i [])
 | [],_=>.nil
 | i :: l,h=>.cons (qIe pr (h i hA6)) (qDp pr fun j hj=>h j (hA5 _ hj))
end My
namespace L2
open PySem PySem.Spec PyProof.Rows
section
variable {X:Cx}
theorem qJu:∀ {us:List Value},qBe (ns.map V.int) us->IntsAre us ns:=by
 induction ns with
 | nil=>intro us r;cases r;exact .nil
 | cons a l ih =>
  intro us r;cases r with
  | cons r rr =>
   obtain⟨t,rfl⟩:=r;exact .cons a t (ih rr)
end
end L2
namespace L2
open PySem PySem.Spec PyProof.Rows
end L2
namespace L2
open PySem PySem.Spec PyProof.Rows
end L2
namespace L2
open PySem PySem.Spec PyProof.Rows PySem.SeqAt PySem.MeetsSeq
end L2
namespace L2
open PySem PySem.Spec PyProof.Rows
section
variable {X:Cx} {k:Nat} {f:Addr} {fd:FuncData} {ps:List Str} {sp:Sp} {E:XK}
structure Aw (X:Cx) (pins:List (Addr×Obj)) (a:Addr):Prop where
 loc:a≠X.env.locals
 ab:X.s₀.heap.objs.size<=a
 cel:∀ x c,X.env.cells.lookup x=some c->c≠a
 pin:∀ p∈X.pn++pins,p.1≠a
 fs:a∉X.fs
end
end L2
namespace L2
open PySem PySem.Spec PyProof.Rows
def qWz (P:Program) (w:World) (a:Addr) (n:Nat):HO:=.ext fun h=>∃ S,h.SetOf (intKind P w) a S n
section
variable {X:Cx}
theorem qO6 (hc:X.calm=true):qB9 X (.type "set") (fun xs H Q=>∃ (p:Addr) (ns:List Int),xs=[.ref p]/\SqL X.K H p (ns.map V.int)/\ns.length<1000/\∀ (r:Addr) (n:Nat),H r=none->n<=ns.length->Q (.ref r) (upd H r (qWz X.prog X.w r n))):=by
 intro pins s σ H xs us Q I r h;obtain⟨p,ns,rfl,hq,hl,q⟩:=h;obtain⟨u,rfl,rx⟩:=qC0 r;cases rx;obtain⟨its,rv,pl,hz⟩:=I.list hq;have hi:=qJu rv;have hlen:=hi.length;refine call_set_list (I.ok.hd hc) pl.isList (by simpa using hi) (by have:scanBound=4096:=rfl;simp;omega) fun h' tk hS hk=>?_
 have hle:=firstMet_length_le (fun i=>ns.getD i 0) its.toArray.size;have hle2:(firstMet (fun i=>ns.getD i 0) its.toArray.size).length<=ns.length:=by rw[hAb]at hle ⊢;omega
 refine⟨.ref s.heap.objs.size,_,I.laid (t':=tk) (a:=s.heap.objs.size) (o:=qWz X.prog X.w s.heap.objs.size _) (fun b o e=>hk b o (Heap.lt_size e) e) (hA4 _) ⟨⟨_,hS⟩,?_,fun h1 h2 z k=>?_⟩,rfl,q _ _ (I.hok.fresh (hA4 _)) hle2⟩
 ·obtain⟨o,es,ep,t,ho,_⟩:=hS;exact⟨_,ho⟩
 ·obtain⟨S,o,es,ep,t,ho,rest⟩:=z;exact⟨S,o,es,ep,t,k o ho,rest⟩
theorem qL8:qB9 X (.builtin "len") (fun xs H Q=>∃ (p:Addr) (n:Nat),xs=[.ref p]/\H p=some (qWz X.prog X.w p n)/\n<1000/\Q (.int (n:Nat)) H):=by
 intro pins s σ H xs us Q I r h;obtain⟨p,n,rfl,hp,hn,q⟩:=h;obtain⟨u,rfl,rx⟩:=qC0 r;cases rx;obtain⟨⟨S,hS⟩,_⟩:=I.hok p _ hp;obtain⟨o,ho,hso⟩:=hS.objOf;obtain⟨hex,es,ep,t,hd,_,_,hn',hf⟩:=hso;subst hn';exact call_len_set ho hex hd hf (by omega) ⟨.int _,H,I.tok _,⟨_,rfl⟩,q⟩
end
end L2
namespace My
open PySem L2
def qM1 (K:PySem.W.Frag):Sp:=fun vs H Q _=>∃ (a:Addr) (ns:List Int) (k:Int),vs=[.ref a,.int k]/\SqL K H a (ns.map V.int)/\0<=k/\k<=1000/\∀ v r,H r=none->Q (.ref r) (upd H r (.lst [.int v]))
def qCz:Sp:=fun vs H Q _=>∃ (d:Addr) (n m:Int),vs=[.ref d,.int m]/\H d=some (.lst [.int n])/\0<m/\m<1073741824/\∀ q r,0<=r->r<m->Q (.int r) (upd H d (.lst [.int q]))
section
variable {P:Program} {w:World} {K:PySem.W.Frag} {mg:Str->Option Value} {base:Heap} {f f1:Addr} {fd fd1:FuncData}
theorem qQz:FnScope ["_law_draw","_law_many","_law_digit"] ["_law_draw","_law_many"] (qAd qLu):=⟨rfl,rfl,rfl,by decide +kernel,rfl,by decide +kernel,by decide +kernel⟩
theorem qSi (F:Fun K "_law_take" "_law_take" qLu f fd):FnOk P w K mg base CX0 1 f fd ["_law_draw","_law_many"] qCz:=by
 refine F.ok qQz (fun vs H Q E h=>?_) (fun cdv A outer s H vs Q E hr h=>?_)
 ·obtain⟨a,ns,k,rfl,_⟩:=h;rfl
 obtain⟨d,n,m,rfl,hd,h1,h2,q⟩:=h;refine⟨_,qAc (qAl (i:=2) qQz.nd rfl (Or.inl rfl) (qAv qC6 (qA9 qBa (pv 0) qAe (fun _ _=>rfl)) (pv 1)))
  (qAc (qH9 (qAv qNu (qA9 qBa (pv 0) qAe (fun _ _=>rfl)) (pv 1)) (qUm (pv 0) qAe qPm)) (qAf (qAq (pv 2)))),?_⟩
 refine⟨_,rfl,d,_,_,_,rfl,rfl,SqL.of hd,rfl,_,rfl,_,_,rfl,rfl,h1,?_⟩;refine⟨_,rfl,d,_,_,_,rfl,rfl,SqL.of hd,rfl,_,rfl,_,_,rfl,rfl,⟨h1,h2⟩,?_⟩;refine⟨_,rfl,d,_,_,_,rfl,rfl,hd,rfl,?_⟩;exact⟨_,rfl,q (n / m) (n % m) (Int.emod_nonneg _ (by omega)) (Int.emod_lt_of_pos _ h1)⟩
end
end My
namespace My
open PySem L2
section
variable {P:Program} {w:World} {K:PySem.W.Frag} {mg:Str->Option Value} {base:Heap} {f f1:Addr} {fd fd1:FuncData}
theorem qDl:FnScope ["_law_script","_law_at","_law_cell","_law_come","_law_k","_law_one","_law_mixed"] ["_law_script","_law_at"] (qAd qGg):=⟨rfl,rfl,rfl,by decide +kernel,rfl,by decide +kernel,by decide +kernel⟩
theorem qPz (F:Fun K "_law_purse" "_law_purse" qGg f fd) (G:Cl P w K mg base CX0 1 f1 fd1 ["_law_script","_law_k"] (qQx K) "_law_cell_at") (mr:mg "range" = none) :
  FnOk P w K mg base CX0 2 f fd ["_law_script","_law_at"] (qM1 K):=by
 refine F.ok qDl (fun vs H Q E h=>?_) (fun cdv A outer s H vs Q E hr h=>?_)
 ·obtain⟨a,ns,k,rfl,_⟩:=h;rfl
 obtain⟨a,ns,k,rfl,hS,h0,h1,q⟩:=h;refine⟨_,qAc (qAl (i:=2) qDl.nd rfl (Or.inl rfl) (qAs G hr rfl .nil qAu (qAa (pv 0) (qAa (pv 1) qAb))))
  (qAc (qBf (qAn qWj (pv 2) (qAv qQ5 qAe qAe) (qAr _)) (qAf (qAq (qA3 (qAa (pv 2) qAb)))) qAt)
  (qAc (qAl (i:=3) qDl.nd rfl (Or.inl rfl) qAe)
  (qAc (qCd PassesOwn.never rfl (qBx rfl mr (qAa qAe qAb)) (qAi (i:=4) qDl.nd rfl (Or.inl rfl))
   (qAc (qAl (i:=5) qDl.nd rfl (Or.inl rfl) (qAv qBy (qAv qBy (qAv qBy (qAv qC6 (qAs G hr rfl .nil qAu (qAa (pv 0) (qAa (qAv qBy (pv 1) (qAv qC6 (pv 4) qAe)) qAb))) (qAv qQ5 qAe qAe)) qAe)
     (qAv qDj (qAv qDj qAe (pv 4)) (pv 4))) (qAv qDj qAe (pv 1))))
   (qAc (qAl (i:=6) qDl.nd rfl (Or.inl rfl) (qAv qC6 (qAv qDj (pv 5) qAe) qAe))
   (qAf (qAl (i:=3) qDl.nd rfl (Or.inl rfl) (qAv qBy (qAv qDj (pv 3) qAe) (qAv qC6 (qAv qBy (qAv qC6 (qAv qDj (pv 6) (pv 6)) qAe) (qAv qNu (pv 5) qAe)) qAe)))))))
  (qAf (qAq (qA3 (qAa (pv 3) qAb))))))),?_⟩
 refine⟨_,rfl,_,rfl,a,ns,k,rfl,hS,h0,fun v=>?_⟩;refine⟨_,rfl,_,_,rfl,rfl,⟨by decide,by decide,by decide⟩,_,_,rfl,rfl,_,rfl,?_⟩;refine qBw (fun c=>?_) (fun c=>?_)
 ·exact⟨_,rfl,(by show 1<=sizeLine;decide),fun r hr'=>q v r hr'⟩
 refine⟨60,rfl,by decide,by decide,qCf (lo:=0) (n:=60) (fun i σ H'=>H'=H/\∃ (c:Int) (x y z:Option V),σ=[some (.ref a),some (.int k),some (.int v),some (.int c),x,y,z]) ⟨rfl,0,none,none,none,rfl⟩ ?_ ?_⟩
 ·rintro i σ H' hi ⟨rfl,c0,x,y,z,rfl⟩;refine⟨_,rfl,_,rfl,_,rfl,_,_,rfl,rfl,(by show(0:Int)<_;decide),_,_,rfl,rfl,a,ns,_,rfl,hS,?_,fun u=>?_⟩
  ·have:=Int.emod_nonneg ((0:Int)+(i:Int)) (show(9:Int)≠0 by decide);omega
  refine⟨_,_,rfl,rfl,⟨by decide,by decide,by decide⟩,_,_,rfl,rfl,(by show(0:Int)<_;decide),_,_,rfl,rfl,?_⟩;refine⟨_,rfl,_,_,rfl,rfl,.inl ⟨by decide,by decide⟩,_,rfl,_,_,rfl,rfl,.inr ⟨by omega,by omega⟩,_,_,rfl,rfl,?_⟩;refine⟨_,rfl,_,_,rfl,rfl,.inl ⟨by decide,by decide⟩,_,_,rfl,rfl,?_⟩;refine⟨_,rfl,_,_,rfl,rfl,.inr ⟨by decide,by decide⟩,_,_,rfl,rfl,(by show(0:Int)<_;decide),?_⟩;refine⟨_,rfl,_,_,rfl,rfl,.inr ⟨by decide,by decide⟩,_,rfl,_,rfl,_,_,rfl,rfl,?_,_,_,rfl,rfl,(by show(0:Int)<_;decide),_,rfl,_,_,rfl,rfl,⟨by decide,by decide⟩,_,_,rfl,rfl,_,_,rfl,rfl,(by show(0:Int)<_;decide),_,_,rfl,rfl,?_⟩
  ·refine .inl ⟨?_,?_⟩
   ·exact Int.lt_of_lt_of_le (by decide) (Int.emod_nonneg _ (by decide))
   ·exact Int.lt_of_lt_of_le (Int.emod_lt_of_pos _ (by decide)) (by decide)
  ·exact⟨rfl,_,_,_,_,rfl⟩
 ·rintro σ H' ⟨rfl,c0,x,y,z,rfl⟩;exact⟨_,rfl,(by show 1<=sizeLine;decide),fun r hr'=>q c0 r hr'⟩
def qQt:Sp:=fun vs H Q _=>∃ (p r:Bool),vs=[.bl p,.bl r]/\Q (.bl (decide (V.bl p=V.bl r))) H
theorem qT8:FnScope ["_law_found","_law_due"] ["_law_found","_law_due"] (qAd qLw):=⟨rfl,rfl,rfl,by decide +kernel,rfl,by decide +kernel,by decide +kernel⟩
theorem qSl (F:Fun K "_law_says" "_law_says" qLw f fd) (mi:mg "isinstance" = none) (mb:mg "bool" = none):FnOk P w K mg base CX0 1 f fd ["_law_found","_law_due"] qQt:=by
 refine F.ok qT8 (fun vs H Q E h=>?_) (fun cdv A outer s H vs Q E hr h=>?_)
 ·obtain⟨a,ns,rfl,_⟩:=h;rfl
 obtain⟨p,r,rfl,q⟩:=h;refine⟨_,qAf (qAq (qKt (qAj qBs rfl mi qBt (qAa (pv 0) (qAa (qDo (v:=.ty "bool") rfl mb qL9 rfl) qAb))) (qKs (qCe qB0 (pv 0) (pv 1) (qAr _))))),?_⟩;refine⟨_,rfl,_,_,_,true,rfl,.bl p,qCv _ _,true,rfl,?_⟩;refine iteT ?_;exact⟨_,rfl,_,rfl,rfl,q⟩
end
end My
namespace My
open PySem L2
theorem foldl_rep {c:Nat}:∀ (n:Nat) (acc:Array Nat),((List.replicate n #[c]).foldl (·++·) acc).toList=acc.toList++List.replicate n c
 | 0,acc=>by simp
 | n+1,acc=>by
  rw[hBh,List.foldl_cons,foldl_rep n];simp[hBh]
theorem qE9 {c:Nat} {n:Int} (h:0<=n):(Txt.mul ⟨#[c]⟩ n).cps.toList=List.replicate n.toNat c:=by
 unfold Txt.mul;by_cases h1:n<1
 ·rw[if_pos h1,show n.toNat=0 by omega];rfl
 ·rw[if_neg h1];by_cases h2:n=1
  ·subst h2;rfl
  ·have e:(n == 1 || (⟨#[c]⟩:Str).length == 0)=false:=by
    rw[Bool.or_eq_false_iff];exact⟨by simpa using h2,rfl⟩
   rw[if_neg (by rw[e];decide)];exact foldl_rep n.toNat #[]
theorem qFm {c:Nat} {n:Int} (hn:0<=n):(Txt.mul ⟨#[c]⟩ n).length=n.toNat:=by
 have:=congrArg List.length (qE9 (c:=c) hn);rw[hBl]at this;exact this
theorem qTx {x y:Str} (h:x.cps.toList=y.cps.toList):x=y:=by
 cases x;cases y;congr 1
 simpa using h
def nmA (a b:Str) (first:Nat) (k:Nat):Str:=a++⟨#[sgC ((first+7*k) % 36)]⟩++b
theorem qSu {a b:Str} {first i j:Nat} (hi:i<12) (hj:j<12) (e:nmA a b first i=nmA a b first j):i=j:=by
 have e1:=congrArg (fun x:Str=>x.cps.toList) e;simp only[nmA,Str.cps_append,Array.toList_append,hC4]at e1;have e2:=List.append_cancel_left e1;have e3:sgC ((first+7*i) % 36)=sgC ((first+7*j) % 36):=by
  have:=congrArg List.head? e2
  simpa using this
 have e4:=qNa (hCd _ (by decide)) (hCd _ (by decide)) e3;omega
def nmB (first:Nat) (k:Nat):Str:=if k<6 then Txt.mul ⟨#[sgC first]⟩ (1+(k:Int)) else Txt.mul ⟨#[sgC first]⟩ ((k:Int) - 6)++⟨#[sgC ((first+1) % 36)]⟩
theorem qP8 {first k:Nat}:(nmB first k).cps.toList=if k<6 then List.replicate (1+k) (sgC first) else List.replicate (k - 6) (sgC first)++[sgC ((first+1) % 36)]:=by
 unfold nmB;split
 ·rw[qE9 (by omega),show(1+(k:Int)).toNat=1+k by omega]
 ·rw[Str.cps_append,Array.toList_append,qE9 (by omega),show((k:Int) - 6).toNat=k - 6 by omega]
theorem qSt {first i j:Nat} (hf:first<36) (e:nmB first i=nmB first j):i=j:=by
 have e1:=congrArg (fun x:Str=>x.cps.toList) e;simp only[qP8]at e1;have ne:sgC first≠sgC ((first+1) % 36):=fun z=>by
  have:=qNa hf (hCd _ (by decide)) z;omega
 by_cases hi:i<6
 ·by_cases hj:j<6
  ·rw[if_pos hi,if_pos hj]at e1;have:=congrArg List.length e1;rw[hBl,hBl]at this;omega
  ·rw[if_pos hi,if_neg hj]at e1;exfalso;have hm:sgC ((first+1) % 36)∈List.replicate (1+i) (sgC first):=by rw[e1];simp
   exact ne (List.mem_replicate.mp hm).2.symm
 ·by_cases hj:j<6
  ·rw[if_neg hi,if_pos hj]at e1;exfalso;have hm:sgC ((first+1) % 36)∈List.replicate (1+j) (sgC first):=by rw[<-e1];simp
   exact ne (List.mem_replicate.mp hm).2.symm
  ·rw[if_neg hi,if_neg hj]at e1;have:=congrArg List.length e1;rw[hA2,hA2,hBl,hBl]at this;simp at this;omega
theorem qN0 {α:Type} {g:Nat->α} {n:Nat} (h:∀ i j,i<n->j<n->g i=g j->i=j):((List.range n).map g).Nodup:=by
 rw[List.Nodup,List.pairwise_map];refine List.Pairwise.imp_of_mem ?_ (List.nodup_range (n:=n));intro a b ha hb ne e;exact ne (h a b (hBj.mp ha) (hBj.mp hb) e)
theorem qDa {σ0:St} {g:TG} {te:TE} {Q:List V->Hp->Prop} {H1:Hp} {lo:Int} {n:Nat} (fv:Nat->V) (hz:n<=1000)
  (hs:∀ i,i<n->∀ C:V->Hp->Prop,C (fv i) H1->g (.int (lo+i)) σ0 H1 fun σ2 H2=>Sle σ0 σ2/\te σ2 H2 (fun v H4=>C v H4))
  (hd:Q ((List.range n).map fv) H1):qCq (Itr lo n) σ0 g qMu te Q H1:=by
 refine qI7 (lo:=lo) (n:=n) (fun i ys H=>H=H1/\ys=(List.range i).map fv) ⟨rfl,rfl⟩ ?_ ?_
 ·rintro i ys H hi ⟨rfl,rfl⟩;exact hs i hi (fun v H4=>((List.range i).map fv).length<sizeLine/\Nxt n i (fun i ys H'=>H'=H/\ys=(List.range i).map fv) ((List.range i).map fv++[v]) H4)
   ⟨by rw[hA1,hBe];exact qAg (by omega),nxt hi ⟨rfl,by rw[List.range_succ,hAc];rfl⟩⟩
 ·rintro ys H ⟨rfl,rfl⟩;exact hd
end My
namespace My
open PySem L2
def Sgd (s:Str):Prop:=∀ c∈s.cps.toList,c∈sg.cps.toList
theorem qM9 {i:Nat} (hi:i<36):sgC i∈sg.cps.toList:=by
 have hi':i<sg.cps.toList.length:=by rw[qH5];exact hi
 unfold sgC;rw[hAa,hA3 hi'];exact hBy hi'
theorem Sgd.sm {s:Str} (h:Sgd s):Sm s:=fun c hc=>qKl c (h c hc)
theorem Sgd.app {x y:Str} (h:Sgd x) (h':Sgd y):Sgd (x++y):=fun c hc=>by
 rw[Str.cps_append,Array.toList_append,hAd]at hc;exact hc.elim (h c) (h' c)
theorem Sgd.one {i:Nat} (hi:i<36):Sgd ⟨#[sgC i]⟩:=fun d hd=>by
 have:d=sgC i:=by simpa using hd
 rw[this];exact qM9 hi
theorem Sgd.nil:Sgd "":=fun c hc=>by
 have:c∈([]:List Nat):=hc;cases this
theorem Sgd.slice {x:Str} (h:Sgd x) (l u:Option Int):Sgd (Txt.slice x l u):=fun c hc=>by
 unfold Txt.slice at hc;split at hc
 ·exact h c hc
 ·simp only[List.mem_filterMap]at hc;obtain⟨i,_,hi⟩:=hc;exact h c (by simpa using Array.mem_of_getElem? hi)
theorem Sgd.mul {i:Nat} {n:Int} (hi:i<36) (hn:0<=n):Sgd (Txt.mul ⟨#[sgC i]⟩ n):=fun d hd=>by
 rw[qE9 hn]at hd;rw[(List.mem_replicate.mp hd).2];exact qM9 hi
def qAz (s:Str):Prop:=Sgd s/\1<=s.length/\s.length<=6
theorem qJb {x:Str} {j:Int} (h0:0<=j) (h1:j<=x.length):(Txt.slice x none (some j)).length<=j.toNat:=by
 have e:Txt.slice x none (some j)=_:=PySem.StrLaws.sliceText_to (x:=x) (j:=j) ⟨h0,h1⟩;rw[e];show(List.toArray _).size<=_;rw[hAb,hAp];omega
theorem qG0 {x:Str} {j:Int} (h0:0<=j) (h1:j<=x.length):(Txt.slice x (some j) none).length<=x.length - j.toNat:=by
 have e:Txt.slice x (some j) none=_:=PySem.StrLaws.sliceText_from (x:=x) (i:=j) ⟨h0,h1⟩;rw[e];show(List.toArray _).size<=_;rw[hAb,hAp,hC8];have:x.cps.toList.length=x.length:=rfl;omega
theorem qN2 {word:Str} {spot:Int} {first k:Nat} (hw:Sgd word) (h0:0<=spot) (h1:spot<word.length) (h6:word.length<=6):qAz (nmA (Txt.slice word none (some spot)) (Txt.slice word (some (spot+1)) none) first k):=by
 have a:=qJb (x:=word) (j:=spot) h0 (by omega);have b:=qG0 (x:=word) (j:=spot+1) (by omega) (by omega);have c:(⟨#[sgC ((first+7*k) % 36)]⟩:Str).length=1:=rfl;refine⟨((hw.slice _ _).app (Sgd.one (hCd _ (by decide)))).app (hw.slice _ _),?_,?_⟩
 ·unfold nmA;rw[Str.length_append,Str.length_append,c];omega
 ·unfold nmA;rw[Str.length_append,Str.length_append,c];omega
theorem qN1 {first k:Nat} (hf:first<36) (hk:k<12):qAz (nmB first k):=by
 unfold nmB;split
 ·refine⟨Sgd.mul hf (by omega),?_,?_⟩
  ·rw[qFm (by omega)];omega
  ·rw[qFm (by omega)];omega
 ·have c:(⟨#[sgC ((first+1) % 36)]⟩:Str).length=1:=rfl;refine⟨(Sgd.mul hf (by omega)).app (Sgd.one (hCd _ (by decide))),?_,?_⟩
  ·rw[Str.length_append,qFm (by omega),c];omega
  ·rw[Str.length_append,qFm (by omega),c];omega
end My
namespace My
open PySem L2
theorem qCg:bootBuiltins "min" = some (.builtin "min"):=by decide +kernel
theorem qF3:bootBuiltins "max" = some (.builtin "max"):=by decide +kernel
def qM2:Sp:=fun vs H Q _=>∃ (d:Addr) (n m:Int),vs=[.ref d,.int m]/\H d=some (.lst [.int n])/\0<=m/\m<=12 /\
 ∀ (r:Addr) (ns:List Str) (q:Int) (H':Hp),Ext (upd H d (.lst [.int q])) H'->H r=none->LsS H' r ns->ns.length=m.toNat->ns.Nodup->PyProof.Rows.sortedS ns=true->SOk ns->(∀ s∈ns,qAz s)->Q (.ref r) H'
section
variable {P:Program} {w:World} {K:PySem.W.Frag} {mg:Str->Option Value} {base:Heap} {f f1:Addr} {fd fd1:FuncData}
theorem qB3:FnScope ["_law_draw","_law_many","_law_signs","_law_size","_law_spot","_law_word","_law_k","_law_first","_law_found","_law_one","_law_other"] ["_law_draw","_law_many"] (qAd qD0):=⟨rfl,rfl,rfl,by decide +kernel,rfl,by decide +kernel,by decide +kernel⟩
theorem qP0 (F:Fun K "_law_names" "_law_names" qD0 f fd) (G:Cl P w K mg base CX0 1 f1 fd1 ["_law_draw","_law_many"] qCz "_law_take") (mr:mg "range" = none) (mm:mg "min" = none) (ms:mg "sorted" = none) :
  FnOk P w K mg base CX0 2 f fd ["_law_draw","_law_many"] qM2:=by
 refine F.ok qB3 (fun vs H Q E h=>?_) (fun cdv A outer s H vs Q E hr h=>?_)
 ·obtain⟨a,ns,k,rfl,_⟩:=h;rfl
 obtain⟨d,n,m,rfl,hd,m0,m1,q⟩:=h;refine⟨_,qAc (qAl (i:=2) qB3.nd rfl (Or.inr rfl) qBj)
  (qAc (qAl (i:=3) qB3.nd rfl (Or.inl rfl) (qAv qBy qAe (qAs G hr rfl .nil qAu (qAa (pv 0) (qAa qAe qAb)))))
  (qAc (qAl (i:=4) qB3.nd rfl (Or.inr rfl) (qAs G hr rfl .nil qAu (qAa (pv 0) (qAa (pv 3) qAb))))
  (qAc (qAl (i:=5) qB3.nd rfl (Or.inr rfl) qBj)
  (qAc (qCd PassesOwn.never rfl (qBx rfl mr (qAa (pv 3) qAb)) (qAi (i:=6) qB3.nd rfl (Or.inl rfl))
   (qAf (qAl (i:=5) qB3.nd rfl (Or.inr rfl) (qAv qBu (pv 5) (qA9 qFs (pv 2) (qAs G hr rfl .nil qAu (qAa (pv 0) (qAa qAe qAb))) (fun _ _=>rfl))))))
  (qAc (qAl (i:=7) qB3.nd rfl (Or.inr rfl) (qAs G hr rfl .nil qAu (qAa (pv 0) (qAa qAe qAb))))
  (qAc (qL1 (i:=8) (N:=["_law_draw","_law_many","_law_signs","_law_size","_law_spot","_law_word","_law_k","_law_first","_law_found","_law_one","_law_other"]) (sc:=qAd qD0) (N':=["_law_k","_law_first","_law_signs","_law_spot","_law_word"]) (sub:=[none,some 7,some 2,some 4,some 5])
    rfl rfl (CmpOk.of (by decide +kernel)) rfl (qBx rfl mr (qAa (pv 1) qAb))
    (fun C s H fp=>⟨qAi (i:=0) (by show(["_law_k","_law_first","_law_signs","_law_spot","_law_word"]:List Str).Nodup;decide) rfl (Or.inl rfl),qA5,
     qAv qBu (qAv qBu (qA7 qKi (pv 4) qBi (qBb (pv 3))) (qA9 qFs (pv 2) (qAv qC6 (qAv qBy (pv 1) (qAv qDj qAe (pv 0))) qAe) (fun _ _=>rfl))) (qA7 qKi (pv 4) (qBb (qAv qBy (pv 3) qAe)) qBi)⟩)
    qB3.nd rfl (Or.inl rfl))
  (qAc (qBf (qAn qB0 (qAs G hr rfl .nil qAu (qAa (pv 0) (qAa qAe qAb))) qAe (qAr _))
   (qAc (qAl (i:=9) qB3.nd rfl (Or.inr rfl) (qA9 qFs (pv 2) (pv 7) (fun _ _=>rfl)))
   (qAc (qAl (i:=10) qB3.nd rfl (Or.inr rfl) (qA9 qFs (pv 2) (qAv qC6 (qAv qBy (pv 7) qAe) qAe) (fun _ _=>rfl)))
   (qAc (qL1 (i:=8) (N:=["_law_draw","_law_many","_law_signs","_law_size","_law_spot","_law_word","_law_k","_law_first","_law_found","_law_one","_law_other"]) (sc:=qAd qD0) (N':=["_law_k","_law_one"]) (sub:=[none,some 9])
    rfl rfl (CmpOk.of (by decide +kernel)) rfl (qBx rfl mr (qAa (qAj (qD6 rfl) rfl mm qCg (qAa (pv 1) (qAa qAe qAb))) qAb))
    (fun C s H fp=>⟨qAi (i:=0) (by show(["_law_k","_law_one"]:List Str).Nodup;decide) rfl (Or.inl rfl),qA5,qAv qEk (pv 1) (qAv qBy qAe (pv 0))⟩)
    qB3.nd rfl (Or.inl rfl))
   (qAf (qAl (i:=8) qB3.nd rfl (Or.inl rfl) (qAv qB1 (pv 8)
    (qCo (N:=["_law_draw","_law_many","_law_signs","_law_size","_law_spot","_law_word","_law_k","_law_first","_law_found","_law_one","_law_other"]) (sc:=qAd qD0) (N':=["_law_k","_law_one","_law_other"]) (sub:=[none,some 9,some 10])
     rfl rfl (CmpOk.of (by decide +kernel)) rfl (qIa rfl mr (qAa qAe (qAa (pv 1) qAb)))
     (fun C s H fp=>⟨qAi (i:=0) (by show(["_law_k","_law_one","_law_other"]:List Str).Nodup;decide) rfl (Or.inl rfl),qA5,qAv qBu (qAv qEk (pv 1) (qAv qKx (pv 0) qAe)) (pv 2)⟩)))))))) qAt)
  (qAf (qAq (qAj qIw rfl ms qBk (qAa (pv 8) qAb))))))))))),?_⟩
 refine⟨_,rfl,d,n,6,rfl,hd,by decide,by decide,fun q1 z1 z1a z1b=>?_⟩;refine⟨_,_,rfl,rfl,?_⟩;refine⟨_,rfl,_,rfl,d,q1,1+z1,rfl,upd_same,by omega,by omega,fun q2 spot spa spb=>?_⟩;rw[qC2];refine⟨_,rfl,1+z1,rfl,by omega,by omega,qCf (lo:=0) (n:=(1+z1).toNat) (fun i σ H'=>∃ (q:Int) (word:Str) (x:Option V),σ=[some (.ref d),some (.int m),some (.str sg),some (.int (1+z1)),some (.int spot),some (.str word),x,none,none,none,none]/\H'=upd H d (.lst [.int q])/\word.length=i/\Sgd word)
  ⟨q2,"",none,rfl,rfl,rfl,Sgd.nil⟩ ?_ ?_⟩
 ·rintro i σ H' hi ⟨q3,word,x,rfl,rfl,hw,sm⟩;refine⟨_,rfl,_,rfl,_,rfl,d,q3,36,rfl,upd_same,by decide,by decide,fun q4 z4 z4a z4b=>?_⟩;rw[qC2];refine⟨sg,z4,sgC z4.toNat,rfl,rfl,by decide +kernel,qLs z4a z4b,word,⟨#[sgC z4.toNat]⟩,rfl,rfl,?_,?_⟩
  ·show word.length+1<=sizeLine;exact hAq (qAg (by omega))
  ·refine⟨q4,_,_,rfl,rfl,?_,sm.app (Sgd.one (by omega))⟩;rw[Str.length_append];show word.length+1=i+1;omega
 ·rintro σ H' ⟨q3,word,x,rfl,rfl,hw,sm⟩;have hw':word.length<=100:=by omega
  refine⟨_,rfl,d,q3,36,rfl,upd_same,by decide,by decide,fun q4 first fa fb=>?_⟩;rw[qC2];refine⟨_,rfl,m,rfl,by omega,by omega,?_⟩;refine qDa (fun k=>.str (nmA (Txt.slice word none (some spot)) (Txt.slice word (some (spot+1)) none) first.toNat k)) (by omega) ?_ ?_
  ·intro k hk C hC;have wl:word.length<=sizeLine:=hAq (qAg (by omega));have l1:=Txt.slice_le word none (some spot);have l2:=Txt.slice_le word (some (spot+1)) none;have ei:(first+7*(0+(k:Int))) % 36=(((first.toNat+7*k) % 36:Nat):Int):=by rw[Int.natCast_emod,Int.natCast_add,Int.natCast_mul,hBi fa,Int.zero_add];rfl
   refine⟨Sle.set _ (Sle.refl _) (fun u z=>by cases z),_,rfl,_,rfl,_,rfl,word,rfl,wl,_,rfl,_,rfl,_,rfl,_,_,rfl,rfl,.inl ⟨by decide,by decide⟩,_,_,rfl,rfl,_,_,rfl,rfl,(by show(0:Int)<_;decide),sg,_,sgC ((first.toNat+7*k) % 36),rfl,rfl,by decide +kernel,?_,_,_,rfl,rfl,?_,?_⟩
   ·rw[ei];exact qLs (by omega) (by omega)
   ·show _+1<=sizeLine;exact hAq (qAg (by omega))
   refine⟨_,rfl,_,rfl,_,_,rfl,rfl,_,rfl,word,rfl,wl,_,_,rfl,rfl,?_,hC⟩;rw[Str.length_append];show _+1+_<=sizeLine;exact hAq (qAg (by omega))
  ·intro r1 hr1;have fn36:first.toNat<36:=by omega
   have fin:∀ (p:Addr) (nm:Nat->Str) (H2:Hp) (q0:Int),Ext (upd H d (.lst [.int q0])) H2->LsS H2 p ((List.range m.toNat).map nm)->(∀ i j,i<m.toNat->j<m.toNat->nm i=nm j->i=j)->(∀ i,i<m.toNat->qAz (nm i)) ->
     ∃ p' ss,[V.ref p]=[V.ref p']/\SqL K H2 p' (ss.map V.str)/\ss.length<64/\∀ r ss',H2 r=none->ss'.Perm ss->PyProof.Rows.sortedS ss'=true->Q (.ref r) (upd H2 r (.lst (ss'.map V.str))):=by
    intro p nm H2 q0 e2 hp inj sm2;refine⟨p,(List.range m.toNat).map nm,rfl,SqL.of hp,?_,fun r ss hr2 perm srt=>?_⟩
    ·rw[hA1,hBe];omega
    have hrH:H r=none:=by
     have z:=e2.none hr2;by_cases e:r=d
     ·rw[e,upd_same]at z;cases z
     ·rw[qAh e]at z;exact z
    refine q r ss q0 _ (e2.trans (Ext.new hr2 _)) hrH upd_same ?_ (perm.nodup_iff.mpr (qN0 inj)) srt ?_ ?_
    ·rw[perm.length_eq,hA1,hBe]
    ·intro x hx;obtain⟨i,hi,rfl⟩:=hAj.mp (perm.mem_iff.mp hx);exact(sm2 i (hBj.mp hi)).1.sm.ok
    ·intro x hx;obtain⟨i,hi,rfl⟩:=hAj.mp (perm.mem_iff.mp hx);exact sm2 i (hBj.mp hi)
   have dr1:d≠r1:=fun e=>by rw[<-e,upd_same]at hr1;cases hr1
   have g1:∀ q0,Ext (upd H d (.lst [.int q0])) (upd (upd (upd H d (.lst [.int q4])) r1 (.lst ((List.range m.toNat).map fun k=>V.str (nmA (Txt.slice word none (some spot)) (Txt.slice word (some (spot+1)) none) first.toNat k)))) d (.lst [.int q0])):=fun q0 b o hb=>by
    by_cases e:b=d
    ·subst e;rw[upd_same]at hb ⊢;exact hb
    ·rw[qAh e]at hb ⊢;have nb:b≠r1:=fun z=>by
      rw[z]at hb;rw[qAh (Ne.symm dr1)]at hr1;rw[hr1]at hb;cases hb
     rw[qAh nb,qAh e];exact hb
   refine⟨_,rfl,d,q4,3,rfl,by rw[qAh dr1];exact upd_same,by decide,by decide,fun q5 z5 z5a z5b=>⟨rfl,_,rfl,?_⟩⟩;refine qBw (fun _=>?_) (fun _=>?_)
   ·refine⟨_,rfl,_,rfl,sg,first,sgC first.toNat,rfl,rfl,by decide +kernel,qLs fa fb,?_⟩;have eo:(first+1) % 36=(((first.toNat+1) % 36:Nat):Int):=by rw[Int.natCast_emod,Int.natCast_add,hBi fa];rfl
    refine⟨_,rfl,_,rfl,_,_,rfl,rfl,_,_,rfl,rfl,(by show(0:Int)<_;decide),sg,_,sgC ((first.toNat+1) % 36),rfl,rfl,by decide +kernel,(by rw[eo];exact qLs (by omega) (by omega)),?_⟩;have c1:sgC first.toNat<128:=qH6 fn36
    have c2:sgC ((first.toNat+1) % 36)<128:=qH6 (hCd _ (by decide));have mn0:0<=(if (6:Int)<m then 6 else m):=by split <;> omega
    have mn6:(if (6:Int)<m then 6 else m)<=6:=by split <;> omega
    refine⟨_,rfl,m,6,rfl,_,rfl,by omega,by omega,?_⟩;refine qDa (fun k=>.str (nmB first.toNat k)) (by omega) ?_ ?_
    ·intro k hk C hC;have ek:nmB first.toNat k=Txt.mul ⟨#[sgC first.toNat]⟩ (1+(0+(k:Int))):=by
      unfold nmB;rw[if_pos (by omega),Int.zero_add]
     rw[ek]at hC;exact⟨Sle.set _ (Sle.refl _) (fun u z=>by cases z),_,rfl,_,rfl,_,_,rfl,rfl,_,_,rfl,rfl,(by show 1<=100;decide),by omega,by omega,hC⟩
    ·intro r2 hr2;refine⟨_,rfl,_,rfl,6,m,rfl,⟨by omega,by omega,by omega,by omega⟩,?_⟩;refine qDa (fun k=>.str (nmB first.toNat (6+k))) (by omega) ?_ ?_
     ·intro k hk C hC;have ek:nmB first.toNat (6+k)=Txt.mul ⟨#[sgC first.toNat]⟩ (6+(k:Int) - 6)++⟨#[sgC ((first.toNat+1) % 36)]⟩:=by
       unfold nmB;rw[if_neg (by omega),show(((6+k:Nat):Int))=6+(k:Int) by omega]
      rw[ek]at hC;refine⟨Sle.set _ (Sle.refl _) (fun u z=>by cases z),_,rfl,_,rfl,_,_,rfl,rfl,_,_,rfl,rfl,(by show 1<=100;decide),by omega,by omega,_,rfl,_,_,rfl,rfl,?_,hC⟩;rw[qFm (by omega)];show _+1<=sizeLine;exact hAq (qAg (by omega))
     ·intro r3 hr3;have n23:r2≠r3:=fun e=>by rw[<-e,upd_same]at hr3;cases hr3
      refine⟨r2,r3,_,_,rfl,rfl,(by rw[qAh n23];exact upd_same),upd_same,?_,fun p hp=>?_⟩
      ·rw[hA1,hA1,hBe,hBe];exact hAq (qAg (by omega))
      refine⟨_,rfl,fin p (nmB first.toNat) _ q5 ?_ ?_ (fun i j _ _ e=>qSt fn36 e) ?_⟩
      ·exact(g1 q5).trans ((Ext.new hr2 _).trans ((Ext.new hr3 _).trans (Ext.new hp _)))
      ·unfold LsS;rw[upd_same];have em:(List.range m.toNat).map (fun k=>V.str (nmB first.toNat k))=(List.range (if (6:Int)<m then 6 else m).toNat).map (fun k=>V.str (nmB first.toNat k))++(List.range (m - 6).toNat).map (fun k=>V.str (nmB first.toNat (6+k))):=by
        by_cases h6:(6:Int)<m
        ·rw[if_pos h6,show m.toNat=6+(m - 6).toNat by omega,List.range_add,hAc,hBf];rfl
        ·rw[if_neg h6,show(m - 6).toNat=0 by omega];simp
       rw[hBf,<-em];rfl
      ·intro i hi;exact qN1 fn36 (by omega)
   ·refine⟨_,rfl,fin r1 (nmA (Txt.slice word none (some spot)) (Txt.slice word (some (spot+1)) none) first.toNat) _ q5 (g1 q5) ?_ (fun i j hi hj e=>qSu (by omega) (by omega) e) ?_⟩
    ·unfold LsS;rw[qAh (Ne.symm dr1),upd_same,hBf];rfl
    ·intro i _;exact qN2 sm spa (by omega) (by omega)
end
end My
namespace L2
open PySem PySem.Spec PyProof.Rows
def Fly (H:Hp) (h0 h:Heap) (e:Addr) (cls:Value):Prop :=
 h0.get? e=none/\H e=none/\∃ (a0:Value) (oe:Obj) (vs:Array Value) (T:Addr) (oT:Obj) (ts:Array Value),h.get? e=some oe/\(oe.cls=cls/\vs[0]?=some a0)/\oe.data = .fields vs/\vs[1]?=some (.ref T)/\T≠e/\h0.get? T=none/\H T=none/\h.get? T=some oT/\oT.data = .fields ts/\ts[3]?=some .none
def CXe (P:Program) (w:World):CXT:=fun outer H s E e s'=>∃ (ea:Addr) (cls:Value) (H':Hp),e = .ref ea/\s'.os=s.os/\AllBare s'.gens/\Un (frs outer) [] H H' s.heap s'.heap/\HOk P w H' s'.heap/\Fly H' s.heap s'.heap ea cls/\E cls none H'
theorem ok_some:∀ {o:HO},qBo P w H h a o->∃ ob,h.get? a=some ob
 | .lst _,x=>by obtain⟨_,_,_,_,e⟩:=x;exact⟨_,e⟩
 | .tup _,x=>by obtain⟨_,_,_,p⟩:=x;obtain⟨ob,e,_⟩:=p;exact⟨_,e⟩
 | .dK _,x=>by obtain⟨_,_,_,_,ob,_,_,e,_⟩:=x;exact⟨_,e⟩
 | .dT _,x=>by obtain⟨_,_,_,_,ob,_,_,e,_⟩:=x;exact⟨_,e⟩
 | .set _ _,x=>by obtain⟨ob,_,_,_,e,_⟩:=x;exact⟨_,e⟩
 | .ins _ _ _,x=>by obtain⟨_,_,_,e,_⟩:=x;exact⟨_,e⟩
 | .own _,x=>x
 | .xd _,x=>by obtain⟨_,⟨ob,_,_,e,_⟩,_⟩:=x;exact⟨_,e⟩
 | .rng _ _,x=>by obtain⟨_,_,_,e⟩:=x;exact⟨_,e⟩
 | .frz _ _,x=>⟨_,x.1⟩
 | .tbl _,x=>⟨_,x⟩
 | .met _ _,x=>⟨_,x⟩
 | .ext _,x=>x.2.1
theorem qHo {h b1 b2:Heap}:∀ {l:List Env},h.FunFrames b1 l->(∀ a∈frs l,b2.get? a=none)->h.FunFrames b2 l
 | [],_,_=>trivial
 | env :: r,hl,hn=>by
  obtain⟨k,⟨L,o,f,_,ho,hd⟩,hr⟩:=hl;have m:frs (env :: r)=L :: frs r:=by unfold frs;rw[hAz,f]
  rw[m]at hn;exact⟨k,⟨L,o,f,hn L hA6,ho,hd⟩,qHo hr fun a ha=>hn a (hA5 _ ha)⟩
section
variable {P:Program} {w:World} {K:PySem.W.Frag} {mg:Str->Option Value} {base:Heap} {N:List Str} {qual:Str} {scope:Scope} {f:Addr} {cd:Value} {A:Around} {outer:List Env} {s:Shared} {H:Hp} {E:XK}
abbrev cxE (P:Program) (w:World) (K:PySem.W.Frag) (mg:Str->Option Value) (base:Heap) (N:List Str) (qual:Str) (scope:Scope) (f:Addr) (cd:Value) (A:Around) (outer:List Env) (s:Shared) (H:Hp) (E:XK):Cx:=qQm (CXe P w) P w K mg base N qual scope f cd A outer s H E
theorem qSz (J:Inv (cxE P w K mg base N qual scope f cd A outer s H E) pins σ H' s') (He:H' ea=none) (Hs:s.heap.get? ea=none)
  (ex:List Addr) (hex:∀ t∈ex,H' t=none/\s.heap.get? t=none) (lf:Heap.LeftW (PySem.W.hideAll s'.heap (ea :: (ex++frs (cxE P w K mg base N qual scope f cd A outer s H E).stack))) (cxE P w K mg base N qual scope f cd A outer s H E).stack ea cls a0 s'.heap h'') (q:E cls none H') :
  CXe P w outer H s E (.ref ea) { s' with heap:=h'' }:=by
 obtain⟨l1,l2,⟨oe,vs,T,oT,ts,t1,t2,t3,t4,t5,t6,t7,t8,t9⟩,l4⟩:=lf;have fr:=J.stack;have frf:=J.stkFree;have kp:∀ b o,s'.heap.get? b=some o->b≠ea->b∉ex->b∉frs (cxE P w K mg base N qual scope f cd A outer s H E).stack->h''.get? b=some o:=fun b o e n1 n2 n3=>l1 b o (hCa _ e (by
  rw[hA9,hAd];rintro(z | z | z)
  ·exact n1 z
  ·exact n2 z
  ·exact n3 z))
 have old:∀ b o,s.heap.get? b=some o->b≠ea/\b∉ex/\b≠(envOfC qual scope s.heap.objs.size f cd).locals:=fun b o e=>by
  refine⟨fun z=>?_,fun z=>?_,fun z=>?_⟩
  ·rw[z,Hs]at e;cases e
  ·rw[(hex b z).2]at e;cases e
  ·have lt:=Heap.lt_size e;rw[z]at lt;exact absurd (hAo lt J.ok.above) (hB3 _)
 have stk:∀ b,b∈frs (cxE P w K mg base N qual scope f cd A outer s H E).stack->b=(envOfC qual scope s.heap.objs.size f cd).locals\/b∈frs outer:=fun b hb=>by
  have:frs (cxE P w K mg base N qual scope f cd A outer s H E).stack=(envOfC qual scope s.heap.objs.size f cd).locals :: frs outer:=rfl;rw[this]at hb;exact hA9.mp hb
 have stk':∀ b,b∈frs outer->b∈frs (cxE P w K mg base N qual scope f cd A outer s H E).stack:=fun b hb=>hA5 _ hb
 have sl:∀ b o,s'.heap.get? b=some o->b∈frs (cxE P w K mg base N qual scope f cd A outer s H E).stack->∃ z,h''.get? b=some { o with slots:=z }:=fun b o e hb=>by
  obtain⟨_,o',ho',hd⟩:=fr.mem hb;rw[e]at ho';cases ho';exact l4 b o e hd
 have trk:∀ b u,H' b=some u->b≠ea/\b∉ex/\b∉frs (cxE P w K mg base N qual scope f cd A outer s H E).stack:=fun b u e=>by
  refine⟨fun z=>?_,fun z=>?_,fun z=>?_⟩
  ·rw[z,He]at e;cases e
  ·rw[(hex b z).1]at e;cases e
  ·rw[frf b z]at e;cases e
 refine⟨ea,cls,H',rfl,J.os,J.bare,⟨fun b o e n hb hx=>?_,fun b o e n hb hx=>?_,J.base.free,fun b o e hx=>?_,J.base.tups,J.base.frzs,J.base.tbls⟩,fun a o e=>?_,⟨Hs,He,a0,oe,vs,T,oT,ts,t1,t2,t3,t4,t6,?_,?_,t7,t8,t9⟩,q⟩
 ·obtain⟨o1,o2,o3⟩:=old b o e;exact kp b o (J.base.keep b o e n hb hx) o1 o2 fun z=>(stk b z).elim o3 hb
 ·obtain⟨z,e1⟩:=J.base.slot b o e n hb hx;obtain⟨z2,e2⟩:=sl b _ e1 (stk' b hb);exact⟨z2,e2⟩
 ·obtain⟨o1,o2,o3⟩:=old b o e;obtain⟨o',e1⟩:=J.base.there b o e hx;by_cases hb:b∈frs (cxE P w K mg base N qual scope f cd A outer s H E).stack
  ·obtain⟨z,e2⟩:=sl b o' e1 hb;exact⟨_,e2⟩
  ·exact⟨o',kp b o' e1 o1 o2 hb⟩
 ·refine(J.hok a o e).stay (fun b u hb q'=>?_) (fun b z=>z) fun b xs z=>z
  have hb':∃ v,H' b=some v:=by
   rcases hb with z | z
   ·rw[z];exact⟨_,e⟩
   ·exact⟨_,z⟩
  obtain⟨v,hv⟩:=hb';obtain⟨n1,n2,n3⟩:=trk b v hv;exact kp b u q' n1 n2 n3
 all_goals
  have cs:s'.heap.get? T=none\/T∈ex:=by
   cases z:s'.heap.get? T with
   | none=>exact .inl rfl
   | some o =>
    refine .inr ?_;by_cases h2:T∈ex
    ·exact h2
    ·exfalso;by_cases h3:T∈frs (cxE P w K mg base N qual scope f cd A outer s H E).stack
     ·obtain⟨y,e2⟩:=sl T o z h3;rw[t7]at e2;obtain⟨_,o',ho',hd⟩:=fr.mem h3;rw[z]at ho';cases ho';cases e2;exact hd _ t8
     ·have:=hCa (ea :: (ex++frs (cxE P w K mg base N qual scope f cd A outer s H E).stack)) z (by
       rw[hA9,hAd];rintro(y | y | y)
       ·exact t6 y
       ·exact h2 y
       ·exact h3 y)
      rw[t5]at this;cases this
 ·rcases cs with z | z
  ·cases y:s.heap.get? T with
   | none=>rfl
   | some o =>
    obtain⟨o',e1⟩:=J.base.there T o y (fun z=>by cases z);rw[z]at e1;cases e1
  ·exact(hex T z).2
 ·rcases cs with z | z
  ·cases y:H' T with
   | none=>rfl
   | some u =>
    exfalso;obtain⟨o,ho⟩:=ok_some (J.hok T u y);rw[z]at ho;cases ho
  ·exact(hex T z).1
end
end L2
namespace L2
open PySem PySem.Spec PyProof.Rows
section
variable {P:Program} {w:World} {K:PySem.W.Frag} {mg:Str->Option Value} {base:Heap} {N:List Str} {qual:Str} {scope:Scope} {f:Addr} {cd:Value} {A:Around} {outer:List Env} {s:Shared} {H:Hp} {E:XK}
theorem qPr (J:Inv (cxE P w K mg base N qual scope f cd A outer s H E) pins σ H' s2) (hm:Heap.MadeExcOf s2.heap h' ea cls args) (q:E cls none H') :
  (cxE P w K mg base N qual scope f cd A outer s H E).xe (.ref ea) { s2 with heap:=h' }:=by
 have J3:Inv (cxE P w K mg base N qual scope f cd A outer s H E) pins σ H' { s2 with heap:=h' }:=J.kept (t':=s2.toks) hm.keeps;have He:H' ea=none:=by
  cases y:H' ea with
  | none=>rfl
  | some u =>
   obtain⟨o,ho⟩:=ok_some (J.hok ea u y);rw[hm.new]at ho;cases ho
 have Hs:s.heap.get? ea=none:=by
  cases y:s.heap.get? ea with
  | none=>rfl
  | some o =>
   obtain⟨o',e1⟩:=J.base.there ea o y (fun z=>by cases z);rw[hm.new]at e1;cases e1
 obtain⟨t,ht,_,_⟩:=hm.there;show wpAny (model P w) _ (leaving (envOfC qual scope s.heap.objs.size f cd) (.ref ea)) _ _ _;refine wpAny_leaving_firstW (a0:=.ref t) (base:=PySem.W.hideAll h' (ea :: ([]++frs (cxE P w K mg base N qual scope f cd A outer s H E).stack))) (outer:=outer) (s:={ s2 with heap:=h' }) J3.ok.frames (qHo J3.stack fun a ha=>hBp _ (hA5 _ ha)) rfl ht (fun b o z=>PySem.W.of_hideAll _ z) (hBp _ hA6) rfl rfl rfl fun h'' lf=>?_
 exact qSz J3 He Hs [] (fun t ht=>by cases ht) lf q
def qTr (C:Addr) (E:XK) (t:TA):TS:=fun D σ H=>t σ H fun vs H1=>vs.length<=sizeLine/\E (.ref C) none H1
theorem qPu (hh:A.handled=none) (Fn:ExcBaseFacts Bn newId inN bmN) (hBn:bmB.contains (.type Bn)=true) (F:ExcBaseFacts B nid initId bmB) (O:OwnCls x C bmB newId mg base)
  (ha:PA (cxE P w K mg base N qual scope f cd A outer s H E) (e :: es) t) (hg:Gl (cxE P w K mg base N qual scope f cd A outer s H E) x) (hb:bmB.contains (.type "BaseException")=true) (hdb:(x == ("__debug__" : Str))=false:=by decide)
  (he:starEach (e :: es) (cxE P w K mg base N qual scope f cd A outer s H E).env=(false,eval e (cxE P w K mg base N qual scope f cd A outer s H E).env) :: starEach es (cxE P w K mg base N qual scope f cd A outer s H E).env:=by rfl) (hpl:(backTo cpos (starEach (e :: es) (cxE P w K mg base N qual scope f cd A outer s H E).env)).any (·.1)=false:=by rfl) :
  PS (cxE P w K mg base N qual scope f cd A outer s H E) (.Raise (some (.Call (.Name x np) (e :: es) [] cpos)) none pos) (qTr C E t):=by
 intro pins s1 σ H1 D I h;obtain⟨bm,N',nm,q,bs,hdct,sn,sub,ab,col,dd,k0,k1,k2,k3,k5,mN,hC,hN,hni,T⟩:=O.2;refine wpAny_Raise_call_subU (C:=C) (nm:=nm) (q:=q) (N:=N') (bs:=bs) (bm:=bm) (hdct:=hdct) (sn:=sn) (sub:=sub) (ab:=ab) (col:=col) (dd:=dd) (k0:=k0) (k1:=k1) (k2:=k2) (k3:=k3) (k5:=k5) Fn hBn F (T.hasType hb) hh hpl hni ?_;refine qHk I hg O.1 ⟨rfl,?_⟩ hdb;rw[he];refine Calls.evalArgs_plain ?_;have:=ha cpos pins s1 σ H1 _ I h;rw[he]at this;refine thn this fun us s2 ⟨vs,H2,I2,rv,hl,hE⟩=>⟨rfl,by rw[<-rv.length];exact hl,I2.bk _ _ hC,hN.keeps I2.bk,T.keeps I2.bk,fun h' ea hm=>qPr I2 hm hE⟩
theorem Fun.okE {x:Str} {st:Stmt} {fd:FuncData} {ps:List Str} {k:Nat} {sp:Sp} (F:Fun K x qual st f fd) (S:FnScope N ps (qAd st)) (len:∀ vs H Q E,sp vs H Q E->vs.length=ps.length)
  (hbody:∀ (cdv:Value) (A:Around) (outer:List Env) (s:Shared) (H:Hp) (vs:List V) (Q:VK) (E:XK),Room k (A.deeper (envOfC qual (qAd st) s.heap.objs.size f cdv))->A.handled=none->sp vs H Q E ->
   ∃ t,PSs (cxE P w K mg base N qual (qAd st) f cdv A outer s H E) (qAp st) t/\t { nx:=fun _ H'=>Q .non H',rt:=Q } (qGw N vs) H):FnOk P w K mg base (CXe P w) (k+1) f fd ps sp:=by
 obtain⟨oc,od,kV,doc,pm,an,cdv,ct,osl,rfl,lk,hcd⟩:=F.ex;exact qU9 lk hcd S len fun A outer s H vs Q E hr hsp=>hbody cdv A outer s H vs Q E hr hr.hd hsp
end
end L2
namespace L2
open PySem PySem.Spec PyProof.Rows
section
variable {X:Cx} {pins:List (Addr×Obj)} {σ:St} {H:Hp} {s:Shared} {h':Heap}
theorem Inv.move (I:Inv X pins σ H s) (hp:∀ p∈pn++pins',p∈X.pn++pins) (hA:A.frames=X.A.frames) (hc:calm=true->A.handled=none) :
  Inv { X with A:=A,calm:=calm,xe:=xe,pn:=pn } pins' σ H s :=
 ⟨⟨I.ok.mod,I.ok.kind,I.ok.glob,I.ok.blt,I.ok.above,I.ok.inj,I.ok.has,I.ok.cab,hc,hA.trans I.ok.frames,I.ok.stk,I.ok.exf,I.ok.bs,I.ok.bsz,I.ok.noex,I.ok.exfs,I.ok.funs,I.ok.frf⟩,I.os,I.bare,I.base,I.loc,I.cell,I.free,I.freeC,fun p h=>I.pin p (hp p h),I.hok,I.len⟩
structure New (X:Cx) (pins:List (Addr×Obj)) (b:Addr):Prop where
 s0:X.s₀.heap.get? b=none
 loc:b≠X.env.locals
 cel:∀ x c,X.env.cells.lookup x=some c->c≠b
 pin:∀ p∈X.pn++pins,p.1≠b
theorem Inv.new_of (I:Inv X pins σ H s) (hex:X.ex=[]) (e:s.heap.get? b=none):New X pins b:=by
 refine⟨?_,fun z=>?_,fun x c hc z=>?_,fun p hp z=>?_⟩
 ·cases y:X.s₀.heap.get? b with
  | none=>rfl
  | some o =>
   obtain⟨o',e1⟩:=I.base.there b o y (by rw[hex];intro z;cases z);rw[e]at e1;cases e1
 ·obtain⟨m,⟨o,_,_,ho,_⟩,_⟩:=I.loc;rw[<-z,e]at ho;cases ho
 ·obtain⟨v,o,ho,_⟩:=I.cell x c hc;rw[z,e]at ho;cases ho
 ·have:=(I.pin p hp).1;rw[z,e]at this;cases this
theorem Inv.exs (I:Inv X pins σ H s) (hn:∀ b∈ch,New X pins b):Inv { X with ex:=X.ex++ch } pins σ H s :=
 ⟨⟨I.ok.mod,I.ok.kind,I.ok.glob,I.ok.blt,I.ok.above,I.ok.inj,I.ok.has,I.ok.cab,I.ok.hd,I.ok.frames,I.ok.stk,fun b hb=>(hAd.mp hb).elim (I.ok.exf b) fun z=>⟨(hn b z).loc,(hn b z).cel⟩,I.ok.bs,I.ok.bsz,
  fun b o e hb=>(hAd.mp hb).elim (I.ok.noex b o e) fun z=>(by
   have:=(I.ok.bs b o e).1;rw[(hn b z).s0]at this;cases this),
  fun b hb hf=>(hAd.mp hb).elim (fun z=>I.ok.exfs b z hf) fun z=>(by
   obtain⟨_,o,ho,_⟩:=I.ok.funs.mem hf;rw[(hn b z).s0]at ho;cases ho),I.ok.funs,I.ok.frf⟩,I.os,I.bare,
  ⟨fun b o e n hb hx=>I.base.keep b o e n hb fun z=>hx (hB1 _ z),fun b o e n hb hx=>I.base.slot b o e n hb fun z=>hx (hB1 _ z),fun b o e n hx=>I.base.free b o e n fun z=>hx (hB1 _ z),fun b o e hx=>I.base.there b o e fun z=>hx (hB1 _ z),I.base.tups,I.base.frzs,I.base.tbls⟩,
  I.loc,I.cell,I.free,I.freeC,I.pin,I.hok,I.len⟩
theorem Inv.unexs (ok:X.Ok) (I:Inv { X with ex:=X.ex++ch } pins σ H s) (hn:∀ b∈ch,New X pins b):Inv X pins σ H s:=by
 have nx:∀ b o,X.s₀.heap.get? b=some o->b∉X.ex->b∉X.ex++ch:=fun b o e hx hb=>(hAd.mp hb).elim hx fun z=>by rw[(hn b z).s0]at e;cases e
 exact⟨ok,I.os,I.bare,⟨fun b o e n hb hx=>I.base.keep b o e n hb (nx b o e hx),fun b o e n hb hx=>I.base.slot b o e n hb (nx b o e hx),fun b o e n hx=>I.base.free b o e n (nx b o e hx),fun b o e hx=>I.base.there b o e (nx b o e hx),I.base.tups,I.base.frzs,I.base.tbls⟩,
  I.loc,I.cell,I.free,I.freeC,I.pin,I.hok,I.len⟩
theorem Inv.flown (J:Inv X pins σ H s) (hn:∀ b∈ch,New X pins b) (hH:∀ b∈ch,H b=none) (st:(PySem.W.hideAll s.heap (ch++frs X.stack)).StaysIn h') (up:s.heap.UpToSlots h'):Inv X pins σ H { s with heap:=h' }:=by
 have kp:∀ b o,s.heap.get? b=some o->b∉ch->b∉frs X.stack->h'.get? b=some o:=fun b o e n1 n2=>st b o (hCa _ e fun z=>(hAd.mp z).elim n1 n2)
 have sl:∀ b o,s.heap.get? b=some o->b∈frs X.stack->∃ z,h'.get? b=some { o with slots:=z }:=fun b o e hb=>by
  obtain⟨_,o',ho',hd⟩:=J.stack.mem hb;rw[e]at ho';cases ho';exact up b o e hd
 have u:Un (frs X.stack) ch H H s.heap h':=⟨fun b o e _ n1 n2=>kp b o e n2 n1,fun b o e _ hb _=>sl b o e hb,fun _ _ _ n _=>n,fun b o e n2=>by
  by_cases hb:b∈frs X.stack
  ·obtain⟨z,e2⟩:=sl b o e hb;exact⟨_,e2⟩
  ·exact⟨o,kp b o e n2 hb⟩,fun _ _ e=>e,fun _ _ _ e=>e,fun b ps e=>⟨#[],by rw[e];simp⟩⟩
 have hok:HOk X.prog X.w H h':=fun a o e=>by
  refine(J.hok a o e).stay (fun b u hb q=>?_) (fun _ z=>z) fun _ _ z=>z
  have hv:∃ v,H b=some v:=hb.elim (fun z=>⟨o,by rw[z];exact e⟩) fun z=>⟨_,z⟩
  obtain⟨v,hv⟩:=hv;exact kp b u q (fun z=>by rw[hH b z]at hv;cases hv) fun z=>by rw[J.stkFree b z]at hv;cases hv
 exact Inv.unexs J.ok ((J.exs hn).call' (s':={ s with heap:=h' }) (ch:=ch) rfl u hok J.bare fun b hb=>⟨.inl (hA8 _ hb),(hn b hb).loc,(hn b hb).cel,(hn b hb).pin⟩) hn
def exO (ea:Addr) (cls:Value):HO:=.ext fun h=>∃ o,h.get? ea=some o/\o.cls=cls
theorem Inv.adopt (J:Inv X pins σ H s) (n:New X pins ea) (he:H ea=none) (ho:∃ o,s.heap.get? ea=some o/\o.cls=cls):Inv X pins σ (upd H ea (exO ea cls)) s:=by
 have ne:∀ b o,H b=some o->b≠ea:=fun b o e z=>by rw[z,he]at e;cases e
 have n0:∀ b o,X.s₀.heap.get? b=some o->b≠ea:=fun b o e z=>by rw[z,n.s0]at e;cases e
 refine⟨J.ok,J.os,J.bare,⟨J.base.keep,J.base.slot,fun b o e nn hx=>?_,J.base.there,fun b xs e=>?_,fun b o u e=>?_,fun b ps e=>?_⟩,J.loc,J.cell,?_,fun x c e=>?_,fun p hp=>?_,fun a o e=>?_,J.len⟩
 ·rw[qAh (n0 b o e)];exact J.base.free b o e nn hx
 ·rw[qAh (ne b _ (J.base.tups b xs e))];exact J.base.tups b xs e
 ·rw[qAh (ne b _ (J.base.frzs b o u e))];exact J.base.frzs b o u e
 ·obtain⟨m,e1⟩:=J.base.tbls b ps e;exact⟨m,by rw[qAh (ne b _ e1)];exact e1⟩
 ·rw[qAh (Ne.symm n.loc)];exact J.free
 ·rw[qAh (n.cel x c e)];exact J.freeC x c e
 ·obtain⟨a1,a2,a3⟩:=J.pin p hp;exact⟨a1,by rw[qAh (n.pin p hp)];exact a2,a3⟩
 ·by_cases z:a=ea
  ·subst z;rw[upd_same]at e;cases e;obtain⟨o,h1,h2⟩:=ho;refine⟨⟨o,h1,h2⟩,⟨o,h1⟩,fun g1 g2 ⟨o',q1,q2⟩ k=>⟨o',k o' q1,q2⟩⟩
  ·rw[qAh z]at e;refine(J.hok a o e).stay (fun _ _ _ q=>q) (fun b q=>?_) fun b xs q=>?_
   ·rw[qAh (ne b _ q)];exact q
   ·rw[qAh (ne b _ q)];exact q
end
end L2
namespace L2
open PySem PySem.Spec PyProof.Rows Builtin Builtin.ObjectAttr Builtin.Getset_descriptor
section
variable {prog:Program} {w:World} {A:Around} {E:Value->Shared->Prop} {s:Shared} {K:PySem.W.Frag} {x D:Addr}
structure XCls (K:PySem.W.Frag) (D:Addr):Prop where
 c:(PySem.W.clsIn K D).isSome=true
 ga:PySem.W.findIn K (.ref D) "__getattribute__" = some (some (.builtin "BaseException.__getattribute__"))
 gt:PySem.W.findIn K (.ref D) "__getattr__" = some none
 cl:PySem.W.findIn K (.ref D) "__class__" = some (some (.builtin "object.__class__"))
 sp:PySem.W.specialIn K (.builtin "object.__class__") "__get__" = some (some (.builtin "getset_descriptor.__get__"))
 tk:PySem.W.takesIn K (.builtin "object.__class__")=some true
 ob:PySem.W.mroIn K D (.type "object")=some true
 be:PySem.W.mroIn K D (.type "BaseException")=some true
end
end L2
namespace L2
open PySem PySem.Spec PyProof.Rows
theorem fmc:∀ {l:List α},(∀ i∈l,f i=g i)->l.filterMap f=l.filterMap g
 | [],_=>rfl
 | a :: l,h=>by rw[hAz,hAz,h a hA6,fmc fun i hi=>h i (hA5 _ hi)]
theorem qG1 (its:List Value):slicePick its.toArray none none (some (-1))=its.reverse.toArray:=by
 unfold slicePick;have h1:sliceBounds none none (some (-1)) its.toArray.size=((its.length:Int) - 1,-1,-1):=by
  unfold sliceBounds;simp
 rw[h1];have h2:sliceRange ((its.length:Int) - 1) (-1) (-1)=(List.range its.length).map fun k=>its.length - 1 - k:=by
  unfold sliceRange;have hc:(if (-1:Int) > 0 then (if (its.length:Int) - 1 < -1 then (-1 - ((its.length:Int) - 1) + -1 - 1) / -1 else 0) else (if (its.length:Int) - 1 > -1 then ((its.length:Int) - 1 - -1 - -1 - 1) / (- -1) else 0)).toNat=its.length:=by
   rw[if_neg (by decide)];by_cases h:(its.length:Int) - 1 > -1
   ·rw[if_pos h];have:((its.length:Int) - 1 - -1 - -1 - 1) / (- -1)=its.length:=by
     rw[show(- -1:Int)=1 by decide,Int.ediv_one];omega
    rw[this];exact Int.toNat_natCast _
   ·rw[if_neg h];omega
  show List.map _ (List.range _)=_;rw[hc];refine hCc fun k hk=>?_
  have:=hBj.mp hk;omega
 show(List.filterMap _ (sliceRange ((its.length:Int) - 1) (-1) (-1))).toArray=_;rw[h2,List.filterMap_map];congr 1;refine hBr fun i=>?_
 have e:(List.range its.length).filterMap ((fun x=>its.toArray[x]?)∘fun k=>its.length - 1 - k)=(List.range its.length).filterMap fun k=>its.reverse[k]?:=by
  refine fmc fun k hk=>?_
  have hk':=hBj.mp hk;show its.toArray[its.length - 1 - k]?=its.reverse[k]?;rw[List.getElem?_toArray,List.getElem?_reverse hk']
 rw[e];have:(List.range its.length).filterMap (fun k=>its.reverse[k]?)=its.reverse:=by
  have g:∀ l:List Value,(List.range l.length).filterMap (fun k=>l[k]?)=l:=by
   intro l
   induction l with
   | nil=>rfl
   | cons a l ih =>
    rw[hBo,List.range_succ_eq_map,hAz,List.filterMap_map];show a :: _=_;congr 1
  have:=g its.reverse;rw[List.length_reverse]at this;exact this
 rw[this]
section
variable {X:Cx} {e st:Expr} {te ts:TE} {p2 pos:Pos}
def qXe (K:PySem.W.Frag) (te ts:TE):TE:=fun σ H Q=>te σ H fun x H1=>ts σ H1 fun y H2=>∃ a xs,x = .ref a/\y = .int (-1)/\SqL K H2 a xs/\∀ p,H2 p=none->Q (.ref p) (upd H2 p (.lst xs.reverse))
theorem qJ9:∀ {xs:List V} {us:List Value},qBe xs us->qBe xs.reverse us.reverse
 | _,_,.nil=>.nil
 | _,_,.cons h t=>by
  rw[List.reverse_cons,List.reverse_cons];exact(qJ9 t).append (.cons h .nil)
theorem qUo (he:PE X e te) (hs:PE X st ts):PE X (.Subscript e (.Slice none none (some st) p2) pos) (qXe X.K te ts):=by
 intro pins s σ H Q I h;refine Subscript_ (thn (he pins s σ H _ I h) fun v s1 ⟨x,H1,I1,r1,q1⟩=>?_);refine wpAny_Slice ?_;rw[evalPart_none];refine wpAny_pure (wpAny_pure ?_);show wpAny _ _ (eval st X.env) _ _ _;refine thn (hs pins s1 σ H1 _ I1 q1) fun w s2 ⟨y,H2,I2,r2,q2⟩=>?_
 obtain⟨a,xs,rfl,rfl,hx,q⟩:=q2;cases r1;obtain⟨t,rfl⟩:=r2;have I4:Inv X pins σ H2 { s2 with heap:=s2.heap.push { cls:=.type "slice",data:=.fields #[.none,.none,.int (-1) t] } }:=I2.kept (t':=s2.toks) fun b ob q=>Heap.get?_push_of_some _ q
 obtain⟨its,r,ht,hz⟩:=I4.list hx;have hlen:=r.length;have hg:wpAny (model X.prog X.w) X.A (getItem (.ref a) (.ref s2.heap.objs.size)) (EP X pins σ Q) X.xe { s2 with heap:=s2.heap.push { cls:=.type "slice",data:=.fields #[.none,.none,.int (-1) t] } }:=by
  refine wpAny_getItem_list_slice ht.isList (Heap.IsSliceOf.new ..) .none .none (.int (-1) t) (by decide) ?_ (by rw[hAb] <;> omega);rw[qG1];refine⟨.ref _,_,I4.laid (t':=s2.toks) (o:=.lst xs.reverse) (fun b ob q=>Heap.get?_push_of_some _ q) (hA4 _) ?_,rfl,q _ (I4.hok.fresh (hA4 _))⟩;exact⟨by rw[List.length_reverse];exact hz,_,0,qJ9 r,Heap.get?_push_size _ rfl⟩
 show wpAny (model X.prog X.w) X.A (subscriptTail e (.Slice none none (some st) p2) (.ref a) (.ref s2.heap.objs.size)) (EP X pins σ Q) X.xe { s2 with heap:=s2.heap.push { cls:=.type "slice",data:=.fields #[.none,.none,.int (-1) t] } };exact tail_any (ops:=[.ref a,.ref s2.heap.objs.size]) ht.isList.typeIs slot_list_getitem.lookup hg (by with_unfolding_all rfl)
end
end L2
namespace L2
open PySem PySem.Spec PyProof.Rows PySem.SeqAt
end L2
namespace My
open PySem L2
def qMy:Sp:=fun vs H Q _=>∃ (p:Addr) (net:List Tr),vs=[.ref p]/\qAy H p net/\net.length<=12/\∀ r H',Ext H H'->H r=none->LsS H' r (net.map (·.1))->Q (.ref r) H'
section
variable {P:Program} {w:World} {K:PySem.W.Frag} {mg:Str->Option Value} {base:Heap} {f f1 f2:Addr} {fd fd1 fd2:FuncData}
theorem qDx {as:List Addr} {net:List Tr} {Q:List V->Hp->Prop} {H1:Hp} {σ0:St} {g:TG} {tt:TT} {te:TE} {p:Addr} (h:Tr->Str) (hp:H1 p=some (.lst (as.map V.ref))) (pr:Paired (fun a t=>H1 a=some (.tup (trV t))) as net) (ln:net.length<=12)
  (hs:∀ a t,H1 a=some (.tup (trV t))->∀ (C:V->Hp->Prop) (B:Hp->Prop),C (.str (h t)) H1->g (.ref a) σ0 H1 fun σ2 H2=>Sle σ0 σ2/\tt σ2 H2 fun b H3=>if b=true then te σ2 H3 C else B H3)
  (hd:Q ((net.map h).map V.str) H1):qCq (Itl K p) σ0 g tt te Q H1:=by
 have lA:as.length=net.length:=pr.length;refine qBc (xs:=as.map V.ref) (fun j ys H2=>H2=H1/\ys=((net.take j).map h).map V.str) ⟨rfl,rfl⟩ (fun j ys H2 _ h=>by rw[h.1];exact SqL.of hp) ?_ ?_
 ·rintro j x ys H2 hx ⟨rfl,rfl⟩;obtain⟨a,t,rfl,ht,ha⟩:=qB8 pr hx;have hi:=qBg ht;have sz:(((net.take j).map h).map V.str).length<sizeLine:=by
   rw[hA1,hA1,hAp];exact qAg (by omega)
  exact hs a t ha _ _ ⟨sz,nxt (qBg hx) ⟨rfl,by rw[qA0 ht,hAc,hAc];rfl⟩⟩
 ·rintro ys H2 ⟨rfl,rfl⟩;rw[hA1,lA,hAf (hA4 _)];exact hd
theorem qT5:FnScope ["net"] ["net"] (qAd qJc):=⟨rfl,rfl,rfl,by decide +kernel,rfl,by decide +kernel,by decide +kernel⟩
abbrev tiN:List Str:=["tie","one","other"]
theorem qSh (F:Fun K "ties_of" "ties_of" qJc f fd):FnOk P w K mg base CX0 1 f fd ["net"] qMy:=by
 refine F.ok qT5 (fun vs H Q E h=>?_) (fun cdv A outer s H vs Q E hr h=>?_)
 ·obtain⟨p,net,rfl,_⟩:=h;rfl
 obtain⟨p,net,rfl,⟨as,hp,pr⟩,hl,q⟩:=h;refine⟨_,qAf (qAq (qCo (N:=["net"]) (sc:=qAd qJc) (N':=tiN) (sub:=[none,none,none]) rfl rfl (CmpOk.of (by decide +kernel)) rfl (qAx (pv 0))
  (fun C s H fp=>⟨(show PG _ _ (qRd K 3 _) from qCh rfl (qAo (qAi (i:=0) (by show tiN.Nodup;decide) rfl (Or.inl rfl)) (qAo (qAi (i:=1) (by show tiN.Nodup;decide) rfl (Or.inl rfl)) (qAo (qAi (i:=2) (by show tiN.Nodup;decide) rfl (Or.inl rfl)) qBq)))),qA5,pv 0⟩))),?_⟩
 refine⟨_,rfl,p,rfl,⟨_,SqL.of hp⟩,?_⟩;refine qDx (fun t=>t.1) hp pr hl (fun a t ha C B c=>?_) (fun r hr'=>q r _ (Ext.new hr' _) hr' upd_same);refine⟨a,_,rfl,SqT.of ha,rfl,_,_,rfl,_,_,rfl,_,_,rfl,rfl,?_⟩;exact⟨Sle.set _ (Sle.set _ (Sle.set _ (Sle.refl _) (fun u z=>by cases z)) (fun u z=>by cases z)) (fun u z=>by cases z),iteT (B:=B H) ⟨_,rfl,c⟩⟩
end
end My
namespace My
open PySem L2
theorem nk (K:PySem.W.Frag):PySem.W.kitOne K (.type "NoneType") (.type "str")=some false/\PySem.W.kitOne K (.type "NoneType") (.type "list")=some false:=⟨by kernel_rfl,by kernel_rfl⟩
theorem bk (K:PySem.W.Frag):PySem.W.kitOne K (.type "bool") (.type "str")=some false/\PySem.W.kitOne K (.type "bool") (.type "list")=some false:=⟨by kernel_rfl,by kernel_rfl⟩
theorem ik (K:PySem.W.Frag):PySem.W.kitOne K (.type "int") (.type "str")=some false/\PySem.W.kitOne K (.type "int") (.type "list")=some false:=⟨by kernel_rfl,by kernel_rfl⟩
theorem sk (K:PySem.W.Frag):PySem.W.kitOne K (.type "str") (.type "list")=some false:=by kernel_rfl
theorem lk (K:PySem.W.Frag):PySem.W.kitOne K (.type "list") (.type "str")=some false:=by kernel_rfl
theorem tk (K:PySem.W.Frag):PySem.W.kitOne K (.type "tuple") (.type "str")=some false/\PySem.W.kitOne K (.type "tuple") (.type "list")=some false:=⟨by kernel_rfl,by kernel_rfl⟩
end My
namespace My
open PySem L2
def inB (c:Str):Bool:=!(Builtin.Str.occurrences sg c 0 sg.length 1).isEmpty
def sgn (x:Str) (i:Nat):Str:=⟨#[x.cps.toList.getD i 0]⟩
def qV6 (s:Str):List Bool:=(List.range s.cps.size).map fun i=>inB (sgn s i)
def qFl (s:Str):Bool:=decide (1<=s.length) && (decide (s.length<=6) && (qV6 s).all id)
def nmV:V->Bool
 | .str s=>qFl s
 | _=>false
def Item (H:Hp) (x:V) (D:PyData):Prop:=(x = .non/\D = .none)\/(∃ b,x = .bl b/\D = .bool b)\/(∃ i,x = .int i/\D = .int i)\/(∃ s:Str,x = .str s/\D = .str s/\s.length<=100/\Sm s) \/
 (∃ (a:Addr) (ss:List Str),x = .ref a/\D = .list (ss.map .str)/\LsS H a ss/\SOk ss/\ss.length<=20/\∀ s∈ss,s.length<=100/\Sm s)\/(∃ (a:Addr) (ss:List Str),x = .ref a/\D = .tuple (ss.map .str)/\H a=some (.tup (ss.map V.str))/\SOk ss/\ss.length<=20)
theorem Item.ext {H H':Hp} {x:V} {D:PyData} (h:Item H x D) (e:Ext H H'):Item H' x D:=by
 rcases h with h | h | h | h | ⟨a,ss,h1,h2,h3,h4⟩ | ⟨a,ss,h1,h2,h3,h4⟩
 ·exact .inl h
 ·exact .inr (.inl h)
 ·exact .inr (.inr (.inl h))
 ·exact .inr (.inr (.inr (.inl h)))
 ·exact .inr (.inr (.inr (.inr (.inl ⟨a,ss,h1,h2,e _ _ h3,h4⟩))))
 ·exact .inr (.inr (.inr (.inr (.inr ⟨a,ss,h1,h2,e _ _ h3,h4⟩))))
theorem Item.ty {K:PySem.W.Frag} {H:Hp} {x:V} {D:PyData} (h:Item H x D):(∃ s:Str,x = .str s/\s.length<=100/\Sm s)\/(nmV x=false/\∃ t,TyOf K H x t/\PySem.W.kitOne K t (.type "str")=some false):=by
 rcases h with ⟨rfl,_⟩ | ⟨b,rfl,_⟩ | ⟨i,rfl,_⟩ | ⟨s,rfl,_,h,hm⟩ | ⟨a,ss,rfl,_,h3,h4⟩ | ⟨a,ss,rfl,_,h3,h4⟩
 ·exact .inr ⟨rfl,_,.non,(nk K).1⟩
 ·exact .inr ⟨rfl,_,.bl b,(bk K).1⟩
 ·exact .inr ⟨rfl,_,.int i,(ik K).1⟩
 ·exact .inl ⟨s,rfl,h,hm⟩
 ·exact .inr ⟨rfl,_,.lst h3,lk K⟩
 ·exact .inr ⟨rfl,_,.tup h3,(tk K).1⟩
def qKg:Sp:=fun vs H Q _=>∃ (x:V) (D:PyData),vs=[x]/\Item H x D/\∀ H',Ext H H'->Q (.bl (nmV x)) H'
section
variable {P:Program} {w:World} {K:PySem.W.Frag} {mg:Str->Option Value} {base:Heap} {f f1:Addr} {fd fd1:FuncData}
theorem qT9:FnScope ["thing"] ["thing"] (qAd qJf):=⟨rfl,rfl,rfl,by decide +kernel,rfl,by decide +kernel,by decide +kernel⟩
theorem qSo {t1 t2:Tok} (F:Fun K "is_name" "is_name" qJf f fd) (ml:mg "len" = none) (mi:mg "isinstance" = none) (ms:mg "str" = none) (ma:mg "all" = none) (mS:mg "SIGNS" = some (.str sg t1)) (mM:mg "MOST_SIGNS" = some (.int 6 t2)):FnOk P w K mg base CX0 1 f fd ["thing"] qKg:=by
 refine F.ok qT9 (fun vs H Q E h=>?_) (fun cdv A outer s H vs Q E hr h=>?_)
 ·obtain⟨x,D,rfl,_⟩:=h;rfl
 obtain⟨x,D,rfl,hI,q⟩:=h;refine⟨_,qAc (qBf (PW.pt (qEi (qCn (qCa (qAj qBs rfl mi qBt (qAa (pv 0) (qAa (qDo (v:=.ty "str") rfl ms qO7 rfl) qAb)))))
   (qEi (qAn qIh (qAj qEy rfl ml hAn (qAa (pv 0) qAb)) qAe (qAr _)) (qD1 (qAn qSg (qAj qEy rfl ml hAn (qAa (pv 0) qAb)) (qJi (v:=.int 6) rfl mM ⟨t2,rfl⟩) (qAr _))))))
   (qAf (qAq qF9)) qAt)
  (qAf (qAq (qAj (qD7 rfl) rfl ma qD8 (qAa
   (qCo (N:=["thing"]) (sc:=qAd qJf) (N':=["sign"]) (sub:=[none]) rfl rfl (CmpOk.of (by decide +kernel)) rfl (qUl (pv 0))
    (fun C s H fp=>⟨qAi (i:=0) (by show(["sign"]:List Str).Nodup;decide) rfl (Or.inl rfl),qA5,qCe qNt (pv 0) (qJi (v:=.str sg) rfl mS ⟨t1,rfl⟩) (by with_unfolding_all rfl)⟩)) qAb)))),?_⟩
 rcases Item.ty (K:=K) hI with ⟨z,rfl,hz,sm⟩ | ⟨hn,t,ty,kt⟩
 ·have wl:z.length<=sizeLine:=hAq (qAg (by omega));have nf:∀ b:Bool,qFl z=b->∀ H',Ext H H'->Q (.bl b) H':=fun b e H' he=>by subst e;exact q H' he
  refine⟨_,rfl,_,_,_,true,rfl,.str z,qCv _ _,true,rfl,qD9 ?_⟩;refine⟨_,rfl,z,rfl,wl,_,_,rfl,rfl,_,rfl,?_⟩;refine qBw (fun c=>?_) (fun c=>?_)
  ·have c':(z.length:Int)<1:=of_decide_eq_true c;refine iteT (nf false ?_ H (Ext.refl _));unfold qFl;rw[decide_eq_false (by omega)];rfl
  have c':¬(z.length:Int)<1:=fun y=>c (decide_eq_true y)
  refine⟨_,rfl,z,rfl,wl,_,_,rfl,rfl,_,rfl,?_⟩;refine qBw (fun d=>?_) (fun d=>?_)
  ·have d':(6:Int)<z.length:=of_decide_eq_true d;refine nf false ?_ H (Ext.refl _);unfold qFl;rw[decide_eq_true (by omega),decide_eq_false (by omega)];rfl
  have d':¬(6:Int)<z.length:=fun y=>d (decide_eq_true y)
  refine⟨_,rfl,z,rfl,?_⟩;refine qMm (fun i ys H'=>H'=H/\ys=(List.range i).map fun i=>V.bl (inB (sgn z i))) ⟨rfl,rfl⟩ ?_ ?_
  ·rintro i ys H' hi ⟨rfl,rfl⟩;refine⟨Sle.set _ (Sle.refl _) (fun u z=>by cases z),?_⟩;refine iteT (B:=False) ?_;refine⟨_,rfl,_,_,rfl,rfl,?_,nxt hi ⟨rfl,?_⟩⟩
   ·rw[hA1,hBe];exact qAg (by have:z.cps.size=z.length:=rfl;omega)
   ·rw[List.range_succ,hAc];rfl
  ·rintro ys H' ⟨rfl,rfl⟩ r hr';refine⟨r,qV6 z,rfl,?_,nf _ ?_ _ (Ext.new hr' _)⟩
   ·refine SqL.of ?_;rw[upd_same];unfold qV6;rw[hBf];rfl
   ·unfold qFl;rw[decide_eq_true (by omega),decide_eq_true (by omega)];rfl
 ·refine⟨_,rfl,_,_,_,false,rfl,ty,kt,false,rfl,iteT (iteT ?_)⟩;have:=q H (Ext.refl _);rw[hn]at this;exact this
end
end My
namespace My
open PySem L2
def ltV:V->V->Bool
 | .str a,.str b=>decide (a.cps.toList<b.cps.toList)
 | _,_=>false
def qVl (xs:List V):Prop:=(∀ i,i<xs.length->nmV (xs.getD i .non)=true)/\∀ i,i+1<xs.length->ltV (xs.getD i .non) (xs.getD (i+1) .non)=true
theorem qEl {x:V} (h:nmV x=true):∃ s:Str,x = .str s:=by
 cases x with
 | str s=>exact⟨s,rfl⟩
 | _=>cases h
theorem qQi {xs:List V} {i:Nat} (hi:i<xs.length):xs.getD i .non∈xs:=by
 rw[hAa,hA3 hi];exact hBy hi
theorem qS9 (xs:List V):cutV xs (some 1) none=xs.drop 1:=by
 unfold cutV;have e:HT.sIx xs.length 0 (some 1)=min 1 xs.length:=HT.sIx_nat xs.length 0 1;have e2:HT.sIx xs.length xs.length none=xs.length:=rfl;rw[e,e2];cases xs with
 | nil=>rfl
 | cons x r =>
  rw[show min 1 (x :: r).length=1 by simp];exact hAf (by simp)
def qJa (K:PySem.W.Frag):Sp:=fun vs H Q _=>∃ x:V,vs=[x]/\((∃ (a:Addr) (xs:List V),x = .ref a/\H a=some (.lst xs)/\xs.length<=100/\(∀ y∈xs,∃ D,Item H y D)/\∀ (b:Bool) H',(b=true↔qVl xs)->Ext H H'->Q (.bl b) H') \/
 (∃ t,TyOf K H x t/\PySem.W.kitOne K t (.type "list")=some false/\Q (.bl false) H))
section
variable {P:Program} {w:World} {K:PySem.W.Frag} {mg:Str->Option Value} {base:Heap} {f f1:Addr} {fd fd1:FuncData}
theorem qRy:FnScope ["thing"] ["thing"] (qAd qEq):=⟨rfl,rfl,rfl,by decide +kernel,rfl,by decide +kernel,by decide +kernel⟩
theorem qP3 (F:Fun K "is_row" "is_row" qEq f fd) (G:Cl P w K mg base CX0 1 f1 fd1 ["thing"] qKg "is_name") (mi:mg "isinstance" = none) (mL:mg "list" = none) (ma:mg "all" = none) (mz:mg "zip" = none) :
  FnOk P w K mg base CX0 2 f fd ["thing"] (qJa K):=by
 refine F.ok qRy (fun vs H Q E h=>?_) (fun cdv A outer s H vs Q E hr h=>?_)
 ·obtain⟨x,rfl,_⟩:=h;rfl
 obtain⟨x,rfl,h⟩:=h;refine⟨_,qAc (qBf (PW.pt (qEi (qCn (qCa (qAj qBs rfl mi qBt (qAa (pv 0) (qAa (qDo (v:=.ty "list") rfl mL qA4 rfl) qAb)))))
   (qD1 (qCn (qCa (qAj (qD7 rfl) rfl ma qD8 (qAa
    (qCo (N:=["thing"]) (sc:=qAd qEq) (N':=["one"]) (sub:=[none]) rfl rfl (CmpOk.of (by decide +kernel)) rfl (qAx (pv 0))
     (fun C s H fp=>⟨qAi (i:=0) (by show(["one"]:List Str).Nodup;decide) rfl (Or.inl rfl),qA5,qAs G hr rfl .nil qAu (qAa (pv 0) qAb)⟩)) qAb)))))))
   (qAf (qAq qF9)) qAt)
  (qAf (qAq (qAj (qD7 rfl) rfl ma qD8 (qAa
   (qCo (N:=["thing"]) (sc:=qAd qEq) (N':=["one","other"]) (sub:=[none,none]) rfl rfl (CmpOk.of (by decide +kernel)) rfl (qUk rfl mz (qAa (pv 0) (qAa (qA7 qBp (pv 0) (qBb qAe) qBi) qAb)))
    (fun C s H fp=>⟨(show PG _ _ (qRd K 2 _) from qCh rfl (qAo (qAi (i:=0) (by show(["one","other"]:List Str).Nodup;decide) rfl (Or.inl rfl)) (qAo (qAi (i:=1) (by show(["one","other"]:List Str).Nodup;decide) rfl (Or.inl rfl)) qBq))),qA5,qCe qNs (pv 0) (pv 1) (qAr _)⟩)) qAb)))),?_⟩
 rcases h with ⟨a,xs,rfl,ha,hl,hI,q⟩ | ⟨t,ty,kt,q⟩
 ·refine⟨_,rfl,_,_,_,true,rfl,.lst ha,qCv _ _,true,rfl,qD9 ?_⟩;have hz:xs.length<=sizeLine:=hAq (qAg (by omega));refine⟨_,rfl,a,rfl,⟨_,SqL.of ha⟩,?_⟩;refine qFb (xs:=xs) (fun v=>some (V.bl (nmV v))) (SqL.of ha) hz (fun x hx H1 he C hC=>?_) fun H1 he=>?_
  ·obtain⟨D,hD⟩:=hI x hx;refine⟨Sle.set _ (Sle.refl _) (fun u z=>by cases z),iteT (B:=False) ⟨_,rfl,x,D,rfl,hD.ext he,fun H' he'=>hC H' he'⟩⟩
  ·intro r hr1;have e1:xs.filterMap (fun v=>some (V.bl (nmV v)))=(xs.map nmV).map V.bl:=by
    rw[hBf];exact congrFun (List.filterMap_eq_map (f:=V.bl∘nmV)) xs
   rw[e1];refine⟨r,xs.map nmV,rfl,SqL.of upd_same,(xs.map nmV).all id,rfl,?_⟩;have e2:=he.trans (Ext.new hr1 (.lst ((xs.map nmV).map V.bl)));refine qBw (fun c=>?_) (fun c=>?_)
   ·refine q false _ ⟨fun z=>(by cases z),fun z=>?_⟩ e2;have z2:(xs.map nmV).all id=true:=by
     rw[List.all_map,hB9];intro y hy;obtain⟨i,hi,rfl⟩:=List.mem_iff_getElem.mp hy;have:=z.1 i hi;rw[hAa,hA3 hi]at this;exact this
    rw[z2]at c;cases c
   ·have z2:(xs.map nmV).all id=true:=by
     cases h3:(xs.map nmV).all id with
     | true=>rfl
     | false=>rw[h3]at c;exact absurd rfl c
    have hnm:∀ i,i<xs.length->nmV (xs.getD i .non)=true:=fun i hi=>by
     rw[List.all_map,hB9]at z2;exact z2 _ (qQi hi)
    refine⟨_,rfl,_,rfl,_,rfl,a,xs,rfl,SqL.of (e2 _ _ ha),fun r2 hr2=>?_⟩;rw[qS9];have e3:=e2.trans (Ext.new hr2 (.lst (xs.drop 1)));refine⟨a,r2,xs,xs.drop 1,rfl,SqL.of (e3 _ _ ha),SqL.of upd_same,?_⟩;have hm:min xs.length (xs.drop 1).length=xs.length - 1:=by rw[hC8];omega
    rw[hm];refine qMn (fun i ys H'=>Ext (upd (upd H1 r (.lst ((xs.map nmV).map V.bl))) r2 (.lst (xs.drop 1))) H'/\ys=(List.range i).map fun i=>V.bl (ltV (xs.getD i .non) (xs.getD (i+1) .non))) ⟨Ext.refl _,rfl⟩ (fun i ys H' _ p=>⟨SqL.of (p.1 _ _ (e3 _ _ ha)),SqL.of (p.1 _ _ upd_same)⟩) ?_ ?_
    ·rintro i ys H' T hi ⟨p,rfl⟩ hT;have d1:(xs.drop 1).getD i .non=xs.getD (i+1) .non:=by
      rw[hAa,List.getElem?_drop,hAa,Nat.add_comm]
     obtain⟨s1,h1⟩:=qEl (hnm i (by omega));obtain⟨s2,h2⟩:=qEl (hnm (i+1) (by omega));refine⟨T,_,rfl,SqT.of upd_same,rfl,_,_,rfl,_,_,rfl,rfl,?_⟩;refine⟨Sle.set _ (Sle.set _ (Sle.refl _) (fun u z=>by cases z)) (fun u z=>by cases z),iteT (B:=False) ⟨_,rfl,_,rfl,s1,s2,h1,d1.trans h2,?_,nxt hi ⟨p.trans (Ext.new hT _),?_⟩⟩⟩
     ·rw[hA1,hBe];exact qAg (by omega)
     ·rw[List.range_succ,hAc,List.map_singleton,h1,h2];rfl
    ·rintro ys H' ⟨p,rfl⟩ r3 hr3;refine⟨r3,(List.range (xs.length - 1)).map fun i=>ltV (xs.getD i .non) (xs.getD (i+1) .non),rfl,?_,q _ _ ?_ (e3.trans (p.trans (Ext.new hr3 _)))⟩
     ·rw[hBf];exact SqL.of upd_same
     ·rw[List.all_map,hB9];constructor
      ·intro z;exact⟨hnm,fun i hi=>z i (hBj.mpr (by omega))⟩
      ·intro z i hi;exact z.2 i (by have:=hBj.mp hi;omega)
 ·exact⟨_,rfl,_,_,_,false,rfl,ty,kt,false,rfl,iteT (iteT q)⟩
end
end My
namespace My
open PySem L2
end My
namespace My
open PySem L2
theorem tkN (K:PySem.W.Frag):PySem.W.kitOne K (.type "NoneType") (.type "tuple")=some false:=by kernel_rfl
theorem tkI (K:PySem.W.Frag):PySem.W.kitOne K (.type "int") (.type "tuple")=some false:=by kernel_rfl
theorem tkS (K:PySem.W.Frag):PySem.W.kitOne K (.type "str") (.type "tuple")=some false:=by kernel_rfl
theorem tkL (K:PySem.W.Frag):PySem.W.kitOne K (.type "list") (.type "tuple")=some false:=by kernel_rfl
def qMe (H:Hp) (x:V):Prop:=x = .non\/(∃ b,x = .bl b)\/(∃ i,x = .int i)\/(∃ s:Str,x = .str s)\/∃ (a:Addr) (xs:List V),x = .ref a/\H a=some (.tup xs)
theorem qMe.ext {H H':Hp} {x:V} (h:qMe H x) (e:Ext H H'):qMe H' x:=by
 rcases h with h | h | h | h | ⟨a,xs,h1,h2⟩
 ·exact .inl h
 ·exact .inr (.inl h)
 ·exact .inr (.inr (.inl h))
 ·exact .inr (.inr (.inr (.inl h)))
 ·exact .inr (.inr (.inr (.inr ⟨a,xs,h1,e _ _ h2⟩)))
theorem qMe.ty {H:Hp} {x:V} (K:PySem.W.Frag) (h:qMe H x):∃ t,TyOf K H x t/\PySem.W.kitOne K t (.type "list")=some false:=by
 rcases h with rfl | ⟨b,rfl⟩ | ⟨i,rfl⟩ | ⟨s,rfl⟩ | ⟨a,xs,rfl,h2⟩
 ·exact⟨_,.non,(nk K).2⟩
 ·exact⟨_,.bl b,(bk K).2⟩
 ·exact⟨_,.int i,(ik K).2⟩
 ·exact⟨_,.str s,sk K⟩
 ·exact⟨_,.tup h2,(tk K).2⟩
def qTo (H:Hp) (x:V):Prop:=x = .non\/(∃ i,x = .int i)\/(∃ s:Str,x = .str s)\/∃ (a:Addr) (xs:List V),x = .ref a/\H a=some (.lst xs)
theorem qTo.ty {H:Hp} {x:V} (K:PySem.W.Frag) (h:qTo H x):∃ t,TyOf K H x t/\PySem.W.kitOne K t (.type "tuple")=some false:=by
 rcases h with rfl | ⟨i,rfl⟩ | ⟨s,rfl⟩ | ⟨a,xs,rfl,h2⟩
 ·exact⟨_,.non,tkN K⟩
 ·exact⟨_,.int i,tkI K⟩
 ·exact⟨_,.str s,tkS K⟩
 ·exact⟨_,.lst h2,tkL K⟩
def RLk (H:Hp) (x:V) (o:Option (List V)):Prop:=(∃ (a:Addr) (xs:List V),o=some xs/\x = .ref a/\H a=some (.lst xs)/\xs.length<=100/\∀ y∈xs,∃ D,Item H y D)\/(o=none/\qMe H x)
theorem RLk.ext {H H':Hp} {x:V} {o:Option (List V)} (h:RLk H x o) (e:Ext H H'):RLk H' x o:=by
 rcases h with ⟨a,xs,h1,h2,h3,h4,h5⟩ | ⟨h1,h2⟩
 ·exact .inl ⟨a,xs,h1,h2,e _ _ h3,h4,fun y hy=>by obtain⟨D,hD⟩:=h5 y hy;exact⟨D,hD.ext e⟩⟩
 ·exact .inr ⟨h1,h2.ext e⟩
def qX6 (o:Option (List V)):Prop:=∃ xs,o=some xs/\qVl xs
theorem qV9 {K:PySem.W.Frag} {H:Hp} {x:V} {o:Option (List V)} {Q E} (h:RLk H x o) (q:∀ (b:Bool) H',(b=true↔qX6 o)->Ext H H'->Q (.bl b) H'):qJa K [x] H Q E:=by
 rcases h with ⟨a,xs,rfl,rfl,h3,h4,h5⟩ | ⟨rfl,h2⟩
 ·refine⟨_,rfl,.inl ⟨a,xs,rfl,h3,h4,h5,fun b H' e he=>q b H' (e.trans ⟨fun z=>⟨xs,rfl,z⟩,fun ⟨ys,e1,z⟩=>?_⟩) he⟩⟩;cases e1;exact z
 ·obtain⟨t,ty,kt⟩:=h2.ty K;exact⟨_,rfl,.inr ⟨t,ty,kt,q false H ⟨fun z=>(by cases z),fun ⟨ys,e1,z⟩=>(by cases e1)⟩ (Ext.refl _)⟩⟩
theorem strs_inj {a b:List Str} (e:a.map V.str=b.map V.str):a=b:=by
 have:=congrArg (List.map fun v:V=>match v with | .str s=>s | _=>"") e
 simpa [hBf,Function.comp_def] using this
theorem RLk.ls {H:Hp} {x:V} {ss:List Str} (h:RLk H x (some (ss.map V.str))):∃ a,x = .ref a/\LsS H a ss:=by
 rcases h with ⟨a,xs,h1,h2,h3,_⟩ | ⟨h1,_⟩
 ·cases h1;exact⟨a,h2,h3⟩
 ·cases h1
theorem qNg {xs:List V} (h:qVl xs):∃ ss:List Str,xs=ss.map V.str:=by
 have all:∀ x∈xs,∃ s:Str,x = .str s:=fun x hx=>by
  obtain⟨i,hi,rfl⟩:=List.getElem_of_mem hx;have:=h.1 i hi;rw[hAa,hA3 hi]at this;exact qEl this
 clear h
 induction xs with
 | nil=>exact⟨[],rfl⟩
 | cons x xs ih =>
  obtain⟨s,rfl⟩:=all x hA6;obtain⟨ss,rfl⟩:=ih fun y hy=>all y (hA5 _ hy)
  exact⟨s :: ss,rfl⟩
end My
namespace L2
open PySem PySem.Spec PyProof.Rows
section
variable {X:Cx}
theorem qFy (hc:X.calm=true):qB9 X (.builtin "min") (fun xs H Q=>∃ (p:Addr) (a b:Str),xs=[.ref p]/\SqL X.K H p [.str a,.str b]/\Q (.str (if b.cps.toList<a.cps.toList then b else a)) H):=by
 intro pins s σ H xs us Q I r h;obtain⟨l,a,b,rfl,hq,q⟩:=h;obtain⟨u,rfl,rx⟩:=qC0 r;cases rx;obtain⟨its,rv,pl,hz⟩:=I.list hq;obtain⟨u1,u2,rfl,⟨t1,rfl⟩,⟨t2,rfl⟩⟩:=qLi rv;have hlI:l≠s.heap.objs.size:=by
  obtain⟨o,n,e,_⟩:=pl;exact hAi (Heap.lt_size e)
 refine call_min_walk (wpAny_pyIter_list pl.isList ?_);refine⟨s.heap.objs.size,_,_,_,_,_,fun i j=>decide ((([a,b]:List Str).getD i "").cps.toList<(([a,b]:List Str).getD j "").cps.toList),rfl,Walks.list (A:=X.A.in1) (I.ok.hd hc) _ l hlI [Value.str a t1,.str b t2].toArray,⟨⟨_,Heap.get?_push_size _ rfl,rfl,rfl⟩,pl.isList.at fun o e=>Heap.get?_push_of_some _ e⟩,?_,(by show 0<2;decide),?_,fun v h' tk hP hk=>?_⟩
 ·intro c hc';show c<(s.heap.push _).objs.size;rw[Heap.size_push];simp only[hA9,hAv,or_false]at hc';rcases hc' with rfl | rfl
  ·exact hB8 _
  ·obtain⟨o,n,e,_⟩:=pl;exact hAs (Heap.lt_size e)
 ·intro i j vi vj s' Q' E' hi hj hq';have pick:∀ {k:Nat} {v:Value},[Value.str a t1,.str b t2].toArray[k]?=some v->∃ t,v = .str (([a,b]:List Str).getD k "") t:=fun {k v} e=>by
   match k,e with
   | 0,e=>cases e;exact⟨t1,rfl⟩
   | 1,e=>cases e;exact⟨t2,rfl⟩
   | k+2,e=>simp at e
  obtain⟨w1,rfl⟩:=pick hi;obtain⟨w2,rfl⟩:=pick hj;exact(show wpAny _ _ (compareOp .Lt _ _) _ _ _ from PySem.P.lt_str hq')
 ·have kp:∀ b o,s.heap.get? b=some o->h'.get? b=some o:=fun b o e=>hk b o (fun hm=>by
   rw[hA7]at hm;exact absurd (hm▸Heap.lt_size e) (hB3 _)) (Heap.get?_push_of_some _ e)
  refine⟨.str (if b.cps.toList<a.cps.toList then b else a),H,I.kept (t':=tk) kp,?_,q⟩;have hP':[Value.str a t1,.str b t2].toArray[if decide (b.cps.toList<a.cps.toList)=true then 1 else 0]?=some v:=hP;by_cases e:b.cps.toList<a.cps.toList
  ·rw[if_pos e];rw[if_pos (decide_eq_true e)]at hP';cases hP';exact⟨_,rfl⟩
  ·rw[if_neg e];rw[if_neg (by rw[decide_eq_false e];decide)]at hP';cases hP';exact⟨_,rfl⟩
theorem qFz (hc:X.calm=true):qB9 X (.builtin "max") (fun xs H Q=>∃ (p:Addr) (a b:Str),xs=[.ref p]/\SqL X.K H p [.str a,.str b]/\Q (.str (if a.cps.toList<b.cps.toList then b else a)) H):=by
 intro pins s σ H xs us Q I r h;obtain⟨l,a,b,rfl,hq,q⟩:=h;obtain⟨u,rfl,rx⟩:=qC0 r;cases rx;obtain⟨its,rv,pl,hz⟩:=I.list hq;obtain⟨u1,u2,rfl,⟨t1,rfl⟩,⟨t2,rfl⟩⟩:=qLi rv;have hlI:l≠s.heap.objs.size:=by
  obtain⟨o,n,e,_⟩:=pl;exact hAi (Heap.lt_size e)
 refine call_max_walk (wpAny_pyIter_list pl.isList ?_);refine⟨s.heap.objs.size,_,_,_,_,_,fun i j=>decide ((([a,b]:List Str).getD j "").cps.toList<(([a,b]:List Str).getD i "").cps.toList),rfl,Walks.list (A:=X.A.in1) (I.ok.hd hc) _ l hlI [Value.str a t1,.str b t2].toArray,⟨⟨_,Heap.get?_push_size _ rfl,rfl,rfl⟩,pl.isList.at fun o e=>Heap.get?_push_of_some _ e⟩,?_,(by show 0<2;decide),?_,fun v h' tk hP hk=>?_⟩
 ·intro c hc';show c<(s.heap.push _).objs.size;rw[Heap.size_push];simp only[hA9,hAv,or_false]at hc';rcases hc' with rfl | rfl
  ·exact hB8 _
  ·obtain⟨o,n,e,_⟩:=pl;exact hAs (Heap.lt_size e)
 ·intro i j vi vj s' Q' E' hi hj hq';have pick:∀ {k:Nat} {v:Value},[Value.str a t1,.str b t2].toArray[k]?=some v->∃ t,v = .str (([a,b]:List Str).getD k "") t:=fun {k v} e=>by
   match k,e with
   | 0,e=>cases e;exact⟨t1,rfl⟩
   | 1,e=>cases e;exact⟨t2,rfl⟩
   | k+2,e=>simp at e
  obtain⟨w1,rfl⟩:=pick hi;obtain⟨w2,rfl⟩:=pick hj;exact(show wpAny _ _ (compareOp .Gt _ _) _ _ _ from PySem.P.gt_str hq')
 ·have kp:∀ b o,s.heap.get? b=some o->h'.get? b=some o:=fun b o e=>hk b o (fun hm=>by
   rw[hA7]at hm;exact absurd (hm▸Heap.lt_size e) (hB3 _)) (Heap.get?_push_of_some _ e)
  refine⟨.str (if a.cps.toList<b.cps.toList then b else a),H,I.kept (t':=tk) kp,?_,q⟩;have hP':[Value.str a t1,.str b t2].toArray[if decide (a.cps.toList<b.cps.toList)=true then 1 else 0]?=some v:=hP;by_cases e:a.cps.toList<b.cps.toList
  ·rw[if_pos e];rw[if_pos (decide_eq_true e)]at hP';cases hP';exact⟨_,rfl⟩
  ·rw[if_neg e];rw[if_neg (by rw[decide_eq_false e];decide)]at hP';cases hP';exact⟨_,rfl⟩
end
section
variable {prog:Program} {w:World} {A:Around} {E:Value->Shared->Prop} {s:Shared}
theorem qIp (hne:t≠it):∀ (n i:Nat) (s:Shared) (Q:List Value->Shared->Prop),s.heap.IsListIter it t i->s.heap.IsList t items->i+n<=items.size ->
  (∀ h',h'.IsListIter it t (i+n)->Heap.ExtBut it s.heap h'->Q ((items.toList.drop i).take n) { s with heap:=h' })->wpAny (model prog w) A (draw (.ref it) n) Q E s
 | 0,i,s,Q,hit,_,_,hQ=>by
  show wpAny _ _ (pure []) Q E s;exact wpAny_pure (by simpa using hQ s.heap hit (fun _ _ _ e=>e))
 | n+1,i,s,Q,hit,ht,hle,hQ=>by
  have hlt:i<items.size:=by omega
  show wpAny _ _ (pyNext (.ref it) >>= _) Q E s;refine wpAny_bind (wpAny_pyNext_list_item hit ht (x:=items[i]) (by simp[hlt]) fun h₁ hit₁ hs₁=>?_);refine wpAny_bind (wpAny_holding (qIp hne n (i+1) _ _ hit₁ (ht.extBut hs₁.extBut hne) (by omega) fun h₂ hit₂ hs₂=>wpAny_pure ?_));have hd:items.toList.drop i=items[i] :: items.toList.drop (i+1):=by simp[List.drop_eq_getElem_cons,hlt]
  have:=hQ h₂ (by rw[show i+(n+1)=i+1+n by omega];exact hit₂) (fun b o hb e=>hs₂ b o hb (hs₁.extBut b o hb e));rw[hd,List.take_succ_cons]at this;exact this
theorem qEz (hh:A.handled=none) (ht:s.heap.IsList t items)
  (hQ:∀ h',Heap.ExtBut s.heap.objs.size s.heap h'->Q items.toList { s with heap:=h' }):wpAny (model prog w) A (unpackItems (.ref t) items.size none) Q E s:=by
 have hlt:t≠s.heap.objs.size:=by obtain⟨o,ho,_⟩:=ht;exact hAi (Heap.lt_size ho)
 unfold unpackItems;refine wpAny_bind ?_
 ·unfold notIterableAtAll;refine wpAny_bind (wpAny_specialOf ht.typeIs PySem.F.slot_list_iter.lookup ?_);refine wpAny_pure ?_;simp only[Bool.false_eq_true,if_false];refine wpAny_bind (wpAny_holding (wpAny_pyIter_list ht ?_));refine wpAny_bind (wpAny_holding (qIp hlt items.size 0 _ _ ⟨_,Heap.get?_push_size _ rfl,rfl,rfl⟩ (ht.push _) (by omega) fun h₁ hit₁ hs₁=>?_));have hall:List.take items.size (List.drop 0 items.toList)=items.toList:=by
   rw[List.drop_zero];exact hAf (by simp)
  rw[hall];rw[if_neg (by simp)];have ht₁:h₁.IsList t items:=(ht.push _).extBut hs₁ hlt;refine wpAny_bind (wpAny_holding (wpAny_pyNext_list_end hh hit₁ ht₁ (by simp) fun h₂ he₂=>?_));simp only[Option.isSome_none,Bool.false_eq_true,if_false];refine wpAny_pure (hQ h₂ fun b o hb e=>he₂ b o hb (hs₁ b o hb (Heap.get?_push_of_some _ e)))
end
def qX3 (K:PySem.W.Frag) (n:Nat) (t:TGs):TG:=fun v σ H Q=>∃ a xs,v = .ref a/\SqL K H a xs/\xs.length=n/\t xs σ H Q
theorem qSa (hc:X.calm=true) (h:PGs X es t)
  (hn:(assignEach es X.env).length=n:=by rfl) (hst:(assignEach es X.env).findIdx? (·.1)=none:=by rfl):PG X (.Tuple es k pos) (qX3 X.K n t):=by
 intro pins s σ H v u Q I r hw;obtain⟨a,xs,e1,hq,hl,hw⟩:=hw;subst e1;cases r;obtain⟨its,rv,pl,hz⟩:=I.list hq;rw[assign_Tuple];refine wpAny_bind (wpAny_standAt ?_);unfold unpack;have hsz:(assignEach es X.env).length=its.toArray.size:=by simp[hn,<-hl,rv.length]
 rw[hsz,hst];refine wpAny_bind (wpAny_holding (qEz (I.ok.hd hc) pl.isList fun h' hx=>?_));have I1:Inv X pins σ H { s with heap:=h' }:=I.kept (t':=s.toks) fun b o e=>hx b o (hAi (Heap.lt_size e)) e
 exact h pins _ σ H xs _ Q I1 (by simpa using rv) hw
end L2
namespace My
open PySem L2
def enT (t:Tr):List Str:=[t.2.1,t.2.2]
def qC1 (net:List Tr):List Str:=(net.map enT).flatten
theorem qGq (net:List Tr) (t:Tr):qC1 (net++[t])=qC1 net++enT t:=by
 unfold qC1;rw[hAc,List.flatten_append];simp
theorem qOp (net:List Tr):(qC1 net).length=2*net.length:=by
 refine qGz (P:=fun net=>(qC1 net).length=2*net.length) rfl (fun l t ih=>?_) net;rw[qGq,hA2,hA2,ih];show 2*l.length+2=2*(l.length+1);omega
def qKh:Sp:=fun vs H Q _=>∃ (p:Addr) (net:List Tr),vs=[.ref p]/\qAy H p net/\net.length<=12/\∀ r H',Ext H H'->H r=none->LsS H' r (qC1 net)->Q (.ref r) H'
def qTm (net:List Tr) (ties:List Str):List Tr:=net.filter fun t=>decide (t.1∈ties)
def qTn (net:List Tr) (ties:List Str):List Tr:=net.filter fun t=>!decide (t.1∈ties)
def shF (net:List Tr) (ties:List Str) (x:Str):Bool:=decide (x∈qC1 (qTm net ties)) && decide (x∈qC1 (qTn net ties))
def nfS (p:Str->Bool):V->Option V
 | .str n=>if p n=true then some (V.str n) else none
 | _=>none
theorem qOn (p:Str->Bool):∀ ss:List Str,(ss.map V.str).filterMap (nfS p)=(ss.filter p).map V.str
 | []=>rfl
 | x :: r=>by
  rw[hB2,hAz,qOn p r];by_cases e:p x=true
  ·simp[nfS,e]
  ·simp[nfS,e]
def qGx:Sp:=fun vs H Q _=>∃ (p q:Addr) (net:List Tr) (ties:List Str),vs=[.ref p,.ref q]/\qAy H p net/\net.length<=12/\LsS H q ties/\∀ r ps H',Ext H H'->H r=none->qE3 net ps->qPd ps->LsS H' r (ps.filter (shF net ties))->Q (.ref r) H'
section
variable {P:Program} {w:World} {K:PySem.W.Frag} {mg:Str->Option Value} {base:Heap} {f f1 f2 f3:Addr} {fd fd1 fd2 fd3:FuncData}
theorem qPo:FnScope ["net"] ["net"] (qAd qDn):=⟨rfl,rfl,rfl,by decide +kernel,rfl,by decide +kernel,by decide +kernel⟩
abbrev eoN:List Str:=["tie","one","other","end"]
theorem qNz (F:Fun K "ends_of" "ends_of" qDn f fd):FnOk P w K mg base CX0 1 f fd ["net"] qKh:=by
 refine F.ok qPo (fun vs H Q E h=>?_) (fun cdv A outer s H vs Q E hr h=>?_)
 ·obtain⟨p,net,rfl,_⟩:=h;rfl
 obtain⟨p,net,rfl,⟨as,hp,pr⟩,hl,q⟩:=h;refine⟨_,qAf (qAq
  (qWg qK7 rfl (N:=["net"]) (sc:=qAd qDn) (N':=eoN) (sub:=[none,none,none,none]) rfl rfl (CmpOk.of (by decide +kernel)) rfl (qAx (pv 0))
   (fun C s H fp=>⟨(show PG _ _ (qRd K 3 _) from qCh rfl (qAo (qAi (i:=0) (by show eoN.Nodup;decide) rfl (Or.inl rfl)) (qAo (qAi (i:=1) (by show eoN.Nodup;decide) rfl (Or.inl rfl)) (qAo (qAi (i:=2) (by show eoN.Nodup;decide) rfl (Or.inl rfl)) qBq)))),qA5,
    fun acc=>qHf rfl rfl (show PI _ _ _ (qVo K _) from qGj (qB5 (qAa (pv 1) (qAa (pv 2) qAb)))) (qAi (i:=3) (by show eoN.Nodup;decide) rfl (Or.inl rfl)) qA5 (qKu rfl (pv 3)) (fun _=>rfl) rfl rfl (fun _=>rfl) (fun _ _ _ _ _ h=>h) (fun _ _ _ _ _ h=>h) (fun _=>rfl)⟩))),?_⟩
 have lA:as.length=net.length:=pr.length;refine⟨_,rfl,p,rfl,⟨_,SqL.of hp⟩,?_⟩;refine qK8 (xs:=as.map V.ref) (fun i ss σ H'=>Ext H H'/\(∃ x0 x1 x2 x3:Option V,σ=[x0,x1,x2,x3])/\ss=(qC1 (net.take i)).map V.str) ⟨Ext.refl _,⟨none,none,none,none,rfl⟩,rfl⟩ (fun i ss σ H' _ h=>SqL.of (h.1 _ _ hp)) ?_ ?_
 ·rintro i z ss σ H' hx ⟨he,⟨x0,x1,x2,x3,rfl⟩,rfl⟩;obtain⟨a,t,rfl,ht,ha⟩:=qB8 pr hx;have hi:=qBg ht;refine⟨a,_,rfl,SqT.of (he _ _ ha),rfl,_,_,rfl,_,_,rfl,_,_,rfl,rfl,iteT (B:=False) ?_⟩;refine⟨_,rfl,_,rfl,(by show 2<=sizeLine;decide),fun T hT=>⟨T,rfl,⟨_,SqT.of upd_same⟩,?_⟩⟩;have X1:=Ext.new hT (.tup [V.str t.2.1,V.str t.2.2]);have ls:=qOp (net.take i);rw[hAp]at ls;refine qJz (xs:=[V.str t.2.1,V.str t.2.2]) (fun j ss σ H2=>Ext (upd H' T (.tup [V.str t.2.1,V.str t.2.2])) H2/\(∃ y:Option V,σ=[some (.str t.1),some (.str t.2.1),some (.str t.2.2),y])/\ss=(qC1 (net.take i)++(enT t).take j).map V.str)
   ⟨Ext.refl _,⟨_,rfl⟩,by simp⟩ (fun j ss σ H2 _ h=>SqT.of (h.1 _ _ upd_same)) ?_ ?_
  ·rintro j z ss2 σ H2 hz ⟨h2,⟨y,rfl⟩,rfl⟩;have hj:j<2:=qBg hz;rcases(show j=0\/j=1 by omega) with rfl | rfl
   ·cases hAg hz;refine iteT (B:=False) ⟨_,rfl,?_,nxg hj ⟨h2,⟨_,rfl⟩,?_⟩⟩
    ·rw[hA1,hA2];exact qAg (by show(qC1 (net.take i)).length+0<=1000;omega)
    ·rw[hAc,hAc,List.take_zero];simp[enT]
   ·cases hAg hz;refine iteT (B:=False) ⟨_,rfl,?_,nxg hj ⟨h2,⟨_,rfl⟩,?_⟩⟩
    ·rw[hA1,hA2];exact qAg (by show(qC1 (net.take i)).length+1<=1000;omega)
    ·simp[enT]
  ·rintro ss2 σ H2 ⟨h2,⟨y,rfl⟩,rfl⟩;refine nxg (qBg hx) ⟨he.trans (X1.trans h2),⟨_,_,_,_,rfl⟩,?_⟩;rw[qA0 ht,qGq];rfl
 ·rintro ss σ H' ⟨he,_,rfl⟩ r hr1;rw[hA1,lA,hAf (hA4 _)];exact q r _ (he.trans (Ext.new hr1 _)) (he.none hr1) upd_same
theorem qGb {as:List Addr} {net:List Tr} {Q:List V->Hp->Prop} {H1:Hp} {σ0:St} {g:TG} {tt:TT} {te:TE} {p:Addr} (b:Tr->Bool) (hp:H1 p=some (.lst (as.map V.ref))) (pr:Paired (fun a t=>H1 a=some (.tup (trV t))) as net) (ln:net.length<=12)
  (hs:∀ a t,H1 a=some (.tup (trV t))->∀ C:Option V->Hp->Prop,C (if b t=true then some (.ref a) else none) H1->g (.ref a) σ0 H1 fun σ2 H2=>Sle σ0 σ2/\tt σ2 H2 fun b H3=>if b=true then te σ2 H3 (fun v H4=>C (some v) H4) else C none H3)
  (hd:∀ as':List Addr,Paired (fun a t=>H1 a=some (.tup (trV t))) as' (net.filter b)->Q (as'.map V.ref) H1):qCq (Itl K p) σ0 g tt te Q H1:=by
 have lA:as.length=net.length:=pr.length;refine qBc (xs:=as.map V.ref) (fun j ys H2=>H2=H1/\∃ as':List Addr,ys=as'.map V.ref/\Paired (fun a t=>H1 a=some (.tup (trV t))) as' ((net.take j).filter b)) ⟨rfl,[],rfl,.nil⟩ (fun j ys H2 _ h=>by rw[h.1];exact SqL.of hp) ?_ ?_
 ·rintro j x ys H2 hx ⟨rfl,as',rfl,pr'⟩;obtain⟨a,t,rfl,ht,ha⟩:=qB8 pr hx;have hj:=qBg ht;have la':as'.length=_:=pr'.length;have lf:=List.length_filter_le b (net.take j);rw[hAp]at lf;refine hs a t ha (fun o H4=>match o with | some v=>(as'.map V.ref).length<sizeLine/\Nxt (as.map V.ref).length j _ (as'.map V.ref++[v]) H4 | none=>Nxt (as.map V.ref).length j _ (as'.map V.ref) H4) ?_;have tk:(net.take (j+1)).filter b=(net.take j).filter b++(if b t=true then [t] else []):=by
   rw[qA0 ht,List.filter_append];congr 1;rw[List.filter_cons];rfl
  by_cases e:b t=true
  ·rw[if_pos e];refine⟨by rw[hA1];exact qAg (by omega),nxt (qBg hx) ⟨rfl,as'++[a],by rw[hAc];rfl,?_⟩⟩;rw[tk,if_pos e];exact Paired.snoc pr' ha
  ·rw[if_neg e];refine nxt (qBg hx) ⟨rfl,as',rfl,?_⟩;rw[tk,if_neg e,hC2];exact pr'
 ·rintro ys H2 ⟨rfl,as',rfl,pr'⟩;rw[hA1,lA,hAf (hA4 _)]at pr';exact hd as' pr'
theorem qG6:FnScope ["net","ties","own","others"] ["net","ties"] (qAd qCr):=⟨rfl,rfl,rfl,by decide +kernel,rfl,by decide +kernel,by decide +kernel⟩
theorem qNx (F:Fun K "shared_points" "shared_points" qCr f fd) (G1:Cl P w K mg base CX0 1 f1 fd1 ["net"] qKh "ends_of")
  (G2:Cl P w K mg base CX0 1 f2 fd2 ["net"] qDy "points"):FnOk P w K mg base CX0 2 f fd ["net","ties"] qGx:=by
 refine F.ok qG6 (fun vs H Q E h=>?_) (fun cdv A outer s H vs Q E hr h=>?_)
 ·obtain⟨p,q,net,ties,rfl,_⟩:=h;rfl
 obtain⟨p,q,net,ties,rfl,nt,hl,hq,qq⟩:=h;refine⟨_,qAc (qAl (i:=2) qG6.nd rfl (Or.inr rfl) (qAs G1 hr rfl .nil qAu (qAa
   (qCo (N:=["net","ties","own","others"]) (sc:=qAd qCr) (N':=["tie","ties"]) (sub:=[none,some 1]) rfl rfl (CmpOk.of (by decide +kernel)) rfl (qAx (pv 0))
    (fun C s H fp=>⟨qAi (i:=0) (by show(["tie","ties"]:List Str).Nodup;decide) rfl (Or.inl rfl),qCt (qAn (show OpR _ (compareOp .In) (rIn K false) from qCp) (qA9 (show IxR _ (qQ2 K) from qCb) (pv 0) qAe (fun _ _=>rfl)) (pv 1) (by with_unfolding_all rfl)),pv 0⟩)) qAb)))
  (qAc (qAl (i:=3) qG6.nd rfl (Or.inr rfl) (qAs G1 hr rfl .nil qAu (qAa
   (qCo (N:=["net","ties","own","others"]) (sc:=qAd qCr) (N':=["tie","ties"]) (sub:=[none,some 1]) rfl rfl (CmpOk.of (by decide +kernel)) rfl (qAx (pv 0))
    (fun C s H fp=>⟨qAi (i:=0) (by show(["tie","ties"]:List Str).Nodup;decide) rfl (Or.inl rfl),qCt (qAn (show OpR _ (compareOp .NotIn) (rIn K true) from qEu) (qA9 (show IxR _ (qQ2 K) from qCb) (pv 0) qAe (fun _ _=>rfl)) (pv 1) (by with_unfolding_all rfl)),pv 0⟩)) qAb)))
  (qAf (qAq (qCo (N:=["net","ties","own","others"]) (sc:=qAd qCr) (N':=["point","own","others"]) (sub:=[none,some 2,some 3]) rfl rfl (CmpOk.of (by decide +kernel)) rfl (qAx (qAs G2 hr rfl .nil qAu (qAa (pv 0) qAb)))
    (fun C s H fp=>⟨qAi (i:=0) (by show(["point","own","others"]:List Str).Nodup;decide) rfl (Or.inl rfl),qCt (PW.pt (qEt (qAn (show OpR _ (compareOp .In) (rIn K false) from qCp) (pv 0) (pv 1) (by with_unfolding_all rfl)) (qC4 (qAn (show OpR _ (compareOp .In) (rIn K false) from qCp) (pv 0) (pv 2) (by with_unfolding_all rfl))))),pv 0⟩))))),?_⟩
 obtain⟨as,hp,pr⟩:=id nt;have la:as.length=net.length:=pr.length;have inT:∀ x:Str,inV (.str x) (ties.map V.str)=decide (x∈ties):=fun x=>qC8 x ties
 refine⟨_,rfl,p,rfl,⟨_,SqL.of hp⟩,?_⟩;refine qGb (K:=K) (fun t=>decide (t.1∈ties)) hp pr hl (fun a t ha C hC=>?_) (fun as1 pr1 r1 hr1=>?_)
 ·refine⟨Sle.set _ (Sle.refl _) (fun u z=>by cases z),_,rfl,a,_,_,_,rfl,rfl,SqT.of ha,(by exact atI_nat (j:=0) rfl),_,rfl,q,_,rfl,.inl (SqL.of hq),rfl,flat_strs ties,_,rfl,?_⟩;rw[show(if false=true then !inV (V.str t.1) (ties.map V.str) else inV (V.str t.1) (ties.map V.str))=decide (t.1∈ties) from inT t.1];refine qBw (fun c=>?_) (fun c=>?_)
  ·rw[if_pos c]at hC;exact⟨_,rfl,hC⟩
  ·rw[if_neg c]at hC;exact hC
 have X1:=Ext.new hr1 (.lst (as1.map V.ref));have ln1:(qTm net ties).length<=12:=hAt (List.length_filter_le _ _) hl;have ln2:(qTn net ties).length<=12:=hAt (List.length_filter_le _ _) hl;refine⟨r1,qTm net ties,rfl,⟨as1,upd_same,Paired.mapP pr1 fun a t z=>X1 _ _ z⟩,ln1,fun ow H2 e2 ow0 how=>?_⟩;have E2:=X1.trans e2;refine⟨_,rfl,p,rfl,⟨_,SqL.of (E2 _ _ hp)⟩,?_⟩;refine qGb (K:=K) (fun t=>!decide (t.1∈ties)) (E2 _ _ hp) (Paired.mapP pr fun a t z=>E2 _ _ z) hl (fun a t ha C hC=>?_) (fun as3 pr3 r3 hr3=>?_)
 ·refine⟨Sle.set _ (Sle.refl _) (fun u z=>by cases z),_,rfl,a,_,_,_,rfl,rfl,SqT.of ha,(by exact atI_nat (j:=0) rfl),_,rfl,q,_,rfl,.inl (SqL.of (E2 _ _ hq)),rfl,flat_strs ties,_,rfl,?_⟩;rw[show(if true=true then !inV (V.str t.1) (ties.map V.str) else inV (V.str t.1) (ties.map V.str))=!decide (t.1∈ties) from congrArg not (inT t.1)];refine qBw (fun c=>?_) (fun c=>?_)
  ·rw[if_pos c]at hC;exact⟨_,rfl,hC⟩
  ·rw[if_neg c]at hC;exact hC
 have X3:=Ext.new hr3 (.lst (as3.map V.ref));refine⟨r3,qTn net ties,rfl,⟨as3,upd_same,Paired.mapP pr3 fun a t z=>X3 _ _ z⟩,ln2,fun ot H4 e4 ot0 hot=>?_⟩;have E4:=E2.trans (X3.trans e4);have how4:=(X3.trans e4) _ _ how;refine⟨_,rfl,p,net,rfl,nt.ext E4,hl,fun pl ps H5 e5 pl0 hpl pok psr lps=>⟨pl,rfl,⟨_,SqL.of hpl⟩,?_⟩⟩;have how5:=e5 _ _ how4;have hot5:=e5 _ _ hot;refine qLj (nfS (shF net ties)) (SqL.of hpl) (by rw[hA1];exact hAq (qAg (by omega))) (fun x hx C hC=>?_) (fun r hr'=>?_)
 ·obtain⟨n,hn,rfl⟩:=hAj.mp hx;refine⟨Sle.set _ (Sle.refl _) (fun u z=>by cases z),_,rfl,_,rfl,ow,_,rfl,.inl (SqL.of how5),rfl,flat_strs _,_,rfl,?_⟩;rw[show(if false=true then !inV (V.str n) ((qC1 (qTm net ties)).map V.str) else inV (V.str n) ((qC1 (qTm net ties)).map V.str))=decide (n∈qC1 (qTm net ties)) from qC8 n _];have hC':C (if shF net ties n=true then some (V.str n) else none) H5:=hC;unfold shF at hC';refine qBw (fun c=>?_) (fun c=>?_)
  ·refine⟨_,rfl,_,rfl,ot,_,rfl,.inl (SqL.of hot5),rfl,flat_strs _,_,rfl,?_⟩;rw[show(if false=true then !inV (V.str n) ((qC1 (qTn net ties)).map V.str) else inV (V.str n) ((qC1 (qTn net ties)).map V.str))=decide (n∈qC1 (qTn net ties)) from qC8 n _];rw[c,Bool.true_and]at hC';refine qBw (fun d=>?_) (fun d=>?_)
   ·rw[if_pos d]at hC';exact⟨_,rfl,hC'⟩
   ·rw[if_neg d]at hC';exact hC'
  ·rw[Bool.not_eq_true]at c;rw[c,Bool.false_and,if_neg (by decide)]at hC';exact qD9 hC'
 ·rw[qOn];exact qq r ps _ (E4.trans (e5.trans (Ext.new hr' _))) (E4.none (e5.none hr')) pok psr upd_same
end
end My
namespace My
open PySem L2
section
variable {σ0:St} {g:TG} {tt:TT} {te:TE} {Q:List V->Hp->Prop} {H1:Hp}
theorem qEa {K:PySem.W.Frag} {a:Addr} {xs:List V} (Pv:Nat->List V->Hp->Prop) (h0:Pv 0 [] H1) (hl:∀ i ys H,i<=xs.length->Pv i ys H->SqT K H a xs)
  (hs:∀ i x ys H,xs[i]?=some x->Pv i ys H->g x σ0 H fun σ2 H2=>Sle σ0 σ2/\tt σ2 H2 fun b H3=>if b=true then te σ2 H3 (fun v H4=>ys.length<sizeLine/\Nxt xs.length i Pv (ys++[v]) H4) else Nxt xs.length i Pv ys H3)
  (hd:∀ ys H,Pv xs.length ys H->Q ys H):qCq (Itt K a) σ0 g tt te Q H1:=by
 refine⟨fun i m ys H=>m=xs.length - i/\i<=xs.length/\Pv i ys H,⟨xs.length,by simp,hAk _,h0⟩,?_⟩;rintro i m ys H ⟨rfl,hi,p⟩;have q:=hl i ys H hi p;by_cases hlt:i<xs.length
 ·refine .inr ⟨⟨xs,xs[i],q,by simp[hlt]⟩,fun x H' y=>?_⟩;obtain⟨e,y⟩:=y;subst e;exact hs i x ys _ (y xs q) p
 ·have e:i=xs.length:=by omega
  subst e;exact .inl ⟨⟨xs,q,hA4 _⟩,hd ys H p⟩
end
theorem qAy.snoc {H H':Hp} {k a:Addr} {as:List Addr} {net:List Tr} {t:Tr} (hk:H k=some (.lst (as.map V.ref))) (pr:Paired (fun a t=>H a=some (.tup (trV t))) as net) (e:Ext H H') (ha:H' a=some (.tup (trV t))):qAy (upd H' k (.lst (as.map V.ref++[V.ref a]))) k (net++[t]):=by
 have hk':=e _ _ hk;have ne:∀ {b:Addr} {xs:List V},H' b=some (.tup xs)->b≠k:=fun h z=>by rw[z,hk']at h;cases h
 refine⟨as++[a],by rw[upd_same,hAc];rfl,?_⟩;refine Paired.snoc (Paired.mapP pr fun b u z=>?_) ?_
 ·have z':=e _ _ z;rw[qAh (ne z')];exact z'
 ·rw[qAh (ne ha)];exact ha
def mnS (a b:Str):Str:=if b.cps.toList<a.cps.toList then b else a
def mxS (a b:Str):Str:=if a.cps.toList<b.cps.toList then b else a
def exT (ties:List Str) (g:Str->Str) (t:Tr) (x:Str):Str:=if t.1∈ties then g x else x
def mvT (ties:List Str) (g:Str->Str) (t:Tr):Tr:=(t.1,mnS (exT ties g t t.2.1) (exT ties g t t.2.2),mxS (exT ties g t t.2.1) (exT ties g t t.2.2))
def qJn (net:List Tr) (ties:List Str) (g:Str->Str):List Tr:=net.map (mvT ties g)
def plD (pl:List (Str×Str)):List (Key×V):=pl.map fun p=>(Sum.inr p.1,V.str p.2)
def gP (pl:List (Str×Str)) (x:Str):Str:=((pl.find? fun p=>decide (p.1=x)).map (·.2)).getD x
theorem qNo (x:Str):∀ pl:List (Str×Str),(valV (plD pl) (Sum.inr x)).getD (.str x) = .str (gP pl x)
 | []=>rfl
 | p :: r=>by
  have ih:=qNo x r;unfold gP at ih ⊢;show(valV ((Sum.inr p.1,V.str p.2) :: plD r) (Sum.inr x)).getD (.str x)=_;by_cases e:p.1=x
  ·rw[qDw (by rw[e]),hBu,decide_eq_true e];rfl
  ·rw[qC9 (fun z=>e (Sum.inr.inj z)),hBu,decide_eq_false e,ih]
def qGy:Sp:=fun vs H Q _=>∃ (p q d:Addr) (net:List Tr) (ties:List Str) (pl:List (Str×Str)),vs=[.ref p,.ref q,.ref d]/\qAy H p net/\net.length<=12/\LsS H q ties/\H d=some (.dK (plD pl))/\∀ r H',Ext H H'->H r=none->qAy H' r (qJn net ties (gP pl))->Q (.ref r) H'
section
variable {P:Program} {w:World} {K:PySem.W.Frag} {mg:Str->Option Value} {base:Heap} {f f1 f2 f3:Addr} {fd fd1 fd2 fd3:FuncData}
abbrev moN:List Str:=["net","ties","places","told","tie","one","other","ends"]
theorem qEf:FnScope moN ["net","ties","places"] (qAd qEp):=⟨rfl,rfl,rfl,by decide +kernel,rfl,by decide +kernel,by decide +kernel⟩
theorem qP1 (F:Fun K "moved" "moved" qEp f fd) (mmi:mg "min" = none) (mma:mg "max" = none):FnOk P w K mg base CX0 1 f fd ["net","ties","places"] qGy:=by
 refine F.ok qEf (fun vs H Q E h=>?_) (fun cdv A outer s H vs Q E hr h=>?_)
 ·obtain⟨p,q,d,net,ties,pl,rfl,_⟩:=h;rfl
 obtain⟨p,q,d,net,ties,pl,rfl,nt,hl,hq,hd,qq⟩:=h;have hu1:A.units+3+1<cLine:=by have:=hr.un;have e:(A.deeper (PyProof.Rows.envOfC "moved" (qAd qEp) s.heap.objs.size f cdv)).units=A.units+3:=rfl;omega
 refine⟨_,qAc (qAl (i:=3) qEf.nd rfl (Or.inl rfl) (qA3 qAb))
  (qAc (qCd PassesOwn.never rfl (qAx (pv 0)) (qCh rfl (qAo (qAi (i:=4) qEf.nd rfl (Or.inr rfl)) (qAo (qAi (i:=5) qEf.nd rfl (Or.inl rfl)) (qAo (qAi (i:=6) qEf.nd rfl (Or.inl rfl)) qBq))))
   (qAc (qL1 (i:=7) (N:=moN) (sc:=qAd qEp) (N':=["end","tie","ties","places"]) (sub:=[none,some 4,some 1,some 2]) rfl rfl (CmpOk.of (by decide +kernel)) rfl (qGj (qB5 (qAa (pv 5) (qAa (pv 6) qAb))))
    (fun C s H fp=>⟨qAi (i:=0) (by show(["end","tie","ties","places"]:List Str).Nodup;decide) rfl (Or.inl rfl),qA5,qHc (qAn (show OpR _ (compareOp .In) (rIn K false) from qCp) (pv 1) (pv 2) (by with_unfolding_all rfl)) (qHd hu1 (pv 3) (pv 0) (pv 0) ⟨rfl,rfl,rfl,rfl⟩) (pv 0)⟩) qEf.nd rfl (Or.inl rfl))
   (qAf (qC5 (qIb hB7 hB4 hB5 qB6 (pv 3) (qAa (qB5 (qAa (pv 4) (qAa (qAj (qFy rfl) rfl mmi qCg (qAa (pv 7) qAb)) (qAa (qAj (qFz rfl) rfl mma qF3 (qAa (pv 7) qAb)) qAb)))) qAb))))))
  (qAf (qAq (pv 3)))),?_⟩
 obtain⟨as,hp,pr⟩:=id nt;have la:as.length=net.length:=pr.length;refine⟨hAk _,fun to hto=>?_⟩;have X0:=Ext.new hto (.lst []);refine⟨_,rfl,p,rfl,⟨_,SqL.of (X0 _ _ hp)⟩,?_⟩;refine qCj (xs:=as.map V.ref) (fun i σ H3=>∃ (x4 x5 x6 x7:Option V),σ=[some (.ref p),some (.ref q),some (.ref d),some (.ref to),x4,x5,x6,x7]/\Ext H H3/\qAy H3 to (qJn (net.take i) ties (gP pl))) ⟨_,_,_,_,rfl,X0,⟨[],upd_same,.nil⟩⟩ ?_ ?_ ?_
 ·rintro i σ H3 _ ⟨_,_,_,_,_,e3,_⟩;exact SqL.of (e3 _ _ hp)
 ·rintro i x σ H3 hx ⟨x4,x5,x6,x7,rfl,e3,nt3⟩;obtain⟨a,t,rfl,ht,ha⟩:=qB8 pr hx;have hi:=qBg ht;obtain⟨bs,hb1,hb2⟩:=id nt3;have lb:bs.length=_:=hb2.length;unfold qJn at lb;rw[hA1,hAp]at lb;refine⟨a,_,rfl,SqT.of (e3 _ _ ha),rfl,_,_,rfl,_,_,rfl,_,_,rfl,rfl,?_⟩;refine⟨_,rfl,_,rfl,(by show 2<=sizeLine;decide),fun T hT=>⟨T,rfl,⟨_,SqT.of upd_same⟩,?_⟩⟩;have X1:=Ext.new hT (.tup [V.str t.2.1,V.str t.2.2]);have hq1:=X1 _ _ (e3 _ _ hq);have hd1:=X1 _ _ (e3 _ _ hd);refine qEa (xs:=[V.str t.2.1,V.str t.2.2]) (fun j ys H2=>H2=upd H3 T (.tup [V.str t.2.1,V.str t.2.2])/\ys=((enT t).take j).map fun x=>V.str (exT ties (gP pl) t x)) ⟨rfl,rfl⟩ (fun j ys H2 _ h=>by rw[h.1];exact SqT.of upd_same) ?_ ?_
  ·rintro j y ys H2 hy ⟨rfl,rfl⟩;have hj:j<2:=qBg hy;obtain⟨z,rfl,hz⟩:∃ z:Str,y = .str z/\(enT t).take (j+1)=(enT t).take j++[z]:=by
    rcases(show j=0\/j=1 by omega) with rfl | rfl
    ·cases hAg hy;exact⟨_,rfl,rfl⟩
    ·cases hAg hy;exact⟨_,rfl,rfl⟩
   have ll:(((enT t).take j).map fun x=>V.str (exT ties (gP pl) t x)).length<sizeLine:=by
    rw[hA1,hAp];exact qAg (by show min j 2<=1000;omega)
   refine⟨Sle.set _ (Sle.refl _) (fun u z=>by cases z),iteT (B:=False) ?_⟩;refine⟨_,rfl,_,rfl,q,_,rfl,.inl (SqL.of hq1),rfl,flat_strs ties,_,rfl,?_⟩;rw[show(if false=true then !inV (V.str t.1) (ties.map V.str) else inV (V.str t.1) (ties.map V.str))=decide (t.1∈ties) from qC8 t.1 ties];refine qBw (fun c=>?_) (fun c=>?_)
   ·have c':t.1∈ties:=of_decide_eq_true c;refine⟨_,rfl,d,rfl,.inl ⟨_,.inl hd1⟩,_,rfl,_,rfl,_,qI2.k (k:=Sum.inr z) hd1,ll,nxt hj ⟨rfl,?_⟩⟩;rw[qNo,hz,hAc];unfold exT;rw[List.map_singleton,if_pos c']
   ·have c':¬t.1∈ties:=fun y=>c (decide_eq_true y)
    refine⟨_,rfl,ll,nxt hj ⟨rfl,?_⟩⟩;rw[hz,hAc];unfold exT;rw[List.map_singleton,if_neg c']
  ·rintro ys H2 ⟨rfl,rfl⟩ L hL;have X2:=X1.trans (Ext.new hL (.lst [V.str (exT ties (gP pl) t t.2.1),V.str (exT ties (gP pl) t t.2.2)]));refine⟨_,rfl,.inl ⟨rfl,_,SqL.of (X2 _ _ hb1)⟩,_,rfl,_,rfl,L,_,_,rfl,SqL.of upd_same,_,rfl,L,_,_,rfl,SqL.of upd_same,(by show 3<=sizeLine;decide),fun T3 hT3=>?_⟩;have X3:=X2.trans (Ext.new hT3 (.tup (trV (mvT ties (gP pl) t))));refine⟨to,_,_,rfl,rfl,X3 _ _ hb1,by rw[hA1];exact qAg (by omega),?_⟩;refine⟨_,_,_,_,rfl,(e3.trans X3).over hto _,?_⟩;unfold qJn;rw[qA0 ht,hAc];exact qAy.snoc hb1 hb2 X3 upd_same
 ·rintro σ H3 ⟨_,_,_,_,rfl,e3,nt3⟩;rw[hA1,la,hAf (hA4 _)]at nt3;exact⟨_,rfl,qq to H3 e3 hto nt3⟩
end
end My
namespace My
open PySem L2
def qRk (net:List Tr) (o:Option (List V)) (ss:List Str):Prop:=o=some (ss.map V.str)/\qVl (ss.map V.str)/\∀ s∈ss,s∈net.map (·.1)
def qRs:Sp:=fun vs H Q _=>∃ (p:Addr) (net:List Tr) (x:V) (o:Option (List V)),vs=[.ref p,x]/\qAy H p net/\net.length<=12/\RLk H x o/\∀ (b:Bool) H',(b=true↔∃ ss,qRk net o ss)->Ext H H'->Q (.bl b) H'
abbrev nmF:Tr->Str:=fun t=>t.1
def qTi (net:List Tr) (x y:V) (a b:Str):Prop:=x = .str a/\y = .str b/\qFl a=true/\qFl b=true/\qJt net a/\qJt net b/\qDg net a≠qDg net b
def qTh (H:Hp) (net:List Tr) (x y:V) (Q:VK):Prop:=(∀ a b r H',qTi net x y a b->Ext H H'->H r=none->qAy H' r (qJn net (net.map nmF) (gP [(b,a)]))->Q (.ref r) H')/\∀ H',Ext H H'->(¬∃ a b,qTi net x y a b)->Q .non H'
def qQv:Sp:=fun vs H Q _=>∃ (p:Addr) (net:List Tr) (x y:V) (D E:PyData),vs=[.ref p,x,y]/\qAy H p net/\net.length<=12/\Item H x D/\Item H y E/\qTh H net x y Q
theorem qQ7 (a b:Str):qFn [] [(Sum.inr b,V.str a)]=plD [(b,a)]:=rfl
theorem qOk {ps:List Str} {f:Str->Str} {x:Str}:(valV (hD ps f) (Sum.inr x)).isSome=decide (x∈ps):=by
 rw[qFu];by_cases c:x∈ps
 ·rw[if_pos c,decide_eq_true c];rfl
 ·rw[if_neg c,decide_eq_false c];rfl
abbrev vB:List Value:=[.type "ValueError",.type "Exception",.type "BaseException",.type "object"]
theorem pts_uniq {net:List Tr} {ps ps':List Str} (h:qE3 net ps) (r:qPd ps) (h':qE3 net ps') (r':qPd ps'):ps=ps':=qKp r r' fun x=>(h.2 x).trans (h'.2 x).symm
theorem qRk.uniq {net:List Tr} {o:Option (List V)} {ss ss':List Str} (h:qRk net o ss) (h':qRk net o ss'):ss=ss':=strs_inj (hAg (h.1.symm.trans h'.1))
theorem qK5 (names:List Str):∀ ss:List Str,(ss.map V.str).filterMap (fun v=>some (V.bl (inV v (names.map V.str))))=(ss.map fun n=>decide (n∈names)).map V.bl
 | []=>rfl
 | x :: r=>by
  rw[hB2,hAz,qK5 names r];show V.bl (inV (.str x) (names.map V.str)) :: _=_;rw[qC8];rfl
def qTc (net:List Tr) (o:Option (List V)) (ss:List Str) (a b:Str):Prop:=qRk net o ss/\∃ ps,qE3 net ps/\qPd ps/\ps.filter (shF net ss)=[a,b]
def qTb (H:Hp) (net:List Tr) (o:Option (List V)) (Q:VK):Prop:=(∀ ss a b r H',qTc net o ss a b->Ext H H'->H r=none->qAy H' r (qJn net ss (gP [(a,b),(b,a)]))->Q (.ref r) H')/\∀ H',Ext H H'->(¬∃ ss a b,qTc net o ss a b)->Q .non H'
def qKe:Sp:=fun vs H Q _=>∃ (p:Addr) (net:List Tr) (x:V) (o:Option (List V)),vs=[.ref p,x]/\qAy H p net/\net.length<=12/\RLk H x o/\qTb H net o Q
def PtV (x:V) (D:PyData):Prop:=(∃ s:Str,x = .str s/\D = .str s/\Sm s)\/(x = .non/\D = .none)
def qPf (net:List Tr) (x:V) (o:Option (List V)) (z:V) (ss:List Str) (a b:Str):Prop:=qRk net o ss/\x = .str a/\z = .str b/\qFl b=true/\¬qJt net b/\∃ ps,qE3 net ps/\qPd ps/\ps.filter (shF net ss)=[a]
def qPe (H:Hp) (net:List Tr) (x:V) (o:Option (List V)) (z:V) (Q:VK):Prop:=(∀ ss a b r H',qPf net x o z ss a b->Ext H H'->H r=none->qAy H' r (qJn net ss (gP [(a,b)]))->Q (.ref r) H')/\∀ H',Ext H H'->(¬∃ ss a b,qPf net x o z ss a b)->Q .non H'
def qM5:Sp:=fun vs H Q _=>∃ (p:Addr) (net:List Tr) (x y z:V) (o:Option (List V)) (D E:PyData),vs=[.ref p,x,y,z]/\qAy H p net/\net.length<=12/\PtV x E/\RLk H y o/\Item H z D/\(∀ s,qJt net s->PyData.strOk s=true)/\qPe H net x o z Q
theorem PtV.dr {K:PySem.W.Frag} {H:Hp} {x:V} {D:PyData} (h:PtV x D):DR K H x D:=by
 rcases h with ⟨s,rfl,rfl,_⟩ | ⟨rfl,rfl⟩
 ·exact .str s
 ·exact .non
theorem PtV.sh {x:V} {D:PyData} (h:PtV x D):SeqAt.shaped (.list [D])=true:=by
 rcases h with ⟨s,rfl,rfl,m⟩ | ⟨rfl,rfl⟩
 ·exact qGd (r:=[s]) fun y hy=>by rw[hA7]at hy;rw[hy];exact m.ok
 ·decide +kernel
theorem PtV.eqv {x:V} {D:PyData} (h:PtV x D) (cs:List Str):PyData.eqv (rowD cs) (.list [D])=true↔∃ a,x = .str a/\cs=[a]:=by
 rcases h with ⟨s,rfl,rfl,m⟩ | ⟨rfl,rfl⟩
 ·have:PyData.eqv (rowD cs) (.list [.str s])=decide (cs=[s]):=qJ1 cs [s];rw[this,decide_eq_true_iff];constructor
  ·intro e;exact⟨s,rfl,e⟩
  ·rintro⟨a,e,z⟩;cases e;exact z
 ·constructor
  ·intro z;cases cs with
   | nil=>cases z
   | cons c r=>cases z
  ·rintro⟨a,e,_⟩;cases e
section
variable {P:Program} {w:World} {K:PySem.W.Frag} {mg:Str->Option Value} {base:Heap} {f f1 f2 f3 f4 f5 C:Addr} {fd fd1 fd2 fd3 fd4 fd5:FuncData} {newId inN:String} {bmN:List Value}
theorem qV8:FnScope ["net","thing"] ["net","thing"] (qAd qR3):=⟨rfl,rfl,rfl,by decide +kernel,rfl,by decide +kernel,by decide +kernel⟩
theorem qUx (F:Fun K "are_ties" "are_ties" qR3 f fd) (G1:Cl P w K mg base CX0 2 f1 fd1 ["thing"] (qJa K) "is_row")
  (G2:Cl P w K mg base CX0 1 f2 fd2 ["net"] qMy "ties_of") (ma:mg "all" = none):FnOk P w K mg base CX0 3 f fd ["net","thing"] qRs:=by
 refine F.ok qV8 (fun vs H Q E h=>?_) (fun cdv A outer s H vs Q E hr h=>?_)
 ·obtain⟨p,net,x,o,rfl,_⟩:=h;rfl
 obtain⟨p,net,x,o,rfl,nt,hl,rl,q⟩:=h;have hr1:=hr.mono (j:=1) (by decide);refine⟨_,qAf (qAq (qKt (qAs G1 hr rfl .nil qAu (qAa (pv 1) qAb)) (qKs (qAj (qD7 rfl) rfl ma qD8 (qAa
  (qCo (N:=["net","thing"]) (sc:=qAd qR3) (N':=["tie","net"]) (sub:=[none,some 0]) rfl rfl (CmpOk.of (by decide +kernel)) rfl (qAx (pv 1))
   (fun C s H fp=>⟨qAi (i:=0) (by show(["tie","net"]:List Str).Nodup;decide) rfl (Or.inl rfl),qA5,qCe (show OpR _ (compareOp .In) (rIn K false) from qCp) (pv 0) (qAs G2 hr1 rfl .nil qAu (qAa (pv 1) qAb)) (by with_unfolding_all rfl)⟩)) qAb))))),?_⟩
 refine⟨_,rfl,?_⟩;dsimp only[qTs];refine qV9 rl (fun b H1 eb e1=>⟨_,rfl,?_⟩);refine qBw (fun c=>?_) (fun c=>?_)
 ·obtain⟨xs,rfl,rp⟩:=eb.mp c;obtain⟨ss,rfl⟩:=qNg rp;have sz:(ss.map V.str).length<=100:=by
   rcases rl with ⟨a,xs,z,_,_,l,_⟩ | ⟨z,_⟩
   ·cases z;exact l
   ·cases z
  obtain⟨a,rfl,hs⟩:=(rl.ext e1).ls;refine⟨_,rfl,a,rfl,⟨_,SqL.of hs⟩,?_⟩;refine qFb (xs:=ss.map V.str) (fun v=>some (V.bl (inV v ((net.map (·.1)).map V.str)))) (SqL.of hs) (hAq (qAg (by omega))) (fun v hv H2 e2 C hC=>?_) fun H2 e2 r hr'=>?_
  ·obtain⟨n,hn,rfl⟩:=hAj.mp hv;refine⟨Sle.set _ (Sle.refl _) (fun u z=>by cases z),iteT (B:=False) ⟨_,rfl,_,rfl,p,net,rfl,nt.ext (e1.trans e2),hl,fun tl H3 e3 tl0 htl=>?_⟩⟩;exact⟨tl,_,rfl,.inl (SqL.of htl),rfl,flat_strs _,hC H3 e3⟩
  ·have e4:=qK5 (net.map (·.1)) ss;rw[e4];refine⟨r,_,rfl,SqL.of upd_same,q _ _ ⟨fun z=>⟨ss,rfl,rp,fun n hn=>?_⟩,fun ⟨ss',h1,_,h3⟩=>?_⟩ (e1.trans (e2.trans (Ext.new hr' _)))⟩
   ·rw[List.all_map,hB9]at z;exact of_decide_eq_true (z n hn)
   ·cases strs_inj (hAg h1);rw[List.all_map,hB9];exact fun n hn=>decide_eq_true (h3 n hn)
 ·exact q false H1 ⟨fun z=>(by cases z),fun ⟨ss,h1,h2,_⟩=>absurd (eb.mpr ⟨_,h1,h2⟩) c⟩ e1
theorem qQ0:FnScope ["net","point","other","home"] ["net","point","other"] (qAd qLy):=⟨rfl,rfl,rfl,by decide +kernel,rfl,by decide +kernel,by decide +kernel⟩
theorem qSp (F:Fun K "laid_together" "laid_together" qLy f fd) (G1:Cl P w K mg base CX0 2 f1 fd1 ["net"] qM4 "homes")
  (G2:Cl P w K mg base CX0 1 f2 fd2 ["thing"] qKg "is_name")
  (G3:Cl P w K mg base CX0 1 f3 fd3 ["net","ties","places"] qGy "moved")
  (G4:Cl P w K mg base CX0 1 f4 fd4 ["net"] qMy "ties_of"):FnOk P w K mg base CX0 3 f fd ["net","point","other"] qQv:=by
 refine F.ok qQ0 (fun vs H Q E h=>?_) (fun cdv A outer s H vs Q E hr h=>?_)
 ·obtain⟨p,net,x,y,D,E',rfl,_⟩:=h;rfl
 obtain⟨p,net,x,y,D,E',rfl,nt,hl,ix,iy,q1,q2⟩:=h;have hr1:=hr.mono (j:=1) (by decide);have hr2:=hr;refine⟨_,(qAc (qAl (i:=3) qQ0.nd rfl (Or.inl rfl) (qAs G1 hr2 rfl .nil qAu (qAa (pv 0) qAb))) (qAc (qBf (PW.pt (qEi (qCn (qCa (qAs G2 hr1 rfl .nil qAu (qAa (pv 1) qAb)))) (qEi (qCn (qCa (qAs G2 hr1 rfl .nil qAu (qAa (pv 2) qAb)))) (qEi (qQ3 (qIc (qGa hr) (pv 1) (pv 3)) (by with_unfolding_all rfl)) (qD1 (qQ3 (qIc (qGa hr) (pv 2) (pv 3)) (by with_unfolding_all rfl))))))) (qAf (qAq qCi)) qAt) (qAc (qBf (qAn qB0 (qHe (qGa hr) (pv 3) (pv 1) (fun _ _=>rfl)) (qHe (qGa hr) (pv 3) (pv 2) (fun _ _=>rfl)) (qAr _)) (qAf (qAq qCi)) qAt) (qAf (qAq (qAs G3 hr1 rfl .nil qAu (qAa (pv 0) (qAa (qAs G4 hr1 rfl .nil qAu (qAa (pv 0) qAb)) (qAa (qJj (qE7 (pv 2) (pv 1) qJh) rfl rfl (by simp) (by decide)) qAb))))))))),?_⟩;refine⟨_,rfl,p,net,rfl,nt,hl,fun ho ps H1 e1 ho0 hho pok pl=>?_⟩;refine⟨_,rfl,x,D,rfl,ix.ext e1,fun H2 e2=>⟨_,rfl,?_⟩⟩;have E2:=e1.trans e2;refine qBw (fun c=>iteT ?_) (fun c1=>?_)
 ·refine q2 H2 E2 ?_;rintro⟨a,b,rfl,_,h,_⟩;have c':(!qFl a)=true:=c;rw[h]at c';cases c'
 have n1:nmV x=true:=by simpa using c1
 obtain⟨a,rfl⟩:=qEl n1;refine⟨_,rfl,y,E',rfl,iy.ext E2,fun H3 e3=>⟨_,rfl,?_⟩⟩;have E3:=E2.trans e3;refine qBw (fun c=>iteT ?_) (fun c2=>?_)
 ·refine q2 H3 E3 ?_;rintro⟨a',b,_,rfl,_,h,_⟩;have c':(!qFl b)=true:=c;rw[h]at c';cases c'
 have n2:nmV y=true:=by simpa using c2
 obtain⟨b,rfl⟩:=qEl n2;have hho3:=e3 _ _ (e2 _ _ hho);refine⟨_,rfl,_,rfl,ho,_,rfl,qI2.k (k:=Sum.inr a) hho3,_,rfl,?_⟩;rw[qOk];refine qBw (fun c=>iteT ?_) (fun c3=>?_)
 ·refine q2 H3 E3 ?_;rintro⟨a',b',h1,_,_,_,h,_⟩;cases h1;have:=(pok.2 a).mpr h;simp[this]at c
 have ma:a∈ps:=by simpa using c3
 refine⟨_,rfl,_,rfl,ho,_,rfl,qI2.k (k:=Sum.inr b) hho3,_,rfl,?_⟩;rw[qOk];refine qBw (fun c=>?_) (fun c4=>?_)
 ·refine q2 H3 E3 ?_;rintro⟨a',b',_,h2,_,_,_,h,_⟩;cases h2;have:=(pok.2 b).mpr h;simp[this]at c
 have mb:b∈ps:=by simpa using c4
 refine⟨_,rfl,_,rfl,ho,.str (qDg net a),rfl,(by have:=qI2.k (k:=Sum.inr a) hho3;rw[qFu,if_pos ma]at this;exact this),_,rfl,_,rfl,ho,.str (qDg net b),rfl,(by have:=qI2.k (k:=Sum.inr b) hho3;rw[qFu,if_pos mb]at this;exact this),rfl,_,rfl,?_⟩;refine qBw (fun c=>?_) (fun c5=>?_)
 ·refine q2 H3 E3 ?_;rintro⟨a',b',h1,h2,_,_,_,_,h⟩;cases h1;cases h2;have:=of_decide_eq_true c;injection this with this
  exact h this
 have ne:qDg net a≠qDg net b:=fun z=>c5 (decide_eq_true (congrArg V.str z))
 refine⟨_,rfl,_,rfl,p,net,rfl,nt.ext E3,hl,fun tl H4 e4 tl0 htl=>?_⟩;refine fun dd hdd=>?_
 refine⟨_,rfl,_,rfl,upd_same,[(Sum.inr b,V.str a)],rfl,(by show 1<=15;decide),?_⟩;rw[qQ7];have E4:=E3.trans e4;have X5:Ext H4 (upd (upd H4 dd (.dK [])) dd (.dK (plD [(b,a)]))):=fun b' o' hb=>by
  have:=qAk hb hdd;rw[qAh this,qAh this];exact hb
 refine⟨p,tl,dd,net,net.map nmF,[(b,a)],rfl,nt.ext (E4.trans X5),hl,X5 _ _ htl,upd_same,fun r H6 e6 r0 n6=>?_⟩;exact q1 a b r H6 ⟨rfl,rfl,n1,n2,(pok.2 a).mp ma,(pok.2 b).mp mb,ne⟩ (E4.trans (X5.trans e6)) ((E4.trans X5).none r0) n6
theorem qR0:FnScope ["net","point","ties","new"] ["net","point","ties","new"] (qAd qCm):=⟨rfl,rfl,rfl,by decide +kernel,rfl,by decide +kernel,by decide +kernel⟩
theorem qP5 (F:Fun K "set_apart" "set_apart" qCm f fd) (G1:Cl P w K mg base CX0 3 f1 fd1 ["net","thing"] qRs "are_ties")
  (G2:Cl P w K mg base CX0 1 f2 fd2 ["thing"] qKg "is_name")
  (G3:Cl P w K mg base CX0 1 f3 fd3 ["net"] qDy "points")
  (G4:Cl P w K mg base CX0 2 f4 fd4 ["net","ties"] qGx "shared_points")
  (G5:Cl P w K mg base CX0 1 f5 fd5 ["net","ties","places"] qGy "moved"):FnOk P w K mg base CX0 4 f fd ["net","point","ties","new"] qM5:=by
 refine F.ok qR0 (fun vs H Q E h=>?_) (fun cdv A outer s H vs Q E hr h=>?_)
 ·obtain⟨p,net,x,y,z,o,D,E',rfl,_⟩:=h;rfl
 obtain⟨p,net,x,y,z,o,D,E',rfl,nt,hl,px,rl,iz,pok',q1,q2⟩:=h;have hr1:=hr.mono (j:=1) (by decide);have hr2:=hr.mono (j:=2) (by decide);refine⟨_,(qAc (qBf (PW.pt (qEi (qCn (qCa (qAs G1 hr rfl .nil qAu (qAa (pv 0) (qAa (pv 2) qAb))))) (qEi (qCn (qCa (qAs G2 hr1 rfl .nil qAu (qAa (pv 3) qAb)))) (qD1 (qAn (show OpR _ (compareOp .In) (rIn K false) from qCp) (pv 3) (qAs G3 hr1 rfl .nil qAu (qAa (pv 0) qAb)) (by with_unfolding_all rfl)))))) (qAf (qAq qCi)) qAt) (qAc (qBf (qAn (qIg (qEs hr)) (qAs G4 hr2 rfl .nil qAu (qAa (pv 0) (qAa (pv 2) qAb))) (qA3 (qAa (pv 1) qAb)) (qAr _)) (qAf (qAq qCi)) qAt) (qAf (qAq (qAs G5 hr1 rfl .nil qAu (qAa (pv 0) (qAa (pv 2) (qAa (qJj (qE7 (pv 1) (pv 3) qJh) rfl rfl (by simp) (by decide)) qAb)))))))),?_⟩;refine⟨_,rfl,_,rfl,p,net,y,o,rfl,nt,hl,rl,fun b H1 eb e1=>⟨_,rfl,?_⟩⟩;refine qBw (fun c=>iteT ?_) (fun c1=>?_)
 ·refine q2 H1 e1 ?_;rintro⟨ss,a',b',are',_⟩;have:=eb.mpr ⟨ss,are'⟩;rw[this]at c;cases c
 have b1:b=true:=by simpa using c1
 obtain⟨ss,are⟩:=eb.mp b1;obtain⟨rfl,rp,sub⟩:=id are;refine⟨_,rfl,z,D,rfl,iz.ext e1,fun H2 e2=>⟨_,rfl,?_⟩⟩;have E2:=e1.trans e2;refine qBw (fun c=>iteT ?_) (fun c2=>?_)
 ·refine q2 H2 E2 ?_;rintro⟨ss',a',b',_,_,rfl,h,_⟩;have c':(!qFl b')=true:=c;rw[h]at c';cases c'
 have n2:nmV z=true:=by simpa using c2
 obtain⟨nw,rfl⟩:=qEl n2;refine⟨_,rfl,_,rfl,p,net,rfl,nt.ext E2,hl,fun sp ps H3 e3 sp0 hsp pok psr pl=>?_⟩;have E3:=E2.trans e3;refine⟨sp,_,rfl,.inl (SqL.of hsp),rfl,flat_strs ps,_,rfl,?_⟩;rw[show(if false=true then !inV (V.str nw) (ps.map V.str) else inV (V.str nw) (ps.map V.str))=decide (nw∈ps) from qC8 nw ps];refine qBw (fun c=>?_) (fun c3=>?_)
 ·refine q2 H3 E3 ?_;rintro⟨ss',a',b',_,_,h,_,h5,_⟩;cases h;exact h5 ((pok.2 nw).mp (of_decide_eq_true c))
 have np:¬qJt net nw:=fun h=>c3 (decide_eq_true ((pok.2 nw).mpr h))
 obtain⟨q,rfl,hs⟩:=(rl.ext E3).ls;refine⟨_,rfl,_,rfl,p,q,net,ss,rfl,nt.ext E3,hl,hs,fun r ps' H4 e4 r0 pok4 psr4 hr4=>?_⟩;have E4:=E3.trans e4;refine⟨_,rfl,(by show 1<=sizeLine;decide),fun l0 hl0=>?_⟩;have X5:=Ext.new hl0 (.lst [x]);have sokc:SOk (ps'.filter (shF net ss)):=fun s hs=>pok' s ((pok4.2 s).mp (hC1.mp hs).1)
 refine⟨_,_,qLd (X5 _ _ hr4),DR.lst (SqL.of upd_same) (.cons px.dr .nil),qGd sokc,px.sh,_,rfl,?_⟩;have E5:=E4.trans X5;refine qBw (fun c=>?_) (fun c4=>?_)
 ·refine q2 _ E5 ?_;rintro⟨ss',a',b',are',hx,_,_,_,ps2,pok2,psr2,fe⟩;cases are.uniq are';rw[pts_uniq pok2 psr2 pok4 psr4]at fe;have:=(px.eqv _).mpr ⟨a',hx,fe⟩;rw[if_pos rfl,this]at c;cases c
 have ev:PyData.eqv (rowD (ps'.filter (shF net ss))) (.list [E'])=true:=by
  rw[if_pos rfl]at c4
  simpa using c4
 obtain⟨a,rfl,fe⟩:=(px.eqv _).mp ev;refine⟨_,rfl,_,rfl,fun dd hdd=>?_⟩;refine⟨_,rfl,_,rfl,upd_same,[(Sum.inr a,V.str nw)],rfl,(by show 1<=15;decide),?_⟩;rw[qQ7];have X6:Ext (upd H4 l0 (.lst [V.str a])) (upd (upd (upd H4 l0 (.lst [V.str a])) dd (.dK [])) dd (.dK (plD [(a,nw)]))):=fun b' o' hb=>by
  have:=qAk hb hdd;rw[qAh this,qAh this];exact hb
 refine⟨p,q,dd,net,ss,[(a,nw)],rfl,nt.ext (E5.trans X6),hl,X6 _ _ (X5 _ _ (e4 _ _ hs)),upd_same,fun r7 H7 e7 r70 n7=>?_⟩;exact q1 ss a nw r7 H7 ⟨are,rfl,rfl,n2,np,ps',pok4,psr4,fe⟩ (E5.trans (X6.trans e7)) ((E5.trans X6).none r70) n7
abbrev tuN:List Str:=["net","ties","shared","one","other"]
theorem qE5:FnScope tuN ["net","ties"] (qAd qEg):=⟨rfl,rfl,rfl,by decide +kernel,rfl,by decide +kernel,by decide +kernel⟩
theorem qTp {a b:Str} (ne:a≠b):qFn [] [(Sum.inr a,V.str b),(Sum.inr b,V.str a)]=plD [(a,b),(b,a)]:=by
 have e:qDe (qDe ([]:List (Key×V)) (Sum.inr a) (V.str b)) (Sum.inr b) (V.str a)=plD [(a,b),(b,a)]:=by
  have e1:qDe ([]:List (Key×V)) (Sum.inr a) (V.str b)=[(Sum.inr a,V.str b)]:=rfl;rw[e1,qKr _ (by rw[qC9 (fun z=>ne (Sum.inr.inj z))];rfl)];rfl
 exact e
theorem qNw (F:Fun K "turned" "turned" qEg f fd) (G1:Cl P w K mg base CX0 2 f1 fd1 ["net","ties"] qGx "shared_points")
  (G2:Cl P w K mg base CX0 3 f2 fd2 ["net","thing"] qRs "are_ties")
  (G3:Cl P w K mg base CX0 1 f3 fd3 ["net","ties","places"] qGy "moved") (ml:mg "len" = none):FnOk P w K mg base CX0 4 f fd ["net","ties"] qKe:=by
 refine F.ok qE5 (fun vs H Q E h=>?_) (fun cdv A outer s H vs Q E hr h=>?_)
 ·obtain⟨p,net,x,o,rfl,_⟩:=h;rfl
 obtain⟨p,net,x,o,rfl,nt,hl,rl,q1,q2⟩:=h;have hr1:=hr.mono (j:=1) (by decide);have hr2:=hr.mono (j:=2) (by decide);refine⟨_,qAc (qAl (i:=2) qE5.nd rfl (Or.inl rfl) (qHc (qCa (qAs G2 hr rfl .nil qAu (qAa (pv 0) (qAa (pv 1) qAb)))) (qAs G1 hr2 rfl .nil qAu (qAa (pv 0) (qAa (pv 1) qAb))) (qA3 qAb)))
  (qAc (qBf (qAn qSf (qAj qAm rfl ml hAn (qAa (pv 2) qAb)) qAe (qAr _)) (qAf (qAq qCi)) qAt)
  (qAc (qH9 (pv 2) (qSa rfl (qAo (qAi (i:=3) qE5.nd rfl (Or.inl rfl)) (qAo (qAi (i:=4) qE5.nd rfl (Or.inl rfl)) qBq))))
  (qAf (qAq (qAs G3 hr1 rfl .nil qAu (qAa (pv 0) (qAa (pv 1) (qAa (qJj (qE7 (pv 3) (pv 4) (qE7 (pv 4) (pv 3) qJh)) rfl rfl (by simp) (by decide)) qAb)))))))),?_⟩
 refine⟨_,rfl,_,rfl,p,net,x,o,rfl,nt,hl,rl,fun b H1 eb e1=>⟨_,rfl,?_⟩⟩;refine qBw (fun c=>?_) (fun c=>?_)
 ·obtain⟨ss,are⟩:=eb.mp c;obtain⟨rfl,rp,sub⟩:=id are;obtain⟨a,rfl,hs⟩:=(rl.ext e1).ls;refine⟨_,rfl,_,rfl,p,a,net,ss,rfl,nt.ext e1,hl,hs,fun r ps H2 e2 r0 pok psr hr2'=>?_⟩;have E2:=e1.trans e2;refine⟨_,rfl,r,_,rfl,.inl (SqL.of hr2'),rfl,_,rfl,?_⟩;refine qBw (fun d=>?_) (fun d=>?_)
  ·refine q2 H2 E2 fun ⟨ss',a',b',are',ps',pok',psr',fe⟩=>?_
   cases are.uniq are';rw[<-pts_uniq pok psr pok' psr']at fe;rw[fe]at d;exact absurd d (by simp)
  ·have l2:(ps.filter (shF net ss)).length=2:=by
    have:(((ps.filter (shF net ss)).map V.str).length:Int)=2:=by simpa using d
    rw[hA1]at this;omega
   obtain⟨x1,x2,fe⟩:∃ x1 x2,ps.filter (shF net ss)=[x1,x2]:=by
    match h2:ps.filter (shF net ss),l2 with
    | [x1,x2],_=>exact⟨x1,x2,rfl⟩
   have ne:x1≠x2:=fun z=>by
    have nd:(ps.filter (shF net ss)).Nodup:=pok.1.filter _;rw[fe,z]at nd;simp at nd
   rw[fe]at hr2';refine⟨_,rfl,r,_,rfl,SqL.of hr2',rfl,_,_,rfl,_,_,rfl,rfl,?_⟩;refine⟨_,rfl,_,rfl,fun dd hdd=>⟨_,rfl,_,rfl,_,rfl,_,rfl,upd_same,[(Sum.inr x1,V.str x2),(Sum.inr x2,V.str x1)],rfl,(by show 2<=15;decide),?_⟩⟩;rw[qTp ne];have X3:Ext H2 (upd (upd H2 dd (.dK [])) dd (.dK (plD [(x1,x2),(x2,x1)]))):=fun b' o' hb=>by
    have:=qAk hb hdd;rw[qAh this,qAh this];exact hb
   refine⟨p,a,dd,net,ss,[(x1,x2),(x2,x1)],rfl,nt.ext (E2.trans X3),hl,X3 _ _ (e2 _ _ hs),upd_same,fun r3 H3 e3 r30 nt3=>?_⟩;exact q1 ss x1 x2 r3 H3 ⟨are,ps,pok,psr,fe⟩ (E2.trans (X3.trans e3)) ((E2.trans X3).none r30) nt3
 ·refine⟨hAk _,fun l0 hl0=>?_⟩;refine⟨_,rfl,l0,_,rfl,.inl (SqL.of upd_same),rfl,_,rfl,?_⟩;refine iteT (q2 _ (e1.trans (Ext.new hl0 _)) fun ⟨ss',a',b',are',_⟩=>absurd (eb.mpr ⟨ss',are'⟩) c)
end
end My
namespace My
open PySem L2
def stT (t:Tr) (x:Str):List Str:=(if t.2.1=x then [t.1] else [])++(if t.2.2=x then [t.1] else [])
def qCl (net:List Tr) (x:Str):List Str:=(net.map fun t=>stT t x).flatten
theorem qEc (net:List Tr) (t:Tr) (x:Str):qCl (net++[t]) x=qCl net x++stT t x:=by
 unfold qCl;rw[hAc,List.flatten_append];simp
theorem qTy (t:Tr) (x:Str):(stT t x).length<=2:=by
 unfold stT;rw[hA2];split <;> split <;> simp
theorem qKc (net:List Tr) (x:Str):(qCl net x).length<=2*net.length:=by
 refine qGz (P:=fun net=>(qCl net x).length<=2*net.length) (hA4 _) (fun l t ih=>?_) net;rw[qEc,hA2,hA2];have:=qTy t x;show _<=2*(l.length+1);omega
def qQr:Sp:=fun vs H Q _=>∃ (p:Addr) (net:List Tr) (x:Str),vs=[.ref p,.str x]/\qAy H p net/\net.length<=12/\∀ r H',Ext H H'->H r=none->LsS H' r (qCl net x)->Q (.ref r) H'
section
variable {P:Program} {w:World} {K:PySem.W.Frag} {mg:Str->Option Value} {base:Heap} {f f1:Addr} {fd fd1:FuncData}
theorem qT6:FnScope ["net","point"] ["net","point"] (qAd qJd):=⟨rfl,rfl,rfl,by decide +kernel,rfl,by decide +kernel,by decide +kernel⟩
abbrev stN:List Str:=["tie","one","other","end","point"]
theorem qSk (F:Fun K "star" "star" qJd f fd):FnOk P w K mg base CX0 1 f fd ["net","point"] qQr:=by
 refine F.ok qT6 (fun vs H Q E h=>?_) (fun cdv A outer s H vs Q E hr h=>?_)
 ·obtain⟨p,net,x,rfl,_⟩:=h;rfl
 obtain⟨p,net,x,rfl,⟨as,hp,pr⟩,hl,q⟩:=h;refine⟨_,qAf (qAq
  (qWg qK7 rfl (N:=["net","point"]) (sc:=qAd qJd) (N':=stN) (sub:=[none,none,none,none,some 1]) rfl rfl (CmpOk.of (by decide +kernel)) rfl (qAx (pv 0))
   (fun C s H fp=>⟨(show PG _ _ (qRd K 3 _) from qCh rfl (qAo (qAi (i:=0) (by show stN.Nodup;decide) rfl (Or.inl rfl)) (qAo (qAi (i:=1) (by show stN.Nodup;decide) rfl (Or.inl rfl)) (qAo (qAi (i:=2) (by show stN.Nodup;decide) rfl (Or.inl rfl)) qBq)))),qA5,
    fun acc=>qHf rfl rfl (show PI _ _ _ (qVo K _) from qGj (qB5 (qAa (pv 1) (qAa (pv 2) qAb)))) (qAi (i:=3) (by show stN.Nodup;decide) rfl (Or.inl rfl)) (qCt (qAn qB0 (pv 3) (pv 4) (qAr _))) (qKu rfl (pv 0)) (fun _=>rfl) rfl rfl (fun _=>rfl) (fun _ _ _ _ _ h=>h) (fun _ _ _ _ _ h=>h) (fun _=>rfl)⟩))),?_⟩
 have lA:as.length=net.length:=pr.length;refine⟨_,rfl,p,rfl,⟨_,SqL.of hp⟩,?_⟩;refine qK8 (xs:=as.map V.ref) (fun i ss σ H'=>Ext H H'/\(∃ x0 x1 x2 x3:Option V,σ=[x0,x1,x2,x3,some (.str x)])/\ss=(qCl (net.take i) x).map V.str) ⟨Ext.refl _,⟨none,none,none,none,rfl⟩,rfl⟩ (fun i ss σ H' _ h=>SqL.of (h.1 _ _ hp)) ?_ ?_
 ·rintro i z ss σ H' hx ⟨he,⟨x0,x1,x2,x3,rfl⟩,rfl⟩;obtain⟨a,t,rfl,ht,ha⟩:=qB8 pr hx;have hi:=qBg ht;refine⟨a,_,rfl,SqT.of (he _ _ ha),rfl,_,_,rfl,_,_,rfl,_,_,rfl,rfl,iteT (B:=False) ?_⟩;refine⟨_,rfl,_,rfl,(by show 2<=sizeLine;decide),fun T hT=>⟨T,rfl,⟨_,SqT.of upd_same⟩,?_⟩⟩;have X1:=Ext.new hT (.tup [V.str t.2.1,V.str t.2.2]);have ls:=qKc (net.take i) x;rw[hAp]at ls;refine qJz (xs:=[V.str t.2.1,V.str t.2.2]) (fun j ss σ H2=>Ext (upd H' T (.tup [V.str t.2.1,V.str t.2.2])) H2/\(∃ y:Option V,σ=[some (.str t.1),some (.str t.2.1),some (.str t.2.2),y,some (.str x)])/\ss=(qCl (net.take i) x++((if 0<j/\t.2.1=x then [t.1] else [])++(if 1<j/\t.2.2=x then [t.1] else []))).map V.str)
   ⟨Ext.refl _,⟨_,rfl⟩,by simp⟩ (fun j ss σ H2 _ h=>SqT.of (h.1 _ _ upd_same)) ?_ ?_
  ·rintro j z ss2 σ H2 hz ⟨h2,⟨y,rfl⟩,rfl⟩;have hj:j<2:=qBg hz;rcases(show j=0\/j=1 by omega) with rfl | rfl
   ·cases hAg hz;refine⟨_,rfl,_,rfl,rfl,_,rfl,?_⟩;refine qBw (fun c=>?_) (fun c=>?_)
    ·have c':t.2.1=x:=by simpa using c
     refine⟨_,rfl,?_,nxg hj ⟨h2,⟨_,rfl⟩,?_⟩⟩
     ·simp only[hB3,false_and,if_false,hC2,List.nil_append,hA1];exact qAg (by simp;omega)
     ·simp[c']
    ·have c':¬t.2.1=x:=by simpa using c
     exact nxg hj ⟨h2,⟨_,rfl⟩,by simp[c']⟩
   ·cases hAg hz;refine⟨_,rfl,_,rfl,rfl,_,rfl,?_⟩;refine qBw (fun c=>?_) (fun c=>?_)
    ·have c':t.2.2=x:=by simpa using c
     refine⟨_,rfl,?_,nxg hj ⟨h2,⟨_,rfl⟩,?_⟩⟩
     ·rw[hA1,hA2,hA2];refine qAg ?_;have e1:(if 0<1/\t.2.1=x then [t.1] else []).length<=1:=by split <;> simp
      have e2:(if 1<1/\t.2.2=x then [t.1] else []).length<=1:=by split <;> simp
      omega
     ·simp[c']
    ·have c':¬t.2.2=x:=by simpa using c
     exact nxg hj ⟨h2,⟨_,rfl⟩,by simp[c']⟩
  ·rintro ss2 σ H2 ⟨h2,⟨y,rfl⟩,rfl⟩;refine nxg (qBg hx) ⟨he.trans (X1.trans h2),⟨_,_,_,_,rfl⟩,?_⟩;rw[qA0 ht,qEc];unfold stT;simp
 ·rintro ss σ H' ⟨he,_,rfl⟩ r hr1;rw[hA1,lA,hAf (hA4 _)];exact q r _ (he.trans (Ext.new hr1 _)) (he.none hr1) upd_same
end
end My
namespace My
open PySem L2
def qM0:Sp:=fun vs H Q _=>∃ (p:Addr) (net:List Tr),vs=[.ref p]/\qAy H p net/\net.length<=12/\∀ r rows ps H',Ext H H'->H r=none->qTe H H' r rows->qE3 net ps->qPd ps->rows.Perm (ps.map (qCl net))->Srt rows->rows.length<=24->Q (.ref r) H'
section
variable {P:Program} {w:World} {K:PySem.W.Frag} {mg:Str->Option Value} {base:Heap} {f f1 f2:Addr} {fd fd1 fd2:FuncData}
theorem qRx:FnScope ["net"] ["net"] (qAd qFh):=⟨rfl,rfl,rfl,by decide +kernel,rfl,by decide +kernel,by decide +kernel⟩
theorem qPy (F:Fun K "stars" "stars" qFh f fd) (G:Cl P w K mg base CX0 1 f1 fd1 ["net"] qDy "points")
  (G2:Cl P w K mg base CX0 1 f2 fd2 ["net","point"] qQr "star") (mso:mg "sorted" = none):FnOk P w K mg base CX0 2 f fd ["net"] qM0:=by
 refine F.ok qRx (fun vs H Q E h=>?_) (fun cdv A outer s H vs Q E hr h=>?_)
 ·obtain⟨p,net,rfl,_⟩:=h;rfl
 obtain⟨p,net,rfl,nt,hl,q⟩:=h;refine⟨_,qAf (qAq (qAj (qHx (qUe hr)) rfl mso qBk (qAa
  (qCo (N:=["net"]) (sc:=qAd qFh) (N':=["point","net"]) (sub:=[none,some 0]) rfl rfl (CmpOk.of (by decide +kernel)) rfl (qAx (qAs G hr rfl .nil qAu (qAa (pv 0) qAb)))
   (fun C s H fp=>⟨qAi (i:=0) (by show(["point","net"]:List Str).Nodup;decide) rfl (Or.inl rfl),qA5,qAs G2 hr rfl .nil qAu (qAa (pv 1) (qAa (pv 0) qAb))⟩)) qAb))),?_⟩
 refine⟨_,rfl,p,net,rfl,nt,hl,fun pl ps H1 e1 pl0 hpl pok psr lps=>⟨pl,rfl,⟨_,SqL.of hpl⟩,?_⟩⟩;refine qBc (xs:=ps.map V.str) (fun j ys H2=>Ext H1 H2/\∃ as,ys=as.map V.ref/\as.Nodup/\Paired (fun a r=>LsS H2 a r/\H a=none) as ((ps.take j).map (qCl net))) ⟨Ext.refl _,[],rfl,List.nodup_nil,.nil⟩ (fun j ys H2 _ h=>SqL.of (h.1 _ _ hpl)) ?_ ?_
 ·rintro j x ys H2 hx ⟨e2,as,rfl,nd,pr⟩;obtain⟨y,hy,rfl⟩:∃ y,ps[j]?=some y/\V.str y=x:=by
   rw[hAl]at hx;cases e:ps[j]? with
   | none=>rw[e]at hx;cases hx
   | some y=>rw[e]at hx;exact⟨y,rfl,hAg hx⟩
  have hj:=qBg hy;have la:as.length=_:=pr.length;rw[hA1,hAp]at la;refine⟨Sle.set _ (Sle.refl _) (fun u z=>by cases z),iteT (B:=False) ⟨_,rfl,_,rfl,p,net,y,rfl,(nt.ext e1).ext e2,hl,fun r H3 e3 r0 hr3=>⟨?_,nxt (qBg hx) ⟨e2.trans e3,as++[r],by rw[hAc];rfl,?_,?_⟩⟩⟩⟩
  ·rw[hA1];exact qAg (by omega)
  ·rw[hC5];refine⟨nd,by simp,fun a ha b hb z=>?_⟩;rw[hA7]at hb;obtain⟨_,_,h1,_⟩:=qFk pr a ha;unfold LsS at h1;rw[z,hb,r0]at h1;cases h1
  ·rw[qA0 hy,hAc];exact Paired.snoc (Paired.mapP pr fun a t z=>⟨e3 _ _ z.1,z.2⟩) ⟨hr3,(e1.trans e2).none r0⟩
 ·rintro ys H2 ⟨e2,as,rfl,nd,pr⟩ l hl';rw[hA1,hAf (hA4 _)]at pr;have la:as.length=(ps.map (qCl net)).length:=pr.length;have la':as.length=ps.length:=by rw[la,hA1]
  have X1:=Ext.new hl' (.lst (as.map V.ref));refine⟨l,as,ps.map (qCl net),rfl,SqL.of upd_same,Paired.mapP pr fun a t z=>SqL.of (X1 _ _ z.1),by omega,fun r o hr' g sp=>?_⟩;have X2:=X1.trans (Ext.new hr' (.lst ((o.toList.map fun i=>as.getD i 0).map V.ref)));have E2:=e1.trans e2;have gm:∀ i∈o.toList,i<as.length:=fun i hi=>qK6 g hi
  have gl:=qOl g;have nd':=(pick_perm g).nodup_iff.mpr nd;rw[la]at g sp;obtain⟨s1,s2⟩:=qGk g sp;refine q r _ ps _ (E2.trans X2) ((E2.trans X1).none hr') ⟨_,nd',upd_same,Paired.mapP (qDp pr gm) fun a t z=>⟨X2 _ _ z.1,z.2,qAk (X1 _ _ z.1) hr'⟩⟩ pok psr s2 s1 ?_;rw[hA1,gl,la'];exact lps
end
end My
namespace My
open PySem L2
abbrev iV (n:Nat):V:=.int (n:Int)
def LsN (H:Hp) (a:Addr) (ms:List Nat):Prop:=H a=some (.lst (ms.map iV))
def qF7 (H:Hp) (p:Addr) (K:List (Nat×Nat)):Prop:=∃ as:List Addr,H p=some (.lst (as.map V.ref))/\Paired (fun a f=>H a=some (.tup [iV f.1,iV f.2])) as K
theorem qF4:bootBuiltins "int" = some (.type "int"):=by decide +kernel
theorem qS3 (ms:List Nat):ms.map iV=(ms.map fun n:Nat=>(n:Int)).map V.int:=by rw[hBf];rfl
theorem qU3 {ms:List Nat} {i:Nat} {x:V} (e:(ms.map iV)[i]?=some x):∃ n,x=iV n/\ms[i]?=some n:=by
 rw[hAl]at e;cases ha:ms[i]? with
 | none=>rw[ha]at e;cases e
 | some a=>rw[ha]at e;exact⟨a,(hAg e).symm,rfl⟩
def qV3 (t:TS):TS:=fun D σ H=>∃ Pm:St->Hp->Prop,t { D with nx:=Pm } σ H/\∀ σ' H',Pm σ' H'->D.nx σ' H'
theorem qBd {X:Cx} {st:Stmt} {t:TS} (h:PS X st t):PS X st (qV3 t):=by
 intro pins s σ H D I hw;obtain⟨Pm,h1,h2⟩:=hw;refine thn (h pins s σ H { D with nx:=Pm } I h1) fun fl s' q=>?_
 cases fl with
 | next=>obtain⟨σ',H',I',q⟩:=q;exact⟨σ',H',I',h2 σ' H' q⟩
 | brk=>exact q
 | cont=>exact q
 | ret _=>exact q
theorem qO8:bootBuiltins "set" = some (.type "set"):=by decide +kernel
theorem qF2:bootBuiltins "max" = some (.builtin "max"):=by decide +kernel
def Dr (d:Addr) (H H':Hp):Prop:=(∃ q:Int,H' d=some (.lst [.int q]))/\∀ b o,b≠d->H b=some o->H' b=some o
section
variable {d:Addr} {H H1 H2:Hp}
theorem Dr.refl {n:Int} (h:H d=some (.lst [.int n])):Dr d H H:=⟨⟨n,h⟩,fun _ _ _ q=>q⟩
theorem Dr.ext (h:Dr d H H1) (e:Ext H1 H2):Dr d H H2:=⟨let ⟨q,z⟩:=h.1;⟨q,e _ _ z⟩,fun b o n q=>e _ _ (h.2 b o n q)⟩
theorem Dr.trans (h:Dr d H H1) (e:Dr d H1 H2):Dr d H H2:=⟨e.1,fun b o n q=>e.2 b o n (h.2 b o n q)⟩
theorem Dr.take (h:Dr d H H1) (q:Int):Dr d H (upd H1 d (.lst [.int q])):=⟨⟨q,upd_same⟩,fun b o n z=>by rw[qAh n];exact h.2 b o n z⟩
theorem Dr.of_upd {q:Int} (e:Ext (upd H d (.lst [.int q])) H1):Dr d H H1:=⟨⟨q,e _ _ upd_same⟩,fun b o n z=>e _ _ (by rw[qAh n];exact z)⟩
theorem Dr.ne (h:Dr d H H1) {r:Addr} (hr:H1 r=Option.none):r≠d:=fun e=>by
 obtain⟨q,z⟩:=h.1;rw[e,z]at hr;cases hr
theorem Dr.none (h:Dr d H H1) {r:Addr} (hr:H1 r=Option.none):H r=Option.none:=by
 cases q:H r with
 | none=>rfl
 | some o=>rw[h.2 r o (h.ne hr) q]at hr;cases hr
theorem Dr.over (h:Dr d H H1) {r:Addr} (hr:H r=Option.none) (n:r≠d) (o:HO):Dr d H (upd H1 r o):=⟨let ⟨q,z⟩:=h.1;⟨q,by rw[qAh (Ne.symm n)];exact z⟩,fun b u nb z=>by rw[qAh (qAk z hr)];exact h.2 b u nb z⟩
theorem Dr.new (h:Dr d H H1) {r:Addr} (hr:H1 r=Option.none) (o:HO):Dr d H (upd H1 r o):=h.over (h.none hr) (h.ne hr) o
end
theorem qCs {d r:Addr} {H:Hp} {n:Int} (hd:H d=some (.lst [.int n])) (hr:H r=none):r≠d:=fun e=>by rw[e,hd]at hr;cases hr
theorem qOb {d:Addr} {H H':Hp} {p:Addr} {ts:List (Nat×Nat)} {n:Int} (hd:H d=some (.lst [.int n])) (np:p≠d) (h:qF7 H p ts) (e:Dr d H H'):qF7 H' p ts:=by
 obtain⟨as,h1,h2⟩:=h;exact⟨as,e.2 _ _ np h1,Paired.mapP h2 fun a t z=>e.2 _ _ (fun x=>by rw[x,hd]at z;cases z) z⟩
theorem qK4 {H:Hp} {p r:Addr} {ts:List (Nat×Nat)} {o:HO} {xs:List V} (hr:H r=none\/H r=some (.lst xs)) (np:p≠r) (h:qF7 H p ts):qF7 (upd H r o) p ts:=by
 obtain⟨as,h1,h2⟩:=h;refine⟨as,by rw[qAh np];exact h1,Paired.mapP h2 fun a t z=>?_⟩;rw[qAh]
 ·exact z
 ·intro x;rcases hr with q | q <;> rw[x,q]at z <;> cases z
def qW4:Sp:=fun vs H Q _=>∃ (d:Addr) (n:Int) (m:Nat),vs=[.ref d,iV m]/\H d=some (.lst [.int n])/\m<=12/\∀ (r:Addr) (ts:List (Nat×Nat)) (H':Hp),Dr d H H'->H r=none->qF7 H' r ts->ts.length<=m->(∀ t∈ts,t.1<36/\t.2<36)->Q (.ref r) H'
structure TiS (d:Addr) (H H':Hp) (r h:Addr) (hs:List Nat) (ts:List (Nat×Nat)):Prop where
 dr:Dr d H H'
 r0:H r=none
 h0:H h=none
 rd:r≠d
 hd:h≠d
 rh:r≠h
 hh:LsN H' h hs
 kt:qF7 H' r ts
theorem TiS.ext {d:Addr} {H H' H2:Hp} {r h:Addr} {hs:List Nat} {ts:List (Nat×Nat)} (x:TiS d H H' r h hs ts) (e:Ext H' H2):TiS d H H2 r h hs ts:=by
 obtain⟨as,h1,h2⟩:=x.kt;exact⟨x.dr.ext e,x.r0,x.h0,x.rd,x.hd,x.rh,e _ _ x.hh,as,e _ _ h1,Paired.mapP h2 fun a t z=>e _ _ z⟩
theorem TiS.take {d:Addr} {H H':Hp} {r h:Addr} {hs:List Nat} {ts:List (Nat×Nat)} (x:TiS d H H' r h hs ts) (q:Int):TiS d H (upd H' d (.lst [.int q])) r h hs ts:=by
 obtain⟨q0,z⟩:=x.dr.1;exact⟨x.dr.take q,x.r0,x.h0,x.rd,x.hd,x.rh,by unfold LsN;rw[qAh x.hd];exact x.hh,qK4 (.inr z) x.rd x.kt⟩
theorem TiS.heaps {d:Addr} {H H':Hp} {r h:Addr} {hs hs':List Nat} {ts:List (Nat×Nat)} (x:TiS d H H' r h hs ts):TiS d H (upd H' h (.lst (hs'.map iV))) r h hs' ts :=
 ⟨x.dr.over x.h0 x.hd _,x.r0,x.h0,x.rd,x.hd,x.rh,upd_same,qK4 (.inr x.hh) x.rh x.kt⟩
theorem qMa {ms:List Nat} {i:Nat} (h:i<ms.length):atI (ms.map iV) ((i:Nat):Int)=some (iV ms[i]):=atI_nat (by rw[hAl,hA3 h];rfl)
section
variable {P:Program} {w:World} {K:PySem.W.Frag} {mg:Str->Option Value} {base:Heap} {f f1 f2:Addr} {fd fd1 fd2:FuncData}
abbrev tiL:List Str:=["_law_draw","_law_many","_law_ties_here","_law_heaps","_law_step_here","_law_way","_law_one","_law_other","_law_deep","_law_joins","_law_low","_law_high"]
theorem qKm:FnScope tiL ["_law_draw","_law_many"] (qAd qR2):=⟨rfl,rfl,rfl,by decide +kernel,rfl,by decide +kernel,by decide +kernel⟩
theorem qWi {tA tB':TT} {t u:TS} {D:Ends} {σ:St} {H:Hp} (hA:∀ Q:Bool->Hp->Prop,(∀ c,Q c H)->tA σ H Q) (hB:∀ Q:Bool->Hp->Prop,(∀ c,Q c H)->tB' σ H Q) (ht:t D σ H) (hu:u D σ H):qVz (tOr tA tB') t u D σ H :=
 hA _ fun c=>by
  cases c
  ·exact qD9 (hB _ fun c=>qBw (fun _=>ht) (fun _=>hu))
  ·exact iteT (iteT ht)
theorem qWl (F:Fun K "_law_ties" "_law_ties" qR2 f fd) (G:Cl P w K mg base CX0 1 f1 fd1 ["_law_draw","_law_many"] qCz "_law_take")
  (mr:mg "range" = none) (ml:mg "len" = none) (mst:mg "set" = none) (mmi:mg "min" = none) (mma:mg "max" = none) (mi:mg "int" = none) :
  FnOk P w K mg base CX0 2 f fd ["_law_draw","_law_many"] qW4:=by
 refine F.ok qKm (fun vs H Q E h=>?_) (fun cdv A outer s H vs Q E hr h=>?_)
 ·obtain⟨p,S,m,rfl,_⟩:=h;rfl
 obtain⟨d,n,m,rfl,hd,m12,q⟩:=h;refine⟨_,qAc (qAl (i:=2) qKm.nd rfl (Or.inl rfl) (qA3 qAb))
  (qAc (qAl (i:=3) qKm.nd rfl (Or.inl rfl) (qA3 (qAa qAe qAb)))
  (qAc (qCd PassesOwn.never rfl (qBx rfl mr (qAa (pv 1) qAb)) (qAi (i:=4) qKm.nd rfl (Or.inl rfl))
   (qAc (qAl (i:=5) qKm.nd rfl (Or.inl rfl) (qAs G hr rfl .nil qAu (qAa (pv 0) (qAa qAe qAb))))
   (qAc (qAl (i:=6) qKm.nd rfl (Or.inl rfl) (qAs G hr rfl .nil qAu (qAa (pv 0) (qAa (qAj qAm rfl ml hAn (qAa (pv 3) qAb)) qAb))))
   (qAc (qAl (i:=7) qKm.nd rfl (Or.inl rfl) (qAs G hr rfl .nil qAu (qAa (pv 0) (qAa (qAj qAm rfl ml hAn (qAa (pv 3) qAb)) qAb))))
   (qAc (qBd (qAl (i:=8) qKm.nd rfl (Or.inl rfl) (qAv qKx (qAj qAm rfl ml hAn (qAa (pv 3) qAb)) (qAj qL8 rfl ml hAn (qAa (qA1 (qO6 rfl) rfl mst qO8 (qAa (pv 3) qAb)) qAb)))))
   (qAc (qBd (qBf (PW.pt (qEi (qAn qB0 (pv 5) qAe (qAr _)) (qD1 (PW.pt (qEt (qAn qB0 (pv 5) qAe (qAr _)) (qC4 (qAn qIh (pv 8) qAe (qAr _))))))))
    (qAc (qC5 (qIb hB7 hB4 hB5 qB6 (pv 3) (qAa (qAj qAm rfl ml hAn (qAa (pv 3) qAb)) qAb)))
    (qAf (qAl (i:=7) qKm.nd rfl (Or.inl rfl) (qAv qKx (qAj qAm rfl ml hAn (qAa (pv 3) qAb)) qAe)))) qAt))
   (qAc (qBd (qBf (qAn qB0 (pv 5) qAe (qAr _)) (qAf (qAl (i:=6) qKm.nd rfl (Or.inl rfl) (qAs G hr rfl .nil qAu (qAa (pv 0) (qAa (qAj qAm rfl ml hAn (qAa (pv 3) qAb)) qAb))))) qAt))
   (qAc (qAl (i:=9) qKm.nd rfl (Or.inl rfl) (qCe qSf (qA9 qBa (pv 3) (pv 6) (fun _ _=>rfl)) (qA9 qBa (pv 3) (pv 7) (fun _ _=>rfl)) (qAr _)))
   (qAf (qBf (PW.pt (qEi (PW.pt (qEt (qCa (pv 9)) (qC4 (qAn qIh (pv 8) qAe (qAr _))))) (qD1 (PW.pt (qEt (qCn (qCa (pv 9))) (qC4 (qAn qIh (qAv qKx (qAj qAm rfl ml hAn (qAa (pv 2) qAb)) (pv 8)) qAe (qAr _))))))))
    (qAc (qC5 (qIb hB7 hB4 hB5 qB6 (pv 2) (qAa (qB5 (qAa (qAj (qD6 rfl) rfl mmi qCg (qAa (pv 6) (qAa (pv 7) qAb))) (qAa (qAj (qF0 rfl) rfl mma qF2 (qAa (pv 6) (qAa (pv 7) qAb))) qAb))) qAb)))
    (qAc (qAl (i:=10) qKm.nd rfl (Or.inr rfl) (qAj (qD6 rfl) rfl mmi qCg (qAa (qA9 qBa (pv 3) (pv 6) (fun _ _=>rfl)) (qAa (qA9 qBa (pv 3) (pv 7) (fun _ _=>rfl)) qAb))))
    (qAc (qAl (i:=11) qKm.nd rfl (Or.inr rfl) (qAj (qF0 rfl) rfl mma qF2 (qAa (qA9 qBa (pv 3) (pv 6) (fun _ _=>rfl)) (qAa (qA9 qBa (pv 3) (pv 7) (fun _ _=>rfl)) qAb))))
    (qAf (qL1 (i:=3) (N:=tiL) (sc:=qAd qR2) (N':=["_law_heap","_law_low","_law_high"]) (sub:=[none,some 10,some 11]) rfl rfl (CmpOk.of (by decide +kernel)) rfl (qAx (pv 3))
     (fun C s H fp=>⟨qAi (i:=0) (by show(["_law_heap","_law_low","_law_high"]:List Str).Nodup;decide) rfl (Or.inl rfl),qA5,qA9 (show IxR _ (qWd K) from qBa) (qA3 (qAa (pv 0) (qAa (pv 1) qAb))) (qA1 qF1 rfl mi qF4 (qAa (qCe qB0 (pv 0) (pv 2) (qAr _)) qAb)) (fun _ _=>rfl)⟩) qKm.nd rfl (Or.inl rfl))))))
    qAt))))))))))
  (qAf (qAq (pv 2))))),?_⟩
 refine⟨hAk _,fun r r0=>?_⟩;refine⟨(by show 1<=sizeLine;decide),fun h h1=>?_⟩;have d1:=(Dr.refl hd).new r0 (.lst []);have d2:=d1.new h1 (.lst [.int 0]);have rh:r≠h:=fun e=>by rw[<-e,upd_same]at h1;cases h1
 have T0:TiS d H (upd (upd H r (.lst [])) h (.lst [.int 0])) r h [0] []:=⟨d2,r0,d1.none h1,qCs hd r0,d1.ne h1,rh,upd_same,[],by rw[qAh rh];exact upd_same,.nil⟩;refine⟨_,rfl,(m:Int),rfl,by omega,by omega,?_⟩;refine qCf (lo:=0) (n:=((m:Int)).toNat) (fun i σ H'=>∃ (h:Addr) (hs:List Nat) (ts:List (Nat×Nat)) (x4 x5 x6 x7 x8 x9 x10 x11:Option V),σ=[some (.ref d),some (iV m),some (.ref r),some (.ref h),x4,x5,x6,x7,x8,x9,x10,x11]/\TiS d H H' r h hs ts/\0<hs.length/\hs.length<=i+1/\ts.length<=i/\∀ t∈ts,t.1<36/\t.2<36) ⟨h,[0],[],none,none,none,none,none,none,none,none,rfl,T0,by decide,by decide,by decide,fun t ht=>by cases ht⟩ ?_ ?_
 ·rintro i σ H' hi ⟨h,hs,ts,x4,x5,x6,x7,x8,x9,x10,x11,rfl,T,l0,lh,lt,t36⟩;rw[show(0+(i:Int))=((i:Nat):Int) by omega];obtain⟨q0,z0⟩:=T.dr.1;refine⟨_,rfl,d,q0,4,rfl,z0,by decide,by decide,fun q1 way wa wb=>?_⟩;have T1:=T.take q1;refine⟨_,rfl,_,rfl,h,_,rfl,.inl (SqL.of T1.hh),d,q1,_,rfl,upd_same,by rw[hA1];omega,by rw[hA1];omega,fun q2 one oa ob=>?_⟩;rw[qC2];rw[hA1]at ob;have T2:=T.take q2;refine⟨_,rfl,_,rfl,h,_,rfl,.inl (SqL.of T2.hh),d,q2,_,rfl,upd_same,by rw[hA1];omega,by rw[hA1];omega,fun q3 oth ta tb=>?_⟩;rw[qC2];rw[hA1]at tb;have T3:=T.take q3;obtain⟨one,rfl⟩:=hBq oa;obtain⟨oth,rfl⟩:=hBq ta;refine⟨fun σ' H2=>∃ deep:Int,σ'=[some (.ref d),some (iV m),some (.ref r),some (.ref h),some (iV i),some (.int way),some (iV one),some (iV oth),some (.int deep),x9,x10,x11]/\TiS d H H2 r h hs ts,?_,?_⟩
  ·refine⟨_,rfl,h,_,rfl,.inl (SqL.of T3.hh),?_⟩;refine⟨_,rfl,h,hs.map fun n:Nat=>(n:Int),rfl,by rw[<-qS3];exact SqL.of T3.hh,by rw[hA1];omega,fun a k a0 hk=>?_⟩;rw[hA1]at hk;exact⟨a,k,rfl,upd_same,by omega,_,_,rfl,rfl,_,rfl,T3.ext (Ext.new a0 _)⟩
  rintro _ H2 ⟨deep,rfl,U⟩;clear T1 T2 T3 T;refine⟨fun σ' H3=>∃ (hs2:List Nat) (oth2:Nat),σ'=[some (.ref d),some (iV m),some (.ref r),some (.ref h),some (iV i),some (.int way),some (iV one),some (iV oth2),some (.int deep),x9,x10,x11]/\TiS d H H3 r h hs2 ts/\0<hs2.length/\hs2.length<=i+2/\one<hs2.length/\oth2<hs2.length,?_,?_⟩
  ·have sz:(hs.map iV).length<sizeLine:=by rw[hA1];exact qAg (by omega)
   have Un:=U.heaps (hs':=hs++[hs.length]);have e2:(((hs++[hs.length]).map iV).length:Int) - 1=((hs.length:Nat):Int):=by rw[hA1,hA2];show((hs.length+1:Nat):Int) - 1=_;omega
   have e1:hs.map iV++[V.int ((hs.map iV).length:Nat)]=(hs++[hs.length]).map iV:=by rw[hAc,hA1];rfl
   refine⟨_,rfl,rfl,_,rfl,qBw (fun c1=>?_) (fun c1=>⟨_,rfl,rfl,_,rfl,qBw (fun c2=>⟨_,rfl,_,_,rfl,rfl,_,rfl,?_⟩) (fun c2=>?_)⟩)⟩
   ·exact iteT (by
    refine⟨_,rfl,.inl ⟨rfl,_,SqL.of U.hh⟩,_,rfl,h,_,rfl,.inl (SqL.of U.hh),h,_,_,rfl,rfl,U.hh,sz,?_⟩;rw[e1];refine⟨_,rfl,h,_,rfl,.inl (SqL.of Un.hh),_,_,rfl,rfl,hs++[hs.length],hs.length,?_,Un,by rw[hA2];exact Nat.succ_pos _,by rw[hA2];show _+1<=_;omega,by rw[hA2];show _<_+1;omega,by rw[hA2];show _<_+1;omega⟩;rw[show iV hs.length=V.int ((((hs++[hs.length]).map iV).length:Int) - 1) by rw[e2]];rfl)
   ·refine qBw (fun c3=>?_) (fun c3=>⟨hs,oth,rfl,U,l0,by omega,by omega,by omega⟩);exact(by
    refine⟨_,rfl,.inl ⟨rfl,_,SqL.of U.hh⟩,_,rfl,h,_,rfl,.inl (SqL.of U.hh),h,_,_,rfl,rfl,U.hh,sz,?_⟩;rw[e1];refine⟨_,rfl,h,_,rfl,.inl (SqL.of Un.hh),_,_,rfl,rfl,hs++[hs.length],hs.length,?_,Un,by rw[hA2];exact Nat.succ_pos _,by rw[hA2];show _+1<=_;omega,by rw[hA2];show _<_+1;omega,by rw[hA2];show _<_+1;omega⟩;rw[show iV hs.length=V.int ((((hs++[hs.length]).map iV).length:Int) - 1) by rw[e2]];rfl)
   ·exact qD9 ⟨hs,oth,rfl,U,l0,by omega,by omega,by omega⟩
  rintro _ H3 ⟨hs2,oth2,rfl,U3,l20,l2,o1,o2⟩;refine⟨fun σ' H4=>∃ one2:Nat,σ'=[some (.ref d),some (iV m),some (.ref r),some (.ref h),some (iV i),some (.int way),some (iV one2),some (iV oth2),some (.int deep),x9,x10,x11]/\TiS d H H4 r h hs2 ts/\one2<hs2.length,?_,?_⟩
  ·refine⟨_,rfl,rfl,_,rfl,qBw (fun c1=>?_) (fun c1=>⟨one,rfl,U3,o1⟩)⟩;obtain⟨q5,z5⟩:=U3.dr.1;refine⟨_,rfl,_,rfl,h,_,rfl,.inl (SqL.of U3.hh),d,q5,_,rfl,z5,by rw[hA1];omega,by rw[hA1];omega,fun q6 one2 oa2 ob2=>?_⟩;rw[hA1]at ob2;obtain⟨one2,rfl⟩:=hBq oa2;exact⟨one2,rfl,U3.take q6,by omega⟩
  rintro _ H4 ⟨one2,rfl,U4,o12⟩;refine⟨_,rfl,_,rfl,h,_,_,_,rfl,rfl,SqL.of U4.hh,qMa o12,_,rfl,_,rfl,h,_,_,_,rfl,rfl,SqL.of U4.hh,qMa o2,rfl,?_⟩;generalize (!decide (iV hs2[one2]=iV hs2[oth2]))=jb;have pairN:∀ a b:Nat,(∃ c:Nat,(if (b:Int)<(a:Int) then (b:Int) else (a:Int))=(c:Int)/\(c=a\/c=b))/\∃ c:Nat,(if (b:Int) > (a:Int) then (b:Int) else (a:Int))=(c:Int)/\(c=a\/c=b):=fun a b=>⟨by split <;> first | exact⟨_,rfl,.inl rfl⟩ | exact⟨_,rfl,.inr rfl⟩,by split <;> first | exact⟨_,rfl,.inl rfl⟩ | exact⟨_,rfl,.inr rfl⟩⟩
  obtain⟨⟨lo1,elo1,blo1⟩,hi1,ehi1,bhi1⟩:=pairN one2 oth2;obtain⟨⟨lo2,elo2,_⟩,hi2,ehi2,_⟩:=pairN hs2[one2] hs2[oth2];have lts:ts.length<1000:=by omega
  obtain⟨as,hr1,pr⟩:=U4.kt;have las:=pr.length;dsimp only[qJ0];refine qWi (fun Q hQ=>?_) (fun Q hQ=>?_) ?_ ?_
  ·refine⟨_,rfl,jb,rfl,?_⟩;cases jb
   ·exact qD9 (hQ _)
   ·exact iteT ⟨_,rfl,_,_,rfl,rfl,_,rfl,hQ _⟩
  ·refine⟨_,rfl,jb,rfl,?_⟩;cases jb
   ·exact iteT (B:=Q false H4) ⟨_,rfl,r,_,rfl,.inl (SqL.of hr1),_,rfl,_,_,rfl,rfl,_,_,rfl,rfl,_,rfl,hQ _⟩
   ·exact qD9 (hQ _)
  ·refine⟨_,rfl,.inl ⟨rfl,_,SqL.of hr1⟩,_,rfl,_,rfl,_,_,rfl,_,rfl,_,rfl,_,_,rfl,(by show 2<=sizeLine;decide),fun p p0=>?_⟩;rw[elo1,ehi1];have V1:=U4.ext (Ext.new p0 (.tup [iV lo1,iV hi1]));have rp:r≠p:=qAk hr1 p0;have hr2:upd H4 p (.tup [iV lo1,iV hi1]) r=some (.lst (as.map V.ref)):=by rw[qAh rp];exact hr1
   refine⟨r,_,_,rfl,rfl,hr2,by rw[hA1,las];exact qAg (by omega),?_⟩;have V2:TiS d H (upd (upd H4 p (.tup [iV lo1,iV hi1])) r (.lst (as.map V.ref++[V.ref p]))) r h hs2 (ts++[(lo1,hi1)]):=by
    refine⟨V1.dr.over V1.r0 V1.rd _,V1.r0,V1.h0,V1.rd,V1.hd,V1.rh,by unfold LsN;rw[qAh (Ne.symm V1.rh)];exact V1.hh,as++[p],by rw[upd_same,hAc];rfl,Paired.snoc (Paired.mapP pr fun a t z=>?_) ?_⟩
    ·have ar:a≠r:=fun e=>by rw[e,hr1]at z;cases z
     rw[qAh ar,qAh (qAk z p0)];exact z
    ·rw[qAh (Ne.symm rp),upd_same]
   refine⟨_,rfl,_,rfl,h,_,_,_,rfl,rfl,SqL.of V2.hh,qMa o12,_,rfl,_,rfl,h,_,_,_,rfl,rfl,SqL.of V2.hh,qMa o2,_,_,rfl,?_⟩;refine⟨_,rfl,_,rfl,h,_,_,_,rfl,rfl,SqL.of V2.hh,qMa o12,_,rfl,_,rfl,h,_,_,_,rfl,rfl,SqL.of V2.hh,qMa o2,_,_,rfl,?_⟩;rw[elo2,ehi2];refine⟨_,rfl,h,rfl,⟨_,SqL.of V2.hh⟩,?_⟩;refine qBc (xs:=hs2.map iV) (fun j ys H5=>Ext (upd (upd H4 p (.tup [iV lo1,iV hi1])) r (.lst (as.map V.ref++[V.ref p]))) H5/\∃ ns:List Nat,ys=ns.map iV/\ns.length=j) ⟨Ext.refl _,[],rfl,rfl⟩ (fun j ys H5 _ z=>SqL.of (z.1 _ _ V2.hh)) ?_ ?_
   ·rintro j v ys H5 hx ⟨e5,ns,rfl,ln⟩;obtain⟨x,rfl,hx'⟩:=qU3 hx;have hj:=qBg hx';have sz:(ns.map iV).length<sizeLine:=by rw[hA1];exact qAg (by omega)
    refine⟨Sle.set _ (Sle.refl _) (fun u z=>by cases z),iteT (B:=False) ⟨_,rfl,_,rfl,(by show 2<=sizeLine;decide),fun l hl=>?_⟩⟩;have n5:=Ext.new hl (.lst [iV x,iV lo2]);refine⟨_,rfl,_,rfl,rfl,.inr ⟨_,rfl,?_⟩⟩;by_cases c:iV x=iV hi2
    ·rw[decide_eq_true c,if_pos rfl];exact⟨l,_,_,iV lo2,rfl,rfl,SqL.of upd_same,rfl,sz,nxt (qBg hx) ⟨e5.trans n5,ns++[lo2],by rw[hAc];rfl,by rw[hA2,ln];rfl⟩⟩
    ·rw[decide_eq_false c,if_neg (by decide)];exact⟨l,_,_,iV x,rfl,rfl,SqL.of upd_same,rfl,sz,nxt (qBg hx) ⟨e5.trans n5,ns++[x],by rw[hAc];rfl,by rw[hA2,ln];rfl⟩⟩
   ·rintro ys H5 ⟨e5,ns,rfl,ln⟩ l hl;rw[hA1]at ln;have V5:=V2.ext e5;have V6:=V5.ext (Ext.new hl (.lst (ns.map iV)));have rl:r≠l:=fun e=>by
     obtain⟨as5,h5,_⟩:=V5.kt;rw[<-e,h5]at hl;cases hl
    exact⟨l,ns,_,_,_,_,_,_,_,_,_,rfl,⟨V6.dr,V6.r0,V5.dr.none hl,V6.rd,V5.dr.ne hl,rl,upd_same,V6.kt⟩,by omega,by omega,by rw[hA2];show _+1<=_;omega,fun t ht=>by
     rcases hAd.mp ht with z | z
     ·exact t36 t z
     ·rw[hA7.mp z];have b36:hs2.length<36:=by omega
      exact⟨by show lo1<36;rcases blo1 with rfl | rfl <;> omega,by show hi1<36;rcases bhi1 with rfl | rfl <;> omega⟩⟩
  ·exact⟨h,hs2,ts,_,_,_,_,_,_,_,_,rfl,U4,l20,by omega,by omega,t36⟩
 ·rintro σ H' ⟨h,hs,ts,x4,x5,x6,x7,x8,x9,x10,x11,rfl,T,l0,lh,lt,t36⟩;exact⟨_,rfl,q r ts H' T.dr T.r0 T.kt (by omega) t36⟩
end
end My
namespace L2
open PySem PySem.Spec PyProof.Rows
end L2
namespace My
open PySem L2
def leB (x y:Str):Bool:=!decide (y.cps.toList<x.cps.toList)
abbrev nmS (net:List Tr):List Str:=net.map fun t=>t.1
theorem tri:∀ a b:List Nat,a<b\/a=b\/b<a
 | [],[]=>.inr (.inl rfl)
 | [],_ :: _=>.inl (List.nil_lt_cons _ _)
 | _ :: _,[]=>.inr (.inr (List.nil_lt_cons _ _))
 | x :: a,y :: b=>by
  rcases Nat.lt_trichotomy x y with h | h | h
  ·exact .inl (hBb.mpr (.inl h))
  ·subst h;rcases tri a b with h | h | h
   ·exact .inl (hBb.mpr (.inr ⟨rfl,h⟩))
   ·exact .inr (.inl (by rw[h]))
   ·exact .inr (.inr (hBb.mpr (.inr ⟨rfl,h⟩)))
  ·exact .inr (.inr (hBb.mpr (.inl h)))
theorem qLk {K:PySem.W.Frag} {a:Addr} {xs:List V} (f:V->Option V) (hS:H1 a=some (.tup xs)) (hz:xs.length<=sizeLine)
  (hs:∀ x∈xs,∀ H,Ext H1 H->∀ C:Option V->Hp->Prop,(∀ H',Ext H H'->C (f x) H')->g x σ0 H fun σ2 H2=>Sle σ0 σ2/\tt σ2 H2 fun b H3=>if b=true then te σ2 H3 (fun v H4=>C (some v) H4) else C none H3)
  (hd:∀ H',Ext H1 H'->Q (xs.filterMap f) H'):qCq (Itt K a) σ0 g tt te Q H1:=by
 refine qEa (xs:=xs) (fun i ys H=>Ext H1 H/\ys=(xs.take i).filterMap f) ⟨Ext.refl _,by simp⟩ (fun i ys H _ h=>SqT.of (h.1 _ _ hS)) ?_ ?_
 ·rintro i x ys H hx ⟨he,rfl⟩;have hi:i<xs.length:=(hAr.mp hx).1;have hm:x∈xs:=hAm hx;have tk:(xs.take (i+1)).filterMap f=(xs.take i).filterMap f++(f x).toList:=by
   rw[List.take_add_one,hx,List.filterMap_append];cases e:f x <;> simp[e]
  have hl:((xs.take i).filterMap f).length<sizeLine:=by
   have h1:=List.length_filterMap_le f (xs.take i);rw[hAp]at h1;omega
  refine hs x hm H he (fun o H4=>match o with | some v=>((xs.take i).filterMap f).length<sizeLine/\Nxt xs.length i _ ((xs.take i).filterMap f++[v]) H4 | none=>Nxt xs.length i _ ((xs.take i).filterMap f) H4) (fun H' he'=>?_);cases e:f x with
  | none=>exact nxt hi ⟨he.trans he',by rw[tk,e];simp⟩
  | some v=>exact⟨hl,nxt hi ⟨he.trans he',by rw[tk,e];simp⟩⟩
 ·rintro ys H ⟨he,rfl⟩;rw[hAf (hA4 _)];exact hd H he
def clS (word:Str) (first p:Nat):Str:=word++⟨#[sgC ((first+5*p) % 36)]⟩
def clV (word:Str) (first:Nat):V->Option V
 | .int j=>some (.str (clS word first j.toNat))
 | _=>none
theorem qIv {word:Str} {first p:Nat} (hw:Sgd word) (hl:word.length<=5):qAz (clS word first p):=by
 refine⟨hw.app (Sgd.one (hCd _ (by decide))),?_,?_⟩
 ·unfold clS;rw[Str.length_append];show 1<=_+1;omega
 ·unfold clS;rw[Str.length_append];show _+1<=6;omega
def LkT (cl:Nat->Str) (t:Tr) (u:Nat×Nat):Prop:=(t.2.1=cl u.1/\t.2.2=cl u.2)\/(t.2.1=cl u.2/\t.2.2=cl u.1)
def NmT (t:Tr):Prop:=qAz t.2.1/\qAz t.2.2/\leB t.2.1 t.2.2=true
def qT1:Sp:=fun vs H Q _=>∃ (d p pn:Addr) (n:Int) (ts:List (Nat×Nat)) (names:List Str),vs=[.ref d,.ref p,.ref pn]/\H d=some (.lst [.int n])/\p≠d/\pn≠d/\qF7 H p ts/\(∀ t∈ts,t.1<36/\t.2<36)/\LsS H pn names/\names.length=ts.length/\ts.length<=12 /\
 ∀ (r:Addr) (net:List Tr) (H':Hp),Dr d H H'->H r=none->qAy H' r net->nmS net=names->(∀ t∈net,NmT t)->Q (.ref r) H'
theorem qS0 (a b:Str):leB (if b.cps.toList<a.cps.toList then b else a) (if a.cps.toList<b.cps.toList then b else a)=true:=by
 unfold leB;rw[Bool.not_eq_true',decide_eq_false_iff_not];by_cases c:b.cps.toList<a.cps.toList
 ·have c2:¬a.cps.toList<b.cps.toList:=fun z=>absurd (List.lt_trans c z) (List.lt_irrefl _)
  rw[if_pos c,if_neg c2];exact c2
 ·rw[if_neg c];by_cases c2:a.cps.toList<b.cps.toList
  ·rw[if_pos c2];exact c
  ·rw[if_neg c2];exact List.lt_irrefl _
theorem mm_two (a b:Str):((if b.cps.toList<a.cps.toList then b else a)=a/\(if a.cps.toList<b.cps.toList then b else a)=b)\/((if b.cps.toList<a.cps.toList then b else a)=b/\(if a.cps.toList<b.cps.toList then b else a)=a):=by
 by_cases c:b.cps.toList<a.cps.toList
 ·have c2:¬a.cps.toList<b.cps.toList:=fun z=>absurd (List.lt_trans c z) (List.lt_irrefl _)
  rw[if_pos c,if_neg c2];exact .inr ⟨rfl,rfl⟩
 ·rw[if_neg c];by_cases c2:a.cps.toList<b.cps.toList
  ·rw[if_pos c2];exact .inl ⟨rfl,rfl⟩
  ·rw[if_neg c2];have e:a.cps.toList=b.cps.toList:=by
    rcases tri a.cps.toList b.cps.toList with z | z | z
    ·exact absurd z c2
    ·exact z
    ·exact absurd z c
   have:a=b:=qTx e;exact .inl ⟨rfl,this⟩
section
variable {P:Program} {w:World} {K:PySem.W.Frag} {mg:Str->Option Value} {base:Heap} {f f1 f2 f3 f4:Addr} {fd fd1 fd2 fd3 fd4:FuncData}
abbrev noN:List Str:=["_law_draw","_law_ties_here","_law_names_here","_law_signs","_law_word","_law_k","_law_first","_law_net","_law_ends"]
theorem qG7:FnScope noN ["_law_draw","_law_ties_here","_law_names_here"] (qAd qR1):=⟨rfl,rfl,rfl,by decide +kernel,rfl,by decide +kernel,by decide +kernel⟩
theorem qUu (F:Fun K "_law_net_of" "_law_net_of" qR1 f fd) (G1:Cl P w K mg base CX0 1 f1 fd1 ["_law_draw","_law_many"] qCz "_law_take")
  (mr:mg "range" = none) (ml:mg "len" = none) (mmi:mg "min" = none) (mma:mg "max" = none):FnOk P w K mg base CX0 2 f fd ["_law_draw","_law_ties_here","_law_names_here"] qT1:=by
 refine F.ok qG7 (fun vs H Q E h=>?_) (fun cdv A outer s H vs Q E hr h=>?_)
 ·obtain⟨d,p,pn,n,ts,names,rfl,_⟩:=h;rfl
 obtain⟨d,p,pn,n,ts,names,rfl,hd,pd,nd,kt,t36,hn,ln,l12,q⟩:=h;refine⟨_,(qAc (qAl (i:=3) qG7.nd rfl (Or.inr rfl) qBj) (qAc (qAl (i:=4) qG7.nd rfl (Or.inr rfl) qBj) (qAc (qCd PassesOwn.never rfl (qBx rfl mr (qAa (qAs G1 hr rfl .nil qAu (qAa (pv 0) (qAa qAe qAb))) qAb)) (qAi (i:=5) qG7.nd rfl (Or.inl rfl)) (qAf (qAl (i:=4) qG7.nd rfl (Or.inr rfl) (qAv qBu (pv 4) (qA9 qFs (pv 3) (qAs G1 hr rfl .nil qAu (qAa (pv 0) (qAa qAe qAb))) (fun _ _=>rfl)))))) (qAc (qAl (i:=6) qG7.nd rfl (Or.inr rfl) (qAs G1 hr rfl .nil qAu (qAa (pv 0) (qAa qAe qAb)))) (qAc (qAl (i:=7) qG7.nd rfl (Or.inl rfl) (qA3 qAb)) (qAc (qCd PassesOwn.never rfl (qBx rfl mr (qAa (qAj qAm rfl ml hAn (qAa (pv 1) qAb)) qAb)) (qAi (i:=5) qG7.nd rfl (Or.inl rfl)) (qAc (qL1 (i:=8) (N:=noN) (sc:=qAd qR1) (N':=["_law_point","_law_first","_law_signs","_law_word"]) (sub:=[none,some 6,some 3,some 4]) rfl rfl (CmpOk.of (by decide +kernel)) rfl (qGj (qA9 qBa (pv 1) (pv 5) (fun _ _=>rfl)))
    (fun C s H fp=>⟨qAi (i:=0) (by show(["_law_point","_law_first","_law_signs","_law_word"]:List Str).Nodup;decide) rfl (Or.inl rfl),qA5,qAv qBu (pv 3) (qA9 qFs (pv 2) (qAv qC6 (qAv qBy (pv 1) (qAv qDj qAe (pv 0))) qAe) (fun _ _=>rfl))⟩) qG7.nd rfl (Or.inl rfl)) (qAf (qC5 (qIb hB7 hB4 hB5 qB6 (pv 7) (qAa (qB5 (qAa (qA9 qBa (pv 2) (pv 5) (fun _ _=>rfl)) (qAa (qAj (qFy rfl) rfl mmi qCg (qAa (pv 8) qAb)) (qAa (qAj (qFz rfl) rfl mma qF2 (qAa (pv 8) qAb)) qAb)))) qAb)))))) (qAf (qAq (pv 7))))))))),?_⟩
 refine⟨_,rfl,d,n,6,rfl,hd,by decide,by decide,fun q1 z1 z1a z1b=>?_⟩;refine⟨z1,rfl,by omega,by omega,qCf (lo:=0) (n:=z1.toNat) (fun i σ H'=>∃ (q:Int) (word:Str) (x:Option V),σ=[some (.ref d),some (.ref p),some (.ref pn),some (.str sg),some (.str word),x,none,none,none]/\H'=upd H d (.lst [.int q])/\word.length=i/\Sgd word)
  ⟨q1,"",none,rfl,rfl,rfl,Sgd.nil⟩ ?_ ?_⟩
 ·rintro i σ H' hi ⟨q3,word,x,rfl,rfl,hw,sm⟩;refine⟨_,rfl,_,rfl,_,rfl,d,q3,36,rfl,upd_same,by decide,by decide,fun q4 z4 z4a z4b=>?_⟩;rw[qC2];refine⟨sg,z4,sgC z4.toNat,rfl,rfl,by decide +kernel,qLs z4a z4b,word,⟨#[sgC z4.toNat]⟩,rfl,rfl,?_,?_⟩
  ·show word.length+1<=sizeLine;exact hAq (qAg (by omega))
  ·refine⟨q4,_,_,rfl,rfl,?_,sm.app (Sgd.one (by omega))⟩;rw[Str.length_append];show word.length+1=i+1;omega
 ·rintro σ H' ⟨q3,word,x,rfl,rfl,hw,sm⟩;refine⟨_,rfl,d,q3,36,rfl,upd_same,by decide,by decide,fun q4 first fa fb=>?_⟩;rw[qC2];have D1:Dr d H (upd H d (.lst [.int q4])):=(Dr.refl hd).take q4;obtain⟨first,rfl⟩:=hBq fa;refine⟨hAk _,fun r hr0=>?_⟩;have D2:=D1.new hr0 (.lst []);have r0:=D1.none hr0;have rd:=D1.ne hr0;have hrr:upd (upd H d (.lst [.int q4])) r (.lst []) r=some (.lst []):=upd_same;revert D2 hrr;generalize upd (upd H d (.lst [.int q4])) r (.lst [])=H2;intro D2 hrr;obtain⟨as,hp,pr⟩:=qOb hd pd kt D2;have las:=pr.length;have hn2:LsS H2 pn names:=D2.2 _ _ nd hn;refine⟨_,rfl,p,_,rfl,.inl (SqL.of hp),_,rfl,by omega,by rw[hA1];omega,?_⟩;rw[hA1];refine qCf (lo:=0) (n:=((as.length:Nat):Int).toNat) (fun i σ H'=>∃ (x5 x8:Option V) (net:List Tr),σ=[some (.ref d),some (.ref p),some (.ref pn),some (.str sg),some (.str word),x5,some (iV first),some (.ref r),x8]/\Dr d H H'/\(∀ b o,b≠r->H2 b=some o->H' b=some o)/\qAy H' r net/\nmS net=names.take i/\(∀ t∈net,NmT t)/\Paired (LkT (clS word first)) net (ts.take i))
   ⟨_,none,[],rfl,D2,fun _ _ _ z=>z,⟨[],hrr,.nil⟩,rfl,(fun t ht=>by cases ht),by rw[List.take_zero];exact .nil⟩ ?_ ?_
  ·rintro i σ H' hi ⟨x5,x8,net,rfl,dr,st,nt,en,nm,lk⟩;rw[show(0+(i:Int))=((i:Nat):Int) by omega];have hi':i<as.length:=by omega
   obtain⟨u,hu,hat⟩:=qEj pr (hA3 hi');have pr':p≠r:=fun e=>by obtain⟨_,z,_⟩:=kt;rw[e,r0]at z;cases z
   have nr':pn≠r:=fun e=>by rw[e]at hn;unfold LsS at hn;rw[r0]at hn;cases hn
   have ar:as[i]≠r:=fun e=>by
    rw[e,hrr]at hat;cases hat
   have hp':=st _ _ pr' hp;have hat':=st _ _ ar hat;have av:atI (as.map V.ref) ((i:Nat):Int)=some (.ref as[i]):=atI_nat (by rw[hAl,hA3 hi'];rfl);refine⟨_,rfl,_,rfl,p,_,_,_,rfl,rfl,SqL.of hp',av,as[i],rfl,⟨_,SqT.of hat'⟩,?_⟩;refine qLk (xs:=[iV u.1,iV u.2]) (clV word first) hat' (by show 2<=sizeLine;decide) (fun x hx H3 he C hC=>?_) fun H3 he=>?_
   ·obtain⟨j,rfl⟩:∃ j:Nat,x=iV j:=by
     simp only[hA9,hAv,or_false]at hx;rcases hx with rfl | rfl <;> exact⟨_,rfl⟩
    have ei:((first:Int)+5*(j:Int)) % 36=(((first+5*j) % 36:Nat):Int):=by rw[Int.natCast_emod,Int.natCast_add,Int.natCast_mul];rfl
    refine⟨Sle.set _ (Sle.refl _) (fun u z=>by cases z),iteT (B:=False) ⟨_,rfl,_,rfl,_,rfl,_,rfl,_,_,rfl,rfl,.inl ⟨by decide,by decide⟩,_,_,rfl,rfl,_,_,rfl,rfl,(by show(0:Int)<_;decide),sg,_,sgC ((first+5*j) % 36),rfl,rfl,by decide +kernel,?_,_,_,rfl,rfl,?_,?_⟩⟩
    ·rw[ei];exact qLs (by omega) (by omega)
    ·show word.length+1<=sizeLine;exact hAq (qAg (by omega))
    ·exact hC H3 (Ext.refl _)
   ·intro l hl;rw[show List.filterMap (clV word first) [iV u.1,iV u.2]=[.str (clS word first u.1),.str (clS word first u.2)] from rfl];have E3:=he.trans (Ext.new hl (.lst [.str (clS word first u.1),.str (clS word first u.2)]));have hl3:upd H3 l (.lst [.str (clS word first u.1),.str (clS word first u.2)]) l=some (.lst [.str (clS word first u.1),.str (clS word first u.2)]):=upd_same;revert E3 hl3;generalize upd H3 l (.lst [.str (clS word first u.1),.str (clS word first u.2)])=H4;intro E3 hl3;have nt4:=nt.ext E3;obtain⟨bs,hb4,pb4⟩:=nt4;have lbs:=pb4.length;have lnk:=lk.length;rw[hAp]at lnk;have hn4:=E3 _ _ (st _ _ nr' hn2);have nv:atI (names.map V.str) ((i:Nat):Int)=some (.str names[i]):=atI_nat (by rw[hAl,hA3 (by omega)];rfl);refine⟨_,rfl,.inl ⟨rfl,_,SqL.of hb4⟩,_,rfl,_,rfl,pn,_,_,_,rfl,rfl,SqL.of hn4,nv,_,rfl,l,_,_,rfl,SqL.of hl3,_,rfl,l,_,_,rfl,SqL.of hl3,(by show 3<=sizeLine;decide),fun c c0=>?_⟩;have nc:=Ext.new c0 (.tup [V.str names[i],V.str (if (clS word first u.2).cps.toList<(clS word first u.1).cps.toList then clS word first u.2 else clS word first u.1),V.str (if (clS word first u.1).cps.toList<(clS word first u.2).cps.toList then clS word first u.2 else clS word first u.1)]);have rc:r≠c:=qAk hb4 c0;refine⟨r,_,_,rfl,rfl,nc _ _ hb4,by rw[hA1];exact qAg (by omega),?_⟩;have dr4:=dr.ext E3;refine⟨_,_,net++[(names[i],(if (clS word first u.2).cps.toList<(clS word first u.1).cps.toList then clS word first u.2 else clS word first u.1),(if (clS word first u.1).cps.toList<(clS word first u.2).cps.toList then clS word first u.2 else clS word first u.1))],rfl,(dr4.ext nc).over r0 rd _,fun b o nb z=>?_,⟨bs++[c],by rw[upd_same,hAc];rfl,Paired.snoc (Paired.mapP pb4 fun a' t z=>?_) ?_⟩,?_,?_,?_⟩
    ·rw[qAh nb];exact nc _ _ (E3 _ _ (st b o nb z))
    ·rw[qAh (fun q=>by rw[q,hb4]at z;cases z)];exact nc _ _ z
    ·rw[qAh (Ne.symm rc)];exact upd_same
    ·rw[show nmS (net++[(names[i],(if (clS word first u.2).cps.toList<(clS word first u.1).cps.toList then clS word first u.2 else clS word first u.1),(if (clS word first u.1).cps.toList<(clS word first u.2).cps.toList then clS word first u.2 else clS word first u.1))])=nmS net++[names[i]] from hAc,en,qA0 (hA3 (by omega:i<names.length))]
    ·intro t ht;rcases hAd.mp ht with z | z
     ·exact nm t z
     ·rw[hA7.mp z];have n1:=qIv (first:=first) (p:=u.1) sm (by omega);have n2:=qIv (first:=first) (p:=u.2) sm (by omega);refine⟨?_,?_,qS0 _ _⟩
      ·show qAz (if _ then _ else _);split
       ·exact n2
       ·exact n1
      ·show qAz (if _ then _ else _);split
       ·exact n2
       ·exact n1
    ·rw[qA0 hu];refine Paired.snoc lk ?_;rcases mm_two (clS word first u.1) (clS word first u.2) with z | z
     ·exact .inl z
     ·exact .inr z
  ·rintro σ H' ⟨x5,x8,net,rfl,dr,st,nt,en,nm,lk⟩;rw[hAf (by omega)]at en;rw[hAf (by omega)]at lk;exact⟨_,rfl,q r net H' dr r0 nt en nm⟩
end
end My
namespace L2
open PySem PySem.Spec PyProof.Rows PySem.W
section
variable {prog:Program} {w:World} {A:Around} {E:Value->Shared->Prop} {s:Shared}
theorem qJ5 {T:String} {r d:Addr} {n:Nat} {P:Nat->Value->Prop} {OK:Heap->Prop} {Q:List Value->Shared->Prop} (K:PySem.W.KdlSrc prog w T r d n P OK) (hh:A.handled=none) (hok:OK s.heap) (hn:n<=sizeLine)
  (hQ:∀ (h':Heap) (tk:Nat) (acc:Array Value),(∀ b o,s.heap.get? b=some o->h'.get? b=some o)->ItemsOf P acc n->Q acc.toList { s with heap:=h',toks:=tk }):wpAny (model prog w) A (collect (.ref r)) Q E s:=by
 unfold collect;refine wpAny_bind (wpAny_runValue (codeAny_builtin F.entry_proto_collect ?_));rw[Around.under_plainId F.plain_proto_collect _];have lt:=K.there _ hok;refine wpAny_bind (wpAny_newObj_type ?_);refine wpAny_pure ⟨plainId_quiet F.plain_list_iadd _,codeAny_builtin F.entry_list_iadd ?_⟩;rw[Around.under_plainId F.plain_list_iadd _];have gS:(s.heap.push { cls:=.type "list",data:=.seq ([]:List Value).toArray }).get? s.heap.objs.size=some { cls:=.type "list",data:=.seq ([]:List Value).toArray }:=Heap.get?_push_size _ rfl;show wpAny _ A.in1 (Builtin.List.listExtendWith (.ref s.heap.objs.size) (.ref r) (.ref s.heap.objs.size)) _ _ _;have key:=PySem.W.kdl_extend (R:=fun r s'=>r = .ok (.ret (.ref s.heap.objs.size))/\∃ (h':Heap) (tk:Nat) (acc:Array Value) (c':Nat),s'={ s with heap:=h',toks:=tk }/\(∀ b o,b≠s.heap.objs.size->(s.heap.push { cls:=.type "list",data:=.seq ([]:List Value).toArray }).get? b=some o->h'.get? b=some o)/\h'.get? s.heap.objs.size=some { cls:=.type "list",dict:=none,data:=.seq acc c',slots:=#[] }/\ItemsOf P acc n) (s:={ s with heap:=s.heap.push { cls:=.type "list",data:=.seq ([]:List Value).toArray } }) K hh (K.keep _ _ hok fun b _ o e=>Heap.get?_push_of_some _ e) s.heap.objs.size (hBw lt.1) (hBw lt.2) (.ref s.heap.objs.size) 0 gS (fun h' tk acc c' kp g' it=>⟨rfl,h',tk,acc,c',rfl,kp,g',it⟩) hn;have fin:∀ (h':Heap) (tk:Nat) (acc:Array Value) (c':Nat),(∀ b o,b≠s.heap.objs.size->(s.heap.push { cls:=.type "list",data:=.seq ([]:List Value).toArray }).get? b=some o->h'.get? b=some o)->h'.get? s.heap.objs.size=some { cls:=.type "list",dict:=none,data:=.seq acc c',slots:=#[] }->ItemsOf P acc n->wpAny (model prog w) A (load s.heap.objs.size >>= fun o=>match o.data with | .seq xs _=>pure xs.toList | _=>unsupported "internal:collect") Q E { s with heap:=h',toks:=tk }:=fun h' tk acc c' kp g' it=>by
  refine wpAny_bind (wpAny_load g' ?_);exact wpAny_pure (hQ h' tk acc (fun b o e=>kp b o (hAi (Heap.lt_size e)) (Heap.get?_push_of_some _ e)) it)
 refine wpAny_mono key (fun f s' hf=>?_) fun e s' he=>absurd he.1 (by intro z;cases z)
 cases f with
 | done f =>
  obtain⟨e,h',tk,acc,c',rfl,kp,g',it⟩:=hf;cases e;exact fin h' tk acc c' kp g' it
 | again c =>
  refine⟨hf.1,codeAny_mono hf.2 fun r s' h=>?_⟩;obtain⟨rfl,h',tk,acc,c',rfl,kp,g',it⟩:=h;exact fin h' tk acc c' kp g' it
end
section
variable {X:Cx}
theorem qL4 {vs:List (Key×Value)} {acc:Array Value} (h:ItemsOf (fun i v=>∃ k,vs[i]?=some (k,v)) acc vs.length):acc.toList=vs.map (·.2):=by
 refine hBr fun i=>?_
 by_cases hi:i<vs.length
 ·have hi':i<acc.size:=by rw[h.1];exact hi
  obtain⟨k,e⟩:=h.2 i _ (hBk hi');rw[hAx,hBk hi',hAl,e];rfl
 ·rw[hAx,Array.getElem?_eq_none (by rw[h.1];omega),hAy (by rw[hA1];omega)]
theorem qHw (hc:X.calm=true) (hu:X.A.units+2<cLine):qB9 X (.builtin "sorted") (fun xs H Q=>∃ (v d:Addr) (kvs:List (Key×V)) (as:List Addr) (ts:List (List Str)),xs=[.ref v]/\H v=some (VwS v d)/\H d=some (.dK kvs)/\kvs.map (·.2)=as.map V.ref/\Paired (fun a t=>SqL X.K H a (t.map V.str)) as ts/\as.length<64/\∀ (r:Addr) (o:Array Nat),H r=none->Gd as.length o->SPk (ltI ts) o as.length->Q (.ref r) (upd H r (.lst ((o.toList.map fun i=>as.getD i 0).map V.ref)))):=by
 intro pins s σ H xs us Q I r h;obtain⟨v,d,kvs,as,ts,rfl,hv,hH,ea,ht,h64,q⟩:=h;obtain⟨u,rfl,rx⟩:=qC0 r;cases rx;obtain⟨hz,hsm,vs,kv,o,es,ep,ho,hx,hd,hk,hp,nd⟩:=qOv I.hok hH;have vw:s.heap.IsValuesView v d:=(I.hok v _ hv).1;have hlen:=kv.length;have rv:=qS1 kv;rw[ea]at rv;have ev:=refs_of rv;have la:vs.length=as.length:=by have:=congrArg List.length ev;rw[hA1,hA1]at this;exact this
 refine Calls.call_function_entry kind_sorted plain_sorted entry_sorted (args_sorted1 _) ?_;unfold Builtin.«sorted»;refine wpAny_bind (m:=checkCount "sorted" 1 1 _) (wpAny_pure (wpAny_bind (qJ5 (PySem.W.kdl_values (knd:=qA2 X.prog X.w) (kvs:=vs) (ep:=ep)) (I.ok.hd hc) ⟨vw,⟨o,es,ho,hx,hd,hk,hp,nd⟩⟩ (by rw[sizeLine_eq];omega) fun h' tk acc kp it=>?_)));rw[qL4 it,ev];have I1:Inv X pins σ H { s with heap:=h',toks:=tk }:=I.kept (t':=tk) kp;have lz:(as.map Value.ref).length<=sizeLine:=by rw[hA1,sizeLine_eq];omega
 refine wpAny_bind (wpAny_newList ?_ lz);have gL:(h'.push (seqObj "list" (as.map Value.ref).toArray 0)).get? h'.objs.size=some (seqObj "list" (as.map Value.ref).toArray 0):=Heap.get?_push_size _ rfl;have k2:∀ b o,h'.get? b=some o->(h'.push (seqObj "list" (as.map Value.ref).toArray 0)).get? b=some o:=fun b o e=>Heap.get?_push_of_some _ e
 have tp:=qHi (h':=h'.push (seqObj "list" (as.map Value.ref).toArray 0)) I1 k2 ht;refine wpAny_bind (wpAny_holding (wpAny_call_entry slot_list_sort ⟨_,gL,rfl⟩ entry_list_sort (qFe ?hu gL tp (by rw[hA1];exact h64) (fun v hv z=>?_) fun out p hp hg hsp eo=>⟨_,rfl,?_⟩) (args_list_sort _)))
 case hu=>omega
 ·obtain⟨b,hb,e⟩:=hAj.mp hv;rw[<-e]at z;injection z with z
  have lt:=qHj I1 ht b hb;exact absurd lt (by rw[z];exact hB3 _)
 rw[hA1]at hg hsp;rw[qIf fun i hi=>qK6 hg hi]at eo;subst eo;obtain⟨e,he⟩:=sortedHeap_at (out:=((p.toList.map fun i=>as.getD i 0).map Value.ref).toArray) gL;refine wpAny_pure ⟨_,rfl,.ref h'.objs.size,_,I1.laid (t':=tk) (a:=h'.objs.size) (o:=.lst ((p.toList.map fun i=>as.getD i 0).map V.ref)) (h':=sortedHeap (h'.push (seqObj "list" (as.map Value.ref).toArray 0)) h'.objs.size (as.map Value.ref) ((p.toList.map fun i=>as.getD i 0).map Value.ref).toArray) (fun b o eb=>?_) (hA4 _) ⟨?_,(p.toList.map fun i=>as.getD i 0).map Value.ref,e,qDv _,he⟩,rfl,q _ p (I1.hok.fresh (hA4 _)) hg hsp⟩
 ·have lt:=Heap.lt_size eb;rw[sortedHeap_old (hAi lt) (by rw[size_push'];exact hAs lt)];exact k2 b o eb
 ·rw[hA1,hA1,qOl hg];exact hAq (qAg (by omega))
end
section
variable {X:Cx}
def qVu (N:Nat) (K:PySem.W.Frag) (C:Addr) (E:XK) (tb ts:TS):TS:=fun D σ H=>tb D σ H/\∀ (cls:Value) (H':Hp) (ea:Addr) (σ':St),E cls none H'->H' ea=none->σ'.length=N ->
 PySem.W.exmOne K cls (.ref C)=some true/\ts D σ' (upd H' ea (exO ea cls))
theorem qR8
  (hb:∀ xe pn,qI1 (CXe X.prog X.w) { X with xe:=xe,pn:=pn } E->PSs { X with xe:=xe,pn:=pn } body tb) (hg:Gl X cn) (hm:X.mg cn=some (.ref C))
  (hs:∀ e,PSs { X with A:=X.A.mark (some e),calm:=false,xe:=fun _ _=>False } (b0 :: suite) ts)
  (hex:X.ex=[]) (hst:X.stack=X.env :: X.outer) (hfr:X.env.frame=some X.env.locals) (hd:(cn == ("__debug__" : Str))=false:=by decide) :
  PS X (.Try body [.ExceptHandler (some (.Name cn cp)) none (b0 :: suite) hp] [] [] pos) (qVu X.N.length X.K C E tb ts):=by
 intro pins s σ H D I ⟨h1,h2⟩;refine wpAny_Try_except ?_;have B:=hb (fun e s'=>∃ pins' σ' H1 s1,Inv { X with pn:=X.pn++pins } pins' σ' H1 s1/\CXe X.prog X.w X.stack H1 s1 E e s') (X.pn++pins) (fun pins' σ' H1 s1 e s' I' c=>⟨pins',σ',H1,s1,I'.move (fun _ z=>z) rfl I'.ok.hd,c⟩)
  [] s σ H D (I.move (fun p hp=>by rw[hC2]at hp;exact hp) rfl I.ok.hd) h1
 have back:∀ {xe:Value->Shared->Prop} {pins':List (Addr×Obj)} {σ':St} {H':Hp} {s':Shared},Inv { X with xe:=xe,pn:=X.pn++pins } pins' σ' H' s'->Inv X pins σ' H' s':=fun J=>J.move (fun p hp=>hB1 _ hp) rfl J.ok.hd
 refine wpAny_mono B (fun f s1 q=>?_) fun e s1 q=>?_
 ·cases f with
  | next=>obtain⟨σ',H',J,q⟩:=q;exact wpAny_execs_nil ⟨σ',H',back J,q⟩
  | brk=>obtain⟨σ',H',J,q⟩:=q;exact⟨σ',H',back J,q⟩
  | cont=>obtain⟨σ',H',J,q⟩:=q;exact⟨σ',H',back J,q⟩
  | ret u=>obtain⟨v,σ',H',J,r,q⟩:=q;exact⟨v,σ',H',back J,r,q⟩
 obtain⟨pins',σ',H1,s0,I1,ea,cls,H',rfl,os,bare,un,hok,⟨f1,f2,a0,oe,vs,T,oT,ts',t1,t2,t3,t4,t5,t6,t7,t8,t9,t10⟩,qE⟩:=q;have I0:Inv X pins σ' H1 s0:=back (xe:=X.xe) I1;have J:Inv X pins σ' H' s1:=I0.call' (ch:=[]) os un hok bare (fun b z=>by cases z);have ne:New X pins ea:=I0.new_of hex f1;have nT:New X pins T:=I0.new_of hex t6;have hn:∀ b∈[ea,T],New X pins b:=fun b hb=>by
  rcases hA9.mp hb with z | z
  ·rw[z];exact ne
  ·rw[hA7.mp z];exact nT
 have hH:∀ b∈[ea,T],H' b=none:=fun b hb=>by
  rcases hA9.mp hb with z | z
  ·rw[z];exact f2
  ·rw[hA7.mp z];exact t7
 have fl:Heap.FlyingW (PySem.W.hideAll s1.heap ([ea,T]++frs X.stack)) (X.env :: X.outer) ea cls a0 s1.heap:=by
  refine⟨fun b o z=>PySem.W.of_hideAll _ z,hBp _ (by simp),?_,oe,vs,T,oT,ts',t1,t2,t3,t4,hBp _ (by simp),t5,t8,t9,t10⟩;rw[<-hst];exact qHo J.stack fun a ha=>hBp _ (hA8 _ ha)
 refine wpAny_looks_onW (J.ok.frames.trans (by rw[hst])) hfr fl fun g1 hl1 up1=>?_
 refine wpAny_landsW hl1 fun g2 fl2 up2=>?_
 have J2:Inv X pins σ' H' { s1 with heap:=g2 }:=J.flown hn hH fl2.1 (up1.trans up2);obtain⟨hm1,hr1⟩:=h2 cls H' ea σ' qE f2 J.len;refine wpAny_handleBy_cons (codeAny_handlers_test ?_) (by intro q;cases q);refine qHk (X:={ X with A:=X.A.mark (some (.ref ea)),calm:=false,xe:=fun _ _=>False }) (J2.move (fun _ z=>z) rfl (fun z=>by cases z)) hg hm ?_ hd;obtain⟨ob,he,hcls⟩:=fl2.there;have LT:PySem.W.Looks (model X.prog X.w) g2 (typeOf (.ref ea)) cls:=by
  rw[<-hcls];exact(PySem.W.Looks.ld he).andThen .now
 refine(PySem.W.exm_one J2.kIn LT hm1).here ?_;refine codeAny_handlers_suite ?_;refine lands_againW fl2 fun g3 fl3 up3=>?_
 have J3:Inv X pins σ' H' { s1 with heap:=g3 }:=J.flown hn hH fl3.1 ((up1.trans up2).trans up3);have J4:=J3.adopt (cls:=cls) ne f2 fl3.there;refine wpAny_mono (hs (.ref ea) pins _ _ _ _ (J4.move (fun _ z=>z) rfl (fun z=>by cases z)) hr1) (fun f s6 q=>?_) fun _ _ z=>z.elim
 have back2:∀ {σ':St} {H':Hp} {s':Shared},Inv { X with A:=X.A.mark (some (.ref ea)),calm:=false,xe:=fun _ _=>False } pins σ' H' s'->Inv X pins σ' H' s':=fun J=>J.move (fun _ z=>z) rfl I.ok.hd
 cases f with
 | next=>obtain⟨σ2,H2,K2,q⟩:=q;exact⟨_,_,back2 K2,q⟩
 | brk=>obtain⟨σ2,H2,K2,q⟩:=q;exact⟨_,_,back2 K2,q⟩
 | cont=>obtain⟨σ2,H2,K2,q⟩:=q;exact⟨_,_,back2 K2,q⟩
 | ret u=>obtain⟨v,σ2,H2,K2,r,q⟩:=q;exact⟨v,_,_,back2 K2,r,q⟩
end
end L2
namespace My
open PySem L2
inductive Sg
 | no
 | turn (ss:List Str)
 | apart (a:Str) (ss:List Str) (b:Str)
 | tog (a b:Str)
def qWw (H:Hp) (ys:List V):Prop:=ys=[]\/∃ (s0:Str) (r:List V),ys = .str s0 :: r/\(s0 = "turn"->∀ y1,r=[y1]->qMe H y1)/\(s0 = "apart"->∀ y1 y2 y3,r=[y1,y2,y3]->qMe H y2/\∃ a b,y1 = .str a/\y3 = .str b/\qAz a/\qAz b)/\(s0 = "together"->∀ y1 y2,r≠[y1,y2])
def qWy (H:Hp) (x:V):Prop:=qTo H x\/∃ (a:Addr) (ys:List V),x = .ref a/\H a=some (.tup ys)/\ys.length<=100/\qWw H ys
def qTd (ok:Addr->Prop) (H:Hp) (q:Addr) (ss:List Str):Prop:=LsS H q ss/\ss.length<=100/\(∀ s∈ss,qAz s)/\ok q
def qDt (ok:Addr->Prop) (H:Hp) (v:V):Sg->Prop
 | .no=>qWy H v
 | .turn ss=>∃ st q,v = .ref st/\H st=some (.tup [.str "turn",.ref q])/\qTd ok H q ss
 | .apart a ss b=>∃ st q,v = .ref st/\H st=some (.tup [.str "apart",.str a,.ref q,.str b])/\qTd ok H q ss/\qAz a/\qAz b
 | .tog a b=>∃ st,v = .ref st/\H st=some (.tup [.str "together",.str a,.str b])/\qAz a/\qAz b
def Kw (H H':Hp):Prop:=∀ b o,H b=some o->H' b=some o\/((∃ n:Int,o = .lst [.int n])/\∃ n':Int,H' b=some (.lst [.int n']))
theorem Kw.of {H H':Hp} (e:Ext H H'):Kw H H':=fun b o h=>.inl (e b o h)
theorem Kw.dr {d:Addr} {H H':Hp} {n:Int} (hd:H d=some (.lst [.int n])) (e:Dr d H H'):Kw H H':=fun b o h=>by
 by_cases c:b=d
 ·rw[c,hd]at h;obtain⟨q,z⟩:=e.1;exact .inr ⟨⟨n,(hAg h).symm⟩,q,by rw[c];exact z⟩
 ·exact .inl (e.2 b o c h)
theorem Kw.trans {H H1 H2:Hp} (a:Kw H H1) (b:Kw H1 H2):Kw H H2:=fun x o h=>by
 rcases a x o h with z | ⟨e,n',z⟩
 ·exact b x o z
 ·rcases b x _ z with y | ⟨_,n2,y⟩
  ·exact .inr ⟨e,n',y⟩
  ·exact .inr ⟨e,n2,y⟩
theorem Kw.tup {H H':Hp} (k:Kw H H') {a:Addr} {xs:List V} (h:H a=some (.tup xs)):H' a=some (.tup xs):=by
 rcases k a _ h with z | ⟨⟨n,e⟩,_⟩
 ·exact z
 ·cases e
theorem Kw.refs {H H':Hp} (k:Kw H H') {a:Addr} {as:List Addr} (h:H a=some (.lst (as.map V.ref))):H' a=some (.lst (as.map V.ref)):=by
 rcases k a _ h with z | ⟨⟨n,e⟩,_⟩
 ·exact z
 ·cases as with
  | nil=>cases e
  | cons x r=>cases e
theorem Kw.strs {H H':Hp} (k:Kw H H') {a:Addr} {ss:List Str} (h:LsS H a ss):LsS H' a ss:=by
 rcases k a _ h with z | ⟨⟨n,e⟩,_⟩
 ·exact z
 ·cases ss with
  | nil=>cases e
  | cons x r=>cases e
theorem Kw.lst {H H':Hp} (k:Kw H H') {a:Addr} {xs:List V} (h:H a=some (.lst xs)):∃ ys,H' a=some (.lst ys):=by
 rcases k a _ h with z | ⟨_,n,z⟩
 ·exact⟨_,z⟩
 ·exact⟨_,z⟩
theorem Kw.net {H H':Hp} (k:Kw H H') {p:Addr} {net:List Tr} (h:qAy H p net):qAy H' p net:=by
 obtain⟨as,h1,h2⟩:=h;exact⟨as,k.refs h1,Paired.mapP h2 fun a t z=>k.tup z⟩
theorem Kw.notL {H H':Hp} (k:Kw H H') {x:V} (h:qMe H x):qMe H' x:=by
 rcases h with z | z | z | z | ⟨a,xs,z,h⟩
 ·exact .inl z
 ·exact .inr (.inl z)
 ·exact .inr (.inr (.inl z))
 ·exact .inr (.inr (.inr (.inl z)))
 ·exact .inr (.inr (.inr (.inr ⟨a,xs,z,k.tup h⟩)))
theorem Kw.notT {H H':Hp} (k:Kw H H') {x:V} (h:qTo H x):qTo H' x:=by
 rcases h with z | z | z | ⟨a,xs,z,h⟩
 ·exact .inl z
 ·exact .inr (.inl z)
 ·exact .inr (.inr (.inl z))
 ·obtain⟨ys,h'⟩:=k.lst h;exact .inr (.inr (.inr ⟨a,ys,z,h'⟩))
theorem qAz.item {H:Hp} {s:Str} (h:qAz s):Item H (.str s) (.str s):=.inr (.inr (.inr (.inl ⟨s,rfl,rfl,by have:=h.2.2;omega,h.1.sm⟩)))
theorem qAz.ptv {s:Str} (h:qAz s):PtV (.str s) (.str s):=.inl ⟨s,rfl,rfl,h.1.sm⟩
theorem Kw.tupN {H H':Hp} (k:Kw H H') {ys:List V} (h:qWw H ys):qWw H' ys:=by
 rcases h with h | ⟨s0,r,h1,h2,h3,h4⟩
 ·exact .inl h
 ·exact .inr ⟨s0,r,h1,fun z y1 e=>k.notL (h2 z y1 e),fun z y1 y2 y3 e=>⟨k.notL (h3 z y1 y2 y3 e).1,(h3 z y1 y2 y3 e).2⟩,h4⟩
theorem qTd.kw {ok:Addr->Prop} {H H':Hp} {q:Addr} {ss:List Str} (h:qTd ok H q ss) (k:Kw H H'):qTd ok H' q ss:=⟨k.strs h.1,h.2⟩
theorem qDt.kw {ok:Addr->Prop} {H H':Hp} {v:V} {g:Sg} (h:qDt ok H v g) (k:Kw H H'):qDt ok H' v g:=by
 cases g with
 | no =>
  rcases h with h | ⟨a,ys,h1,h2,h3,h4⟩
  ·exact .inl (k.notT h)
  ·exact .inr ⟨a,ys,h1,k.tup h2,h3,k.tupN h4⟩
 | turn ss=>obtain⟨st,q,h1,h2,h3⟩:=h;exact⟨st,q,h1,k.tup h2,h3.kw k⟩
 | apart a ss b=>obtain⟨st,q,h1,h2,h3,h4⟩:=h;exact⟨st,q,h1,k.tup h2,h3.kw k,h4⟩
 | tog a b=>obtain⟨st,h1,h2,h4⟩:=h;exact⟨st,h1,k.tup h2,h4⟩
theorem qDt.imp {ok ok':Addr->Prop} {H:Hp} {v:V} {g:Sg} (h:qDt ok H v g) (k:∀ q,ok q->ok' q):qDt ok' H v g:=by
 cases g with
 | no=>exact h
 | turn ss=>obtain⟨st,q,h1,h2,h3⟩:=h;exact⟨st,q,h1,h2,h3.1,h3.2.1,h3.2.2.1,k q h3.2.2.2⟩
 | apart a ss b=>obtain⟨st,q,h1,h2,h3,h4⟩:=h;exact⟨st,q,h1,h2,⟨h3.1,h3.2.1,h3.2.2.1,k q h3.2.2.2⟩,h4⟩
 | tog a b=>exact h
theorem qDt.over {t:Addr} {H:Hp} {v:V} {g:Sg} {xs ys:List V} (h:qDt (·≠t) H v g) (hg:g≠.no) (ht:H t=some (.lst xs)):qDt (·≠t) (upd H t (.lst ys)) v g:=by
 have tp:∀ {a zs},H a=some (.tup zs)->(upd H t (.lst ys)) a=some (.tup zs):=fun {a zs} h=>by
  rw[qAh (fun z=>by rw[z,ht]at h;cases h)];exact h
 cases g with
 | no=>exact absurd rfl hg
 | turn ss=>obtain⟨st,q,h1,h2,h3⟩:=h;exact⟨st,q,h1,tp h2,by unfold LsS;rw[qAh h3.2.2.2];exact h3.1,h3.2⟩
 | apart a ss b=>obtain⟨st,q,h1,h2,h3,h4⟩:=h;exact⟨st,q,h1,tp h2,⟨by unfold LsS;rw[qAh h3.2.2.2];exact h3.1,h3.2⟩,h4⟩
 | tog a b=>obtain⟨st,h1,h2,h4⟩:=h;exact⟨st,h1,tp h2,h4⟩
abbrev qMf:Addr->Prop:=fun _=>True
abbrev Sgs (ok:Addr->Prop) (H:Hp) (xs:List V) (gs:List Sg):Prop:=Paired (qDt ok H) xs gs
theorem Sgs.kw {ok:Addr->Prop} {H H':Hp} {xs:List V} {gs:List Sg} (h:Sgs ok H xs gs) (k:Kw H H'):Sgs ok H' xs gs:=Paired.mapP h fun _ _ z=>z.kw k
def qE2 (net:List Tr):Sg->List Tr->Prop
 | .no,_=>False
 | .turn ss,m=>∃ a b,qTc net (some (ss.map V.str)) ss a b/\m=qJn net ss (gP [(a,b),(b,a)])
 | .apart a ss b,m=>qPf net (.str a) (some (ss.map V.str)) (.str b) ss a b/\m=qJn net ss (gP [(a,b)])
 | .tog a b,m=>qTi net (.str a) (.str b) a b/\m=qJn net (net.map nmF) (gP [(b,a)])
theorem qE2.uniq {net:List Tr} {g:Sg} {m m':List Tr} (h:qE2 net g m) (h':qE2 net g m'):m=m':=by
 cases g with
 | no=>exact h.elim
 | turn ss =>
  obtain⟨a,b,⟨_,ps,p1,p2,p3⟩,rfl⟩:=h;obtain⟨a',b',⟨_,ps',q1,q2,q3⟩,rfl⟩:=h';cases pts_uniq p1 p2 q1 q2;rw[p3]at q3;cases q3;rfl
 | apart a ss b=>rw[h.2,h'.2]
 | tog a b=>rw[h.2,h'.2]
def qBn:List Tr->List Sg->List Tr->Prop
 | net,[],m=>m=net
 | net,g :: gs,m=>∃ k,qE2 net g k/\qBn k gs m
theorem qBn.uniq:∀ {gs:List Sg} {net m m':List Tr},qBn net gs m->qBn net gs m'->m=m'
 | [],_,_,_,h,h'=>h.trans h'.symm
 | g :: gs,net,m,m',⟨k,h1,h2⟩,⟨k',h1',h2'⟩=>by
  cases h1.uniq h1';exact qBn.uniq h2 h2'
theorem qBn.snoc:∀ {gs:List Sg} {net m k:List Tr} {g:Sg},qBn net gs m->qE2 m g k->qBn net (gs++[g]) k
 | [],net,m,k,g,h,s=>by cases h;exact⟨k,s,rfl⟩
 | g0 :: gs,net,m,k,g,⟨k0,h1,h2⟩,s=>⟨k0,h1,qBn.snoc h2 s⟩
theorem qBn.split:∀ {gs hs:List Sg} {net m k:List Tr},qBn net gs m->qBn net (gs++hs) k->qBn m hs k
 | [],hs,net,m,k,h,z=>by cases h;exact z
 | g :: gs,hs,net,m,k,⟨k0,h1,h2⟩,⟨k1,z1,z2⟩=>by
  cases h1.uniq z1;exact qBn.split h2 z2
theorem qHg {pl:List (Str×Str)} (h:∀ p∈pl,qAz p.2) {x:Str} (hx:qAz x):qAz (gP pl x):=by
 unfold gP;cases e:pl.find? fun p=>decide (p.1=x) with
 | none=>exact hx
 | some p=>exact h p (List.mem_of_find?_eq_some e)
def TxT (t:Tr):Prop:=qAz t.1/\qAz t.2.1/\qAz t.2.2/\leB t.2.1 t.2.2=true
def TxN (net:List Tr):Prop:=∀ t∈net,TxT t
theorem qDq {α β:Type} {R:α->β->Prop}:∀ {as:List α} {bs:List β},Paired R as bs->∀ b∈bs,∃ a∈as,R a b
 | _,_,.nil,b,h=>by cases h
 | _,_,.cons h t,b,hb=>by
  rcases hA9.mp hb with rfl | z
  ·exact⟨_,hA6,h⟩
  ·obtain⟨a,ha,r⟩:=qDq t b z;exact⟨a,hA5 _ ha,r⟩
theorem qI6 {net:List Tr} {ties:List Str} {g:Str->Str} (tx:TxN net) (hg:∀ x,qAz x->qAz (g x)):TxN (qJn net ties g):=by
 intro t ht;obtain⟨u,hu,rfl⟩:=hAj.mp ht;obtain⟨n1,n2,n3,_⟩:=tx u hu;have e1:∀ x,qAz x->qAz (exT ties g u x):=fun x hx=>by unfold exT;split;exact hg x hx;exact hx
 refine⟨n1,?_,?_,qS0 _ _⟩
 ·show qAz (mnS _ _);unfold mnS;split;exact e1 _ n3;exact e1 _ n2
 ·show qAz (mxS _ _);unfold mxS;split;exact e1 _ n3;exact e1 _ n2
theorem qFj {net:List Tr} (tx:TxN net) {x:Str} (h:qJt net x):qAz x:=by
 obtain⟨t,ht,rfl | rfl⟩:=h
 ·exact(tx t ht).2.1
 ·exact(tx t ht).2.2.1
theorem qUi {net:List Tr} (tx:TxN net):∀ s,qJt net s->PyData.strOk s=true:=fun s h=>(qFj tx h).1.sm.ok
theorem qHh (net:List Tr) (ties:List Str) (g:Str->Str):(qJn net ties g).length=net.length:=by unfold qJn;rw[hA1]
theorem qJm (net:List Tr) (ties:List Str) (g:Str->Str):(qJn net ties g).map (·.1)=net.map (·.1):=by unfold qJn;rw[hBf];rfl
def SgT:Sg->Prop
 | .apart a _ b=>qAz a/\qAz b
 | .tog a b=>qAz a/\qAz b
 | _=>True
theorem qDt.tx {ok:Addr->Prop} {H:Hp} {v:V} {g:Sg} (h:qDt ok H v g):SgT g:=by
 cases g with
 | no=>trivial
 | turn ss=>trivial
 | apart a ss b=>obtain⟨st,q,_,_,_,h⟩:=h;exact h
 | tog a b=>obtain⟨st,_,_,h⟩:=h;exact h
theorem qE2.good {net m:List Tr} {g:Sg} (h:qE2 net g m) (tx:TxN net) (sg:SgT g):TxN m/\m.length=net.length/\m.map (·.1)=net.map (·.1):=by
 cases g with
 | no=>exact h.elim
 | turn ss =>
  obtain⟨a,b,⟨_,ps,p1,p2,p3⟩,rfl⟩:=h;refine⟨qI6 tx fun x hx=>qHg (fun p hp=>?_) hx,qHh _ _ _,qJm _ _ _⟩;have ma:a∈ps.filter (shF net ss):=by rw[p3];simp
  have mb:b∈ps.filter (shF net ss):=by rw[p3];simp
  have na:=qFj tx ((p1.2 a).mp (hC1.mp ma).1);have nb:=qFj tx ((p1.2 b).mp (hC1.mp mb).1);simp only[hA9,hAv,or_false]at hp;rcases hp with rfl | rfl
  ·exact nb
  ·exact na
 | apart a ss b =>
  obtain⟨_,rfl⟩:=h;exact⟨qI6 tx fun x hx=>qHg (fun p hp=>by rw[hA7.mp hp];exact sg.2) hx,qHh _ _ _,qJm _ _ _⟩
 | tog a b =>
  obtain⟨_,rfl⟩:=h;exact⟨qI6 tx fun x hx=>qHg (fun p hp=>by rw[hA7.mp hp];exact sg.1) hx,qHh _ _ _,qJm _ _ _⟩
theorem qBn.good:∀ {gs:List Sg} {net m:List Tr},qBn net gs m->TxN net->(∀ g∈gs,SgT g)->TxN m/\m.length=net.length/\m.map (·.1)=net.map (·.1)
 | [],net,m,h,tx,_=>by cases h;exact⟨tx,rfl,rfl⟩
 | g :: gs,net,m,⟨k,h1,h2⟩,tx,sg=>by
  obtain⟨t1,l1,n1⟩:=h1.good tx (sg g hA6);obtain⟨t2,l2,n2⟩:=qBn.good h2 t1 fun g hg=>sg g (hA5 _ hg)
  exact⟨t2,l2.trans l1,n2.trans n1⟩
theorem Sgs.tx {ok:Addr->Prop} {H:Hp} {xs:List V} {gs:List Sg} (h:Sgs ok H xs gs):∀ g∈gs,SgT g:=fun g hg=>by
 obtain⟨v,_,z⟩:=qDq h g hg;exact z.tx
def qB4 (net:List Tr) (R:List (List Str)):Prop:=Srt R/\∃ ps,qE3 net ps/\R.Perm (ps.map (qCl net))
theorem qPt {net:List Tr} {ps ps':List Str} (h:qE3 net ps) (h':qE3 net ps'):ps.Perm ps':=(List.perm_ext_iff_of_nodup h.1 h'.1).mpr fun x=>(h.2 x).trans (h'.2 x).symm
theorem qB4.uniq {net:List Tr} {R R':List (List Str)} (h:qB4 net R) (h':qB4 net R'):R=R':=by
 obtain⟨s,ps,pk,p⟩:=h;obtain⟨s',ps',pk',p'⟩:=h';exact qKd s s' (p.trans (((qPt pk pk').map _).trans p'.symm))
theorem qH3 {net:List Tr} {x n:Str}:n∈qCl net x↔∃ t∈net,n=t.1/\(t.2.1=x\/t.2.2=x):=by
 unfold qCl;rw[hC9];constructor
 ·rintro⟨l,hl,hn⟩;obtain⟨t,ht,rfl⟩:=hAj.mp hl;unfold stT at hn;rcases hAd.mp hn with z | z
  ·split at z
   ·rename_i c;exact⟨t,ht,hA7.mp z,.inl c⟩
   ·cases z
  ·split at z
   ·rename_i c;exact⟨t,ht,hA7.mp z,.inr c⟩
   ·cases z
 ·rintro⟨t,ht,rfl,c⟩;refine⟨_,hAj.mpr ⟨t,ht,rfl⟩,?_⟩;unfold stT;rcases c with c | c
  ·rw[if_pos c];exact hB1 _ (hA7.mpr rfl)
  ·rw[if_pos c];exact hA8 _ (hA7.mpr rfl)
theorem qB4.names {net:List Tr} {R:List (List Str)} (h:qB4 net R) (n:Str):(∃ r∈R,n∈r)↔n∈net.map (·.1):=by
 obtain⟨_,ps,pk,p⟩:=h;constructor
 ·rintro⟨r,hr,hn⟩;obtain⟨x,hx,rfl⟩:=hAj.mp (p.mem_iff.mp hr);obtain⟨t,ht,rfl,_⟩:=qH3.mp hn;exact hAj.mpr ⟨t,ht,rfl⟩
 ·intro hn;obtain⟨t,ht,rfl⟩:=hAj.mp hn;have hp:t.2.1∈ps:=(pk.2 _).mpr ⟨t,ht,.inl rfl⟩;exact⟨_,p.mem_iff.mpr (hAj.mpr ⟨_,hp,rfl⟩),qH3.mpr ⟨t,ht,rfl,.inl rfl⟩⟩
def qMb (m n:List Tr):Prop:=∃ R,qB4 m R/\qB4 n R
theorem qMb.names {m n:List Tr} (h:qMb m n) (x:Str):x∈m.map (·.1)↔x∈n.map (·.1):=by
 obtain⟨R,h1,h2⟩:=h;exact(h1.names x).symm.trans (h2.names x)
theorem qKo {m n:List Tr} {R R':List (List Str)} (h:qB4 m R) (h':qB4 n R'):R=R'↔qMb m n :=
 ⟨fun e=>⟨R,h,by rw[e];exact h'⟩,fun ⟨S,s1,s2⟩=>(h.uniq s1).trans (h'.uniq s2).symm⟩
end My
namespace My
open PySem L2
def StR (H:Hp) (net:List Tr) (g:Sg) (Q:VK):Prop:=(∀ m r H',qE2 net g m->Ext H H'->H r=none->qAy H' r m->Q (.ref r) H')/\∀ H',Ext H H'->(¬∃ m,qE2 net g m)->Q .non H'
def qI9:Sp:=fun vs H Q _=>∃ (p:Addr) (net:List Tr) (v:V) (ok:Addr->Prop) (g:Sg),vs=[.ref p,v]/\qAy H p net/\net.length<=12/\TxN net/\qDt ok H v g/\StR H net g Q
def qQw (C:Addr):Sp:=fun vs H Q E=>∃ (p:Addr) (net:List Tr) (v:V) (ok:Addr->Prop) (g:Sg),vs=[.ref p,v]/\qAy H p net/\net.length<=12/\TxN net/\qDt ok H v g/\(∀ m r H',qE2 net g m->Ext H H'->H r=none->qAy H' r m->Q (.ref r) H')/\∀ H',Ext H H'->(¬∃ m,qE2 net g m)->E (.ref C) none H'
structure TupG (H:Hp) (net:List Tr) (s0:Str) (r:List V) (Q:VK):Prop where
 t:s0 = "turn"->∀ y1,r=[y1]->∃ o,RLk H y1 o/\qTb H net o Q
 a:s0 = "apart"->∀ y1 y2 y3,r=[y1,y2,y3]->∃ o D E,PtV y1 E/\RLk H y2 o/\Item H y3 D/\qPe H net y1 o y3 Q
 g:s0 = "together"->∀ y1 y2,r=[y1,y2]->∃ D E,Item H y1 D/\Item H y2 E/\qTh H net y1 y2 Q
 n:(s0 = "turn"->∀ y1,r≠[y1])->(s0 = "apart"->∀ y1 y2 y3,r≠[y1,y2,y3])->(s0 = "together"->∀ y1 y2,r≠[y1,y2])->Q .non H
theorem qSy {r:List V} {y:V} (c:(y :: r).length=2):∃ y1,r=[y1]:=by
 match r,c with
 | [y1],_=>exact⟨y1,rfl⟩
theorem qSx {r:List V} {y:V} (c:(y :: r).length=3):∃ y1 y2,r=[y1,y2]:=by
 match r,c with
 | [y1,y2],_=>exact⟨y1,y2,rfl⟩
theorem qN6 {r:List V} {y:V} (c:(y :: r).length=4):∃ y1 y2 y3,r=[y1,y2,y3]:=by
 match r,c with
 | [y1,y2,y3],_=>exact⟨y1,y2,y3,rfl⟩
theorem qTd.rl {ok:Addr->Prop} {H:Hp} {q:Addr} {ss:List Str} (h:qTd ok H q ss):RLk H (.ref q) (some (ss.map V.str)) :=
 .inl ⟨q,_,rfl,rfl,h.1,by rw[hA1];exact h.2.1,fun y hy=>by
  obtain⟨s,hs,rfl⟩:=hAj.mp hy;exact⟨_,(h.2.2.1 s hs).item⟩⟩
theorem qRk.ss {net:List Tr} {ss ss':List Str} (h:qRk net (some (ss.map V.str)) ss'):ss'=ss:=(strs_inj (hAg h.1)).symm
theorem StR.turn {H:Hp} {net:List Tr} {ss:List Str} {Q:VK} (h:StR H net (.turn ss) Q):qTb H net (some (ss.map V.str)) Q:=by
 refine⟨fun ss' a b r H' tp e r0 nt=>?_,fun H' e no=>h.2 H' e fun ⟨m,a,b,tp,_⟩=>no ⟨ss,a,b,tp⟩⟩;cases tp.1.ss;exact h.1 _ r H' ⟨a,b,tp,rfl⟩ e r0 nt
theorem StR.apart {H:Hp} {net:List Tr} {ss:List Str} {a b:Str} {Q:VK} (h:StR H net (.apart a ss b) Q):qPe H net (.str a) (some (ss.map V.str)) (.str b) Q:=by
 refine⟨fun ss' a' b' r H' tp e r0 nt=>?_,fun H' e no=>h.2 H' e fun ⟨m,tp,_⟩=>no ⟨ss,a,b,tp⟩⟩;cases tp.1.ss;cases tp.2.1;cases tp.2.2.1;exact h.1 _ r H' ⟨tp,rfl⟩ e r0 nt
theorem StR.tog {H:Hp} {net:List Tr} {a b:Str} {Q:VK} (h:StR H net (.tog a b) Q):qTh H net (.str a) (.str b) Q:=by
 refine⟨fun a' b' r H' tp e r0 nt=>?_,fun H' e no=>h.2 H' e fun ⟨m,tp,_⟩=>no ⟨a,b,tp⟩⟩;cases tp.1;cases tp.2.1;exact h.1 _ r H' ⟨tp,rfl⟩ e r0 nt
theorem StR.no {H H':Hp} {net:List Tr} {Q:VK} (h:StR H net .no Q) (e:Ext H H'):Q .non H':=h.2 H' e fun ⟨_,z⟩=>z
theorem sg_cases {ok:Addr->Prop} {H:Hp} {v:V} {g:Sg} {net:List Tr} {Q:VK} (h:qDt ok H v g) (s:StR H net g Q):(qTo H v/\Q .non H)\/∃ st ys,v = .ref st/\H st=some (.tup ys)/\ys.length<=100/\((ys=[]/\Q .non H)\/∃ s0 r,ys = .str s0 :: r/\TupG H net s0 r Q):=by
 cases g with
 | no =>
  have q0:=s.no (Ext.refl _);rcases h with h | ⟨a,ys,rfl,h2,h3,h4⟩
  ·exact .inl ⟨h,q0⟩
  refine .inr ⟨a,ys,rfl,h2,h3,?_⟩;rcases h4 with z | ⟨s0,r,z,n1,n2,n3⟩
  ·exact .inl ⟨z,q0⟩
  refine .inr ⟨s0,r,z,fun e y1 er=>⟨none,.inr ⟨rfl,n1 e y1 er⟩,⟨fun ss a b r H' tp=>(by cases tp.1.1),fun H' e' _=>s.no e'⟩⟩,fun e y1 y2 y3 er=>?_,fun e y1 y2 er=>absurd er (n3 e y1 y2),fun _ _ _=>q0⟩;obtain⟨nl,a',b',rfl,rfl,na,nb⟩:=n2 e y1 y2 y3 er;exact⟨none,_,_,na.ptv,.inr ⟨rfl,nl⟩,nb.item,⟨fun ss a b r H' tp=>(by cases tp.1.1),fun H' e' _=>s.no e'⟩⟩
 | turn ss =>
  obtain⟨st,q,rfl,h2,h3⟩:=h;refine .inr ⟨st,_,rfl,h2,(by show 2<=100;decide),.inr ⟨_,_,rfl,fun _ y1 er=>?_,fun e=>absurd e (by decide +kernel),fun e=>absurd e (by decide +kernel),fun n _ _=>absurd rfl (n rfl (.ref q))⟩⟩;cases er;exact⟨_,h3.rl,s.turn⟩
 | apart a ss b =>
  obtain⟨st,q,rfl,h2,h3,na,nb⟩:=h;refine .inr ⟨st,_,rfl,h2,(by show 4<=100;decide),.inr ⟨_,_,rfl,fun e=>absurd e (by decide +kernel),fun _ y1 y2 y3 er=>?_,fun e=>absurd e (by decide +kernel),fun _ n _=>absurd rfl (n rfl _ _ _)⟩⟩;cases er;exact⟨_,_,_,na.ptv,h3.rl,nb.item,s.apart⟩
 | tog a b =>
  obtain⟨st,rfl,h2,na,nb⟩:=h;refine .inr ⟨st,_,rfl,h2,(by show 3<=100;decide),.inr ⟨_,_,rfl,fun e=>absurd e (by decide +kernel),fun e=>absurd e (by decide +kernel),fun _ y1 y2 er=>?_,fun _ _ n=>absurd rfl (n rfl _ _)⟩⟩;cases er;exact⟨_,_,na.item,nb.item,s.tog⟩
section
variable {P:Program} {w:World} {K:PySem.W.Frag} {mg:Str->Option Value} {base:Heap} {f f1 f2 f3 C:Addr} {fd fd1 fd2 fd3:FuncData} {newId inN:String} {bmN:List Value}
theorem qRw:FnScope ["net","step"] ["net","step"] (qAd qGf):=⟨rfl,rfl,rfl,by decide +kernel,rfl,by decide +kernel,by decide +kernel⟩
theorem qPx (F:Fun K "tried" "tried" qGf f fd) (G1:Cl P w K mg base CX0 4 f1 fd1 ["net","ties"] qKe "turned")
  (G2:Cl P w K mg base CX0 4 f2 fd2 ["net","point","ties","new"] qM5 "set_apart")
  (G3:Cl P w K mg base CX0 3 f3 fd3 ["net","point","other"] qQv "laid_together")
  (ml:mg "len" = none) (mi:mg "isinstance" = none) (mt:mg "tuple" = none):FnOk P w K mg base CX0 5 f fd ["net","step"] qI9:=by
 refine F.ok qRw (fun vs H Q E h=>?_) (fun cdv A outer s H vs Q E hr h=>?_)
 ·obtain⟨p,net,v,ok,g,rfl,_⟩:=h;rfl
 obtain⟨p,net,v,ok,g,rfl,nt,hl,tx,sg,sr⟩:=h;have hr3:=hr.mono (j:=3) (by decide);refine⟨_,(qAc (qBf (PW.pt (qEi (qCn (qCa (qAj qBs rfl mi qBt (qAa (pv 1) (qAa (qDo (v:=.ty "tuple") rfl mt qCy rfl) qAb))))) (qD1 (qAn qB0 (qAj qAm rfl ml hAn (qAa (pv 1) qAb)) qAe (qAr _))))) (qAf (qAq qCi)) qAt) (qAc (qBf (PW.pt (qEt (qAn qB0 (qA9 qCb (pv 1) qAe (fun _ _=>rfl)) qBj (qAr _)) (qC4 (qAn qB0 (qAj qAm rfl ml hAn (qAa (pv 1) qAb)) qAe (qAr _))))) (qAf (qAq (qAs G1 hr rfl .nil qAu (qAa (pv 0) (qAa (qA9 qCb (pv 1) qAe (fun _ _=>rfl)) qAb))))) qAt) (qAc (qBf (PW.pt (qEt (qAn qB0 (qA9 qCb (pv 1) qAe (fun _ _=>rfl)) qBj (qAr _)) (qC4 (qAn qB0 (qAj qAm rfl ml hAn (qAa (pv 1) qAb)) qAe (qAr _))))) (qAf (qAq (qAs G2 hr rfl .nil qAu (qAa (pv 0) (qAa (qA9 qCb (pv 1) qAe (fun _ _=>rfl)) (qAa (qA9 qCb (pv 1) qAe (fun _ _=>rfl)) (qAa (qA9 qCb (pv 1) qAe (fun _ _=>rfl)) qAb))))))) qAt) (qAc (qBf (PW.pt (qEt (qAn qB0 (qA9 qCb (pv 1) qAe (fun _ _=>rfl)) qBj (qAr _)) (qC4 (qAn qB0 (qAj qAm rfl ml hAn (qAa (pv 1) qAb)) qAe (qAr _))))) (qAf (qAq (qAs G3 hr3 rfl .nil qAu (qAa (pv 0) (qAa (qA9 qCb (pv 1) qAe (fun _ _=>rfl)) (qAa (qA9 qCb (pv 1) qAe (fun _ _=>rfl)) qAb)))))) qAt) (qAf (qAq qCi)))))),?_⟩;rcases sg_cases sg sr with ⟨nt',q0⟩ | ⟨st,ys,rfl,hst,ly,cs⟩
 ·obtain⟨t,ty,kt⟩:=nt'.ty K;exact⟨_,rfl,_,_,_,false,rfl,ty,kt,false,rfl,iteT (iteT q0)⟩
 refine⟨_,rfl,_,_,_,true,rfl,.tup hst,qCv _ _,true,rfl,qD9 ?_⟩;refine⟨_,rfl,st,_,rfl,.inr (SqT.of hst),rfl,_,rfl,?_⟩;rcases cs with ⟨rfl,q0⟩ | ⟨s0,r,rfl,G⟩
 ·exact iteT q0
 refine qD9 ?_;refine⟨_,rfl,st,_,_,_,rfl,rfl,SqT.of hst,(by exact atI_nat (j:=0) rfl),rfl,_,rfl,qBw (fun c1=>?_) (fun c1=>qD9 ?_)⟩
 ·have d1:s0 = "turn":=by simpa using c1
  refine⟨_,rfl,st,_,rfl,.inr (SqT.of hst),rfl,_,rfl,qBw (fun c2=>?_) (fun c2=>?_)⟩
  ·obtain⟨y1,rfl⟩:=qSy (r:=r) (y:=.str s0) (by have:(((V.str s0 :: r).length:Nat):Int)=2:=(by simpa using c2);omega);obtain⟨o,rl,tr⟩:=G.t d1 _ rfl;exact⟨_,rfl,_,rfl,st,_,_,_,rfl,rfl,SqT.of hst,(by exact atI_nat (j:=1) rfl),p,net,_,o,rfl,nt,hl,rl,tr⟩
  ·have q0:=G.n (fun _ y1 e=>c2 (by rw[e];rfl)) (fun e=>absurd (d1.symm.trans e) (by decide +kernel)) (fun e=>absurd (d1.symm.trans e) (by decide +kernel));refine⟨_,rfl,st,_,_,_,rfl,rfl,SqT.of hst,(by exact atI_nat (j:=0) rfl),rfl,_,rfl,qBw (fun c9=>absurd (d1.symm.trans (by simpa using c9)) (by decide +kernel)) (fun _=>qD9 ?_)⟩;exact⟨_,rfl,st,_,_,_,rfl,rfl,SqT.of hst,(by exact atI_nat (j:=0) rfl),rfl,_,rfl,qBw (fun c9=>absurd (d1.symm.trans (by simpa using c9)) (by decide +kernel)) (fun _=>qD9 q0)⟩
 have n1:s0≠"turn":=fun z=>c1 (by simpa using z)
 refine⟨_,rfl,st,_,_,_,rfl,rfl,SqT.of hst,(by exact atI_nat (j:=0) rfl),rfl,_,rfl,qBw (fun c2=>?_) (fun c2=>qD9 ?_)⟩
 ·have d1:s0 = "apart":=by simpa using c2
  refine⟨_,rfl,st,_,rfl,.inr (SqT.of hst),rfl,_,rfl,qBw (fun c2=>?_) (fun c2=>?_)⟩
  ·obtain⟨y1,y2,y3,rfl⟩:=qN6 (r:=r) (y:=.str s0) (by have:(((V.str s0 :: r).length:Nat):Int)=4:=(by simpa using c2);omega);obtain⟨o,D,E',px,rl,it,tr⟩:=G.a d1 _ _ _ rfl;exact⟨_,rfl,_,rfl,st,_,_,_,rfl,rfl,SqT.of hst,(by exact atI_nat (j:=1) rfl),_,rfl,st,_,_,_,rfl,rfl,SqT.of hst,(by exact atI_nat (j:=2) rfl),_,rfl,st,_,_,_,rfl,rfl,SqT.of hst,(by exact atI_nat (j:=3) rfl),p,net,_,_,_,o,D,E',rfl,nt,hl,px,rl,it,qUi tx,tr⟩
  ·have q0:=G.n (fun e=>absurd e n1) (fun _ y1 y2 y3 e=>c2 (by rw[e];rfl)) (fun e=>absurd (d1.symm.trans e) (by decide +kernel));exact⟨_,rfl,st,_,_,_,rfl,rfl,SqT.of hst,(by exact atI_nat (j:=0) rfl),rfl,_,rfl,qBw (fun c9=>absurd (d1.symm.trans (by simpa using c9)) (by decide +kernel)) (fun _=>qD9 q0)⟩
 have n2:s0≠"apart":=fun z=>c2 (by simpa using z)
 refine⟨_,rfl,st,_,_,_,rfl,rfl,SqT.of hst,(by exact atI_nat (j:=0) rfl),rfl,_,rfl,qBw (fun c3=>?_) (fun c3=>qD9 ?_)⟩
 ·have d1:s0 = "together":=by simpa using c3
  refine⟨_,rfl,st,_,rfl,.inr (SqT.of hst),rfl,_,rfl,qBw (fun c2=>?_) (fun c2=>?_)⟩
  ·obtain⟨y1,y2,rfl⟩:=qSx (r:=r) (y:=.str s0) (by have:(((V.str s0 :: r).length:Nat):Int)=3:=(by simpa using c2);omega);obtain⟨D,E',i1,i2,tr⟩:=G.g d1 _ _ rfl;exact⟨_,rfl,_,rfl,st,_,_,_,rfl,rfl,SqT.of hst,(by exact atI_nat (j:=1) rfl),_,rfl,st,_,_,_,rfl,rfl,SqT.of hst,(by exact atI_nat (j:=2) rfl),p,net,_,_,D,E',rfl,nt,hl,i1,i2,tr⟩
  ·exact G.n (fun e=>absurd e n1) (fun e=>absurd e n2) (fun _ y1 y2 e=>c2 (by rw[e];rfl))
 ·exact G.n (fun e=>absurd e n1) (fun e=>absurd e n2) (fun e=>absurd e (fun z=>c3 (by simpa using z)))
theorem qQ1:FnScope ["net","step","told"] ["net","step"] (qAd qLz):=⟨rfl,rfl,rfl,by decide +kernel,rfl,by decide +kernel,by decide +kernel⟩
theorem qSq (F:Fun K "step_done" "step_done" qLz f fd) (Fn:ExcBaseFacts "ValueError" newId inN bmN) (FB:ExcBaseFacts "ValueError" "ValueError.__new__" "ValueError.__init__" vB) (O:PyProof.Rows.OwnCls "NoStep" C vB newId mg base)
  (G1:Cl P w K mg base CX0 5 f1 fd1 ["net","step"] qI9 "tried"):FnOk P w K mg base (CXe P w) 6 f fd ["net","step"] (qQw C):=by
 refine F.okE qQ1 (fun vs H Q E h=>?_) (fun cdv A outer s H vs Q E hr hh h=>?_)
 ·obtain⟨p,net,v,ok,g,rfl,_⟩:=h;rfl
 obtain⟨p,net,v,ok,g,rfl,nt,hl,tx,sg,q1,q2⟩:=h;refine⟨_,qAc (qAl (i:=2) qQ1.nd rfl (Or.inl rfl) (qAs G1 hr rfl .nil qAu (qAa (pv 0) (qAa (pv 1) qAb))))
  (qAc (qBf (qAn qQ6 (pv 2) qCi (qAr _)) (qAf (qPu hh Fn (by decide) FB O (qAa qBj qAb) rfl (by decide))) qAt)
  (qAf (qAq (pv 2)))),?_⟩
 refine⟨_,rfl,_,rfl,p,net,v,ok,g,rfl,nt,hl,tx,sg,fun m r H1 st e1 r0 n1=>?_,fun H1 e1 no=>?_⟩
 ·refine⟨_,rfl,rfl,_,rfl,qD9 ?_⟩;exact⟨_,rfl,q1 m r H1 st e1 r0 n1⟩
 ·refine⟨_,rfl,rfl,_,rfl,iteT ?_⟩;exact⟨(by show 1<=sizeLine;decide),q2 _ e1 no⟩
end
end My
namespace My
open PySem L2
def trD (t:Tr):PyData:=.tuple [.str t.1,.str t.2.1,.str t.2.2]
def qIj (net:List Tr):PyData:=.list (net.map trD)
theorem qVb (t:Tr):PyData.eqv (trD t) (trD t)=true:=by
 show(t.1 == t.1 && (t.2.1 == t.2.1 && (t.2.2 == t.2.2 && true)))=true;simp
theorem qJ2:∀ net:List Tr,PyData.eqv (qIj net) (qIj net)=true
 | []=>rfl
 | t :: r=>by
  have ih:PyData.eqvAll (r.map trD) (r.map trD)=true:=qJ2 r;show(PyData.eqv (trD t) (trD t) && PyData.eqvAll (r.map trD) (r.map trD))=true;rw[qVb,ih];rfl
theorem qHl:∀ {net:List Tr},TxN net->PyData.canLayAll0 (net.map trD)=true/\PyData.depthAll (net.map trD)<=1
 | [],_=>⟨rfl,by decide⟩
 | t :: r,h=>by
  obtain⟨h1,h2⟩:=qHl (net:=r) fun y hy=>h y (hA5 _ hy)
  obtain⟨t1,t2,t3⟩:=h t hA6;refine⟨?_,?_⟩
  ·show((PyData.strOk t.1 && (PyData.strOk t.2.1 && (PyData.strOk t.2.2 && true))) && PyData.canLayAll0 (r.map trD))=true;rw[h1,t1.1.sm.ok,t2.1.sm.ok,t3.1.1.sm.ok];rfl
  ·show max (max 0 (max 0 (max 0 0))+1) (PyData.depthAll (r.map trD))<=1;omega
theorem qEe {net:List Tr} (h:TxN net):SeqAt.shaped (qIj net)=true:=by
 obtain⟨h3,h4⟩:=qHl h;show(PyData.canLayAll0 (net.map trD) && decide (PyData.depthAll (net.map trD)+1<=64))=true;rw[h3,decide_eq_true (by omega)];rfl
theorem qOr {K:PySem.W.Frag} {H:Hp}:∀ {as:List Addr} {net:List Tr},Paired (fun a t=>H a=some (.tup (trV t))) as net->DRs K H (as.map V.ref) (net.map trD)
 | _,_,.nil=>.nil
 | _,_,.cons h t=>.cons (.tup (SqT.of h) (.cons (.str _) (.cons (.str _) (.cons (.str _) .nil)))) (qOr t)
theorem qFw {K:PySem.W.Frag} {H:Hp} {p:Addr} {net:List Tr} (h:qAy H p net):DR K H (.ref p) (qIj net):=by
 obtain⟨as,h1,h2⟩:=h;exact .lst (SqL.of h1) (qOr h2)
theorem qDr (net:List Tr):PyData.eqv (qIj net) (.list [])=decide (net=[]):=by
 cases net with
 | nil=>rfl
 | cons t r=>rfl
theorem qEd:SeqAt.shaped (.list [])=true:=by decide +kernel
theorem qOu {K:PySem.W.Frag} {H:Hp} {p:Addr} (h:H p=some (.lst [])):DR K H (.ref p) (.list []):=.lst (SqL.of h) .nil
theorem qLg (xs:List V):cutV xs none (some 1)=xs.take 1:=by
 cases xs with
 | nil=>rfl
 | cons a r=>cases r <;> simp[cutV,HT.sIx]
theorem qIo:∀ a b:List (List Str),PyData.eqvAll (a.map rowD) (b.map rowD)=decide (a=b)
 | [],[]=>rfl
 | [],_ :: _=>rfl
 | _ :: _,[]=>rfl
 | x :: a,y :: b=>by
  show(PyData.eqv (rowD x) (rowD y) && PyData.eqvAll (a.map rowD) (b.map rowD))=_;rw[qIo a b,qJ1];by_cases e:x=y
  ·subst e;simp
  ·simp[e]
theorem qHq (a b:List (List Str)):PyData.eqv (qDi a) (qDi b)=decide (a=b):=qIo a b
theorem qK2:∀ {F:List (List Str)},(∀ r∈F,SOk r)->PyData.canLayAll0 (F.map rowD)=true/\PyData.depthAll (F.map rowD)<=1
 | [],_=>⟨rfl,by decide⟩
 | x :: r,h=>by
  obtain⟨h1,h2⟩:=qK2 (F:=r) fun y hy=>h y (hA5 _ hy)
  obtain⟨h3,h4⟩:=qFa (h x hA6);refine⟨?_,?_⟩
  ·show(PyData.canLayAll0 (x.map .str) && PyData.canLayAll0 (r.map rowD))=true;rw[h1,h3];rfl
  ·show max (PyData.depthAll (x.map .str)+1) (PyData.depthAll (r.map rowD))<=1;rw[h4];omega
theorem qB2 {F:List (List Str)} (h:∀ r∈F,SOk r):SeqAt.shaped (qDi F)=true:=by
 obtain⟨h3,h4⟩:=qK2 h;show(PyData.canLayAll0 (F.map rowD) && decide (PyData.depthAll (F.map rowD)+1<=64))=true;rw[h3,decide_eq_true (by omega)];rfl
theorem qLc {K:PySem.W.Frag} {H:Hp}:∀ {as:List Addr} {F:List (List Str)},Paired (LsS H) as F->DRs K H (as.map V.ref) (F.map rowD)
 | _,_,.nil=>.nil
 | _,_,.cons h t=>.cons (qLd h) (qLc t)
theorem qEn {K:PySem.W.Frag} {H:Hp} {p:Addr} {F:List (List Str)} (h:qGt H p F):DR K H (.ref p) (qDi F):=by
 obtain⟨as,h1,h2⟩:=h;exact .lst (SqL.of h1) (qLc h2)
theorem qDc {net:List Tr} {R:List (List Str)} (h:qB4 net R) (tx:TxN net):∀ r∈R,SOk r:=fun r hr n hn=>by
 obtain⟨t,ht,rfl⟩:=hAj.mp ((h.names n).mp ⟨r,hr,hn⟩);exact(tx t ht).1.1.sm.ok
end My
namespace My
open PySem L2
def qM3:Sp:=fun vs H Q _=>∃ (p q:Addr) (net oth:List Tr) (v:V),vs=[.ref p,.ref q,v]/\qAy H p net/\net.length<=12/\TxN net/\qAy H q oth/\oth.length<=12/\TxN oth /\
 ((qMe H v/\Q (.bl false) H)\/∃ (a:Addr) (xs:List V) (ok:Addr->Prop) (gs:List Sg),v = .ref a/\H a=some (.lst xs)/\xs.length<=1000/\Sgs ok H xs gs/\∀ (b:Bool) H',Ext H H'->(b=true↔xs.length<=400/\∃ m,qBn net gs m/\qMb m oth)->Q (.bl b) H')
abbrev leN:List Str:=["one","other","steps","net","step"]
theorem qG8:FnScope leN ["one","other","steps"] (qAd qGh):=⟨rfl,rfl,rfl,by decide +kernel,rfl,by decide +kernel,by decide +kernel⟩
theorem Sgs.at {ok:Addr->Prop} {H:Hp}:∀ {xs:List V} {gs:List Sg} {i:Nat} {x:V},Sgs ok H xs gs->xs[i]?=some x->∃ g,gs[i]?=some g/\qDt ok H x g
 | _,_,i,x,.nil,h=>by simp at h
 | _,_,0,x,.cons a b,h=>by cases hAg h;exact⟨_,rfl,a⟩
 | _,_,i+1,x,.cons a b,h=>Sgs.at (i:=i) b h
theorem qL6 {α:Type} {xs:List α} {i:Nat} {x:α} (h:xs[i]?=some x):xs=(xs.take i++[x])++xs.drop (i+1):=by
 rw[<-qA0 h,List.take_append_drop]
theorem road_no {net m:List Tr} {gs:List Sg} {i:Nat} {g:Sg} (r:qBn net (gs.take i) m) (hg:gs[i]?=some g) (no:¬∃ k,qE2 m g k):¬∃ k,qBn net gs k:=by
 rintro⟨k,rk⟩;rw[qL6 hg,hC4]at rk;obtain⟨k1,s1,_⟩:=qBn.split r rk;exact no ⟨k1,s1⟩
section
variable {P:Program} {w:World} {K:PySem.W.Frag} {mg:Str->Option Value} {base:Heap} {f f1 f2 f3 C:Addr} {fd fd1 fd2 fd3:FuncData} {t1:Tok}
theorem qP2 {t1:Tok} (F:Fun K "leads" "leads" qGh f fd) (G1:Cl P w K mg base CX0 5 f1 fd1 ["net","step"] qI9 "tried")
  (G2:Cl P w K mg base CX0 2 f2 fd2 ["net"] qM0 "stars")
  (ml:mg "len" = none) (mi:mg "isinstance" = none) (mL:mg "list" = none) (mM:mg "MOST_ROAD" = some (.int 400 t1)):FnOk P w K mg base CX0 6 f fd ["one","other","steps"] qM3:=by
 refine F.ok qG8 (fun vs H Q E h=>?_) (fun cdv A outer s H vs Q E hr h=>?_)
 ·obtain⟨p,q,net,oth,v,rfl,_⟩:=h;rfl
 obtain⟨p,q',net,oth,v,rfl,nt,hl,tx,nt',hl',tx',cs⟩:=h;have hr2:=hr.mono (j:=2) (by decide);refine⟨_,(qAc (qBf (PW.pt (qEi (qCn (qCa (qAj qBs rfl mi qBt (qAa (pv 2) (qAa (qDo (v:=.ty "list") rfl mL qA4 rfl) qAb))))) (qD1 (qAn qSg (qAj qAm rfl ml hAn (qAa (pv 2) qAb)) (qJi (v:=.int 400) rfl mM ⟨t1,rfl⟩) (qAr _))))) (qAf (qAq qF9)) qAt) (qAc (qAl (i:=3) qG8.nd rfl (Or.inl rfl) (pv 0)) (qAc (qCd PassesOwn.never rfl (qAx (pv 2)) (qAi (i:=4) qG8.nd rfl (Or.inl rfl)) (qAc (qAl (i:=3) qG8.nd rfl (Or.inl rfl) (qAs G1 hr rfl .nil qAu (qAa (pv 3) (qAa (pv 4) qAb)))) (qAf (qBf (qAn qQ6 (pv 3) qCi (qAr _)) (qAf (qAq qF9)) qAt)))) (qAf (qAq (qCe (qNv (qEs hr)) (qAs G2 hr2 rfl .nil qAu (qAa (pv 3) qAb)) (qAs G2 hr2 rfl .nil qAu (qAa (pv 1) qAb)) (qAr _))))))),?_⟩;rcases cs with ⟨nl,q0⟩ | ⟨a,xs,ok,gs,rfl,ha,l1000,sg,q⟩
 ·obtain⟨t,ty,kt⟩:=nl.ty K;exact⟨_,rfl,_,_,_,false,rfl,ty,kt,false,rfl,iteT (iteT q0)⟩
 refine⟨_,rfl,_,_,_,true,rfl,.lst ha,qCv _ _,true,rfl,qD9 ?_⟩;refine⟨_,rfl,a,_,rfl,.inl (SqL.of ha),_,_,rfl,rfl,_,rfl,?_⟩;refine qBw (fun c=>?_) (fun c=>?_)
 ·have c':(400:Int)<(xs.length:Nat):=of_decide_eq_true c;exact q false H (Ext.refl _) ⟨fun z=>(by cases z),fun z=>absurd z.1 (by omega)⟩
 have c':¬(400:Int)<(xs.length:Nat):=fun y=>c (decide_eq_true y)
 have lg:=sg.length;refine⟨_,rfl,?_⟩;refine⟨_,rfl,a,rfl,⟨_,SqL.of ha⟩,qCj (K:=K) (a:=a) (xs:=xs) (fun i σ H'=>Ext H H'/\∃ (r:Addr) (m:List Tr) (x4:Option V),σ=[some (.ref p),some (.ref q'),some (.ref a),some (.ref r),x4]/\qAy H' r m/\qBn net (gs.take i) m)
  ⟨Ext.refl _,p,net,none,rfl,nt,rfl⟩ (fun i σ H' _ h=>SqL.of (h.1 _ _ ha)) ?_ ?_⟩
 ·rintro i x σ H' hx ⟨e,r,m,x4,rfl,nm,rd⟩;obtain⟨g,hg,sx⟩:=Sgs.at sg hx;have sgT:∀ g∈gs.take i,SgT g:=fun g hg=>Sgs.tx sg g (hC6 hg)
  obtain⟨txm,lm,_⟩:=rd.good tx sgT;refine⟨_,rfl,_,rfl,r,m,x,ok,g,rfl,nm,by omega,txm,sx.kw (.of e),fun k r2 H2 st e2 r20 nk=>?_,fun H2 e2 no=>?_⟩
  ·refine⟨_,rfl,rfl,_,rfl,qD9 ?_⟩;exact⟨e.trans e2,r2,k,_,rfl,nk,by rw[qA0 hg];exact rd.snoc st⟩
  ·refine⟨_,rfl,rfl,_,rfl,iteT ?_⟩;exact q false H2 (e.trans e2) ⟨fun z=>(by cases z),fun ⟨_,k,rk,_⟩=>absurd ⟨k,rk⟩ (road_no rd hg no)⟩
 ·rintro σ H' ⟨e,r,m,x4,rfl,nm,rd⟩;rw[lg,hAf (hA4 _)]at rd;obtain⟨txm,lm,_⟩:=rd.good tx (Sgs.tx sg);refine⟨_,rfl,r,m,rfl,nm,by omega,fun r1 R1 ps1 H1 e1 r10 z1 pk1 pr1 pm1 sr1 l1=>?_⟩;refine⟨_,rfl,q',oth,rfl,nt'.ext (e.trans e1),hl',fun r2 R2 ps2 H2 e2 r20 z2 pk2 pr2 pm2 sr2 l2=>?_⟩;have s1:qB4 m R1:=⟨sr1,ps1,pk1,pm1⟩;have s2:qB4 oth R2:=⟨sr2,ps2,pk2,pm2⟩;refine⟨_,_,qEn (z1.y.rows.ext e2),qEn z2.y.rows,qB2 (qDc s1 txm),qB2 (qDc s2 tx'),?_⟩;rw[show(if false=true then !PyData.eqv (qDi R1) (qDi R2) else PyData.eqv (qDi R1) (qDi R2))=decide (R1=R2) from qHq _ _];refine q _ H2 (e.trans (e1.trans e2)) ?_;rw[decide_eq_true_iff,qKo s1 s2];exact⟨fun z=>⟨by omega,m,rd,z⟩,fun ⟨_,k,rk,z⟩=>by rw[rd.uniq rk];exact z⟩
end
end My
namespace My
open PySem L2
def qRr:Sp:=fun vs H Q _=>∃ (p a:Addr) (net:List Tr) (xs:List V) (ok:Addr->Prop) (gs:List Sg),vs=[.ref p,.ref a]/\qAy H p net/\net.length<=12/\TxN net/\H a=some (.lst xs)/\xs.length<=1000/\Sgs ok H xs gs /\
 (∀ m r H',qBn net gs m->Ext H H'->(r=p\/H r=none)->qAy H' r m->Q (.ref r) H')/\∀ H',Ext H H'->(¬∃ m,qBn net gs m)->Q .non H'
abbrev beN:List Str:=["_law_net","_law_trail","_law_step_here"]
theorem qRz:FnScope beN ["_law_net","_law_trail"] (qAd qTk):=⟨rfl,rfl,rfl,by decide +kernel,rfl,by decide +kernel,by decide +kernel⟩
section
variable {P:Program} {w:World} {K:PySem.W.Frag} {mg:Str->Option Value} {base:Heap} {f f1 f2 f3 C:Addr} {fd fd1 fd2 fd3:FuncData} {t1:Tok}
theorem qUw (F:Fun K "_law_behind" "_law_behind" qTk f fd) (mC:mg "NoStep" = some (.ref C)) (xC:PySem.W.exmOne K (.ref C) (.ref C)=some true)
  (G1:Cl P w K mg base (CXe P w) 6 f1 fd1 ["net","step"] (qQw C) "step_done"):FnOk P w K mg base CX0 7 f fd ["_law_net","_law_trail"] qRr:=by
 refine F.ok qRz (fun vs H Q E h=>?_) (fun cdv A outer s H vs Q E hr h=>?_)
 ·obtain⟨p,a,net,xs,ok,gs,rfl,_⟩:=h;rfl
 obtain⟨p,a,net,xs,ok,gs,rfl,nt,hl,tx,ha,l1000,sg,q1,q2⟩:=h;have lg:=sg.length;refine⟨_,(qAc (qCd PassesOwn.never rfl (qAx (pv 1)) (qAi (i:=2) qRz.nd rfl (Or.inl rfl)) (qAf (qR8 (C:=C) (E:=fun cls _ H'=>cls = .ref C/\Ext H H'/\¬∃ m,qBn net gs m) (fun xe pn hP=>qAf (qAl (i:=0) qRz.nd rfl (Or.inl rfl) (qAs G1 hr rfl .nil hP (qAa (pv 0) (qAa (pv 2) qAb))))) rfl mC (fun ev=>qAf (qAq qCi)) rfl rfl rfl))) (qAf (qAq (pv 0)))),?_⟩;try dsimp only[Cx.wish,qQm]
 refine⟨_,rfl,a,rfl,⟨_,SqL.of ha⟩,qCj (K:=K) (a:=a) (xs:=xs) (fun i σ H'=>Ext H H'/\∃ (r:Addr) (m:List Tr) (x2:Option V),σ=[some (.ref r),some (.ref a),x2]/\qAy H' r m/\qBn net (gs.take i) m/\(r=p\/H r=none))
  ⟨Ext.refl _,p,net,none,rfl,nt,rfl,.inl rfl⟩ (fun i σ H' _ h=>SqL.of (h.1 _ _ ha)) ?_ ?_⟩
 ·rintro i x σ H' hx ⟨e,r,m,x2,rfl,nm,rd,rp⟩;obtain⟨g,hg,sx⟩:=Sgs.at sg hx;have sgT:∀ g∈gs.take i,SgT g:=fun g hg=>Sgs.tx sg g (hC6 hg)
  obtain⟨txm,lm,_⟩:=rd.good tx sgT;refine⟨⟨_,rfl,_,rfl,r,m,x,ok,g,rfl,nm,by omega,txm,sx.kw (.of e),fun k r2 H2 st e2 r20 nk=>?_,fun H2 e2 no=>⟨rfl,e.trans e2,road_no rd hg no⟩⟩,fun cls H2 ea σ' hE he hl=>?_⟩
  ·exact⟨e.trans e2,r2,k,_,rfl,nk,by rw[qA0 hg];exact rd.snoc st,.inr (e.none r20)⟩
  ·obtain⟨rfl,e2,no⟩:=hE;exact⟨xC,q2 _ (e2.trans (Ext.new he _)) no⟩
 ·rintro σ H' ⟨e,r,m,x2,rfl,nm,rd,rp⟩;rw[lg,hAf (hA4 _)]at rd;exact⟨_,rfl,q1 m r H' rd e rp nm⟩
end
end My
namespace My
open PySem L2
theorem put_mem {kvs:List (Key×V)} {k:Key} {v:V} {p:Key×V} (h:p∈qDe kvs k v):p=(k,v)\/(p∈kvs/\p.1≠k):=by
 unfold qDe at h;split at h
 ·obtain⟨q,hq,rfl⟩:=hAj.mp h;by_cases c:q.1=k
  ·rw[if_pos c];exact .inl (by rw[c])
  ·rw[if_neg c];exact .inr ⟨hq,c⟩
 ·rename_i c;rcases hAd.mp h with z | z
  ·refine .inr ⟨z,fun e=>c (List.any_eq_true.mpr ⟨p,z,decide_eq_true e⟩)⟩
  ·exact .inl (hA7.mp z)
theorem qPs {kvs:List (Key×V)} {k:Key} {v:V} (j:Key):j∈(qDe kvs k v).map (·.1)↔j∈kvs.map (·.1)\/j=k:=by
 unfold qDe;split
 ·rename_i c;have e:(kvs.map fun kv=>if kv.1=k then (kv.1,v) else kv).map (·.1)=kvs.map (·.1):=by
   rw[hBf];refine hCc fun q _=>?_
   show(if q.1=k then (q.1,v) else q).1=q.1;split <;> rfl
  rw[e];refine⟨.inl,fun h=>h.elim id fun z=>?_⟩;obtain⟨q,hq,hk⟩:=List.any_eq_true.mp c;rw[z,<-of_decide_eq_true hk];exact hAj.mpr ⟨q,hq,rfl⟩
 ·rw[hAc,hAd];simp
theorem qUh {kvs:List (Key×V)} {k:Key} {v:V} (h:(kvs.map (·.1)).Nodup):((qDe kvs k v).map (·.1)).Nodup:=by
 unfold qDe;split
 ·have e:(kvs.map fun kv=>if kv.1=k then (kv.1,v) else kv).map (·.1)=kvs.map (·.1):=by
   rw[hBf];refine hCc fun q _=>?_
   show(if q.1=k then (q.1,v) else q).1=q.1;split <;> rfl
  rw[e];exact h
 ·rename_i c;rw[hAc,hC5];refine⟨h,by simp,fun a ha b hb e=>?_⟩;have hb':b=k:=by simpa using hb
  obtain⟨q,hq,z⟩:=hAj.mp ha;exact c (List.any_eq_true.mpr ⟨q,hq,decide_eq_true (z.trans (e.trans hb'))⟩)
theorem qR6 (kvs:List (Key×V)) (k:Key) (v:V):(qDe kvs k v).length<=kvs.length+1:=by
 unfold qDe;split
 ·rw[hA1];omega
 ·rw[hA2];exact hA4 _
def evF (evs:List (Str×Str)) (x:Str):List Str:=(evs.filter fun e=>decide (e.2=x)).map (·.1)
theorem qD4 (evs:List (Str×Str)) (n y x:Str):evF (evs++[(n,y)]) x=evF evs x++if y=x then [n] else []:=by
 unfold evF;rw[List.filter_append,hAc];congr 1;by_cases c:y=x
 ·simp[c]
 ·simp[c]
def evN (net:List Tr):List (Str×Str):=(net.map fun t=>[(t.1,t.2.1),(t.1,t.2.2)]).flatten
theorem qLa (net:List Tr) (t:Tr):evN (net++[t])=evN net++[(t.1,t.2.1)]++[(t.1,t.2.2)]:=by
 unfold evN;rw[hAc,List.flatten_append];simp
theorem qK9 (x:Str) (net:List Tr):evF (evN net) x=qCl net x:=by
 refine qGz (P:=fun net=>evF (evN net) x=qCl net x) rfl (fun l t ih=>?_) net;rw[qLa,qD4,qD4,qEc,ih,hC4];rfl
theorem qVa (net:List Tr) (x:Str):x∈(evN net).map (·.2)↔qJt net x:=by
 unfold evN qJt;constructor
 ·intro h;obtain⟨e,he,rfl⟩:=hAj.mp h;obtain⟨l,hl,hm⟩:=hC9.mp he;obtain⟨t,ht,rfl⟩:=hAj.mp hl;simp only[hA9,hAv,or_false]at hm;rcases hm with rfl | rfl
  ·exact⟨t,ht,.inl rfl⟩
  ·exact⟨t,ht,.inr rfl⟩
 ·rintro⟨t,ht,c⟩;rcases c with rfl | rfl
  ·exact hAj.mpr ⟨(t.1,t.2.1),hC9.mpr ⟨_,hAj.mpr ⟨t,ht,rfl⟩,by simp⟩,rfl⟩
  ·exact hAj.mpr ⟨(t.1,t.2.2),hC9.mpr ⟨_,hAj.mpr ⟨t,ht,rfl⟩,by simp⟩,rfl⟩
structure DA (H:Hp) (kvs:List (Key×V)) (evs:List (Str×Str)):Prop where
 v:∀ p∈kvs,∃ x a,p=(Sum.inr x,V.ref a)/\LsS H a (evF evs x)
 k:∀ x,Sum.inr x∈kvs.map (·.1)↔x∈evs.map (·.2)
 n:(kvs.map (·.1)).Nodup
theorem DA.ext {H H':Hp} {kvs:List (Key×V)} {evs:List (Str×Str)} (h:DA H kvs evs) (e:Ext H H'):DA H' kvs evs:=⟨fun p hp=>by
 obtain⟨x,a,h1,h2⟩:=h.v p hp;exact⟨x,a,h1,e _ _ h2⟩,h.k,h.n⟩
theorem qRm {kvs:List (Key×V)} {k:Key} {v:V} (h:valV kvs k=some v):(k,v)∈kvs:=by
 unfold valV at h;cases e:kvs.find? fun kv=>decide (kv.1=k) with
 | none=>rw[e]at h;cases h
 | some p =>
  rw[e]at h;cases h;have:=List.find?_some e;have hk:p.1=k:=of_decide_eq_true this;rw[<-hk];exact List.mem_of_find?_eq_some e
theorem DA.get {H:Hp} {kvs:List (Key×V)} {evs:List (Str×Str)} (h:DA H kvs evs) (x:Str) {l0:Addr} (hl:H l0=some (.lst [])):∃ a,(valV kvs (Sum.inr x)).getD (.ref l0) = .ref a/\LsS H a (evF evs x):=by
 cases e:valV kvs (Sum.inr x) with
 | none =>
  refine⟨l0,rfl,?_⟩;have:evF evs x=[]:=by
   unfold evF;rw[List.map_eq_nil_iff,List.filter_eq_nil_iff];intro p hp c;have:=(h.k x).mpr (hAj.mpr ⟨p,hp,of_decide_eq_true c⟩);exact qPi e this
  rw[this];exact hl
 | some v =>
  obtain⟨y,a,e1,h2⟩:=h.v _ (qRm e);cases e1;exact⟨a,rfl,h2⟩
theorem DA.put {H:Hp} {kvs:List (Key×V)} {evs:List (Str×Str)} {d r:Addr} {n x:Str} (h:DA H kvs evs) (hd:H d=some (.dK kvs)) (hr:LsS H r (evF evs x++[n])):DA (upd H d (.dK (qDe kvs (Sum.inr x) (.ref r)))) (qDe kvs (Sum.inr x) (.ref r)) (evs++[(n,x)]):=by
 have kp:∀ {a ss},LsS H a ss->LsS (upd H d (.dK (qDe kvs (Sum.inr x) (.ref r)))) a ss:=fun {a ss} z=>by
  unfold LsS at z ⊢;rw[qAh (fun q=>by rw[q,hd]at z;cases z)];exact z
 refine⟨fun p hp=>?_,fun y=>?_,qUh h.n⟩
 ·rcases put_mem hp with rfl | ⟨z,ne⟩
  ·exact⟨x,r,rfl,kp (by rw[qD4,if_pos rfl];exact hr)⟩
  ·obtain⟨y,a,rfl,h2⟩:=h.v p z;refine⟨y,a,rfl,kp ?_⟩;rw[qD4,if_neg (fun e=>ne (by rw[e])),hC2];exact h2
 ·rw[qPs,h.k y,hAc,hAd];constructor
  ·rintro(z | z)
   ·exact .inl z
   ·exact .inr (by rw[Sum.inr.inj z];simp)
  ·rintro(z | z)
   ·exact .inl z
   ·exact .inr (by rw[show y=x by simpa using z])
def qT2:Sp:=fun vs H Q _=>∃ (p:Addr) (net:List Tr),vs=[.ref p]/\qAy H p net/\net.length<=12/\∀ r R H',Ext H H'->qGt H' r R->qB4 net R->Q (.ref r) H'
abbrev qX4:List Str:=["_law_net","_law_ends","_law_tie","_law_one","_law_other"]
theorem qNf:FnScope qX4 ["_law_net"] (qAd qTl):=⟨rfl,rfl,rfl,by decide +kernel,rfl,by decide +kernel,by decide +kernel⟩
theorem qRe {net:List Tr} (h:net.length<=12) (i:Nat) (x:Str):(evF (evN (net.take i)) x).length<=24:=by
 rw[qK9];have:=qKc (net.take i) x;rw[hAp]at this;omega
section
variable {P:Program} {w:World} {K:PySem.W.Frag} {mg:Str->Option Value} {base:Heap} {f f1 f2 f3 C:Addr} {fd fd1 fd2 fd3:FuncData}
theorem qPc {σ:St} {D:Ends} {H:Hp} {d:Addr} {kvs:List (Key×V)} {evs:List (Str×Str)} {n x:Str} {i:Nat} (s1:σ[1]?=some (some (.ref d))) (s2:σ[2]?=some (some (.str n))) (si:σ[i]?=some (some (.str x))) (hD:H d=some (.dK kvs)) (da:DA H kvs evs) (lk:kvs.length<=100) (le:(evF evs x).length<=100)
  (q:∀ H2 kv2,Ext H H2->H2 d=some (.dK kvs)->DA (upd H2 d (.dK kv2)) kv2 (evs++[(n,x)])->kv2.length<=kvs.length+1->D.nx σ (upd H2 d (.dK kv2))):qUb (qRn 1) (qRn i) (tOp qW7 (qQq (qRn 1) (qRn i) (qVk qTs)) (qVk (qF8 (qRn 2) qTs))) D σ H:=by
 refine⟨_,s1,d,rfl,.inl ⟨kvs,.inl hD⟩,_,si,hAk _,fun l0 hl0=>?_⟩;have X1:=Ext.new hl0 (.lst []);refine⟨_,qI2.k (k:=Sum.inr x) (X1 _ _ hD),?_⟩;obtain⟨a,ea,la⟩:=(da.ext X1).get x upd_same;rw[ea];refine⟨_,s2,(by show 1<=sizeLine;decide),fun l1 hl1=>?_⟩;have X2:=Ext.new hl1 (.lst [V.str n]);refine⟨a,l1,_,_,rfl,rfl,X2 _ _ la,upd_same,?_,fun r hr=>?_⟩
 ·rw[hA1];exact hAq (qAg (by show _+1<=1000;omega))
 have X3:=X1.trans (X2.trans (Ext.new hr (.lst ((evF evs x).map V.str++[V.str n]))));have hr3:LsS (upd (upd (upd H l0 (.lst [])) l1 (.lst [V.str n])) r (.lst ((evF evs x).map V.str++[V.str n]))) r (evF evs x++[n]):=by
  unfold LsS;rw[upd_same,hAc];rfl
 revert X3 hr3;generalize upd (upd (upd H l0 (.lst [])) l1 (.lst [V.str n])) r (.lst ((evF evs x).map V.str++[V.str n]))=H3;intro X3 hr3;refine⟨_,s1,_,si,d,_,rfl,qVi.k (k:=Sum.inr x) (X3 _ _ hD) (qAg (by omega)),?_⟩;exact q H3 _ X3 (X3 _ _ hD) ((da.ext X3).put (X3 _ _ hD) hr3) (qR6 _ _ _)
theorem qUy (F:Fun K "_law_around" "_law_around" qTl f fd) (mso:mg "sorted" = none):FnOk P w K mg base CX0 1 f fd ["_law_net"] qT2:=by
 refine F.ok qNf (fun vs H Q E h=>?_) (fun cdv A outer s H vs Q E hr h=>?_)
 ·obtain⟨p,net,rfl,_⟩:=h;rfl
 obtain⟨p,net,rfl,⟨as,hp,pr⟩,hl,q⟩:=h;have la:as.length=net.length:=pr.length;refine⟨_,(qAc (qAl (i:=1) qNf.nd rfl (Or.inl rfl) qPw) (qAc (qCd PassesOwn.never rfl (qAx (pv 0)) (qCh rfl (qAo (qAi (i:=2) qNf.nd rfl (Or.inl rfl)) (qAo (qAi (i:=3) qNf.nd rfl (Or.inl rfl)) (qAo (qAi (i:=4) qNf.nd rfl (Or.inl rfl)) qBq)))) (qAc (qNm (qGa hr) (pv 1) (pv 3) (qAv qB1 (qHd (qGa hr) (pv 1) (pv 3) (qA3 qAb) ⟨rfl,rfl,rfl,rfl⟩) (qA3 (qAa (pv 2) qAb))) rfl) (qAf (qNm (qGa hr) (pv 1) (pv 4) (qAv qB1 (qHd (qGa hr) (pv 1) (pv 4) (qA3 qAb) ⟨rfl,rfl,rfl,rfl⟩) (qA3 (qAa (pv 2) qAb))) rfl)))) (qAf (qAq (qAj (qHw rfl (qUe hr)) rfl mso qBk (qAa (qUp PySem.F.plainAttrs_dict PySem.F.slot_dict_values PySem.F.type_dict_values qN3 (pv 1)) qAb)))))),?_⟩;intro d hd;have n0:=Ext.new hd (.dK []);refine⟨_,rfl,p,rfl,⟨_,SqL.of (n0 _ _ hp)⟩,qCj (K:=K) (a:=p) (xs:=as.map V.ref) (fun i σ H'=>∃ (x2 x3 x4:Option V) (kvs:List (Key×V)),σ=[some (.ref p),some (.ref d),x2,x3,x4]/\Ext H H'/\H' d=some (.dK kvs)/\DA H' kvs (evN (net.take i))/\kvs.length<=2*i)
  ⟨none,none,none,[],rfl,n0,upd_same,⟨fun p hp=>(by cases hp),fun x=>(by constructor <;> intro z <;> cases z),List.nodup_nil⟩,by decide⟩ (fun i σ H' _ z=>by obtain⟨_,_,_,_,_,e,_⟩:=z;exact SqL.of (e _ _ hp)) ?_ ?_⟩
 ·rintro i x σ H' hx ⟨x2,x3,x4,kvs,rfl,e,hD,da,lk⟩;obtain⟨a,t,rfl,ht,ha⟩:=qB8 pr hx;have hi:=qBg ht;refine⟨a,_,rfl,SqT.of (e _ _ ha),rfl,_,_,rfl,_,_,rfl,_,_,rfl,rfl,?_⟩;refine qPc rfl rfl rfl hD da (by omega) (hAt (qRe hl i _) (by decide)) fun H2 kv2 e2 hD2 da2 l2=>?_
  have e3:=(e.trans e2).over hd (.dK kv2);have hD3:upd H2 d (.dK kv2) d=some (.dK kv2):=upd_same;revert e3 hD3 da2;generalize upd H2 d (.dK kv2)=H3;intro da2 e3 hD3;refine qPc rfl rfl rfl hD3 da2 (by omega) ?_ fun H4 kv4 e4 hD4 da4 l4=>?_
  ·rw[qD4,hA2];have:=qRe hl i t.2.2;have:(if t.2.1=t.2.2 then [t.1] else []).length<=1:=by split <;> simp
   omega
  ·refine⟨_,_,_,kv4,rfl,(e3.trans e4).over hd _,upd_same,?_,by omega⟩;rw[qA0 ht,qLa];exact da4
 ·rintro σ H' ⟨x2,x3,x4,kvs,rfl,e,hD,da,lk⟩;rw[hA1,la,hAf (hA4 _)]at da;rw[hA1,la]at lk;obtain⟨ks,bs,e1,e2,pb,kn⟩:∃ (ks:List Str) (bs:List Addr),kvs.map (·.1)=ks.map Sum.inr/\kvs.map (·.2)=bs.map V.ref/\Paired (LsS H') bs (ks.map (qCl net))/\ks.length=bs.length:=by
   have v:=da.v;clear da lk hD
   induction kvs with
   | nil=>exact⟨[],[],rfl,rfl,.nil,rfl⟩
   | cons c r ih =>
    obtain⟨x,b,rfl,h2⟩:=v c hA6;obtain⟨ks,bs,a1,a2,a3,a4⟩:=ih fun p hp=>v p (hA5 _ hp)
    rw[qK9]at h2;exact⟨x :: ks,b :: bs,by rw[hB2,a1];rfl,by rw[hB2,a2];rfl,.cons h2 a3,by simp[a4]⟩
  have lb:bs.length=kvs.length:=by have:=congrArg List.length e2;rw[hA1,hA1]at this;exact this.symm
  have pk:qE3 net ks:=by
   refine⟨?_,fun x=>?_⟩
   ·have:=da.n;rw[e1]at this;exact List.Pairwise.of_map Sum.inr (fun a b h e=>h (by rw[e])) this
   ·rw[<-qVa,<-da.k x,e1,hAj];exact⟨fun z=>⟨x,z,rfl⟩,fun ⟨y,hy,z⟩=>by cases z;exact hy⟩
  refine⟨_,rfl,.inr (.inr (.inl ⟨rfl,.inl ⟨kvs,hD⟩⟩)),d,kvs,rfl,rfl,hD,fun v hv=>?_⟩;have X1:=Ext.new hv (VwS v d);refine⟨v,d,kvs,bs,ks.map (qCl net),rfl,upd_same,X1 _ _ hD,e2,Paired.mapP pb fun a t z=>SqL.of (X1 _ _ z),by omega,fun r o hr' g sp=>?_⟩;have X2:=X1.trans (Ext.new hr' (.lst ((o.toList.map fun i=>bs.getD i 0).map V.ref)));have gm:∀ i∈o.toList,i<bs.length:=fun i hi=>qK6 g hi
  have gl:bs.length=(ks.map (qCl net)).length:=by rw[hA1,kn]
  have pick:=qDp pb gm;rw[gl]at g sp;obtain⟨s1,s2⟩:=qGk g sp;exact q r _ _ (e.trans X2) ⟨_,upd_same,Paired.mapP pick fun a t z=>X2 _ _ z⟩ ⟨s1,ks,pk,s2⟩
end
end My
namespace My
open PySem L2
def qQs:Sp:=fun vs H Q _=>∃ (d p:Addr) (n:Int) (net:List Tr),vs=[.ref d,.ref p]/\H d=some (.lst [.int n])/\qAy H p net/\net.length<=12/\TxN net/\∀ r ss H',Dr d H H'->H r=none->LsS H' r ss->ss.length<=12->(∀ s∈ss,qAz s)->Q (.ref r) H'
def qMz:Sp:=fun vs H Q _=>∃ (d p:Addr) (n:Int) (net:List Tr),vs=[.ref d,.ref p]/\H d=some (.lst [.int n])/\qAy H p net/\net.length<=12/\TxN net/\net≠[]/\∀ v g H',Dr d H H'->qDt (fun q=>H q=none) H' v g->g≠.no->Q v H'
section
variable {P:Program} {w:World} {K:PySem.W.Frag} {mg:Str->Option Value} {base:Heap} {f f1 f2 f3 C:Addr} {fd fd1 fd2 fd3:FuncData}
theorem qT7:FnScope ["_law_draw","_law_net"] ["_law_draw","_law_net"] (qAd qJe):=⟨rfl,rfl,rfl,by decide +kernel,rfl,by decide +kernel,by decide +kernel⟩
theorem ok_some (F:Fun K "_law_some" "_law_some" qJe f fd) (G1:Cl P w K mg base CX0 1 f1 fd1 ["_law_draw","_law_many"] qCz "_law_take"):FnOk P w K mg base CX0 2 f fd ["_law_draw","_law_net"] qQs:=by
 refine F.ok qT7 (fun vs H Q E h=>?_) (fun cdv A outer s H vs Q E hr h=>?_)
 ·obtain⟨d,p,n,net,rfl,_⟩:=h;rfl
 obtain⟨d,p,n,net,rfl,hd,⟨as,hp,pr⟩,hl,tx,q⟩:=h;have la:as.length=net.length:=pr.length;refine⟨_,(qAf (qAq (qCo (N:=["_law_draw","_law_net"]) (sc:=qAd qJe) (N':=["_law_tie","_law_one","_law_other","_law_draw"]) (sub:=[none,none,none,some 0]) rfl rfl (CmpOk.of (by decide +kernel)) rfl (qAx (pv 1))
  (fun C s H fp=>⟨(show PG _ _ (qRd K 3 _) from qCh rfl (qAo (qAi (i:=0) (by show(["_law_tie","_law_one","_law_other","_law_draw"]:List Str).Nodup;decide) rfl (Or.inl rfl)) (qAo (qAi (i:=1) (by show(["_law_tie","_law_one","_law_other","_law_draw"]:List Str).Nodup;decide) rfl (Or.inl rfl)) (qAo (qAi (i:=2) (by show(["_law_tie","_law_one","_law_other","_law_draw"]:List Str).Nodup;decide) rfl (Or.inl rfl)) qBq)))),qCt (qAn qSg (qAs G1 hr rfl .nil qAu (qAa (pv 3) (qAa qAe qAb))) qAe (qAr _)),pv 0⟩)))),?_⟩
 refine⟨_,rfl,p,rfl,⟨_,SqL.of hp⟩,?_⟩;refine qBc (xs:=as.map V.ref) (fun j ys H2=>Dr d H H2/\∃ ss:List Str,ys=ss.map V.str/\ss.length<=j/\∀ s∈ss,qAz s) ⟨Dr.refl hd,[],rfl,hA4 _,fun s h=>by cases h⟩ (fun j ys H2 _ h=>SqL.of ((Kw.dr hd h.1).refs hp)) ?_ ?_
 ·rintro j x ys H2 hx ⟨dr,ss,rfl,ls,ns⟩;obtain⟨a,t,rfl,ht,ha⟩:=qB8 pr hx;have hi:=qBg ht;obtain⟨q0,hq0⟩:=dr.1;refine⟨a,_,rfl,SqT.of ((Kw.dr hd dr).tup ha),rfl,_,_,rfl,_,_,rfl,_,_,rfl,rfl,?_⟩;refine⟨Sle.set _ (Sle.set _ (Sle.set _ (Sle.refl _) (fun u z=>by cases z)) (fun u z=>by cases z)) (fun u z=>by cases z),?_⟩;refine⟨_,rfl,d,q0,3,rfl,hq0,by decide,by decide,fun q1 z1 z1a z1b=>⟨_,_,rfl,rfl,_,rfl,?_⟩⟩;refine qBw (fun c=>?_) (fun c=>?_)
  ·refine⟨_,rfl,?_,nxt (qBg hx) ⟨dr.take q1,ss++[t.1],by rw[hAc];rfl,by rw[hA2];exact hBz ls,fun s hs=>?_⟩⟩
   ·rw[hA1];exact qAg (by omega)
   ·rcases hAd.mp hs with z | z
    ·exact ns s z
    ·rw[hA7.mp z];exact(tx t (hAm ht)).1
  ·exact nxt (qBg hx) ⟨dr.take q1,ss,rfl,by omega,ns⟩
 ·rintro ys H2 ⟨dr,ss,rfl,ls,ns⟩ r hr';rw[hA1,la]at ls;exact q r ss _ (dr.new hr' _) (dr.none hr') upd_same (by omega) ns
abbrev qV5:List Str:=["_law_draw","_law_net","_law_way","_law_spots","_law_point"]
theorem qKn:FnScope qV5 ["_law_draw","_law_net"] (qAd qH8):=⟨rfl,rfl,rfl,by decide +kernel,rfl,by decide +kernel,by decide +kernel⟩
theorem qPb {ss:List Str} {i:Int} (h0:0<=i) (h1:i<((ss.map V.str).length:Nat)):∃ s∈ss,atI (ss.map V.str) i=some (.str s):=by
 rw[hA1]at h1;have hk:i.toNat<ss.length:=by omega
 refine⟨ss[i.toNat],hBy hk,?_⟩;have:=atI_nat (xs:=ss.map V.str) (j:=i.toNat) (v:=.str ss[i.toNat]) (by rw[hAl,hA3 hk];rfl)
 rwa [hBi h0]at this
theorem named_of {s:Str} (h:(s.cps.toList.all fun c=>decide (c∈sg.cps.toList))=true) (l:decide (1<=s.length/\s.length<=6)=true):qAz s :=
 ⟨fun c hc=>of_decide_eq_true (hB9.mp h c hc),of_decide_eq_true l⟩
theorem qWn:∀ s∈(["n1","n2","n3"]:List Str),qAz s:=fun s hs=>by
 simp only[hA9,hAv,or_false]at hs;rcases hs with rfl | rfl | rfl <;> exact named_of (by decide +kernel) (by decide +kernel)
theorem qSj (F:Fun K "_law_step" "_law_step" qH8 f fd) (G1:Cl P w K mg base CX0 1 f1 fd1 ["_law_draw","_law_many"] qCz "_law_take")
  (G2:Cl P w K mg base CX0 2 f2 fd2 ["_law_draw","_law_net"] qQs "_law_some")
  (ml:mg "len" = none) (mso:mg "sorted" = none) (mst:mg "set" = none):FnOk P w K mg base CX0 3 f fd ["_law_draw","_law_net"] qMz:=by
 refine F.ok qKn (fun vs H Q E h=>?_) (fun cdv A outer s H vs Q E hr h=>?_)
 ·obtain⟨d,p,n,net,rfl,_⟩:=h;rfl
 obtain⟨d,p,n,net,rfl,hd,nt,hl,tx,ne,q⟩:=h;have hr1:=hr.mono (j:=1) (by decide);refine⟨_,(qAc (qAl (i:=2) qKn.nd rfl (Or.inl rfl) (qAs G1 hr1 rfl .nil qAu (qAa (pv 0) (qAa qAe qAb)))) (qAc (qBd (qAl (i:=3) qKn.nd rfl (Or.inl rfl) (qAj (qDk rfl) rfl mso qBk (qAa (qA1 (qO5 rfl) rfl mst qO9 (qAa (qAv qB1 (qCo (N:=qV5) (sc:=qAd qH8) (N':=["_law_tie"]) (sub:=[none]) rfl rfl (CmpOk.of (by decide +kernel)) rfl (qAx (pv 1))
   (fun C s H fp=>⟨qAi (i:=0) (by show(["_law_tie"]:List Str).Nodup;decide) rfl (Or.inl rfl),qA5,qA9 (show IxR _ (qQ2 K) from qCb) (pv 0) qAe (fun _ _=>rfl)⟩)) (qCo (N:=qV5) (sc:=qAd qH8) (N':=["_law_tie"]) (sub:=[none]) rfl rfl (CmpOk.of (by decide +kernel)) rfl (qAx (pv 1))
   (fun C s H fp=>⟨qAi (i:=0) (by show(["_law_tie"]:List Str).Nodup;decide) rfl (Or.inl rfl),qA5,qA9 (show IxR _ (qQ2 K) from qCb) (pv 0) qAe (fun _ _=>rfl)⟩))) qAb)) qAb)))) (qAc (qAl (i:=4) qKn.nd rfl (Or.inl rfl) (qA9 qBa (pv 3) (qAs G1 hr1 rfl .nil qAu (qAa (pv 0) (qAa (qAj qAm rfl ml hAn (qAa (pv 3) qAb)) qAb))) (fun _ _=>rfl))) (qAc (qBf (qAn qB0 (pv 2) qAe (qAr _)) (qAf (qAq (qB5 (qAa qBj (qAa (qAs G2 hr rfl .nil qAu (qAa (pv 0) (qAa (pv 1) qAb))) qAb))))) qAt) (qAc (qBf (qAn qB0 (pv 2) qAe (qAr _)) (qAf (qAq (qB5 (qAa qBj (qAa (pv 4) (qAa (qAs G2 hr rfl .nil qAu (qAa (pv 0) (qAa (pv 1) qAb))) (qAa (qA9 qBa (qA3 (qAa qBj (qAa qBj (qAa qBj qAb)))) (qAs G1 hr1 rfl .nil qAu (qAa (pv 0) (qAa qAe qAb))) (fun _ _=>rfl)) qAb))))))) qAt) (qAf (qAq (qB5 (qAa qBj (qAa (pv 4) (qAa (qA9 qBa (pv 3) (qAs G1 hr1 rfl .nil qAu (qAa (pv 0) (qAa (qAj qAm rfl ml hAn (qAa (pv 3) qAb)) qAb))) (fun _ _=>rfl)) qAb))))))))))),?_⟩
 refine⟨_,rfl,d,n,3,rfl,hd,by decide,by decide,fun q1 way w0 w1=>?_⟩;have d1:=(Dr.refl hd).take q1;revert d1;generalize upd H d (.lst [.int q1])=H1;intro d1;obtain⟨as,hp,pr⟩:=(Kw.dr hd d1).net nt;refine⟨fun σ H'=>∃ (r:Addr) (ps:List Str),σ=[some (.ref d),some (.ref p),some (.int way),some (.ref r),none]/\Dr d H H'/\LsS H' r ps/\ps≠[]/\ps.length<=24/\∀ x∈ps,qAz x,?_,?_⟩
 ·refine⟨_,rfl,p,rfl,⟨_,SqL.of hp⟩,?_⟩;refine qDx (fun t=>t.2.1) hp pr hl (fun a t ha C B c=>⟨Sle.set _ (Sle.refl _) (fun u z=>by cases z),iteT (B:=B H1) ⟨_,rfl,a,_,_,_,rfl,rfl,SqT.of ha,(by exact atI_nat (j:=1) rfl),c⟩⟩) (fun r1 hr1'=>?_);have X1:=Ext.new hr1' (.lst ((net.map fun t=>t.2.1).map V.str));have pr1:Paired (fun a t=>(upd H1 r1 (.lst ((net.map fun t=>t.2.1).map V.str))) a=some (.tup (trV t))) as net:=Paired.mapP pr fun a t z=>X1 _ _ z
  refine⟨_,rfl,p,rfl,⟨_,SqL.of (X1 _ _ hp)⟩,?_⟩;refine qDx (fun t=>t.2.2) (X1 _ _ hp) pr1 hl (fun a t ha C B c=>⟨Sle.set _ (Sle.refl _) (fun u z=>by cases z),iteT (B:=B (upd H1 r1 (.lst ((net.map fun t=>t.2.1).map V.str)))) ⟨_,rfl,a,_,_,_,rfl,rfl,SqT.of ha,(by exact atI_nat (j:=2) rfl),c⟩⟩) (fun r2 hr2'=>?_);have X2:=Ext.new hr2' (.lst ((net.map fun t=>t.2.2).map V.str));refine⟨r1,r2,_,_,rfl,rfl,X2 _ _ upd_same,upd_same,?_,fun r3 hr3=>?_⟩
  ·rw[hA1,hA1,hA1,hA1];exact hAq (qAg (by omega))
  have X3:=Ext.new hr3 (.lst ((net.map fun t=>t.2.1).map V.str++(net.map fun t=>t.2.2).map V.str));refine⟨r3,net.map (fun t=>t.2.1)++net.map (fun t=>t.2.2),rfl,SqL.of (by rw[upd_same,hAc]),?_,fun S ss hS nd lss mem=>?_⟩
  ·rw[hA2,hA1,hA1];omega
  have X4:=Ext.new hS (qVg P w S ss);rw[hA2,hA1,hA1]at lss;refine⟨S,ss,rfl,upd_same,by omega,fun R ss' hR perm srt=>?_⟩;have X5:=Ext.new hR (.lst (ss'.map V.str));have lp:=perm.length_eq;refine⟨R,ss',rfl,d1.ext (X1.trans (X2.trans (X3.trans (X4.trans X5)))),upd_same,fun z=>?_,by omega,fun x hx=>?_⟩
  ·cases net with
   | nil=>exact ne rfl
   | cons t r =>
    have:t.2.1∈ss':=perm.mem_iff.mpr ((mem _).mpr (by simp));rw[z]at this;cases this
  ·have:=(mem x).mp (perm.mem_iff.mp hx);rcases hAd.mp this with z | z
   ·obtain⟨t,ht,rfl⟩:=hAj.mp z;exact(tx t ht).2.1
   ·obtain⟨t,ht,rfl⟩:=hAj.mp z;exact(tx t ht).2.2.1
 ·rintro σ H2 ⟨r,ps,rfl,d2,hr2,pne,lps,nps⟩;obtain⟨q2,hq2⟩:=d2.1;have lp0:0<ps.length:=List.length_pos_iff.mpr pne;refine⟨_,rfl,_,rfl,_,rfl,r,_,rfl,.inl (SqL.of hr2),d,q2,_,rfl,hq2,by rw[hA1];omega,by rw[hA1];omega,fun q3 i i0 i1=>?_⟩;have rd:r≠d:=fun z=>by
   unfold LsS at hr2;rw[z,hq2]at hr2;cases ps with
   | nil=>exact pne rfl
   | cons a b=>cases hr2
  obtain⟨pt,hpt,apt⟩:=qPb i0 i1;have d3:=d2.take q3;have hr3:LsS (upd H2 d (.lst [.int q3])) r ps:=by unfold LsS;rw[qAh rd];exact hr2
  have hq3:upd H2 d (.lst [.int q3]) d=some (.lst [.int q3]):=upd_same;revert d3 hr3 hq3;generalize upd H2 d (.lst [.int q3])=H3;intro d3 hr3 hq3;refine⟨r,_,_,_,rfl,rfl,SqL.of hr3,apt,?_⟩;have npt:=nps pt hpt;have nt3:=(Kw.dr hd d3).net nt;refine⟨_,rfl,rfl,_,rfl,qBw (fun c=>?_) (fun c=>?_)⟩
  ·refine⟨_,rfl,_,rfl,d,p,q3,net,rfl,hq3,nt3,hl,tx,fun rs ss H4 d4 r0 hs ls ns=>⟨(by show 2<=sizeLine;decide),fun T hT=>?_⟩⟩;have X:=Ext.new hT (.tup [V.str "turn",.ref rs]);exact q _ (.turn ss) _ ((d3.trans d4).ext X) ⟨T,rs,rfl,upd_same,X _ _ hs,by omega,ns,d3.none r0⟩ (fun z=>by cases z)
  ·refine⟨_,rfl,rfl,_,rfl,qBw (fun c=>?_) (fun c=>?_)⟩
   ·refine⟨_,rfl,_,rfl,_,rfl,d,p,q3,net,rfl,hq3,nt3,hl,tx,fun rs ss H4 d4 r0 hs ls ns=>?_⟩;obtain⟨q4,hq4⟩:=d4.1;refine⟨(by show 3<=sizeLine;decide),fun L hL=>?_⟩;have XL:=Ext.new hL (.lst [V.str "n1",V.str "n2",V.str "n3"]);refine⟨_,rfl,d,q4,3,rfl,XL _ _ hq4,by decide,by decide,fun q5 j j0 j1=>?_⟩;have Ld:L≠d:=fun z=>by rw[z,hq4]at hL;cases hL
    obtain⟨nw,hnw,anw⟩:=qPb (ss:=["n1","n2","n3"]) j0 j1;refine⟨L,_,_,_,rfl,rfl,SqL.of (by rw[qAh Ld];exact upd_same),anw,(by show 4<=sizeLine;decide),fun T hT=>?_⟩;have d5:=((d3.trans d4).ext XL).take q5;have k5:=Kw.dr (XL _ _ hq4) ((Dr.refl (XL _ _ hq4)).take q5);have hs5:=k5.strs (XL _ _ hs:LsS _ rs ss);have X:=Ext.new hT (.tup [V.str "apart",.str pt,.ref rs,.str nw]);exact q _ (.apart pt ss nw) _ (d5.ext X) ⟨T,rs,rfl,upd_same,⟨X _ _ hs5,by omega,ns,d3.none r0⟩,npt,qWn nw hnw⟩ (fun z=>by cases z)
   ·refine⟨_,rfl,_,rfl,_,rfl,_,rfl,r,_,rfl,.inl (SqL.of hr3),d,q3,_,rfl,hq3,by rw[hA1];omega,by rw[hA1];omega,fun q4 j j0 j1=>?_⟩;obtain⟨p2,hp2,ap2⟩:=qPb j0 j1;have d4:=d3.take q4;have hr4:LsS (upd H3 d (.lst [.int q4])) r ps:=by unfold LsS;rw[qAh rd];exact hr3
    refine⟨r,_,_,_,rfl,rfl,SqL.of hr4,ap2,(by show 3<=sizeLine;decide),fun T hT=>?_⟩;have X:=Ext.new hT (.tup [V.str "together",.str pt,.str p2]);exact q _ (.tog pt p2) _ (d4.ext X) ⟨T,rfl,upd_same,npt,nps p2 hp2⟩ (fun z=>by cases z)
def qQu:Sp:=fun vs H Q _=>∃ (d p:Addr) (n:Int) (net:List Tr),vs=[.ref d,.ref p]/\H d=some (.lst [.int n])/\qAy H p net/\net.length<=12/\TxN net /\
 ∀ (T t r:Addr) (as:List Addr) (gs:List Sg) (m:List Tr) (H':Hp),Dr d H H'->H' T=some (.tup [.ref t,.ref r])->H' t=some (.lst (as.map V.ref))->Sgs (·≠t) H' (as.map V.ref) gs->(∀ g∈gs,g≠.no)->gs.length<=8->qBn net gs m->qAy H' r m->Q (.ref T) H'
abbrev roN:List Str:=["_law_draw","_law_net","_law_trail","_law_k","_law_step_here","_law_made"]
theorem qGe:FnScope roN ["_law_draw","_law_net"] (qAd qLx):=⟨rfl,rfl,rfl,by decide +kernel,rfl,by decide +kernel,by decide +kernel⟩
theorem qAy.over {H:Hp} {p t:Addr} {net:List Tr} {xs:List V} {o:HO} (h:qAy H p net) (ne:p≠t) (ht:H t=some (.lst xs)):qAy (upd H t o) p net:=by
 obtain⟨as,h1,h2⟩:=h;refine⟨as,by rw[qAh ne];exact h1,Paired.mapP h2 fun a u z=>?_⟩;rw[qAh (fun e=>by rw[e,ht]at z;cases z)];exact z
theorem qT4 {ok:Addr->Prop} {H:Hp} {v:V} {g:Sg} (h:qDt ok H v g) (ng:g≠.no):∃ a,v = .ref a:=by
 cases g with
 | no=>exact absurd rfl ng
 | turn ss=>obtain⟨st,_,h1,_⟩:=h;exact⟨st,h1⟩
 | apart a ss b=>obtain⟨st,_,h1,_⟩:=h;exact⟨st,h1⟩
 | tog a b=>obtain⟨st,h1,_⟩:=h;exact⟨st,h1⟩
theorem Sgs.over {t:Addr} {H:Hp} {ys zs:List V}:∀ {xs:List V} {gs:List Sg},Sgs (·≠t) H xs gs->(∀ g∈gs,g≠.no)->H t=some (.lst ys)->Sgs (·≠t) (upd H t (.lst zs)) xs gs
 | _,_,.nil,_,_=>.nil
 | _,_,.cons a b,ng,ht=>.cons (a.over (ng _ hA6) ht) (Sgs.over b (fun g hg=>ng g (hA5 _ hg)) ht)
theorem qSm (F:Fun K "_law_road" "_law_road" qLx f fd) (G1:Cl P w K mg base CX0 3 f1 fd1 ["_law_draw","_law_net"] qMz "_law_step")
  (G2:Cl P w K mg base CX0 7 f2 fd2 ["_law_net","_law_trail"] qRr "_law_behind")
  (ml:mg "len" = none) (mr:mg "range" = none) (mi:mg "int" = none):FnOk P w K mg base CX0 8 f fd ["_law_draw","_law_net"] qQu:=by
 refine F.ok qGe (fun vs H Q E h=>?_) (fun cdv A outer s H vs Q E hr h=>?_)
 ·obtain⟨d,p,n,net,rfl,_⟩:=h;rfl
 obtain⟨d,p,n,net,rfl,hd,nt,hl,tx,q⟩:=h;have hr3:=hr.mono (j:=3) (by decide);refine⟨_,(qAc (qAl (i:=2) qGe.nd rfl (Or.inl rfl) (qA3 qAb)) (qAc (qCd PassesOwn.never rfl (qBx rfl mr (qAa (qAv qDj qAe (qA1 qF1 rfl mi qF4 (qAa (qCe (qIg (qEs hr)) (pv 1) (qA3 qAb) (qAr _)) qAb))) qAb)) (qAi (i:=3) qGe.nd rfl (Or.inl rfl)) (qAc (qAl (i:=4) qGe.nd rfl (Or.inl rfl) (qAs G1 hr3 rfl .nil qAu (qAa (pv 0) (qAa (pv 1) qAb)))) (qAc (qAl (i:=5) qGe.nd rfl (Or.inl rfl) (qAs G2 hr rfl .nil qAu (qAa (pv 1) (qAa (qA3 (qAa (pv 4) qAb)) qAb)))) (qAf (qBf (PW.pt (qEt (qAn qNq (pv 5) qCi (qAr _)) (qC4 (qAn qIh (qAj qAm rfl ml hAn (qAa (pv 2) qAb)) qAe (qAr _))))) (qAc (qC5 (qIb hB7 hB4 hB5 qB6 (pv 2) (qAa (pv 4) qAb))) (qAf (qAl (i:=1) qGe.nd rfl (Or.inl rfl) (pv 5)))) qAt))))) (qAf (qAq (qB5 (qAa (pv 2) (qAa (pv 1) qAb))))))),?_⟩;refine⟨hAk _,fun t ht=>?_⟩;have X0:=Ext.new ht (.lst []);have td:t≠d:=qCs hd ht;have pt:p≠t:=by obtain⟨as,h1,_⟩:=nt;exact qAk h1 ht
 refine⟨_,rfl,hAk _,fun l0 hl0=>?_⟩;have X1:=Ext.new hl0 (.lst []);have E1:=X0.trans X1;refine⟨_,_,qFw (nt.ext E1),qOu upd_same,qEe tx,qEd,?_⟩;rw[show(if true=true then !PyData.eqv (qIj net) (.list []) else PyData.eqv (qIj net) (.list []))=!decide (net=[]) from congrArg (! ·) (qDr net)];refine .inr ⟨_,rfl,?_⟩;obtain⟨N,hN,N1,Nn⟩:∃ N:Nat,24*(if (!decide (net=[]))=true then (1:Int) else 0)=(N:Int)/\N<=24/\(0<N->net≠[]):=by
  by_cases c:net=[]
  ·exact⟨0,by simp[c],by decide,fun z=>absurd z (by decide)⟩
  ·exact⟨24,by simp[c],by decide,fun _=>c⟩
 refine⟨_,_,rfl,rfl,.inl ⟨by decide,by decide⟩,?_⟩;refine⟨(N:Int),by rw[<-hN],by omega,by omega,?_⟩;refine qCf (lo:=0) (n:=N) (fun i σ H'=>Dr d H H'/\∃ (r:Addr) (as:List Addr) (gs:List Sg) (m:List Tr) (x3 x4 x5:Option V),σ=[some (.ref d),some (.ref r),some (.ref t),x3,x4,x5]/\r≠t/\H' t=some (.lst (as.map V.ref))/\Sgs (·≠t) H' (as.map V.ref) gs/\(∀ g∈gs,g≠.no)/\gs.length<=8/\qBn net gs m/\qAy H' r m)
  ⟨(Dr.refl hd).ext E1,p,[],[],net,none,none,none,rfl,pt,X1 _ _ upd_same,.nil,fun g h=>(by cases h),by decide,rfl,nt.ext E1⟩ ?_ ?_
 ·rintro i σ H' hi ⟨dr,r,as,gs,m,x3,x4,x5,rfl,rt,htl,sg,ng,lg,rd,nm⟩;obtain⟨txm,lm,_⟩:=rd.good tx (Sgs.tx sg);have mne:m≠[]:=fun z=>Nn (by omega) (by rw[z]at lm;exact List.length_eq_zero_iff.mp lm.symm)
  obtain⟨q1,hq1⟩:=dr.1;refine⟨_,rfl,_,rfl,d,r,q1,m,rfl,hq1,nm,by omega,txm,mne,fun v g H2 d2 sv gn=>?_⟩;have k2:=Kw.dr hq1 d2;have sv2:qDt (·≠t) H2 v g:=sv.imp fun q0 h0 e=>by rw[e,htl]at h0;cases h0
  have ht2:=k2.refs htl;refine⟨_,rfl,_,rfl,(by show 1<=sizeLine;decide),fun L hL=>?_⟩;have X2:=Ext.new hL (.lst [v]);refine⟨r,L,m,[v],_,[g],rfl,(k2.net nm).ext X2,by omega,txm,upd_same,(by show 1<=1000;decide),.cons (sv2.kw (.of X2)) .nil,fun m' r2 H3 rm e3 rr nm'=>?_,fun H3 e3 no=>?_⟩
  ·obtain⟨k,sk,ek⟩:=rm;cases ek;have E3:=X2.trans e3;have ht3:=E3 _ _ ht2;refine⟨_,rfl,rfl,_,rfl,iteT ?_⟩;refine⟨_,rfl,t,_,rfl,.inl (SqL.of ht3),_,_,rfl,rfl,_,rfl,?_⟩;have la:as.length=gs.length:=by have:=sg.length;rw[hA1]at this;exact this
   refine qBw (fun c=>?_) (fun c=>?_)
   ·have c':(((as.map V.ref).length:Nat):Int)<8:=of_decide_eq_true c;rw[hA1]at c';obtain⟨av,rfl⟩:=qT4 sv2 gn;refine⟨_,rfl,.inl ⟨rfl,_,SqL.of ht3⟩,_,rfl,t,_,_,rfl,rfl,ht3,by rw[hA1];exact qAg (by omega),?_⟩;have r2t:r2≠t:=by
     rcases rr with z | z
     ·rw[z];exact rt
     ·exact fun e=>by rw[e,X2 _ _ ht2]at z;cases z
    refine⟨_,rfl,(((dr.trans d2).ext E3).over ht td _),r2,as++[av],gs++[g],_,_,_,_,rfl,r2t,by rw[upd_same,hAc];rfl,?_,fun g' hg'=>?_,by rw[hA2];show _+1<=8;omega,rd.snoc sk,nm'.over r2t ht3⟩
    ·rw[hAc];exact Paired.snoc (Sgs.over ((sg.kw k2).kw (.of E3)) ng ht3) ((sv2.kw (.of E3)).over gn ht3)
    ·rcases hAd.mp hg' with z | z
     ·exact ng g' z
     ·rw[hA7.mp z];exact gn
   ·exact⟨(dr.trans d2).ext E3,r,as,gs,m,_,_,_,rfl,rt,ht3,(sg.kw k2).kw (.of E3),ng,lg,rd,(k2.net nm).ext E3⟩
  ·have E3:=X2.trans e3;refine⟨_,rfl,rfl,_,rfl,qD9 ?_⟩;exact⟨(dr.trans d2).ext E3,r,as,gs,m,_,_,_,rfl,rt,E3 _ _ ht2,(sg.kw k2).kw (.of E3),ng,lg,rd,(k2.net nm).ext E3⟩
 ·rintro σ H' ⟨dr,r,as,gs,m,x3,x4,x5,rfl,rt,htl,sg,ng,lg,rd,nm⟩;refine⟨_,rfl,_,rfl,(by show 2<=sizeLine;decide),fun T hT=>?_⟩;have X:=Ext.new hT (.tup [V.ref t,.ref r]);exact q T t r as gs m _ (dr.ext X) upd_same (X _ _ htl) (sg.kw (.of X)) ng lg rd (nm.ext X)
end
end My
namespace L2
open PySem PySem.Spec PyProof.Rows PySem.W
theorem qLq {s s':Shared} (h1:s'.gens=s.gens) (h2:s'.drawn=s.drawn) (h3:s'.os=s.os):s'={ s with heap:=s'.heap,toks:=s'.toks }:=by
 cases s';cases s
 simp_all
theorem qE0 (x:Str) (t:Tok) (hn:x.cps.size<=sizeLine):Meets (Builtin.«tuple.__new__» ⟨[.type "tuple",.str x t],[]⟩)
  (fun A R s=>A.handled=none/\∀ (s':Shared) (acc:Array Value),(∀ b o,s.heap.get? b=some o->s'.heap.get? b=some o)->s'.gens=s.gens->s'.drawn=s.drawn->s'.os=s.os->ItemsOf (SignAt x) acc x.cps.size->R (.ok (.ret (.ref s'.heap.objs.size))) { s' with heap:=s'.heap.push { cls:=.type "tuple",data:=.seq acc } }) :=
 .of_wp fun prog w A R s h=>by
  obtain⟨hp,g,d,tk,os⟩:=s;obtain⟨hh,h⟩:=h;have hsub:=sub_tuple_self;have hinit:=init_tuple_lookup;have hmh:=madeHere_tuple;have hT:Shared.TypeIs ⟨hp,g,d,tk,os⟩ (.str x t) "str":=typeIs_str _ _ _
  wp_walk using wpAny_typeOf hT,wpAny_collect_str (A:=A.in1) (hn:=hn) hh x t
  intro s' acc k1 k2 k3 k4 it;show wpAny _ _ (Builtin.Tuple.tupleExact acc.toList.toArray >>= fun v=>ret v) _ _ _;unfold Builtin.Tuple.tupleExact;refine wpAny_bind (wpAny_newObj_type ?_ (by show acc.toList.toArray.size<=sizeLine;simpa [it.1] using hn));refine wpAny_pure ⟨_,rfl,?_⟩;have e:acc.toList.toArray=acc:=by simp
  rw[e];exact h s' acc k1 k2 k3 k4 it
section
variable {X:Cx}
theorem qLp {x:Str} {acc:Array Value} {n:Nat} (h:ItemsOf (SignAt x) acc n):qBe ((List.range n).map (qRu x)) acc.toList:=by
 obtain⟨h1,h2⟩:=h;have key:∀ (l:List Value) (k:Nat),(∀ (j:Nat) (v:Value),l[j]?=some v->SignAt x (k+j) v)->qBe ((List.range' k l.length).map (qRu x)) l:=by
  intro l
  induction l with
  | nil=>intro k _;exact .nil
  | cons v r ih =>
   intro k h;rw[hBo,List.range'_succ,hB2];refine .cons (qM8 (h 0 v rfl)) (ih (k+1) fun j u hj=>?_);have:=h (j+1) u (by simpa using hj)
   rwa [show k+(j+1)=k+1+j by omega]at this
 have:=key acc.toList 0 fun j v hj=>by
  rw[Nat.zero_add];exact h2 j v (by rw[<-hAx];exact hj)
 rwa [hB6,h1,<-List.range_eq_range']at this
def qUg (K:PySem.W.Frag):List V->Hp->VK->Prop:=fun xs H Q=>(∃ p ys,xs=[.ref p]/\SqL K H p ys/\∀ l,H l=none->Q (.ref l) (upd H l (.tup ys)))\/∃ x:Str,xs=[.str x]/\x.length<=1000/\∀ l zs,H l=none->Q (.ref l) (upd H l (.tup zs))
theorem qJ6 (hc:X.calm=true):qB9 X (.type "tuple") (qUg X.K):=by
 intro pins s σ H xs us Q I r h;rcases h with ⟨p,ys,rfl,hq,q⟩ | ⟨x,rfl,hl,q⟩
 ·exact qCx pins s σ H [.ref p] us Q I r ⟨p,ys,rfl,.inl ⟨hq,q⟩⟩
 obtain⟨u,rfl,rx⟩:=qC0 r;obtain⟨t,rfl⟩:=rx;have hz:x.cps.size<=sizeLine:=hAq (qAg hl);refine callType_new F.called_tuple (by decide) (F.typeCall_tuple_1 _) (F.newCall_tuple_1 _) (fun obj=>F.args_object_init_2 obj _) F.entry_tuple_new (qE0 x t hz) ⟨I.ok.hd hc,fun s' acc k1 k2 k3 k4 it=>?_⟩;have es:=qLq k2 k3 k4;have I1:Inv X pins σ H s':=by
  rw[es];exact I.kept (t':=s'.toks) k1
 have rv:=qLp it;have I2:Inv X pins σ (upd H s'.heap.objs.size (.tup ((List.range x.cps.size).map (qRu x)))) { s' with heap:=s'.heap.push { cls:=.type "tuple",data:=.seq acc } } :=
  I1.laid (t':=s'.toks) (fun b o e=>Heap.get?_push_of_some _ e) (hA4 _) (show qBo X.prog X.w _ _ _ (.tup ((List.range x.cps.size).map (qRu x))) from ⟨by rw[hA1,hBe];exact hz,acc.toList,rv,IsTup.new _ _⟩)
 exact⟨⟨_,Heap.get?_push_size _ rfl,rfl⟩,.ref s'.heap.objs.size,_,I2,rfl,q _ _ (I1.hok.fresh (hA4 _))⟩
def qNj (K:PySem.W.Frag):R2:=fun x y H Q=>∃ ds d,DR K H y (.list ds)/\DR K H x d/\SeqAt.shaped (.list ds)=true/\SeqAt.shaped d=true/\Q (.bl (!ds.any fun z=>PyData.eqv z d)) H
theorem qNr (hu:X.A.units+65<cLine):OpR X (compareOp .NotIn) (qNj X.K):=by
 intro pins s σ H x y v u Q I rx ry h;obtain⟨ds,d,hy,hx,sy,sx,q⟩:=h;obtain⟨a1,r1⟩:=DR.reads I hx rx;obtain⟨a2,r2⟩:=DR.reads I hy ry;exact SeqAt.notIn_list_reads r2 r1 (SeqAt.canLay_of_shaped sy) (SeqAt.canLay_of_shaped sx) (room_in_shaped sx hu) ⟨.bl _,H,I,rfl,q⟩
end
end L2
namespace My
open PySem L2
def rwD (k:Bool) (ss:List Str):PyData:=if k then .tuple (ss.map .str) else .list (ss.map .str)
def sgP (k:Bool):Sg->List PyData
 | .no=>[]
 | .turn ss=>[.str "turn",rwD k ss]
 | .apart a ss b=>[.str "apart",.str a,rwD k ss,.str b]
 | .tog a b=>[.str "together",.str a,.str b]
def SgX:Sg->Prop
 | .no=>True
 | .turn ss=>∀ s∈ss,qAz s
 | .apart a ss b=>(∀ s∈ss,qAz s)/\qAz a/\qAz b
 | .tog a b=>qAz a/\qAz b
theorem qDt.nx {ok:Addr->Prop} {H:Hp} {v:V} {g:Sg} (h:qDt ok H v g):SgX g:=by
 cases g with
 | no=>trivial
 | turn ss=>obtain⟨st,q,_,_,h⟩:=h;exact h.2.2.1
 | apart a ss b=>obtain⟨st,q,_,_,h,n⟩:=h;exact⟨h.2.2.1,n⟩
 | tog a b=>obtain⟨st,_,_,h⟩:=h;exact h
theorem qRb (k:Bool) {ss:List Str} (h:∀ s∈ss,qAz s):(rwD k ss).canLay0=true/\(rwD k ss).depth<=1:=by
 obtain⟨h3,h4⟩:=qFa (r:=ss) fun s hs=>(h s hs).1.sm.ok
 cases k with
 | true=>exact⟨h3,by show PyData.depthAll _+1<=1;omega⟩
 | false=>exact⟨h3,by show PyData.depthAll _+1<=1;omega⟩
theorem qRa (k:Bool) {g:Sg} (h:SgX g):PyData.canLayAll0 (sgP k g)=true/\PyData.depthAll (sgP k g)<=1:=by
 cases g with
 | no=>exact⟨rfl,hAk _⟩
 | turn ss =>
  obtain⟨h1,h2⟩:=qRb k h;refine⟨?_,?_⟩
  ·show(PyData.strOk "turn" && ((rwD k ss).canLay0 && true))=true;rw[h1];decide +kernel
  ·show max 0 (max (rwD k ss).depth 0)<=1;omega
 | apart a ss b =>
  obtain⟨h1,h2⟩:=qRb k h.1;refine⟨?_,?_⟩
  ·show(PyData.strOk "apart" && (PyData.strOk a && ((rwD k ss).canLay0 && (PyData.strOk b && true))))=true;rw[h1,h.2.1.1.sm.ok,h.2.2.1.sm.ok];decide +kernel
  ·show max 0 (max 0 (max (rwD k ss).depth (max 0 0)))<=1;omega
 | tog a b =>
  refine⟨?_,?_⟩
  ·show(PyData.strOk "together" && (PyData.strOk a && (PyData.strOk b && true)))=true;rw[h.1.1.sm.ok,h.2.1.sm.ok];decide +kernel
  ·show max 0 (max 0 (max 0 0))<=1;omega
theorem qDd {k l:Bool} {g:Sg} (h:SgX g):SeqAt.shaped (if l then .tuple (sgP k g) else .list (sgP k g))=true:=by
 obtain⟨h3,h4⟩:=qRa k h;cases l with
 | true =>
  show(PyData.canLayAll0 (sgP k g) && decide (PyData.depthAll (sgP k g)+1<=64))=true;rw[h3,decide_eq_true (by omega)];rfl
 | false =>
  show(PyData.canLayAll0 (sgP k g) && decide (PyData.depthAll (sgP k g)+1<=64))=true;rw[h3,decide_eq_true (by omega)];rfl
abbrev sgD (g:Sg):PyData:=.tuple (sgP false g)
theorem qJq:∀ {gs:List Sg},(∀ g∈gs,SgX g)->PyData.canLayAll0 (gs.map sgD)=true/\PyData.depthAll (gs.map sgD)<=2
 | [],_=>⟨rfl,by decide⟩
 | g :: gs,h=>by
  obtain⟨h1,h2⟩:=qJq (gs:=gs) fun y hy=>h y (hA5 _ hy)
  obtain⟨h3,h4⟩:=qRa false (h g hA6);refine⟨?_,?_⟩
  ·show(PyData.canLayAll0 (sgP false g) && PyData.canLayAll0 (gs.map sgD))=true;rw[h1,h3];rfl
  ·show max (PyData.depthAll (sgP false g)+1) (PyData.depthAll (gs.map sgD))<=2;omega
theorem qLr {gs:List Sg} (h:∀ g∈gs,SgX g):SeqAt.shaped (.list (gs.map sgD))=true:=by
 obtain⟨h3,h4⟩:=qJq h;show(PyData.canLayAll0 (gs.map sgD) && decide (PyData.depthAll (gs.map sgD)+1<=64))=true;rw[h3,decide_eq_true (by omega)];rfl
theorem Sgs.nx {ok:Addr->Prop} {H:Hp} {xs:List V} {gs:List Sg} (h:Sgs ok H xs gs):∀ g∈gs,SgX g:=fun g hg=>by
 obtain⟨v,_,z⟩:=qDq h g hg;exact z.nx
theorem qG5 {ok:Addr->Prop} {H:Hp} {v:V} {g:Sg} (h:qDt ok H v g) (ng:g≠.no) (K:PySem.W.Frag):∃ st ys,v = .ref st/\H st=some (.tup ys)/\ys.length<=4/\DRs K H ys (sgP false g)/\∀ y∈ys,(∃ s:Str,y = .str s/\s.length<=1000)\/∃ q ss,y = .ref q/\LsS H q ss/\ss.length<=100:=by
 have nl:∀ {s:Str},qAz s->s.length<=1000:=fun h=>by have:=h.2.2;omega
 cases g with
 | no=>exact absurd rfl ng
 | turn ss =>
  obtain⟨st,q,rfl,h2,h3⟩:=h;refine⟨st,_,rfl,h2,(by show 2<=4;decide),.cons (.str _) (.cons (qLd h3.1) .nil),fun y hy=>?_⟩;simp only[hA9,hAv,or_false]at hy;rcases hy with rfl | rfl
  ·exact .inl ⟨_,rfl,by decide +kernel⟩
  ·exact .inr ⟨q,ss,rfl,h3.1,h3.2.1⟩
 | apart a ss b =>
  obtain⟨st,q,rfl,h2,h3,na,nb⟩:=h;refine⟨st,_,rfl,h2,(by show 4<=4;decide),.cons (.str _) (.cons (.str _) (.cons (qLd h3.1) (.cons (.str _) .nil))),fun y hy=>?_⟩;simp only[hA9,hAv,or_false]at hy;rcases hy with rfl | rfl | rfl | rfl
  ·exact .inl ⟨_,rfl,by decide +kernel⟩
  ·exact .inl ⟨_,rfl,nl na⟩
  ·exact .inr ⟨q,ss,rfl,h3.1,h3.2.1⟩
  ·exact .inl ⟨_,rfl,nl nb⟩
 | tog a b =>
  obtain⟨st,rfl,h2,na,nb⟩:=h;refine⟨st,_,rfl,h2,(by show 3<=4;decide),.cons (.str _) (.cons (.str _) (.cons (.str _) .nil)),fun y hy=>?_⟩;simp only[hA9,hAv,or_false]at hy;rcases hy with rfl | rfl | rfl
  ·exact .inl ⟨_,rfl,by decide +kernel⟩
  ·exact .inl ⟨_,rfl,nl na⟩
  ·exact .inl ⟨_,rfl,nl nb⟩
theorem qWu {ok:Addr->Prop} {K:PySem.W.Frag} {H:Hp} {v:V} {g:Sg} (h:qDt ok H v g) (ng:g≠.no):DR K H v (sgD g):=by
 obtain⟨st,ys,rfl,h2,_,h3,_⟩:=qG5 h ng K;exact .tup (SqT.of h2) h3
theorem qOq {ok:Addr->Prop} {K:PySem.W.Frag} {H:Hp}:∀ {xs:List V} {gs:List Sg},Sgs ok H xs gs->(∀ g∈gs,g≠.no)->DRs K H xs (gs.map sgD)
 | _,_,.nil,_=>.nil
 | _,_,.cons a b,ng=>.cons (qWu a (ng _ hA6)) (qOq b fun g hg=>ng g (hA5 _ hg))
theorem qIn (ss:List Str):PyData.eqvAll (ss.map .str) (ss.map .str)=true:=by
 have:=qJ1 ss ss;rw[decide_eq_true rfl]at this;exact this
theorem qVc (g:Sg):PyData.eqv (sgD g) (sgD g)=true:=by
 cases g with
 | no=>rfl
 | turn ss =>
  show(("turn" : Str) == "turn" && (PyData.eqvAll (ss.map .str) (ss.map .str) && true))=true;rw[qIn];decide +kernel
 | apart a ss b =>
  show(("apart" : Str) == "apart" && (a == a && (PyData.eqvAll (ss.map .str) (ss.map .str) && (b == b && true))))=true;rw[qIn];simp
 | tog a b =>
  show(("together" : Str) == "together" && (a == a && (b == b && true)))=true;simp
theorem qOo:∀ gs:List Sg,PyData.eqvAll (gs.map sgD) (gs.map sgD)=true
 | []=>rfl
 | g :: gs=>by
  show(PyData.eqv (sgD g) (sgD g) && PyData.eqvAll (gs.map sgD) (gs.map sgD))=true;rw[qVc,qOo];rfl
def del (H:Hp) (a:Addr):Hp:=fun b=>if b=a then none else H b
theorem qS7 (H:Hp) (a:Addr):Ext (del H a) H:=fun b o h=>by
 unfold del at h;split at h
 ·cases h
 ·exact h
theorem qQl {H H':Hp} (e:Ext H H') (a:Addr):Ext (del H a) (del H' a):=fun b o h=>by
 unfold del at h ⊢;split at h
 ·cases h
 ·rename_i c;rw[if_neg c];exact e _ _ h
theorem qOx (H:Hp) (a:Addr) (o:HO):del (upd H a o) a=del H a:=by
 funext b
 unfold del;by_cases c:b=a
 ·rw[if_pos c,if_pos c]
 ·rw[if_neg c,if_neg c,qAh c]
theorem qIq {H:Hp} {a b:Addr} (h:b≠a):del H a b=H b:=if_neg h
theorem qRh {H1 H':Hp} {a:Addr} (e:Ext H1 H') (h:H1 a=none):Ext H1 (del H' a):=fun b o z=>by
 rw[qIq (qAk z h)];exact e _ _ z
mutual
theorem qRg {K:PySem.W.Frag} {H H':Hp} (e:Ext H H'):∀ {v:V} {D:PyData},DR K H v D->DR K H' v D
 | _,_,.non=>.non
 | _,_,.bl b=>.bl b
 | _,_,.int i=>.int i
 | _,_,.str x=>.str x
 | _,_,.lst hq hd=>.lst (e.sqL hq) (qHs e hd)
 | _,_,.tup hq hd=>.tup (by
  rcases hq with (h | ⟨o,h⟩) | h
  ·exact .inl (.inl (e _ _ h))
  ·exact .inl (.inr ⟨o,e _ _ h⟩)
  ·exact .inr h) (qHs e hd)
theorem qHs {K:PySem.W.Frag} {H H':Hp} (e:Ext H H'):∀ {vs:List V} {Ds:List PyData},DRs K H vs Ds->DRs K H' vs Ds
 | _,_,.nil=>.nil
 | _,_,.cons h t=>.cons (qRg e h) (qHs e t)
end
def ThD (K:PySem.W.Frag) (H:Hp) (x:V):Prop:=∃ g D,qDt qMf H x g/\DR K H x D/\SeqAt.shaped D=true
theorem ThD.ext {K:PySem.W.Frag} {H H':Hp} {x:V} (h:ThD K H x) (e:Ext H H'):ThD K H' x:=by
 obtain⟨g,D,h1,h2,h3⟩:=h;exact⟨g,D,h1.kw (.of e),qRg e h2,h3⟩
def qKf:Sp:=fun vs H Q _=>∃ (t:Addr) (as:List Addr) (ok:Addr->Prop) (gs:List Sg),vs=[.ref t]/\H t=some (.lst (as.map V.ref))/\Sgs ok H (as.map V.ref) gs/\(∀ g∈gs,g≠.no)/\gs.length<=8 /\
 ∀ (r:Addr) (xs:List V) (H':Hp),Ext H H'->H' r=some (.lst xs)->xs.length<=16->(∀ x∈xs,∃ g,qDt qMf H' x g)->Q (.ref r) H'
abbrev qVn:List Str:=["_law_trail","_law_found","_law_step_here"]
theorem qNe:FnScope qVn ["_law_trail"] (qAd qG9):=⟨rfl,rfl,rfl,by decide +kernel,rfl,by decide +kernel,by decide +kernel⟩
def qXs (K:PySem.W.Frag):List V->Hp->VK->Prop:=fun xs H Q=>∃ x t c b,xs=[x,.ty c]/\TyOf K H x t/\PySem.W.kitOne K t (.type c)=some b/\Q (.bl b) H
def qWc (K:PySem.W.Frag):List V->Hp->VK->Prop:=fun xs H Q=>∃ p ys,xs=[.ref p]/\(SqL K H p ys\/SqT K H p ys)/\∀ l,H l=none->Q (.ref l) (upd H l (.lst ys))
theorem qUd {k:Nat} {A:Around} (hr:Room k A):A.units+65<cLine:=by have:=hr.un;omega
def MpR (fo:Addr) (H:Hp) (y z:V):Prop:=(∃ s:Str,y = .str s/\z = .str s)\/∃ q ss T,y = .ref q/\q≠fo/\LsS H q ss/\z = .ref T/\H T=some (.tup (ss.map V.str))
theorem MpR.ext {fo:Addr} {H H':Hp} {y z:V} (h:MpR fo H y z) (e:Ext H H'):MpR fo H' y z:=by
 rcases h with h | ⟨q,ss,T,h1,h0,h2,h3,h4⟩
 ·exact .inl h
 ·exact .inr ⟨q,ss,T,h1,h0,e _ _ h2,h3,e _ _ h4⟩
theorem mp_str {fo:Addr} {H:Hp} {s:Str} {z:V} (h:MpR fo H (.str s) z):z = .str s:=by
 rcases h with ⟨s',e,rfl⟩ | ⟨q,ss,T,e,_⟩
 ·cases e;rfl
 ·cases e
theorem qQ8 {fo:Addr} {H:Hp} {q:Addr} {ss:List Str} {z:V} (h:MpR fo H (.ref q) z) (hq:LsS H q ss):∃ T,z = .ref T/\H T=some (.tup (ss.map V.str)):=by
 rcases h with ⟨s',e,rfl⟩ | ⟨q',ss',T,e,_,h2,rfl,h4⟩
 ·cases e
 ·cases e;have e:ss'=ss:=by
   unfold LsS at h2 hq;rw[h2]at hq;exact strs_inj (by injection hq with h;injection h)
  rw[e]at h4;exact⟨T,rfl,h4⟩
theorem qHr {K:PySem.W.Frag} {H:Hp}:∀ ss:List Str,DRs K H (ss.map V.str) (ss.map PyData.str)
 | []=>.nil
 | s :: ss=>.cons (.str s) (qHr ss)
theorem qP9 {ok:Addr->Prop} {H:Hp} {v:V} {g:Sg} {st T fo:Addr} {ys zs:List V} (K:PySem.W.Frag) (h:qDt ok H v g) (ng:g≠.no) (ev:v = .ref st) (hst:H st=some (.tup ys)) (pr:Paired (MpR fo H) ys zs) (hT:H T=some (.tup zs)):ThD K H (.ref T):=by
 have nx:=h.nx;cases g with
 | no=>exact absurd rfl ng
 | turn ss =>
  obtain⟨st',q,e,h2,h3⟩:=h;rw[ev]at e;cases e;rw[hst]at h2;cases h2;cases pr with
  | cons a b =>
   cases b with
   | cons c d =>
    cases d;cases mp_str a;obtain⟨T',rfl,hT'⟩:=qQ8 c h3.1;refine⟨.no,.tuple (sgP true (.turn ss)),.inr ⟨T,_,rfl,hT,(by show 2<=100;decide),.inr ⟨_,_,rfl,fun _ y1 e=>?_,fun e=>absurd e (by decide +kernel),fun e=>absurd e (by decide +kernel)⟩⟩,.tup (SqT.of hT) (.cons (.str _) (.cons (.tup (SqT.of hT') (qHr ss)) .nil)),qDd (k:=true) (l:=true) nx⟩;cases e;exact .inr (.inr (.inr (.inr ⟨T',_,rfl,hT'⟩)))
 | apart a ss b =>
  obtain⟨st',q,e,h2,h3,na,nb⟩:=h;rw[ev]at e;cases e;rw[hst]at h2;cases h2;cases pr with
  | cons p1 pr =>
   cases pr with
   | cons p2 pr =>
    cases pr with
    | cons p3 pr =>
     cases pr with
     | cons p4 pr =>
      cases pr;cases mp_str p1;cases mp_str p2;cases mp_str p4;obtain⟨T',rfl,hT'⟩:=qQ8 p3 h3.1;refine⟨.no,.tuple (sgP true (.apart a ss b)),.inr ⟨T,_,rfl,hT,(by show 4<=100;decide),.inr ⟨_,_,rfl,fun e=>absurd e (by decide +kernel),fun _ y1 y2 y3 e=>?_,fun e=>absurd e (by decide +kernel)⟩⟩,.tup (SqT.of hT) (.cons (.str _) (.cons (.str _) (.cons (.tup (SqT.of hT') (qHr ss)) (.cons (.str _) .nil)))),qDd (k:=true) (l:=true) nx⟩;cases e;exact⟨.inr (.inr (.inr (.inr ⟨T',_,rfl,hT'⟩))),a,b,rfl,rfl,na,nb⟩
 | tog a b =>
  obtain⟨st',e,h2,na,nb⟩:=h;rw[ev]at e;cases e;rw[hst]at h2;cases h2;cases pr with
  | cons p1 pr =>
   cases pr with
   | cons p2 pr =>
    cases pr with
    | cons p3 pr =>
     cases pr;cases mp_str p1;cases mp_str p2;cases mp_str p3;exact⟨.tog a b,.tuple (sgP true (.tog a b)),⟨T,rfl,hT,na,nb⟩,.tup (SqT.of hT) (.cons (.str _) (.cons (.str _) (.cons (.str _) .nil))),qDd (k:=true) (l:=true) nx⟩
section
variable {P:Program} {w:World} {K:PySem.W.Frag} {mg:Str->Option Value} {base:Heap} {f f1 f2 f3 C:Addr} {fd fd1 fd2 fd3:FuncData}
theorem Sgs.mem {ok:Addr->Prop} {H:Hp} {xs:List V} {gs:List Sg} (h:Sgs ok H xs gs) {x:V} (hx:x∈xs):∃ g∈gs,qDt ok H x g:=paired_memA' h x hx
 where paired_memA' {α β:Type} {R:α->β->Prop}:∀ {as:List α} {bs:List β},Paired R as bs->∀ a∈as,∃ b∈bs,R a b
 | _,_,.nil,a,h=>by cases h
 | _,_,.cons h t,a,ha=>by
  rcases hA9.mp ha with rfl | z
  ·exact⟨_,hA6,h⟩
  ·obtain⟨b,hb,r⟩:=paired_memA' t a z;exact⟨b,hA5 _ hb,r⟩
theorem qSn (F:Fun K "_law_otherwise" "_law_otherwise" qG9 f fd) (mt:mg "tuple" = none) (mi:mg "int" = none) (mis:mg "isinstance" = none) (mL:mg "list" = none):FnOk P w K mg base CX0 1 f fd ["_law_trail"] qKf:=by
 refine F.ok qNe (fun vs H Q E h=>?_) (fun cdv A outer s H vs Q E hr h=>?_)
 ·obtain⟨t,as,ok,gs,rfl,_⟩:=h;rfl
 obtain⟨t,as,ok,gs,rfl,ht,sg,ng,lg,q⟩:=h;have la:as.length=gs.length:=by have:=sg.length;rw[hA1]at this;exact this
 have lx:(as.map V.ref).length<=8:=by rw[hA1];omega
 refine⟨_,(qAc (qL1 (i:=1) (N:=qVn) (sc:=qAd qG9) (N':=["_law_step_here"]) (sub:=[none]) rfl rfl (CmpOk.of (by decide +kernel)) rfl (qAx (pv 0))
   (fun C s H fp=>⟨qAi (i:=0) (by show(["_law_step_here"]:List Str).Nodup;decide) rfl (Or.inl rfl),qA5,qA1 (show qB9 _ _ (qWc K) from qA8) rfl mL qA4 (qAa (pv 0) qAb)⟩) qNe.nd rfl (Or.inl rfl)) (qAc (qCd PassesOwn.never rfl (qAx (pv 0)) (qAi (i:=2) qNe.nd rfl (Or.inl rfl)) (qAf (qC5 (qIb hB7 hB4 hB5 qB6 (pv 1) (qAa (qA1 qCx rfl mt qCy (qAa (qCo (N:=qVn) (sc:=qAd qG9) (N':=["_law_part"]) (sub:=[none]) rfl rfl (CmpOk.of (by decide +kernel)) rfl (qGj (pv 2))
   (fun C s H fp=>⟨qAi (i:=0) (by show(["_law_part"]:List Str).Nodup;decide) rfl (Or.inl rfl),qA5,qA9 (show IxR _ (qWd K) from qBa) (qA3 (qAa (pv 0) (qAa (qA1 (show qB9 _ _ (qUg K) from qJ6 rfl) rfl mt qCy (qAa (pv 0) qAb)) qAb))) (qA1 qF1 rfl mi qF4 (qAa (qAj (show qB9 _ _ (qXs K) from qBs) rfl mis qBt (qAa (pv 0) (qAa (qDo (v:=.ty "list") rfl mL qA4 rfl) qAb))) qAb)) (fun _ _=>rfl)⟩)) qAb)) qAb))))) (qAf (qAq (qCo (N:=qVn) (sc:=qAd qG9) (N':=["_law_step_here","_law_trail"]) (sub:=[none,some 0]) rfl rfl (CmpOk.of (by decide +kernel)) rfl (qAx (pv 1))
   (fun C s H fp=>⟨qAi (i:=0) (by show(["_law_step_here","_law_trail"]:List Str).Nodup;decide) rfl (Or.inl rfl),qCt (qAn (show OpR _ (compareOp .NotIn) (qNj K) from qNr (qUd hr)) (pv 0) (pv 1) (by with_unfolding_all rfl)),pv 0⟩)))))),?_⟩
 refine⟨_,rfl,t,rfl,⟨_,SqL.of ht⟩,?_⟩;refine qBc (xs:=as.map V.ref) (fun j ys H2=>Ext H H2/\ys.length<=j/\∀ y∈ys,ThD K H2 y) ⟨Ext.refl _,hA4 _,fun y h=>by cases h⟩ (fun j ys H2 _ h=>SqL.of (h.1 _ _ ht)) ?_ ?_
 ·rintro j x ys H2 hx ⟨e2,ly,ty⟩;obtain⟨g,hg,sx⟩:=Sgs.at sg hx;have ngx:=ng g (hAm hg);obtain⟨st,zs,rfl,hst,lz,dz,_⟩:=qG5 (sx.kw (.of e2)) ngx K;refine⟨Sle.set _ (Sle.refl _) (fun u z=>by cases z),iteT (B:=False) ⟨_,rfl,st,zs,rfl,.inr (SqT.of hst),fun l hl=>⟨qAg (by have:=qBg hx;omega),nxt (qBg hx) ⟨e2.trans (Ext.new hl _),by rw[hA2];exact hBz ly,fun y hy=>?_⟩⟩⟩⟩;have X:=Ext.new hl (.lst zs);rcases hAd.mp hy with z | z
  ·exact(ty y z).ext X
  ·rw[hA7.mp z];exact⟨.no,.list (sgP false g),.inl (.inr (.inr (.inr ⟨l,zs,rfl,upd_same⟩))),.lst (SqL.of upd_same) (qHs X dz),qDd (k:=false) (l:=false) sx.nx⟩
 ·rintro ys H2 ⟨e2,ly,ty⟩ fo hfo;have nfo:H fo=none:=e2.none hfo;have tfo:t≠fo:=qAk ht nfo;have X2:=Ext.new hfo (.lst ys);refine⟨_,rfl,t,rfl,⟨_,SqL.of (X2 _ _ (e2 _ _ ht))⟩,qCj (K:=K) (a:=t) (xs:=as.map V.ref) (fun i σ H'=>Ext H H'/\∃ (x2:Option V) (zs:List V),σ=[some (.ref t),some (.ref fo),x2]/\H' fo=some (.lst zs)/\zs.length<=8+i/\∀ z∈zs,ThD K (del H' fo) z)
   ⟨e2.trans X2,none,ys,rfl,upd_same,by omega,fun z hz=>by rw[qOx];exact(ty z hz).ext (qRh (Ext.refl _) hfo)⟩ (fun i σ H' _ h=>SqL.of (h.1 _ _ ht)) ?_ ?_⟩
  ·rintro i x σ H' hx ⟨e,x2,zs,rfl,hf,lz,tz⟩;have hi:=qBg hx;obtain⟨g,hg,sx⟩:=Sgs.at sg hx;have ngx:=ng g (hAm hg);have sx':=sx.kw (.of e);obtain⟨st,ps,rfl,hst0,lp,_,pp⟩:=qG5 sx ngx K;have hst:=e _ _ hst0;refine⟨_,rfl,.inl ⟨rfl,_,SqL.of hf⟩,_,rfl,st,rfl,⟨_,SqT.of hst⟩,?_⟩;refine qEa (K:=K) (a:=st) (xs:=ps) (fun j us H3=>Ext H' H3/\Paired (MpR fo H3) (ps.take j) us) ⟨Ext.refl _,.nil⟩ (fun j us H3 _ h=>SqT.of (h.1 _ _ hst)) ?_ ?_
   ·rintro j y us H3 hy ⟨e3,pu⟩;have hj:=qBg hy;have lu:=pu.length;rw[hAp]at lu;refine⟨Sle.set _ (Sle.refl _) (fun u z=>by cases z),iteT (B:=False) ⟨_,rfl,_,rfl,?_⟩⟩;rcases pp y (hAm hy) with ⟨s0,rfl,ls⟩ | ⟨q0,ss,rfl,hq00,ls⟩
    ·refine .inr ⟨s0,rfl,ls,fun l ws hl=>⟨(by show 2<=sizeLine;decide),fun L hL=>?_⟩⟩;have X3:=(Ext.new hl (.tup ws)).trans (Ext.new hL (.lst [V.str s0,.ref l]));refine⟨_,rfl,_,_,_,false,rfl,.str s0,sk K,.inr ⟨false,rfl,L,_,_,_,rfl,rfl,SqL.of upd_same,(by exact atI_nat (j:=0) rfl),qAg (by omega),nxt hj ⟨e3.trans X3,?_⟩⟩⟩;rw[qA0 hy];exact Paired.snoc (Paired.mapP pu fun _ _ z=>z.ext X3) (.inl ⟨s0,rfl,rfl⟩)
    ·have hq0:=e _ _ hq00;refine .inl ⟨q0,_,rfl,SqL.of (e3 _ _ hq0),fun l hl=>⟨(by show 2<=sizeLine;decide),fun L hL=>?_⟩⟩;have X3:=(Ext.new hl (.tup (ss.map V.str))).trans (Ext.new hL (.lst [V.ref q0,.ref l]));refine⟨_,rfl,_,_,_,true,rfl,.lst (X3 _ _ (e3 _ _ hq0)),qCv _ _,.inr ⟨true,rfl,L,_,_,_,rfl,rfl,SqL.of upd_same,(by exact atI_nat (j:=1) rfl),qAg (by omega),nxt hj ⟨e3.trans X3,?_⟩⟩⟩;rw[qA0 hy];exact Paired.snoc (Paired.mapP pu fun _ _ z=>z.ext X3) (.inr ⟨q0,ss,l,rfl,qAk hq00 nfo,X3 _ _ (e3 _ _ hq0),rfl,(Ext.new hL _) _ _ upd_same⟩)
   ·rintro us H3 ⟨e3,pu⟩ l hl;rw[hAf (hA4 _)]at pu;have X4:=Ext.new hl (.lst us);refine⟨l,us,rfl,.inl ⟨SqL.of upd_same,fun T hT=>?_⟩⟩;have X5:=Ext.new hT (.tup us);have E5:=e3.trans (X4.trans X5);have hf5:=E5 _ _ hf;have lus:=pu.length;refine⟨fo,_,_,rfl,rfl,hf5,qAg (by omega),⟨(e.trans E5).over nfo _,_,zs++[.ref T],rfl,upd_same,by rw[hA2];show _+1<=_;omega,fun z hz=>?_⟩⟩;rw[qOx];rcases hAd.mp hz with y | y
    ·exact(tz z y).ext (qQl E5 fo)
    ·rw[hA7.mp y];have hT5:upd (upd H3 l (.lst us)) T (.tup us) T=some (.tup us):=upd_same;have Tfo:T≠fo:=fun z=>by have y:=X4 _ _ (e3 _ _ hf);rw[<-z,hT]at y;cases y
     have sxd:qDt ok (del (upd (upd H3 l (.lst us)) T (.tup us)) fo) (.ref st) g:=sx.kw (.of (qRh (e.trans E5) nfo));have std:(del (upd (upd H3 l (.lst us)) T (.tup us)) fo) st=some (.tup ps):=by
      rw[qIq (fun z=>by rw[z,hf]at hst;cases hst)];exact E5 _ _ hst
     refine qP9 (fo:=fo) K sxd ngx rfl std ?_ (by rw[qIq Tfo];exact hT5);refine Paired.mapP pu fun a b z=>?_
     rcases z with z | ⟨q0,ss,T0,h1,h0,h2,h3,h4⟩
     ·exact .inl z
     ·have h2':=(X4.trans X5) _ _ h2;have h4':=(X4.trans X5) _ _ h4;refine .inr ⟨q0,ss,T0,h1,h0,by unfold LsS;rw[qIq h0];exact h2',h3,?_⟩;rw[qIq (fun z=>by rw[z,hf5]at h4';cases h4')];exact h4'
  ·rintro σ H' ⟨e,x2,zs,rfl,hf,lz,tz⟩;rw[hA1]at lz;have tzz:∀ z∈zs,ThD K H' z:=fun z hz=>(tz z hz).ext (qS7 _ _)
   refine⟨_,rfl,fo,rfl,⟨_,SqL.of hf⟩,?_⟩;refine qBc (xs:=zs) (fun j ys H2=>H2=H'/\ys.length<=j/\∀ y∈ys,y∈zs) ⟨rfl,hA4 _,fun y h=>by cases h⟩ (fun j ys H2 _ h=>by rw[h.1];exact SqL.of hf) ?_ ?_
   ·rintro j x ys H2 hx ⟨rfl,ly,ms⟩;obtain⟨g,D,_,dx,sh⟩:=tzz x (hAm hx);refine⟨Sle.set _ (Sle.refl _) (fun u z=>by cases z),?_⟩;refine⟨_,rfl,_,rfl,gs.map sgD,D,.lst (SqL.of (e _ _ ht)) (qOq (sg.kw (.of e)) ng),dx,qLr (Sgs.nx sg),sh,_,rfl,?_⟩;have hj:=qBg hx;refine qBw (fun c=>?_) (fun c=>?_)
    ·refine⟨_,rfl,qAg (by omega),nxt hj ⟨rfl,by rw[hA2];exact hBz ly,fun y hy=>?_⟩⟩;rcases hAd.mp hy with z | z
     ·exact ms y z
     ·rw[hA7.mp z];exact hAm hx
    ·exact nxt hj ⟨rfl,by omega,ms⟩
   ·rintro ys H2 ⟨rfl,ly,ms⟩ r hr';refine q r ys _ (e.trans (Ext.new hr' _)) upd_same (by omega) fun x hx=>?_
    obtain⟨g,_,sgx,_⟩:=tzz x (ms x hx);exact⟨g,sgx.kw (.of (Ext.new hr' _))⟩
end
end My
namespace My
open PySem L2
abbrev zs:List Str:=["z","yy","xxx","wwww","vvvvv","uuuuuu","t","zz","yyy","xxxx","wwwww","vvvvvv","u"]
def zC (k:Nat):Nat:=("zyxwvut" : Str).cps.toList.getD (k % 7) 0
theorem qXd:∀ k:Nat,k<13->atI ("zyxwvut" : Str).cps.toList ((0+(k:Int)) % 7)=some (zC k):=by decide +kernel
theorem qVs:∀ k:Nat,k<13->Txt.mul ⟨#[zC k]⟩ (1+(0+(k:Int)) % 6)=zs.getD k "":=by decide +kernel
theorem qRl:∀ s∈zs,qAz s:=fun s hs=>by
 have h1:(zs.all fun s=>s.cps.toList.all fun c=>decide (c∈sg.cps.toList))=true:=by decide +kernel
 have h2:(zs.all fun s=>decide (1<=s.length/\s.length<=6))=true:=by decide +kernel
 exact named_of (hB9.mp h1 s hs) (hB9.mp h2 s hs)
theorem qQ9:∀ {l1 l2:List Str},l1.Nodup->(∀ x∈l1,x∈l2)->l1.length<=l2.length
 | [],_,_,_=>hAk _
 | x :: r,l2,nd,h=>by
  have hx:=h x hA6;obtain⟨nx,nr⟩:=hBt.mp nd;have:=qQ9 (l1:=r) (l2:=l2.erase x) nr fun y hy=>(List.mem_erase_of_ne (fun e=>nx (by rw[<-e];exact hy))).mpr (h y (hA5 _ hy))
  rw[List.length_erase_of_mem hx]at this;have:=List.length_pos_of_mem hx;show r.length+1<=_;omega
theorem qVr {ns:List Str} (h:ns.length<=12):∃ x r,(zs.filter fun s=>!decide (s∈ns))=x :: r:=by
 cases e:zs.filter fun s=>!decide (s∈ns) with
 | cons x r=>exact⟨x,r,rfl⟩
 | nil =>
  have:zs.length<=ns.length:=qQ9 (by decide +kernel) fun x hx=>by
   have:=List.filter_eq_nil_iff.mp e x hx;by_cases c:x∈ns
   ·exact c
   ·exact absurd (by simp[c]) this
  have l13:zs.length=13:=rfl;omega
theorem qGu (ns:List Str):∀ l:List Str,(l.map V.str).filterMap (fun v=>if (!inV v (ns.map V.str))=true then some v else none)=(l.filter fun s=>!decide (s∈ns)).map V.str
 | []=>rfl
 | s :: r=>by
  have e:inV (V.str s) (ns.map V.str)=decide (s∈ns):=qC8 s ns;by_cases c:s∈ns
  ·simp only[hB2,hAz,e,c,decide_true,Bool.not_true,List.filter_cons,qGu ns r];rfl
  ·simp only[hB2,hAz,e,c,decide_false,Bool.not_false,List.filter_cons,qGu ns r,if_true]
def OtN (H:Hp) (net:List Tr) (a:Addr):Prop:=∃ m,qAy H a m/\m.length<=12/\TxN m/\∃ n,¬(n∈net.map (·.1)↔n∈m.map (·.1))
theorem OtN.ext {H H':Hp} {net:List Tr} {a:Addr} (h:OtN H net a) (e:Ext H H'):OtN H' net a:=by
 obtain⟨m,h1,h2⟩:=h;exact⟨m,h1.ext e,h2⟩
def qT0:Sp:=fun vs H Q _=>∃ (d p:Addr) (n:Int) (net:List Tr),vs=[.ref d,.ref p]/\H d=some (.lst [.int n])/\qAy H p net/\net.length<=12/\TxN net /\
 ∀ (r:Addr) (as:List Addr) (H':Hp),Dr d H H'->H' r=some (.lst (as.map V.ref))->as.length<=3->(∀ a∈as,OtN H' net a)->Q (.ref r) H'
abbrev otN:List Str:=["_law_draw","_law_net","_law_names_here","_law_new","_law_found","_law_tie","_law_one","_law_two"]
theorem qH7:FnScope otN ["_law_draw","_law_net"] (qAd qPg):=⟨rfl,rfl,rfl,by decide +kernel,rfl,by decide +kernel,by decide +kernel⟩
theorem qId {α β:Type} {R:α->β->Prop} {as as':List α} (h:as'.Perm as):∀ {bs:List β},Paired R as bs->∃ bs',Paired R as' bs'/\bs'.Perm bs:=by
 induction h with
 | nil=>intro bs h;cases h;exact⟨[],.nil,.nil⟩
 | cons x _ ih =>
  intro bs h;cases h with
  | cons a b=>obtain⟨bs',p1,p2⟩:=ih b;exact⟨_ :: bs',.cons a p1,p2.cons _⟩
 | swap x y l =>
  intro bs h;cases h with
  | cons a b =>
   cases b with
   | cons c d=>exact⟨_,.cons c (.cons a d),.swap _ _ _⟩
 | trans _ _ ih1 ih2 =>
  intro bs h;obtain⟨b1,p1,q1⟩:=ih2 h;obtain⟨b2,p2,q2⟩:=ih1 p1;exact⟨b2,p2,q2.trans q1⟩
theorem qKz {H:Hp} {r:Addr} {as as':List Addr} {a:Addr} {net:List Tr} {t:Tr} (pr:Paired (fun a t=>H a=some (.tup (trV t))) as net) (ha:H a=some (.tup (trV t))) (pm:as'.Perm (as++[a])) (hr:H r=some (.lst (as'.map V.ref))) (hl:net.length<8) (tx:TxN net) (tt:TxT t) (nw:t.1∉net.map (·.1)):OtN H net r:=by
 obtain⟨m,p1,p2⟩:=qId pm (Paired.snoc pr ha);refine⟨m,⟨as',hr,p1⟩,?_,fun u hu=>?_,t.1,fun h=>nw (h.mpr ?_)⟩
 ·rw[p2.length_eq,hA2];show _+1<=12;omega
 ·rcases hAd.mp (p2.mem_iff.mp hu) with z | z
  ·exact tx u z
  ·rw[hA7.mp z];exact tt
 ·exact hAj.mpr ⟨t,p2.mem_iff.mpr (hA8 _ (hA7.mpr rfl)),rfl⟩
theorem qMx {K:PySem.W.Frag} {H:Hp} {as:List Addr} {a:Addr} {net:List Tr} {t:Tr} (pr:Paired (fun a t=>H a=some (.tup (trV t))) as net) (ha:H a=some (.tup (trV t))):Paired (fun a t=>SqT K H a (t.map V.str)/\t≠[]) (as++[a]) ((net++[t]).map fun t=>[t.1,t.2.1,t.2.2]):=by
 have:=Paired.snoc pr ha;revert this;generalize as++[a]=l;generalize net++[t]=m;intro h
 induction h with
 | nil=>exact .nil
 | cons x _ ih=>exact .cons ⟨SqT.of x,fun z=>by cases z⟩ ih
section
variable {P:Program} {w:World} {K:PySem.W.Frag} {mg:Str->Option Value} {base:Heap} {f f1 f2 f3 C:Addr} {fd fd1 fd2 fd3:FuncData}
theorem qUt (F:Fun K "_law_other_ties" "_law_other_ties" qPg f fd) (G1:Cl P w K mg base CX0 1 f1 fd1 ["_law_draw","_law_many"] qCz "_law_take")
  (ml:mg "len" = none) (mr:mg "range" = none) (mso:mg "sorted" = none):FnOk P w K mg base CX0 2 f fd ["_law_draw","_law_net"] qT0:=by
 refine F.ok qH7 (fun vs H Q E h=>?_) (fun cdv A outer s H vs Q E hr h=>?_)
 ·obtain⟨d,p,n,net,rfl,_⟩:=h;rfl
 obtain⟨d,p,n,net,rfl,hd,⟨as,hp,pr⟩,hl,tx,q⟩:=h;have la:as.length=net.length:=pr.length;have dv:∀ {H':Hp},Ext H H'->H' d=some (.lst [.int n]):=fun e=>e _ _ hd
 refine⟨_,(qAc (qAl (i:=2) qH7.nd rfl (Or.inr rfl) (qCo (N:=otN) (sc:=qAd qPg) (N':=["_law_tie"]) (sub:=[none]) rfl rfl (CmpOk.of (by decide +kernel)) rfl (qAx (pv 1))
   (fun C s H fp=>⟨qAi (i:=0) (by show(["_law_tie"]:List Str).Nodup;decide) rfl (Or.inl rfl),qA5,qA9 (show IxR _ (qQ2 K) from qCb) (pv 0) qAe (fun _ _=>rfl)⟩))) (qAc (qBd (qAl (i:=3) qH7.nd rfl (Or.inl rfl) (qA9 qBa (qCo (N:=otN) (sc:=qAd qPg) (N':=["_law_name","_law_names_here"]) (sub:=[none,some 2]) rfl rfl (CmpOk.of (by decide +kernel)) rfl (qAx (qCo (N:=otN) (sc:=qAd qPg) (N':=["_law_k"]) (sub:=[none]) rfl rfl (CmpOk.of (by decide +kernel)) rfl (qBx rfl mr (qAa qAe qAb))
   (fun C s H fp=>⟨qAi (i:=0) (by show(["_law_k"]:List Str).Nodup;decide) rfl (Or.inl rfl),qA5,qAv qEk (qA9 qFs qBj (qAv qC6 (pv 0) qAe) (fun _ _=>rfl)) (qAv qBy qAe (qAv qC6 (pv 0) qAe))⟩)))
   (fun C s H fp=>⟨qAi (i:=0) (by show(["_law_name","_law_names_here"]:List Str).Nodup;decide) rfl (Or.inl rfl),qCt (qAn (show OpR _ (compareOp .NotIn) (rIn K true) from qEu) (pv 0) (pv 1) (by with_unfolding_all rfl)),pv 0⟩)) qAe (fun _ _=>rfl)))) (qAc (qAl (i:=4) qH7.nd rfl (Or.inl rfl) (qA3 qAb)) (qAc (qBf (qAn (qNv (qEs hr)) (pv 1) (qA3 qAb) (qAr _)) (qAf (qAq (qA3 (qAa (qA3 (qAa (qB5 (qAa (pv 3) (qAa qBj (qAa qBj qAb)))) qAb)) qAb)))) qAt) (qAc (qH9 (qA9 qBa (pv 1) (qAs G1 hr rfl .nil qAu (qAa (pv 0) (qAa (qAj qAm rfl ml hAn (qAa (pv 1) qAb)) qAb))) (fun _ _=>rfl)) (qCh rfl (qAo (qAi (i:=5) qH7.nd rfl (Or.inr rfl)) (qAo (qAi (i:=6) qH7.nd rfl (Or.inl rfl)) (qAo (qAi (i:=7) qH7.nd rfl (Or.inl rfl)) qBq))))) (qAc (qC5 (qIb hB7 hB4 hB5 qB6 (pv 4) (qAa (qCo (N:=otN) (sc:=qAd qPg) (N':=["_law_each","_law_tie"]) (sub:=[none,some 5]) rfl rfl (CmpOk.of (by decide +kernel)) rfl (qAx (pv 1))
   (fun C s H fp=>⟨qAi (i:=0) (by show(["_law_each","_law_tie"]:List Str).Nodup;decide) rfl (Or.inl rfl),qCt (qAn qSf (qA9 (show IxR _ (qQ2 K) from qCb) (pv 0) qAe (fun _ _=>rfl)) (pv 1) (qAr _)),pv 0⟩)) qAb))) (qAc (qBf (qAn qIh (qAj qAm rfl ml hAn (qAa (pv 1) qAb)) qAe (qAr _)) (qAf (qAl (i:=4) qH7.nd rfl (Or.inl rfl) (qAv qB1 (pv 4) (qA3 (qAa (qAj qEx rfl mso qBk (qAa (qAv qB1 (pv 1) (qA3 (qAa (qB5 (qAa (pv 3) (qAa qBj (qAa qBj qAb)))) qAb))) qAb)) (qAa (qAj qEx rfl mso qBk (qAa (qAv qB1 (pv 1) (qA3 (qAa (qB5 (qAa (pv 3) (qAa (pv 6) (qAa (pv 7) qAb)))) qAb))) qAb)) qAb)))))) qAt) (qAf (qAq (pv 4)))))))))),?_⟩
 refine⟨_,rfl,p,rfl,⟨_,SqL.of hp⟩,?_⟩;refine qDx (fun t=>t.1) hp pr hl (fun a t ha C B c=>⟨Sle.set _ (Sle.refl _) (fun u z=>by cases z),iteT (B:=B H) ⟨_,rfl,a,_,_,_,rfl,rfl,SqT.of ha,(by exact atI_nat (j:=0) rfl),c⟩⟩) (fun nh hnh=>?_);have X1:=Ext.new hnh (.lst ((net.map fun t=>t.1).map V.str));refine⟨fun σ H'=>Ext H H'/\∃ nw:Str,σ=[some (.ref d),some (.ref p),some (.ref nh),some (.str nw),none,none,none,none]/\qAz nw/\nw∉net.map (·.1),?_,?_⟩
 ·refine⟨13,rfl,by decide,by decide,?_⟩;refine qDa (fun k=>.str (zs.getD k "")) (by decide) ?_ ?_
  ·intro k hk C hC;have k13:k<13:=hk;rw[<-qVs k k13]at hC;exact⟨Sle.set _ (Sle.refl _) (fun u z=>by cases z),_,rfl,_,_,rfl,rfl,(by show(0:Int)<_;decide),_,_,zC k,rfl,rfl,(by decide +kernel),qXd k k13,_,rfl,_,_,rfl,rfl,(by show(0:Int)<_;decide),_,_,rfl,rfl,_,_,rfl,rfl,(by show 1<=100;decide),by omega,by omega,hC⟩
  intro l1 hl1;have X2:=Ext.new hl1 (.lst ((List.range (13:Int).toNat).map fun k=>V.str (zs.getD k "")));have ez:((List.range (13:Int).toNat).map fun k=>V.str (zs.getD k ""))=zs.map V.str:=by decide +kernel
  rw[ez]at X2 ⊢;refine⟨l1,rfl,⟨_,SqL.of upd_same⟩,?_⟩;refine qFb (xs:=zs.map V.str) (fun v=>if (!inV v ((net.map fun t=>t.1).map V.str))=true then some v else none) (SqL.of upd_same) (by decide +kernel) ?_ ?_
  ·intro x hx H2 e2 C c;obtain⟨s0,_,rfl⟩:=hAj.mp hx;refine⟨Sle.set _ (Sle.refl _) (fun u z=>by cases z),_,rfl,_,rfl,nh,_,rfl,.inl (SqL.of (e2 _ _ (X2 _ _ upd_same))),rfl,flat_strs _,_,rfl,?_⟩;have c':=c H2 (Ext.refl _);revert c';show C (if _ then _ else _) H2->if (!inV (V.str s0) ((net.map fun t=>t.1).map V.str))=true then _ else _
   cases(!inV (V.str s0) ((net.map fun t=>t.1).map V.str))
   ·exact fun z=>z
   ·exact fun z=>⟨_,rfl,z⟩
  ·intro H2 e2 l2 hl2;have ef:(zs.map V.str).filterMap (fun v=>if (!inV v ((net.map fun t=>t.1).map V.str))=true then some v else none)=(zs.filter fun s=>!decide (s∈net.map fun t=>t.1)).map V.str:=qGu _ _;obtain⟨x,r,ex⟩:=qVr (ns:=net.map fun t=>t.1) (by rw[hA1];exact hl);rw[ef,ex];have mx:x∈zs.filter fun s=>!decide (s∈net.map fun t=>t.1):=by rw[ex];exact hA6
   obtain⟨mz,nx⟩:=hC1.mp mx;refine⟨l2,_,_,_,rfl,rfl,SqL.of upd_same,(by exact atI_nat (j:=0) rfl),X1.trans (X2.trans (e2.trans (Ext.new hl2 _))),x,rfl,qRl x mz,fun z=>?_⟩;have y:(!decide (x∈net.map fun t=>t.1))=true:=nx;rw[decide_eq_true z]at y;cases y
 ·rintro σ H1 ⟨e1,nw,rfl,nn,nin⟩;refine⟨hAk _,fun fo hfo=>?_⟩;have Xf:=Ext.new hfo (.lst []);have nfo:H fo=none:=e1.none hfo;refine⟨_,rfl,hAk _,fun l0 hl0=>?_⟩;have E2:=e1.trans (Xf.trans (Ext.new hl0 (.lst [])));have hf2:upd (upd H1 fo (.lst [])) l0 (.lst []) fo=some (.lst []):=(Ext.new hl0 (.lst [])) _ _ upd_same;have hl2:upd (upd H1 fo (.lst [])) l0 (.lst []) l0=some (.lst []):=upd_same;revert E2 hf2 hl2;generalize upd (upd H1 fo (.lst [])) l0 (.lst [])=H2;intro E2 hf2 hl2;refine⟨_,_,qFw ⟨as,E2 _ _ hp,Paired.mapP pr fun a t z=>E2 _ _ z⟩,qOu hl2,qEe tx,qEd,_,rfl,?_⟩;rw[show(if false=true then !PyData.eqv (qIj net) (.list []) else PyData.eqv (qIj net) (.list []))=decide (net=[]) from qDr net];have nv:qAz "v":=named_of (by decide +kernel) (by decide +kernel);have tv:TxT (nw,"v","v"):=⟨nn,nv,nv,show leB "v" "v" = true by decide +kernel⟩;refine qBw (fun c=>?_) (fun c=>?_)
  ·have en:net=[]:=of_decide_eq_true c;subst en;refine⟨_,rfl,(by show 3<=sizeLine;decide),fun T hT=>⟨(by show 1<=sizeLine;decide),fun l1 hl1=>⟨(by show 1<=sizeLine;decide),fun l3 hl3=>?_⟩⟩⟩;have Y1:=Ext.new hT (.tup [V.str nw,.str "v",.str "v"]);have Y2:=Ext.new hl1 (.lst [V.ref T]);have Y3:=Ext.new hl3 (.lst [V.ref l1]);refine q l3 [l1] _ ((Dr.refl hd).ext (E2.trans (Y1.trans (Y2.trans Y3)))) upd_same (by show 1<=3;decide) fun a ha=>?_
   rw[hA7.mp ha];refine⟨[(nw,"v","v")],⟨[T],Y3 _ _ upd_same,.cons (Y3 _ _ (Y2 _ _ upd_same)) .nil⟩,(by show 1<=12;decide),fun t ht=>by rw[hA7.mp ht];exact tv,nw,fun z=>?_⟩;cases z.mpr (by simp)
  have ne:net≠[]:=fun z=>c (decide_eq_true z)
  have l0':0<net.length:=List.length_pos_iff.mpr ne;refine⟨_,rfl,_,rfl,_,rfl,p,_,rfl,.inl (SqL.of (E2 _ _ hp)),d,n,_,rfl,E2 _ _ hd,by rw[hA1];omega,by rw[hA1];omega,fun q3 i i0 i1=>?_⟩;have d3:=((Dr.refl hd).ext E2).take q3;have fd':fo≠d:=qCs hd nfo;have hf3:upd H2 d (.lst [.int q3]) fo=some (.lst []):=by rw[qAh fd'];exact hf2
  have k3:=Kw.dr hd d3;revert d3 hf3 k3;generalize upd H2 d (.lst [.int q3])=H3;intro d3 hf3 k3;rw[hA1]at i1;have hj:i.toNat<as.length:=by omega
  have hjn:i.toNat<net.length:=by omega
  obtain⟨aj,tj,eaj,htj,haj⟩:=qB8 pr (i:=i.toNat) (x:=.ref as[i.toNat]) (by rw[hAl,hA3 hj];rfl);have ati:atI (as.map V.ref) i=some (.ref aj):=by
   have:=atI_nat (xs:=as.map V.ref) (j:=i.toNat) (v:=.ref aj) (by rw[hAl,hA3 hj,<-eaj];rfl);rw[hBi i0]at this;exact this
  have hp3:=k3.refs hp;have pr3:Paired (fun a t=>H3 a=some (.tup (trV t))) as net:=Paired.mapP pr fun a t z=>k3.tup z
  have mtj:=hAm htj;refine⟨p,_,_,_,rfl,rfl,SqL.of hp3,ati,aj,_,rfl,SqT.of (k3.tup haj),rfl,_,_,rfl,_,_,rfl,_,_,rfl,rfl,?_⟩;refine⟨_,rfl,.inl ⟨rfl,_,SqL.of hf3⟩,_,rfl,p,rfl,⟨_,SqL.of hp3⟩,?_⟩;refine qBc (K:=K) (a:=p) (xs:=as.map V.ref) (fun j ys H4=>H4=H3/\∃ (bs:List Addr) (ms:List Tr),ys=bs.map V.ref/\bs.length<=j/\Paired (fun a t=>H3 a=some (.tup (trV t))) bs ms/\∀ t∈ms,t∈net/\t.1≠tj.1) ⟨rfl,[],[],rfl,hA4 _,.nil,fun t h=>by cases h⟩ (fun j ys H4 _ h=>by rw[h.1];exact SqL.of hp3) ?_ ?_
  ·rintro j x ys H4 hx ⟨rfl,bs,ms,rfl,lb,pb,mb⟩;obtain⟨a,t,rfl,ht,ha⟩:=qB8 pr3 hx;have hi:=qBg hx;rw[hA1]at hi;refine⟨Sle.set _ (Sle.refl _) (fun u z=>by cases z),_,rfl,a,_,_,_,rfl,rfl,SqT.of ha,(by exact atI_nat (j:=0) rfl),_,rfl,rfl,_,rfl,qBw (fun c=>?_) (fun c=>?_)⟩
   ·refine⟨_,rfl,by rw[hA1];exact qAg (by omega),nxt (qBg hx) ⟨rfl,bs++[a],ms++[t],by rw[hAc];rfl,by rw[hA2];exact hBz lb,Paired.snoc pb ha,fun u hu=>?_⟩⟩;rcases hAd.mp hu with z | z
    ·exact mb u z
    ·rw[hA7.mp z];refine⟨hAm ht,fun e=>?_⟩;have:(!decide (V.str t.1=V.str tj.1))=true:=c;rw[e]at this;simp at this
   ·exact nxt (qBg hx) ⟨rfl,bs,ms,rfl,by omega,pb,mb⟩
  ·rintro ys H4 ⟨rfl,bs,ms,rfl,lb,pb,mb⟩ lo hlo;rw[hA1]at lb;have Y1:=Ext.new hlo (.lst (bs.map V.ref));have lofo:lo≠fo:=fun z=>by rw[z,hf3]at hlo;cases hlo
   refine⟨fo,_,_,rfl,rfl,Y1 _ _ hf3,(by show 0<sizeLine;decide),?_⟩;have hf5:upd (upd H4 lo (.lst (bs.map V.ref))) fo (.lst ([]++[V.ref lo])) fo=some (.lst [V.ref lo]):=upd_same;have d5:Dr d H (upd (upd H4 lo (.lst (bs.map V.ref))) fo (.lst ([]++[V.ref lo]))):=(d3.ext Y1).over nfo fd' _;have ml':ms.length<=12:=by have:=pb.length;omega
   have o5:OtN (upd (upd H4 lo (.lst (bs.map V.ref))) fo (.lst ([]++[V.ref lo]))) net lo:=by
    refine⟨ms,⟨bs,by rw[qAh lofo];exact upd_same,Paired.mapP pb fun a t z=>?_⟩,ml',fun t ht=>tx t (mb t ht).1,tj.1,fun z=>?_⟩
    ·rw[qAh (fun e=>by rw[e,hf3]at z;cases z)];exact Y1 _ _ z
    ·obtain⟨u,hu,eu⟩:=hAj.mp (z.mp (hAj.mpr ⟨tj,mtj,rfl⟩));exact(mb u hu).2 eu
   revert hf5 d5 o5;generalize upd (upd H4 lo (.lst (bs.map V.ref))) fo (.lst ([]++[V.ref lo]))=H5;intro hf5 d5 o5;have k5:=Kw.dr hd d5;have hp5:=k5.refs hp;have pr5:Paired (fun a t=>H5 a=some (.tup (trV t))) as net:=Paired.mapP pr fun a t z=>k5.tup z
   refine⟨_,rfl,p,_,rfl,.inl (SqL.of hp5),_,_,rfl,rfl,_,rfl,?_⟩;refine qBw (fun c=>?_) (fun c=>?_)
   ·have c':(((as.map V.ref).length:Nat):Int)<8:=of_decide_eq_true c;rw[hA1]at c';have l8:net.length<8:=by omega
    refine⟨_,rfl,_,rfl,_,rfl,(by show 3<=sizeLine;decide),fun T hT=>⟨(by show 1<=sizeLine;decide),fun l6 hl6=>?_⟩⟩;have Z1:=Ext.new hT (.tup [V.str nw,.str "v",.str "v"]);have Z2:=Ext.new hl6 (.lst [V.ref T]);refine⟨p,l6,_,_,rfl,rfl,Z2 _ _ (Z1 _ _ hp5),upd_same,by rw[hA1];exact hAq (qAg (by show _+1<=1000;omega)),fun s1 hs1=>?_⟩;have Z3:=Ext.new hs1 (.lst (as.map V.ref++[V.ref T]));have E6:=Z1.trans (Z2.trans Z3);have hs1':upd (upd (upd H5 T (.tup [V.str nw,.str "v",.str "v"])) l6 (.lst [V.ref T])) s1 (.lst (as.map V.ref++[V.ref T])) s1=some (.lst ((as++[T]).map V.ref)):=by rw[upd_same,hAc];rfl
    have hT6:upd (upd (upd H5 T (.tup [V.str nw,.str "v",.str "v"])) l6 (.lst [V.ref T])) s1 (.lst (as.map V.ref++[V.ref T])) T=some (.tup (trV (nw,"v","v"))):=Z3 _ _ (Z2 _ _ upd_same);revert E6 hs1' hT6;generalize upd (upd (upd H5 T (.tup [V.str nw,.str "v",.str "v"])) l6 (.lst [V.ref T])) s1 (.lst (as.map V.ref++[V.ref T]))=H6;intro E6 hs1' hT6;have pr6:Paired (fun a t=>H6 a=some (.tup (trV t))) as net:=Paired.mapP pr5 fun a t z=>E6 _ _ z
    refine⟨s1,as++[T],_,rfl,SqL.of hs1',qMx pr6 hT6,by rw[hA2];show _+1<64;omega,fun r1 bs1 hr1 pm1=>?_⟩;have W1:=Ext.new hr1 (.lst (bs1.map V.ref));have o7:OtN (upd H6 r1 (.lst (bs1.map V.ref))) net r1:=qKz (Paired.mapP pr6 fun a t z=>W1 _ _ z) (W1 _ _ hT6) pm1 upd_same l8 tx tv nin;have E7:=E6.trans W1;revert o7 E7;generalize upd H6 r1 (.lst (bs1.map V.ref))=H7;intro o7 E7;refine⟨_,rfl,_,rfl,_,rfl,_,rfl,(by show 3<=sizeLine;decide),fun T2 hT2=>⟨(by show 1<=sizeLine;decide),fun l7 hl7=>?_⟩⟩;have Z4:=Ext.new hT2 (.tup [V.str nw,.str tj.2.1,.str tj.2.2]);have Z5:=Ext.new hl7 (.lst [V.ref T2]);refine⟨p,l7,_,_,rfl,rfl,Z5 _ _ (Z4 _ _ (E7 _ _ hp5)),upd_same,by rw[hA1];exact hAq (qAg (by show _+1<=1000;omega)),fun s2 hs2=>?_⟩;have Z6:=Ext.new hs2 (.lst (as.map V.ref++[V.ref T2]));have E8:=Z4.trans (Z5.trans Z6);have hs2':upd (upd (upd H7 T2 (.tup [V.str nw,.str tj.2.1,.str tj.2.2])) l7 (.lst [V.ref T2])) s2 (.lst (as.map V.ref++[V.ref T2])) s2=some (.lst ((as++[T2]).map V.ref)):=by rw[upd_same,hAc];rfl
    have hT8:upd (upd (upd H7 T2 (.tup [V.str nw,.str tj.2.1,.str tj.2.2])) l7 (.lst [V.ref T2])) s2 (.lst (as.map V.ref++[V.ref T2])) T2=some (.tup (trV (nw,tj.2.1,tj.2.2))):=Z6 _ _ (Z5 _ _ upd_same);revert E8 hs2' hT8;generalize upd (upd (upd H7 T2 (.tup [V.str nw,.str tj.2.1,.str tj.2.2])) l7 (.lst [V.ref T2])) s2 (.lst (as.map V.ref++[V.ref T2]))=H8;intro E8 hs2' hT8;have pr8:Paired (fun a t=>H8 a=some (.tup (trV t))) as net:=Paired.mapP pr5 fun a t z=>E8 _ _ (E7 _ _ z)
    have tj':TxT (nw,tj.2.1,tj.2.2):=⟨nn,(tx tj mtj).2⟩;refine⟨s2,as++[T2],_,rfl,SqL.of hs2',qMx pr8 hT8,by rw[hA2];show _+1<64;omega,fun r2 bs2 hr2 pm2=>?_⟩;have W2:=Ext.new hr2 (.lst (bs2.map V.ref));have o9:OtN (upd H8 r2 (.lst (bs2.map V.ref))) net r2:=qKz (Paired.mapP pr8 fun a t z=>W2 _ _ z) (W2 _ _ hT8) pm2 upd_same l8 tx tj' nin;have E9:=E8.trans W2;revert o9 E9;generalize upd H8 r2 (.lst (bs2.map V.ref))=H9;intro o9 E9;refine⟨(by show 2<=sizeLine;decide),fun l9 hl9=>?_⟩;have Wa:=Ext.new hl9 (.lst [V.ref r1,.ref r2]);have Ea:=E7.trans (E9.trans Wa);refine⟨fo,l9,_,_,rfl,rfl,Ea _ _ hf5,upd_same,(by show 3<=sizeLine;decide),fun R hR=>?_⟩;have Wb:=Ext.new hR (.lst ([V.ref lo]++[V.ref r1,.ref r2]));refine⟨_,rfl,?_⟩;refine q R [lo,r1,r2] _ (d5.ext (Ea.trans Wb)) upd_same (by show 3<=3;decide) fun a ha=>?_
    simp only[hA9,hAv,or_false]at ha;rcases ha with rfl | rfl | rfl
    ·exact o5.ext (Ea.trans Wb)
    ·exact o7.ext (E9.trans (Wa.trans Wb))
    ·exact o9.ext (Wa.trans Wb)
   ·refine⟨_,rfl,?_⟩;refine q fo [lo] _ d5 hf5 (by show 1<=3;decide) fun a ha=>?_
    rw[hA7.mp ha];exact o5
end
end My
namespace L2
open PySem PySem.Spec PyProof.Rows
section
variable {X:Cx} {es:List Expr} {ta:TE} {t:TA}
theorem qXw {es':List Expr} {p:Pos} (ha:PE X (.List es' p) ta) (hr:PA X es t):PA X (.List es' p :: es) (qF8 ta t):=qAa ha hr rfl
theorem qXv {es':List Expr} {c:Nat} {p:Pos} (ha:PE X (.Tuple es' c p) ta) (hr:PA X es t):PA X (.Tuple es' c p :: es) (qF8 ta t):=qAa ha hr rfl
theorem qWh {c:Const} {j} {p:Pos} (ha:PE X (.Constant c j p) ta) (hr:PA X es t):PA X (.Constant c j p :: es) (qF8 ta t):=qAa ha hr rfl
end
structure PAx (X:Cx) (es:List Expr) (t:TA):Prop where
 h:PA X es t
structure PEx (X:Cx) (e:Expr) (t:TE):Prop where
 h:PE X e t
section
variable {X:Cx} {es:List Expr} {e:Expr} {ta:TE} {t:TA} {p:Pos} {c:Nat}
theorem qFi:PAx X [] qTs:=⟨qAb⟩
theorem qWf {es':List Expr} (ha:PEx X (.List es' p) ta) (hr:PAx X es t):PAx X (.List es' p :: es) (qF8 ta t):=⟨qXw ha.h hr.h⟩
theorem qWe {es':List Expr} (ha:PEx X (.Tuple es' c p) ta) (hr:PAx X es t):PAx X (.Tuple es' c p :: es) (qF8 ta t):=⟨qXv ha.h hr.h⟩
theorem qVm {x:Str} {j} (hr:PAx X es t):PAx X (.Constant (.str x) j p :: es) (qF8 (tC (.str x)) t):=⟨qWh qBj hr.h⟩
theorem qXu {x:Int} {j} (hr:PAx X es t):PAx X (.Constant (.int x) j p :: es) (qF8 (tC (.int x)) t):=⟨qWh qAe hr.h⟩
theorem qXt {j} (hr:PAx X es t):PAx X (.Constant .none j p :: es) (qF8 (tC .non) t):=⟨qWh qCi hr.h⟩
theorem qWs (h:PAx X es t):PEx X (.Tuple es c p) (qW3 t):=⟨qB5 h.h⟩
theorem qVp (h:PAx X es t):PEx X (.List es p) (qVk t):=⟨qA3 h.h⟩
end
end L2
namespace My
open PySem L2
structure PSx (X:Cx) (st:Stmt) (t:TS):Prop where
 h:PS X st t
structure PSsx (X:Cx) (l:List Stmt) (t:TS):Prop where
 h:PSs X l t
theorem qR7 {X:Cx} {i:Nat} {x:Str} {e:Expr} {te:TE} {pos pos':Pos} (hN:X.N.Nodup) (hi:X.N[i]?=some x) (hx:Loc X.env.scope x) (he:PEx X e te) (hs:swapsWith e (some (.Name x pos')) pos.line X.env=pure false:=by rfl) (hf:X.fn x=true\/X.env.scope.names.lookup x=some .local:=by first | exact .inl rfl | exact .inr rfl | assumption) :
  PSx X (.Assign [.Name x pos'] e pos) (qTj te (qJ0 i)):=⟨qAl hN hi hx he.h hs hf⟩
theorem qQ4 {X:Cx} {st:Stmt} {t:TS} (h:PS X st t):PSx X st t:=⟨h⟩
theorem qHa {X:Cx} {st:Stmt} {t t':TS} (h:PSx X st t) (i:∀ D σ H,t' D σ H->t D σ H):PSx X st t':=⟨fun pins s σ H D I hw=>h.h pins s σ H D I (i D σ H hw)⟩
theorem qNk {X:Cx}:PSsx X [] qTt:=⟨qAt⟩
theorem qHb {X:Cx} {st:Stmt} {l:List Stmt} {t u:TS} (h:PSx X st t) (r:PSsx X l u):PSsx X (st :: l) (qVj t u):=⟨qAc h.h r.h⟩
theorem qUj {X:Cx} {c:Expr} {a b:List Stmt} {tc:TT} {t u:TS} {pos:Pos} (hc:PT X c tc) (ha:PSsx X a t) (hb:PSsx X b u):PSx X (.If c a b pos) (qVz tc t u):=⟨qBf hc ha.h hb.h⟩
theorem qNl {X:Cx} {st:Stmt} {l:List Stmt} {t u:TS} (h:PSx X st t) (r:PSs X l u):PSs X (st :: l) (qVj t u):=qAc h.h r
def Ths (H:Hp) (xs:List V):Prop:=∀ x∈xs,∃ g,qDt qMf H x g
theorem Ths.kw {H H':Hp} {xs:List V} (h:Ths H xs) (k:Kw H H'):Ths H' xs:=fun x hx=>by
 obtain⟨g,z⟩:=h x hx;exact⟨g,z.kw k⟩
theorem Ths.nil {H:Hp}:Ths H []:=fun x h=>by cases h
theorem Ths.app {H:Hp} {xs ys:List V} (h:Ths H xs) (h':Ths H ys):Ths H (xs++ys):=fun x hx=>(hAd.mp hx).elim (h x) (h' x)
theorem Ths.sub {H:Hp} {xs ys:List V} (h:Ths H xs) (s:∀ y∈ys,y∈xs):Ths H ys:=fun x hx=>h x (s x hx)
theorem qSv {xs:List V} {lo hi:Option Int} {y:V} (h:y∈cutV xs lo hi):y∈xs:=List.mem_of_mem_drop (hC6 h)
theorem Ths.cut {H:Hp} {xs:List V} (h:Ths H xs) (lo hi:Option Int):Ths H (cutV xs lo hi):=h.sub fun y hy=>qSv hy
theorem Ths.one {H:Hp} {x:V} {g:Sg} {ok:Addr->Prop} (h:qDt ok H x g):Ths H [x]:=fun y hy=>by
 rw[hA7.mp hy];exact⟨g,h.imp fun _ _=>trivial⟩
theorem Sgs.ths {ok:Addr->Prop} {H:Hp} {xs:List V} {gs:List Sg} (h:Sgs ok H xs gs):Ths H xs:=fun x hx=>by
 obtain⟨g,_,z⟩:=h.mem hx;exact⟨g,z.imp fun _ _=>trivial⟩
theorem qRv {ok:Addr->Prop} {H:Hp} {v:V} {g:Sg} (h:qDt ok H v g) (ng:g≠.no):∃ st s r,v = .ref st/\H st=some (.tup (.str s :: r)):=by
 cases g with
 | no=>exact absurd rfl ng
 | turn ss=>obtain⟨st,_,h1,h2,_⟩:=h;exact⟨st,_,_,h1,h2⟩
 | apart a ss b=>obtain⟨st,_,h1,h2,_⟩:=h;exact⟨st,_,_,h1,h2⟩
 | tog a b=>obtain⟨st,h1,h2,_⟩:=h;exact⟨st,_,_,h1,h2⟩
theorem qVf {xs:List V} {i:Int} (h0:0<=i) (h1:i<(xs.length:Int)):∃ v∈xs,atI xs i=some v:=by
 have hk:i.toNat<xs.length:=by omega
 refine⟨xs[i.toNat],hBy hk,?_⟩;have:=atI_nat (xs:=xs) (j:=i.toNat) (v:=xs[i.toNat]) (hA3 hk);rw[hBi h0]at this;exact this
def qTz:Sp:=fun vs H Q _=>∃ (d t p:Addr) (n:Int) (as:List Addr) (ok:Addr->Prop) (gs:List Sg) (net:List Tr),vs=[.ref d,.ref t,.ref p]/\H d=some (.lst [.int n])/\H t=some (.lst (as.map V.ref))/\Sgs ok H (as.map V.ref) gs/\(∀ g∈gs,g≠.no)/\gs.length<=8/\qAy H p net/\net.length<=12/\TxN net/\net≠[] /\
 (∀ r xs H',Dr d H H'->H' r=some (.lst xs)->xs.length<=1000->Ths H' xs->Q (.ref r) H')/\∀ r xs H',Dr d H H'->H' r=some (.tup xs)->Q (.ref r) H'
abbrev spN:List Str:=["_law_draw","_law_trail","_law_net","_law_made","_law_way","_law_at","_law_odd","_law_turns"]
theorem qDz:FnScope spN ["_law_draw","_law_trail","_law_net"] (qAd qLv):=⟨rfl,rfl,rfl,by decide +kernel,rfl,by decide +kernel,by decide +kernel⟩
structure SpM (d:Addr) (H:Hp) (way:Int) (as:List Addr) (k:Int) (H':Hp) (mk:Addr):Prop where
 dr:Dr d H H'
 nd:mk≠d
 m:(H' mk=some (.lst (as.map V.ref))/\k<=way)\/(way<k/\∃ xs,H' mk=some (.lst xs)/\xs.length<=1000/\Ths H' xs)
 w:way<8
def SpW (d t p:Addr) (H:Hp) (way at_:Int) (as:List Addr) (k:Int):St->Hp->Prop:=fun σ H'=>∃ (mk:Addr) (x6 x7:Option V),σ=[some (.ref d),some (.ref t),some (.ref p),some (.ref mk),some (.int way),some (.int at_),x6,x7]/\SpM d H way as k H' mk
theorem SpM.up {d:Addr} {H H':Hp} {way:Int} {as:List Addr} {k:Int} {mk:Addr} (h:SpM d H way as k H' mk) (n:way≠k):SpM d H way as (k+1) H' mk:=⟨h.dr,h.nd,by
 rcases h.m with ⟨a,b⟩ | z
 ·exact .inl ⟨a,by omega⟩
 ·exact .inr ⟨by omega,z.2⟩,h.w⟩
theorem SpM.get {d:Addr} {H H':Hp} {way:Int} {as:List Addr} {k:Int} {mk:Addr} (h:SpM d H way as k H' mk) (e:way=k):H' mk=some (.lst (as.map V.ref)):=by
 rcases h.m with ⟨a,_⟩ | ⟨z,_⟩
 ·exact a
 ·omega
theorem SpM.put {d:Addr} {H H' H2:Hp} {way:Int} {as:List Addr} {k:Int} {mk r:Addr} {xs:List V} (h:SpM d H way as k H' mk) (e:way=k) (dr:Dr d H H2) (nd:r≠d) (hx:H2 r=some (.lst xs)) (l:xs.length<=1000) (t:Ths H2 xs):SpM d H way as (k+1) H2 r:=⟨dr,nd,.inr ⟨by omega,xs,hx,l,t⟩,h.w⟩
theorem qEv {a b:Int} (h:¬decide (V.int a=V.int b)=true):a≠b:=fun e=>h (decide_eq_true (by rw[e]))
theorem qEw {a b:Int} (h:decide (V.int a=V.int b)=true):a=b:=by
 have:=of_decide_eq_true h;injection this
structure SpC (H:Hp) (d p:Addr) (as:List Addr) (ok:Addr->Prop) (gs:List Sg) (net:List Tr):Prop where
 hd:∃ n:Int,H d=some (.lst [.int n])
 sg:Sgs ok H (as.map V.ref) gs
 ng:∀ g∈gs,g≠.no
 lg:gs.length<=8
 nt:qAy H p net
 hl:net.length<=12
 tx:TxN net
 ne:net≠[]
def t4:TS:=fun D σ H'=>∃ (d t p:Addr) (H:Hp) (way at_:Int) (as:List Addr) (ok:Addr->Prop) (gs:List Sg) (net:List Tr),SpC H d p as ok gs net/\SpW d t p H way at_ as 4 σ H'/\∀ σ2 H2,SpW d t p H way at_ as 5 σ2 H2->D.nx σ2 H2
def OdW (d t p:Addr) (H:Hp) (way at_:Int) (as:List Addr) (mk:Addr) (x7:Option V):St->Hp->Prop:=fun σ H'=>∃ (lo:Addr) (ys:List V),σ=[some (.ref d),some (.ref t),some (.ref p),some (.ref mk),some (.int way),some (.int at_),some (.ref lo),x7]/\Dr d H H'/\mk≠d/\H' mk=some (.lst (as.map V.ref))/\lo≠d/\H' lo=some (.lst ys)/\1<=ys.length/\ys.length<=20/\Ths H' ys
def t40:TS:=fun D σ H'=>∃ (d t p:Addr) (H:Hp) (way at_:Int) (as:List Addr) (mk:Addr) (x6 x7:Option V),σ=[some (.ref d),some (.ref t),some (.ref p),some (.ref mk),some (.int way),some (.int at_),x6,x7]/\Dr d H H'/\mk≠d/\H' mk=some (.lst (as.map V.ref))/\∀ σ2 H2,OdW d t p H way at_ as mk x7 σ2 H2->D.nx σ2 H2
def t41:TS:=fun D σ H'=>∃ (d t p:Addr) (H:Hp) (way at_:Int) (as:List Addr) (ok:Addr->Prop) (gs:List Sg) (net:List Tr) (mk:Addr) (x7:Option V),SpC H d p as ok gs net/\OdW d t p H way at_ as mk x7 σ H'/\∀ σ2 H2,OdW d t p H way at_ as mk x7 σ2 H2->D.nx σ2 H2
def t42:TS:=fun D σ H'=>∃ (d t p:Addr) (H:Hp) (at_:Int) (as:List Addr) (ok:Addr->Prop) (gs:List Sg) (net:List Tr) (mk:Addr) (x7:Option V),SpC H d p as ok gs net/\OdW d t p H 4 at_ as mk x7 σ H'/\∀ σ2 H2,SpW d t p H 4 at_ as 5 σ2 H2->D.nx σ2 H2
def spS (i:Nat):Stmt:=(qAp qLv).getD i (.Pass ⟨0,0,0,0⟩)
def ifB:Stmt->List Stmt
 | .If _ b _ _=>b
 | _=>[]
theorem hbS:qAp qLv=[spS 0,spS 1,spS 2,spS 3,spS 4,spS 5,spS 6,spS 7,spS 8,spS 9,spS 10,spS 11]:=rfl
def spI (i:Nat):Stmt:=(ifB (spS 7)).getD i (.Pass ⟨0,0,0,0⟩)
theorem hI7:∃ p1 p2 p3 p4,spS 7 = .If (.Compare (.Name "_law_way" p1) [.Eq] [.Constant (.int 4) 0 p2] p3) [spI 0,spI 1,spI 2] [] p4:=⟨_,_,_,_,rfl⟩
abbrev SX (P:Program) (w:World) (K:PySem.W.Frag) (mg:Str->Option Value) (base:Heap) (f:Addr) (cdv:Value) (A:Around) (outer:List PySem.Env) (s:Shared) (H0:Hp) (E:XK):Cx:=(qQm CX0 P w K mg base spN "_law_spoilt" (qAd qLv) f cdv A outer s H0 E).nox
theorem sz' {m:Nat} (h:m<=1000):m<=sizeLine:=hAq (qAg h)
section
variable {P:Program} {w:World} {K:PySem.W.Frag} {mg:Str->Option Value} {base:Heap} {f f1 f2 f3:Addr} {fd fd1 fd2 fd3:FuncData} {cdv:Value} {A:Around} {outer:List PySem.Env} {s:Shared} {H0:Hp} {E:XK}
theorem qXo:PSx (SX P w K mg base f cdv A outer s H0 E) (spI 0) t40:=by
 refine qHa (qR7 (i:=6) qDz.nd rfl (Or.inl rfl) ((qVp (qVm (qXu (qXt (qWe (qWs qFi) (qWe (qWs (qVm qFi)) (qWe (qWs (qVm (qWf (qVp qFi) qFi))) (qWf (qVp (qVm (qWf (qVp qFi) qFi))) qFi)))))))))) ?_;rintro D σ H2 ⟨d,t,p,H,way,at_,as,mk,x6,x7,rfl,dr,nd,hm,nx⟩;refine⟨hAk _,fun e0 h0=>⟨(by show 1<=sizeLine;decide),fun e1 h1=>⟨hAk _,fun e2 h2=>⟨(by show 2<=sizeLine;decide),fun e3 h3=>⟨hAk _,fun e4 h4=>⟨(by show 2<=sizeLine;decide),fun e5 h5=>⟨(by show 7<=sizeLine;decide),fun lo hlo=>?_⟩⟩⟩⟩⟩⟩⟩;have Y0:=Ext.new h0 (.tup []);have Y1:=Ext.new h1 (.tup [V.str "turn"]);have Y2:=Ext.new h2 (.lst []);have Y3:=Ext.new h3 (.tup [V.str "over",.ref e2]);have Y4:=Ext.new h4 (.lst []);have Y5:=Ext.new h5 (.lst [V.str "turn",.ref e4]);have Y6:=Ext.new hlo (.lst [V.str "turn",.int 7,.non,.ref e0,.ref e1,.ref e3,.ref e5]);have Y:=Y0.trans (Y1.trans (Y2.trans (Y3.trans (Y4.trans (Y5.trans Y6)))));refine nx _ _ ⟨lo,_,rfl,dr.ext Y,nd,Y _ _ hm,(dr.ext (Y0.trans (Y1.trans (Y2.trans (Y3.trans (Y4.trans Y5)))))).ne hlo,upd_same,(by show 1<=7;decide),(by show 7<=20;decide),fun x hx=>⟨.no,?_⟩⟩;simp only[hA9,hAv,or_false]at hx;rcases hx with rfl | rfl | rfl | rfl | rfl | rfl | rfl
 ·exact .inl (.inr (.inr (.inl ⟨_,rfl⟩)))
 ·exact .inl (.inr (.inl ⟨_,rfl⟩))
 ·exact .inl (.inl rfl)
 ·exact .inr ⟨e0,[],rfl,(Y1.trans (Y2.trans (Y3.trans (Y4.trans (Y5.trans Y6))))) _ _ upd_same,(by show 0<=100;decide),.inl rfl⟩
 ·exact .inr ⟨e1,_,rfl,(Y2.trans (Y3.trans (Y4.trans (Y5.trans Y6)))) _ _ upd_same,(by show 1<=100;decide),.inr ⟨_,_,rfl,fun _ y1 e=>(by cases e),fun _ y1 y2 y3 e=>(by cases e),fun _ y1 y2 e=>(by cases e)⟩⟩
 ·exact .inr ⟨e3,_,rfl,(Y4.trans (Y5.trans Y6)) _ _ upd_same,(by show 2<=100;decide),.inr ⟨_,_,rfl,fun e=>absurd e (by decide +kernel),fun e=>absurd e (by decide +kernel),fun e=>absurd e (by decide +kernel)⟩⟩
 ·exact .inl (.inr (.inr (.inr ⟨e5,_,rfl,Y6 _ _ upd_same⟩)))
theorem qXn (hr:Room 1 (A.deeper (PyProof.Rows.envOfC "_law_spoilt" (qAd qLv) s.heap.objs.size f cdv))) (G1:Cl P w K mg base CX0 1 f1 fd1 ["_law_draw","_law_many"] qCz "_law_take")
  (G3:Cl P w K mg base CX0 1 f3 fd3 ["_law_trail"] qKf "_law_otherwise"):PSx (SX P w K mg base f cdv A outer s H0 E) (spI 1) t41:=by
 refine qHa (qQ4 (qBf (qAn qB0 (qAs G1 hr rfl .nil qAu (qAa (pv 0) (qAa qAe qAb))) qAe (qAr _)) (qAf (qAl (i:=6) qDz.nd rfl (Or.inl rfl) (qAv qB1 (qA7 qBp (pv 6) qBi (qBb qAe)) (qAs G3 hr rfl .nil qAu (qAa (pv 3) qAb))))) qAt)) ?_;rintro D σ Hp ⟨d,t,p,H,way,at_,as,ok,gs,net,mk,x7,⟨⟨n,hd⟩,sg,ng,lg,nt,hl,tx,ne⟩,⟨lo,ys,rfl,dp,nd,hmp,lod,hlo,ly1,ly2,tlo⟩,nx⟩;obtain⟨qp,hdp⟩:=dp.1;refine⟨_,rfl,d,qp,2,rfl,hdp,by decide,by decide,fun q3 z3 z30 z31=>?_⟩;have dq:=dp.take q3;have kq:=Kw.dr hdp ((Dr.refl hdp).take q3);have hmq:upd Hp d (.lst [.int q3]) mk=some (.lst (as.map V.ref)):=by rw[qAh nd];exact hmp
 have hlq:upd Hp d (.lst [.int q3]) lo=some (.lst ys):=by rw[qAh lod];exact hlo
 have tlq:=tlo.kw kq;revert dq hmq hlq tlq;generalize upd Hp d (.lst [.int q3])=Hq;intro dq hmq hlq tlq;refine⟨rfl,_,rfl,qBw (fun c2=>?_) (fun c2=>nx _ _ ⟨lo,ys,rfl,dq,nd,hmq,lod,hlq,ly1,ly2,tlq⟩)⟩;refine⟨_,rfl,_,rfl,lo,_,rfl,SqL.of hlq,fun s1 h1=>?_⟩;have Z1:=Ext.new h1 (.lst (cutV ys none (some 1)));have kz:=Kw.dr hd (dq.ext Z1);refine⟨_,rfl,mk,as,ok,gs,rfl,Z1 _ _ hmq,sg.kw kz,ng,lg,fun r xs Hr er hxr lx tx'=>?_⟩;have lc:(cutV ys none (some 1)).length=1:=by rw[qLg,hAp];omega
 refine⟨s1,r,_,_,rfl,rfl,er _ _ upd_same,hxr,sz' (by rw[lc];omega),fun s2 h2=>?_⟩;have Z2:=Ext.new h2 (.lst (cutV ys none (some 1)++xs));have ZZ:=Z1.trans (er.trans Z2);refine nx _ _ ⟨s2,_,rfl,dq.ext ZZ,nd,ZZ _ _ hmq,(dq.ext (Z1.trans er)).ne h2,upd_same,by rw[hA2,lc];omega,by rw[hA2,lc];omega,((tlq.cut _ _).kw (.of ZZ)).app (Ths.kw (xs:=xs) tx' (.of Z2))⟩
theorem qXm (hr:Room 1 (A.deeper (PyProof.Rows.envOfC "_law_spoilt" (qAd qLv) s.heap.objs.size f cdv))) (G1:Cl P w K mg base CX0 1 f1 fd1 ["_law_draw","_law_many"] qCz "_law_take") (ml:mg "len" = none):PSx (SX P w K mg base f cdv A outer s H0 E) (spI 2) t42:=by
 refine qHa (qQ4 (qAl (i:=3) qDz.nd rfl (Or.inl rfl) (qAv qB1 (qAv qB1 (qA7 qBp (pv 3) qBi (qBb (pv 5))) (qA3 (qAa (qA9 qBa (pv 6) (qAs G1 hr rfl .nil qAu (qAa (pv 0) (qAa (qAj qAm rfl ml hAn (qAa (pv 6) qAb)) qAb))) (fun _ _=>rfl)) qAb))) (qA7 qBp (pv 3) (qBb (pv 5)) qBi)))) ?_;rintro D σ H6 ⟨d,t,p,H,at_,as,ok,gs,net,mk,x7,⟨⟨n,hd⟩,sg,ng,lg,nt,hl,tx,ne⟩,⟨lo,ys,rfl,dr,nd,hm,lod,hlo,ly1,ly2,tlo⟩,nx⟩;obtain⟨q4,hdq⟩:=dr.1;have la:as.length=gs.length:=by have:=sg.length;rw[hA1]at this;exact this
 have lm:(as.map V.ref).length<=8:=by rw[hA1];omega
 have cl:∀ lo hi,(cutV (as.map V.ref) lo hi).length<=8:=fun lo hi=>hAt (qDs _ _ _) lm
 have th:∀ {H':Hp},Kw H H'->Ths H' (as.map V.ref):=fun k=>(sg.kw k).ths
 refine⟨_,rfl,_,rfl,_,rfl,mk,_,rfl,SqL.of hm,fun s1 h1=>?_⟩;have X1:=Ext.new h1 (.lst (cutV (as.map V.ref) none (some at_)));have hs1:upd H6 s1 (.lst (cutV (as.map V.ref) none (some at_))) s1=some (.lst (cutV (as.map V.ref) none (some at_))):=upd_same;have s1d:=dr.ne h1;revert X1 hs1;generalize upd H6 s1 (.lst (cutV (as.map V.ref) none (some at_)))=Ha;intro X1 hs1;have da:=dr.ext X1;have hma:=X1 _ _ hm;refine⟨_,rfl,_,rfl,_,rfl,lo,_,rfl,.inl (SqL.of (X1 _ _ hlo)),d,_,_,rfl,X1 _ _ hdq,by omega,by omega,fun q5 i i0 i1=>?_⟩;obtain⟨v,mv,av⟩:=qVf i0 i1;have dc:=da.take q5;refine⟨lo,_,_,_,rfl,rfl,SqL.of (by rw[qAh lod];exact X1 _ _ hlo),av,(by show 1<=sizeLine;decide),fun s2 h2=>?_⟩;have X2:=Ext.new h2 (.lst [v]);obtain⟨Hb,eb⟩:∃ Hb,Hb=upd (upd Ha d (.lst [.int q5])) s2 (.lst [v]):=⟨_,rfl⟩;rw[<-eb]at X2 ⊢;have db:=dc.ext X2;have hs1b:=X2 _ _ (by rw[qAh s1d];exact hs1);have hmb:=X2 _ _ (by rw[qAh nd];exact hma);obtain⟨ms,ems⟩:∃ ms,ms=[v]:=⟨_,rfl⟩;have hs2b:Hb s2=some (.lst ms):=by rw[eb,ems];exact upd_same
 have lms:ms.length<=8:=by rw[ems];show 1<=8;decide
 have kc:=Kw.dr (X1 _ _ hdq) ((Dr.refl (X1 _ _ hdq)).take q5);have tm:Ths Hb ms:=by rw[ems];exact(tlo.kw (.of X1)).kw (kc.trans (.of X2)) |>.sub fun y hy=>by rw[hA7.mp hy];exact mv
 have k2:=Kw.dr hd db;refine⟨s1,s2,_,_,rfl,rfl,hs1b,hs2b,sz' (by have:=cl none (some at_);omega),fun s3 h3=>?_⟩;have X3:=Ext.new h3 (.lst (cutV (as.map V.ref) none (some at_)++ms));refine⟨_,rfl,_,rfl,_,rfl,mk,_,rfl,SqL.of (X3 _ _ hmb),fun s4 h4=>?_⟩;have X4:=Ext.new h4 (.lst (cutV (as.map V.ref) (some (at_)) none));refine⟨s3,s4,_,_,rfl,rfl,X4 _ _ upd_same,upd_same,sz' (by rw[hA2];have:=cl none (some at_);have:=cl (some (at_)) none;omega),fun r hr'=>?_⟩;have X5:=X3.trans (X4.trans (Ext.new hr' (.lst ((cutV (as.map V.ref) none (some at_)++ms)++cutV (as.map V.ref) (some (at_)) none))));have kk:=k2.trans (.of X5);refine nx _ _ ⟨r,_,x7,rfl,⟨db.ext X5,(db.ext (X3.trans X4)).ne hr',.inr ⟨(by decide),_,upd_same,?_,(((th kk).cut _ _).app (tm.kw (.of X5)) |>.app ((th kk).cut _ _))⟩,(by decide)⟩⟩;rw[hA2,hA2];have:=cl none (some at_);have:=cl (some (at_)) none;omega
theorem sp4 (hr:Room 1 (A.deeper (PyProof.Rows.envOfC "_law_spoilt" (qAd qLv) s.heap.objs.size f cdv))) (G1:Cl P w K mg base CX0 1 f1 fd1 ["_law_draw","_law_many"] qCz "_law_take")
  (G3:Cl P w K mg base CX0 1 f3 fd3 ["_law_trail"] qKf "_law_otherwise") (ml:mg "len" = none):PSx (SX P w K mg base f cdv A outer s H0 E) (spS 7) t4:=by
 obtain⟨p1,p2,p3,p4,e7⟩:=hI7;rw[e7];refine qHa (qUj (qAn qB0 (pv 4) qAe (qAr _)) (qHb qXo (qHb (qXn hr G1 G3) (qHb (qXm hr G1 ml) qNk))) qNk) ?_;rintro D σ H' ⟨d,t,p,H,way,at_,as,ok,gs,net,C,⟨mk,x6,x7,rfl,S⟩,nx⟩;refine⟨_,rfl,rfl,_,rfl,qBw (fun c=>?_) (fun c=>nx _ _ ⟨mk,x6,x7,rfl,S.up (qEv c)⟩)⟩;have e:=qEw c;subst e;refine⟨d,t,p,H,4,at_,as,mk,x6,x7,rfl,S.dr,S.nd,S.get rfl,fun σ2 H2 w2=>?_⟩;refine⟨d,t,p,H,4,at_,as,ok,gs,net,mk,x7,C,w2,fun σ3 H3 w3=>?_⟩;exact⟨d,t,p,H,at_,as,ok,gs,net,mk,x7,C,w3,fun σ4 H4 w4=>nx σ4 H4 w4⟩
end
section
variable {P:Program} {w:World} {K:PySem.W.Frag} {mg:Str->Option Value} {base:Heap} {f f1 f2 f3 C:Addr} {fd fd1 fd2 fd3:FuncData}
theorem qUs (F:Fun K "_law_spoilt" "_law_spoilt" qLv f fd) (G1:Cl P w K mg base CX0 1 f1 fd1 ["_law_draw","_law_many"] qCz "_law_take")
  (G2:Cl P w K mg base CX0 3 f2 fd2 ["_law_draw","_law_net"] qMz "_law_step")
  (G3:Cl P w K mg base CX0 1 f3 fd3 ["_law_trail"] qKf "_law_otherwise")
  (ml:mg "len" = none) (mL:mg "list" = none) (mt:mg "tuple" = none):FnOk P w K mg base CX0 4 f fd ["_law_draw","_law_trail","_law_net"] qTz:=by
 refine F.ok qDz (fun vs H Q E h=>?_) (fun cdv A outer s H vs Q E hr h=>?_)
 ·obtain⟨d,t,p,n,as,ok,gs,net,rfl,_⟩:=h;rfl
 obtain⟨d,t,p,n,as,ok,gs,net,rfl,hd,ht,sg,ng,lg,nt,hl,tx,ne,qL,qT⟩:=h;have hr1:=hr.mono (j:=1) (by decide);have la:as.length=gs.length:=by have:=sg.length;rw[hA1]at this;exact this
 have lm:(as.map V.ref).length<=8:=by rw[hA1];omega
 have sz:∀ {m:Nat},m<=1000->m<=sizeLine:=fun h=>hAq (qAg h)
 have cl:∀ lo hi,(cutV (as.map V.ref) lo hi).length<=8:=fun lo hi=>hAt (qDs _ _ _) lm
 have th:∀ {H':Hp},Kw H H'->Ths H' (as.map V.ref):=fun k=>(sg.kw k).ths
 rw[hbS];refine⟨_,(qAc (qAl (i:=3) qDz.nd rfl (Or.inl rfl) (qA1 qA8 rfl mL qA4 (qAa (pv 1) qAb))) (qAc (qAl (i:=4) qDz.nd rfl (Or.inl rfl) (qAs G1 hr1 rfl .nil qAu (qAa (pv 0) (qAa qAe qAb)))) (qAc (qBd (qAl (i:=5) qDz.nd rfl (Or.inl rfl) (qAs G1 hr1 rfl .nil qAu (qAa (pv 0) (qAa (qAv qBy (qAj qAm rfl ml hAn (qAa (pv 3) qAb)) qAe) qAb))))) (qAc (qBd (qBf (qAn qB0 (pv 4) qAe (qAr _)) (qAf (qAl (i:=3) qDz.nd rfl (Or.inl rfl) (qAv qB1 (qA7 qBp (pv 3) qBi (qBb (pv 5))) (qA7 qBp (pv 3) (qBb (qAv qBy (pv 5) qAe)) qBi)))) qAt)) (qAc (qBd (qBf (qAn qB0 (pv 4) qAe (qAr _)) (qAf (qAl (i:=3) qDz.nd rfl (Or.inl rfl) (qAv qB1 (qAv qB1 (qA7 qBp (pv 3) qBi (qBb (pv 5))) (qA7 qBp (pv 3) (qBb (pv 5)) (qBb (qAv qBy (pv 5) qAe)))) (qA7 qBp (pv 3) (qBb (pv 5)) qBi)))) qAt)) (qAc (qBd (qBf (qAn qB0 (pv 4) qAe (qAr _)) (qAf (qAl (i:=3) qDz.nd rfl (Or.inl rfl) (qAv qB1 (qAv qB1 (qA7 qBp (pv 3) qBi (qBb (pv 5))) (qUo (qA7 qBp (pv 3) (qBb (pv 5)) (qBb (qAv qBy (pv 5) qAe))) (qSb qMk qAe))) (qA7 qBp (pv 3) (qBb (qAv qBy (pv 5) qAe)) qBi)))) qAt)) (qAc (qBd (qBf (qAn qB0 (pv 4) qAe (qAr _)) (qAf (qAl (i:=3) qDz.nd rfl (Or.inl rfl) (qAv qB1 (qAv qB1 (qA7 qBp (pv 3) qBi (qBb (pv 5))) (qA3 (qAa (qAs G2 hr rfl .nil qAu (qAa (pv 0) (qAa (pv 2) qAb))) qAb))) (qA7 qBp (pv 3) (qBb (pv 5)) qBi)))) qAt)) (qNl (sp4 hr1 G1 G3 ml) (qAc (qBd (qBf (qAn qB0 (pv 4) qAe (qAr _)) (qAf (qAl (i:=3) qDz.nd rfl (Or.inl rfl) (qA3 qAb))) qAt)) (qAc (qBd (qBf (qAn qB0 (pv 4) qAe (qAr _)) (qAf (qAq (qA1 qCx rfl mt qCy (qAa (pv 3) qAb)))) qAt)) (qAc (qBd (qBf (qAn qB0 (pv 4) qAe (qAr _)) (qAc (qAl (i:=7) qDz.nd rfl (Or.inl rfl) (qA7 qBp (qCo (N:=spN) (sc:=qAd qLv) (N':=["_law_step_here"]) (sub:=[none]) rfl rfl (CmpOk.of (by decide +kernel)) rfl (qAx (pv 3))
   (fun C s H fp=>⟨qAi (i:=0) (by show(["_law_step_here"]:List Str).Nodup;decide) rfl (Or.inl rfl),qCt (qAn qB0 (qA9 (show IxR _ (qQ2 K) from qCb) (pv 0) qAe (fun _ _=>rfl)) qBj (qAr _)),pv 0⟩)) qBi (qBb qAe))) (qAf (qAl (i:=3) qDz.nd rfl (Or.inl rfl) (qAv qB1 (pv 3) (qAv qUr (pv 7) (qAv qBy qAe (qAv qDj qAe (qAs G1 hr1 rfl .nil qAu (qAa (pv 0) (qAa qAe qAb)))))))))) qAt)) (qAf (qAq (pv 3)))))))))))))),?_⟩
 refine⟨_,rfl,t,_,rfl,.inl (SqL.of ht),fun mk hmk=>?_⟩;have X0:=Ext.new hmk (.lst (as.map V.ref));have mkd:mk≠d:=qCs hd hmk;refine⟨_,rfl,d,n,8,rfl,X0 _ _ hd,by decide,by decide,fun q1 way w0 w1=>?_⟩;have d1:=((Dr.refl hd).ext X0).take q1;have hm1:upd (upd H mk (.lst (as.map V.ref))) d (.lst [.int q1]) mk=some (.lst (as.map V.ref)):=by rw[qAh mkd];exact upd_same
 revert d1 hm1;generalize upd (upd H mk (.lst (as.map V.ref))) d (.lst [.int q1])=H1;intro d1 hm1;obtain⟨q1',hd1⟩:=d1.1;refine⟨fun σ H'=>∃ at_:Int,SpW d t p H way at_ as 0 σ H',?_,?_⟩
 ·refine⟨_,rfl,_,rfl,mk,_,rfl,.inl (SqL.of hm1),_,_,rfl,rfl,d,q1',_,rfl,hd1,by omega,by omega,fun q2 a a0 a1=>?_⟩;exact⟨a,mk,none,none,rfl,d1.take q2,mkd,.inl ⟨by rw[qAh mkd];exact hm1,w0⟩,w1⟩
 rintro σ H2 ⟨at_,h2⟩;refine⟨SpW d t p H way at_ as 1,?_,?_⟩
 ·obtain⟨mk,x6,x7,rfl,S⟩:=h2;refine⟨_,rfl,rfl,_,rfl,qBw (fun c=>?_) (fun c=>⟨mk,x6,x7,rfl,S.up (qEv c)⟩)⟩;have e:=qEw c;have hm:=S.get e;have dr:=S.dr;have kw:=Kw.dr hd dr;refine⟨_,rfl,_,rfl,_,rfl,mk,_,rfl,SqL.of hm,fun s1 h1=>⟨_,rfl,_,rfl,_,_,rfl,rfl,_,rfl,mk,_,rfl,SqL.of ((Ext.new h1 _) _ _ hm),fun s2 h2=>⟨s1,s2,_,_,rfl,rfl,(Ext.new h2 _) _ _ upd_same,upd_same,?_,fun r hr'=>?_⟩⟩⟩
  ·exact sz (by have:=cl none (some at_);have:=cl (some (at_+1)) none;omega)
  have X:=(Ext.new h1 (.lst (cutV (as.map V.ref) none (some at_)))).trans ((Ext.new h2 (.lst (cutV (as.map V.ref) (some (at_+1)) none))).trans (Ext.new hr' (.lst (cutV (as.map V.ref) none (some at_)++cutV (as.map V.ref) (some (at_+1)) none))));refine⟨r,x6,x7,rfl,S.put e (dr.ext X) ((dr.ext ((Ext.new h1 _).trans (Ext.new h2 _))).ne hr') upd_same ?_ ?_⟩
  ·rw[hA2];have:=cl none (some at_);have:=cl (some (at_+1)) none;omega
  ·exact((th (kw.trans (.of X))).cut _ _).app ((th (kw.trans (.of X))).cut _ _)
 clear h2;rintro σ H3 h3;refine⟨SpW d t p H way at_ as 2,?_,?_⟩
 ·obtain⟨mk,x6,x7,rfl,S⟩:=h3;refine⟨_,rfl,rfl,_,rfl,qBw (fun c=>?_) (fun c=>⟨mk,x6,x7,rfl,S.up (qEv c)⟩)⟩;have e:=qEw c;have hm:=S.get e;have dr:=S.dr;have kw:=Kw.dr hd dr;refine⟨_,rfl,_,rfl,_,rfl,mk,_,rfl,SqL.of hm,fun s1 h1=>?_⟩;have X1:=Ext.new h1 (.lst (cutV (as.map V.ref) none (some at_)));have hs1:upd H3 s1 (.lst (cutV (as.map V.ref) none (some at_))) s1=some (.lst (cutV (as.map V.ref) none (some at_))):=upd_same;have s1d:=dr.ne h1;revert X1 hs1;generalize upd H3 s1 (.lst (cutV (as.map V.ref) none (some at_)))=Ha;intro X1 hs1;have da:=dr.ext X1;have hma:=X1 _ _ hm;refine⟨_,rfl,_,rfl,_,rfl,_,rfl,_,_,rfl,rfl,_,rfl,mk,_,rfl,SqL.of hma,fun s2 h2=>?_⟩;have X2:=Ext.new h2 (.lst (cutV (as.map V.ref) (some at_) (some (at_+1))));obtain⟨Hb,eb⟩:∃ Hb,Hb=upd Ha s2 (.lst (cutV (as.map V.ref) (some at_) (some (at_+1)))):=⟨_,rfl⟩;rw[<-eb]at X2 ⊢;have db:=da.ext X2;have hs1b:=X2 _ _ hs1;have hmb:=X2 _ _ hma;obtain⟨ms,ems⟩:∃ ms,ms=cutV (as.map V.ref) (some at_) (some (at_+1)):=⟨_,rfl⟩;have hs2b:Hb s2=some (.lst ms):=by rw[eb,ems];exact upd_same
  have lms:ms.length<=8:=by rw[ems];exact cl _ _
  have tm:Ths Hb ms:=by rw[ems];exact(th (Kw.dr hd db)).cut _ _
  have k2:=Kw.dr hd db;refine⟨s1,s2,_,_,rfl,rfl,hs1b,hs2b,sz (by have:=cl none (some at_);omega),fun s3 h3=>?_⟩;have X3:=Ext.new h3 (.lst (cutV (as.map V.ref) none (some at_)++ms));refine⟨_,rfl,_,rfl,_,rfl,mk,_,rfl,SqL.of (X3 _ _ hmb),fun s4 h4=>?_⟩;have X4:=Ext.new h4 (.lst (cutV (as.map V.ref) (some (at_)) none));refine⟨s3,s4,_,_,rfl,rfl,X4 _ _ upd_same,upd_same,sz (by rw[hA2];have:=cl none (some at_);have:=cl (some (at_)) none;omega),fun r hr'=>?_⟩;have X5:=X3.trans (X4.trans (Ext.new hr' (.lst ((cutV (as.map V.ref) none (some at_)++ms)++cutV (as.map V.ref) (some (at_)) none))));have kk:=k2.trans (.of X5);refine⟨r,_,x7,rfl,S.put e (db.ext X5) ((db.ext (X3.trans X4)).ne hr') upd_same ?_ (((th kk).cut _ _).app (tm.kw (.of X5)) |>.app ((th kk).cut _ _))⟩;rw[hA2,hA2];have:=cl none (some at_);have:=cl (some (at_)) none;omega
 clear h3;rintro σ H4 h4;refine⟨SpW d t p H way at_ as 3,?_,?_⟩
 ·obtain⟨mk,x6,x7,rfl,S⟩:=h4;refine⟨_,rfl,rfl,_,rfl,qBw (fun c=>?_) (fun c=>⟨mk,x6,x7,rfl,S.up (qEv c)⟩)⟩;have e:=qEw c;have hm:=S.get e;have dr:=S.dr;have kw:=Kw.dr hd dr;refine⟨_,rfl,_,rfl,_,rfl,mk,_,rfl,SqL.of hm,fun s1 h1=>?_⟩;have X1:=Ext.new h1 (.lst (cutV (as.map V.ref) none (some at_)));have hs1:upd H4 s1 (.lst (cutV (as.map V.ref) none (some at_))) s1=some (.lst (cutV (as.map V.ref) none (some at_))):=upd_same;have s1d:=dr.ne h1;revert X1 hs1;generalize upd H4 s1 (.lst (cutV (as.map V.ref) none (some at_)))=Ha;intro X1 hs1;have da:=dr.ext X1;have hma:=X1 _ _ hm;refine⟨_,rfl,_,rfl,_,rfl,_,rfl,_,_,rfl,rfl,_,rfl,mk,_,rfl,SqL.of hma,fun s0 h0=>?_⟩;have X0:=Ext.new h0 (.lst (cutV (as.map V.ref) (some at_) (some (at_+2))));refine⟨_,rfl,s0,_,rfl,rfl,SqL.of upd_same,fun s2 h2=>?_⟩;have X2:=X0.trans (Ext.new h2 (.lst (cutV (as.map V.ref) (some at_) (some (at_+2))).reverse));obtain⟨Hb,eb⟩:∃ Hb,Hb=upd (upd Ha s0 (.lst (cutV (as.map V.ref) (some at_) (some (at_+2))))) s2 (.lst (cutV (as.map V.ref) (some at_) (some (at_+2))).reverse):=⟨_,rfl⟩;rw[<-eb]at X2 ⊢;have db:=da.ext X2;have hs1b:=X2 _ _ hs1;have hmb:=X2 _ _ hma;obtain⟨ms,ems⟩:∃ ms,ms=(cutV (as.map V.ref) (some at_) (some (at_+2))).reverse:=⟨_,rfl⟩;have hs2b:Hb s2=some (.lst ms):=by rw[eb,ems];exact upd_same
  have lms:ms.length<=8:=by rw[ems,List.length_reverse];exact cl _ _
  have tm:Ths Hb ms:=by rw[ems];exact((th (Kw.dr hd db)).cut _ _).sub fun y hy=>List.mem_reverse.mp hy
  have k2:=Kw.dr hd db;refine⟨s1,s2,_,_,rfl,rfl,hs1b,hs2b,sz (by have:=cl none (some at_);omega),fun s3 h3=>?_⟩;have X3:=Ext.new h3 (.lst (cutV (as.map V.ref) none (some at_)++ms));refine⟨_,rfl,_,rfl,_,_,rfl,rfl,_,rfl,mk,_,rfl,SqL.of (X3 _ _ hmb),fun s4 h4=>?_⟩;have X4:=Ext.new h4 (.lst (cutV (as.map V.ref) (some (at_+2)) none));refine⟨s3,s4,_,_,rfl,rfl,X4 _ _ upd_same,upd_same,sz (by rw[hA2];have:=cl none (some at_);have:=cl (some (at_+2)) none;omega),fun r hr'=>?_⟩;have X5:=X3.trans (X4.trans (Ext.new hr' (.lst ((cutV (as.map V.ref) none (some at_)++ms)++cutV (as.map V.ref) (some (at_+2)) none))));have kk:=k2.trans (.of X5);refine⟨r,_,x7,rfl,S.put e (db.ext X5) ((db.ext (X3.trans X4)).ne hr') upd_same ?_ (((th kk).cut _ _).app (tm.kw (.of X5)) |>.app ((th kk).cut _ _))⟩;rw[hA2,hA2];have:=cl none (some at_);have:=cl (some (at_+2)) none;omega
 clear h4;rintro σ H5 h5;refine⟨SpW d t p H way at_ as 4,?_,?_⟩
 ·obtain⟨mk,x6,x7,rfl,S⟩:=h5;refine⟨_,rfl,rfl,_,rfl,qBw (fun c=>?_) (fun c=>⟨mk,x6,x7,rfl,S.up (qEv c)⟩)⟩;have e:=qEw c;have hm:=S.get e;have dr:=S.dr;have kw:=Kw.dr hd dr;refine⟨_,rfl,_,rfl,_,rfl,mk,_,rfl,SqL.of hm,fun s1 h1=>?_⟩;have X1:=Ext.new h1 (.lst (cutV (as.map V.ref) none (some at_)));have hs1:upd H5 s1 (.lst (cutV (as.map V.ref) none (some at_))) s1=some (.lst (cutV (as.map V.ref) none (some at_))):=upd_same;have s1d:=dr.ne h1;revert X1 hs1;generalize upd H5 s1 (.lst (cutV (as.map V.ref) none (some at_)))=Ha;intro X1 hs1;have da:=dr.ext X1;have hma:=X1 _ _ hm;obtain⟨qa,hda⟩:=da.1;have ka:=Kw.dr hd da;refine⟨_,rfl,_,rfl,d,p,qa,net,rfl,hda,ka.net nt,hl,tx,ne,fun v g Hc dc sv gn=>⟨(by show 1<=sizeLine;decide),fun s2 h2=>?_⟩⟩;have X2:=Ext.new h2 (.lst [v]);obtain⟨Hb,eb⟩:∃ Hb,Hb=upd Hc s2 (.lst [v]):=⟨_,rfl⟩;rw[<-eb]at X2 ⊢;have db:=(da.trans dc).ext X2;have hs1b:=X2 _ _ (dc.2 _ _ s1d hs1);have hmb:=X2 _ _ (dc.2 _ _ S.nd hma);obtain⟨ms,ems⟩:∃ ms,ms=[v]:=⟨_,rfl⟩;have hs2b:Hb s2=some (.lst ms):=by rw[eb,ems];exact upd_same
  have lms:ms.length<=8:=by rw[ems];show 1<=8;decide
  have tm:Ths Hb ms:=by rw[ems];exact Ths.one (sv.kw (.of X2))
  have k2:=Kw.dr hd db;refine⟨s1,s2,_,_,rfl,rfl,hs1b,hs2b,sz (by have:=cl none (some at_);omega),fun s3 h3=>?_⟩;have X3:=Ext.new h3 (.lst (cutV (as.map V.ref) none (some at_)++ms));refine⟨_,rfl,_,rfl,_,rfl,mk,_,rfl,SqL.of (X3 _ _ hmb),fun s4 h4=>?_⟩;have X4:=Ext.new h4 (.lst (cutV (as.map V.ref) (some (at_)) none));refine⟨s3,s4,_,_,rfl,rfl,X4 _ _ upd_same,upd_same,sz (by rw[hA2];have:=cl none (some at_);have:=cl (some (at_)) none;omega),fun r hr'=>?_⟩;have X5:=X3.trans (X4.trans (Ext.new hr' (.lst ((cutV (as.map V.ref) none (some at_)++ms)++cutV (as.map V.ref) (some (at_)) none))));have kk:=k2.trans (.of X5);refine⟨r,_,x7,rfl,S.put e (db.ext X5) ((db.ext (X3.trans X4)).ne hr') upd_same ?_ (((th kk).cut _ _).app (tm.kw (.of X5)) |>.app ((th kk).cut _ _))⟩;rw[hA2,hA2];have:=cl none (some at_);have:=cl (some (at_)) none;omega
 clear h5;rintro σ H6 h6;refine⟨d,t,p,H,way,at_,as,ok,gs,net,⟨⟨n,hd⟩,sg,ng,lg,nt,hl,tx,ne⟩,h6,?_⟩;clear h6;rintro σ H7 h7;refine⟨SpW d t p H way at_ as 6,?_,?_⟩
 ·obtain⟨mk,x6,x7,rfl,S⟩:=h7;refine⟨_,rfl,rfl,_,rfl,qBw (fun c=>?_) (fun c=>⟨mk,x6,x7,rfl,S.up (qEv c)⟩)⟩;have e:=qEw c;have hm:=S.get e;have dr:=S.dr;have kw:=Kw.dr hd dr;refine⟨hAk _,fun r hr'=>?_⟩;have X:=Ext.new hr' (.lst []);exact⟨r,x6,x7,rfl,S.put e (dr.ext X) (dr.ne hr') upd_same (hAk _) Ths.nil⟩
 clear h7;rintro σ H8 h8;refine⟨SpW d t p H way at_ as 7,?_,?_⟩
 ·obtain⟨mk,x6,x7,rfl,S⟩:=h8;refine⟨_,rfl,rfl,_,rfl,qBw (fun c=>?_) (fun c=>⟨mk,x6,x7,rfl,S.up (qEv c)⟩)⟩;have e:=qEw c;have hm:=S.get e;have dr:=S.dr;have kw:=Kw.dr hd dr;exact⟨_,rfl,mk,_,rfl,.inl ⟨SqL.of hm,fun T hT=>qT T _ _ (dr.ext (Ext.new hT _)) upd_same⟩⟩
 clear h8;rintro σ H9 h9;refine⟨SpW d t p H way at_ as 8,?_,?_⟩
 ·obtain⟨mk,x6,x7,rfl,S⟩:=h9;refine⟨_,rfl,rfl,_,rfl,qBw (fun c=>?_) (fun c=>⟨mk,x6,x7,rfl,S.up (qEv c)⟩)⟩;have e:=qEw c;have hm:=S.get e;have dr:=S.dr;have kw:=Kw.dr hd dr;refine⟨_,rfl,mk,rfl,⟨_,SqL.of hm⟩,?_⟩;have sgk:=sg.kw kw;refine qBc (K:=K) (a:=mk) (xs:=as.map V.ref) (fun j ys H4=>H4=H9/\ys.length<=j/\∀ y∈ys,y∈as.map V.ref) ⟨rfl,hA4 _,fun y h=>by cases h⟩ (fun j ys H4 _ h=>by rw[h.1];exact SqL.of hm) ?_ ?_
  ·rintro j x ys H4 hx ⟨rfl,ly,ms⟩;obtain⟨g,hg,sx⟩:=Sgs.at sgk hx;obtain⟨st,s0,r0,rfl,hst⟩:=qRv sx (ng g (hAm hg));have hj:=qBg hx;refine⟨Sle.set _ (Sle.refl _) (fun u z=>by cases z),_,rfl,st,_,_,_,rfl,rfl,SqT.of hst,(by exact atI_nat (j:=0) rfl),rfl,_,rfl,qBw (fun c=>?_) (fun c=>nxt hj ⟨rfl,by omega,ms⟩)⟩;refine⟨_,rfl,qAg (by omega),nxt hj ⟨rfl,by rw[hA2];exact hBz ly,fun y hy=>?_⟩⟩;rcases hAd.mp hy with z | z
   ·exact ms y z
   ·rw[hA7.mp z];exact hAm hx
  ·rintro ys H4 ⟨rfl,ly,ms⟩ l1 hl1;have Y1:=Ext.new hl1 (.lst ys);refine⟨_,rfl,l1,_,rfl,SqL.of upd_same,fun l2 hl2=>?_⟩;rw[qLg]at *;have Y2:=Y1.trans (Ext.new hl2 (.lst (ys.take 1)));have hl2':upd (upd H4 l1 (.lst ys)) l2 (.lst (ys.take 1)) l2=some (.lst (ys.take 1)):=upd_same;revert Y2 hl2';generalize upd (upd H4 l1 (.lst ys)) l2 (.lst (ys.take 1))=H5';intro Y2 hl2';have d5:=dr.ext Y2;obtain⟨q5,hd5⟩:=d5.1;have l2d:l2≠d:=fun z=>by rw[z]at hl2;exact(qCs ((Y1.trans (Ext.refl _)) _ _ (S.dr.1.choose_spec)) hl2) rfl
   refine⟨_,rfl,_,rfl,_,rfl,d,q5,2,rfl,hd5,by decide,by decide,fun q6 z z0 z1=>?_⟩;have d6:=d5.take q6;have hl6:upd H5' d (.lst [.int q6]) l2=some (.lst (ys.take 1)):=by rw[qAh l2d];exact hl2'
   have hm6:upd H5' d (.lst [.int q6]) mk=some (.lst (as.map V.ref)):=by rw[qAh S.nd];exact Y2 _ _ hm
   revert d6 hl6 hm6;generalize upd H5' d (.lst [.int q6])=H6;intro d6 hl6 hm6;have l1':(ys.take 1).length<=1:=by rw[hAp];omega
   have lr:∀ k:Nat,k<=402->(List.replicate k (ys.take 1)).flatten.length<=402:=fun k hk=>by
    rw[qN7];exact hAt (Nat.mul_le_mul hk l1') (by decide)
   refine⟨_,_,rfl,rfl,.inl ⟨by decide,by decide⟩,_,_,rfl,rfl,l2,_,_,rfl,rfl,hl6,by omega,by omega,sz ?_,fun l3 hl3=>?_⟩
   ·exact hAt (Nat.mul_le_mul l1' (show(400+2*z).toNat<=402 by omega)) (by decide)
   have Y3:=Ext.new hl3 (.lst (List.replicate (400+2*z).toNat (ys.take 1)).flatten);have lr':=lr (400+2*z).toNat (by omega);refine⟨mk,l3,_,_,rfl,rfl,Y3 _ _ hm6,upd_same,sz (by omega),fun r hr'=>?_⟩;have Y4:=Y3.trans (Ext.new hr' (.lst (as.map V.ref++(List.replicate (400+2*z).toNat (ys.take 1)).flatten)));have tt:=th (Kw.dr hd (d6.ext Y4));refine⟨r,x6,_,rfl,S.put e (d6.ext Y4) ((d6.ext Y3).ne hr') upd_same (by rw[hA2];omega) (tt.app (tt.sub fun y hy=>?_))⟩;obtain⟨l,hl,hy⟩:=hC9.mp hy;rw[(List.mem_replicate.mp hl).2]at hy;exact ms y (hC6 hy)
 clear h9;rintro σ H10 h10;obtain⟨mk,x6,x7,rfl,S⟩:=h10;refine⟨_,rfl,?_⟩;rcases S.m with ⟨_,z⟩ | ⟨_,xs,h1,h2,h3⟩
 ·have:=S.w;omega
 ·exact qL mk xs _ S.dr h1 h2 h3
end
end My
namespace My
open PySem L2
def qPk (K:PySem.W.Frag):Sp:=fun vs H Q _=>∃ (a:Addr) (ns:List Int),vs=[.ref a]/\SqL K H a (ns.map V.int)/\ns.length<=63/\∀ H',Q (.bl true) H'
theorem qLe {d:Addr} {H H':Hp} {o:HO} (h:H d=none) (x:Dr d (upd H d o) H'):Ext H H':=fun b u q=>x.2 b u (qAk q h) (by rw[qAh (qAk q h)];exact q)
abbrev qXx:List Str:=["_law_script","_law_draw","_law_ties_here","_law_net","_law_trail","_law_end","_law_other","_law_tie","_law_one","_law_two","_law_spots","_law_handed","_law_unlike","_law_k","_law_made","_law_due","_law_behind_here"]
theorem qCk:FnScope qXx ["_law_script"] (qAd qPq):=⟨rfl,rfl,rfl,by decide +kernel,rfl,by decide +kernel,by decide +kernel⟩
def wS (x:Str):Str:="w"++Txt.slice x (some (-5)) none
theorem qT3 {x:Str} (h:x.length<=6):(Txt.slice x (some (-5)) none).length<=5:=by
 by_cases c:x.length<=5
 ·exact hAt (Txt.slice_le x _ _) c
 ·have l6:x.length=6:=by omega
  have e:Txt.slice x (some (-5)) none=_:=PySem.StrLaws.sliceText_from_neg (x:=x) (i:=-5) (by decide) (by rw[l6];decide);rw[e];show(List.toArray _).size<=_;rw[hAb,hAp,hC8];have:x.cps.toList.length=x.length:=rfl;omega
theorem qMj (x:Str):(wS x).length=1+(Txt.slice x (some (-5)) none).length:=by
 unfold wS;rw[Str.length_append];rfl
theorem qJ8 {x:Str} (h:qAz x):qAz (wS x):=by
 have h5:=qT3 h.2.2;have hw:Sgd "w":=fun c hc=>by
  have:(("w" : Str).cps.toList.all fun c=>decide (c∈sg.cps.toList))=true:=by decide +kernel
  exact of_decide_eq_true (hB9.mp this c hc)
 refine⟨hw.app (h.1.slice _ _),?_,?_⟩
 ·rw[qMj];omega
 ·rw[qMj];omega
structure LF (H:Hp) (p t r:Addr) (net m:List Tr) (as:List Addr) (gs:List Sg):Prop where
 nt:qAy H p net
 hl:net.length<=12
 tx:TxN net
 ht:H t=some (.lst (as.map V.ref))
 sg:Sgs qMf H (as.map V.ref) gs
 ng:∀ g∈gs,g≠.no
 lg:gs.length<=8
 rd:qBn net gs m
 nm:qAy H r m
theorem LF.ext {H H':Hp} {p t r:Addr} {net m:List Tr} {as:List Addr} {gs:List Sg} (h:LF H p t r net m as gs) (e:Ext H H'):LF H' p t r net m as gs:=⟨h.nt.ext e,h.hl,h.tx,e _ _ h.ht,h.sg.kw (.of e),h.ng,h.lg,h.rd,h.nm.ext e⟩
theorem LF.la {H:Hp} {p t r:Addr} {net m:List Tr} {as:List Addr} {gs:List Sg} (h:LF H p t r net m as gs):(as.map V.ref).length<=8:=by
 have:=h.sg.length;have:=h.lg;omega
theorem Sgs.any {ok:Addr->Prop} {H:Hp} {xs:List V} {gs:List Sg} (h:Sgs ok H xs gs):Sgs qMf H xs gs:=Paired.mapP h fun _ _ z=>z.imp fun _ _=>trivial
theorem Ths.sgs {H:Hp}:∀ {xs:List V},Ths H xs->∃ gs,Sgs qMf H xs gs
 | [],_=>⟨[],.nil⟩
 | x :: r,h=>by
  obtain⟨g,z⟩:=h x hA6;obtain⟨gs,zs⟩:=Ths.sgs (xs:=r) fun y hy=>h y (hA5 _ hy)
  exact⟨g :: gs,.cons z zs⟩
abbrev qJv (net oth:List Tr) (gs:List Sg):List PyData:=[qIj net,qIj oth,.list (gs.map sgD)]
theorem qQk (net oth:List Tr) (gs:List Sg):PyData.eqv (.list (qJv net oth gs)) (.list (qJv net oth gs))=true:=by
 have e:PyData.eqv (.list (gs.map sgD)) (.list (gs.map sgD))=true:=qOo gs;show(PyData.eqv (qIj net) (qIj net) && (PyData.eqv (qIj oth) (qIj oth) && (PyData.eqv (.list (gs.map sgD)) (.list (gs.map sgD)) && true)))=true;rw[qJ2,qJ2,e];rfl
theorem qFg {net oth:List Tr} {gs:List Sg} (h1:TxN net) (h2:TxN oth) (h3:∀ g∈gs,SgX g):SeqAt.shaped (.list (qJv net oth gs))=true:=by
 obtain⟨a1,a2⟩:=qHl h1;obtain⟨b1,b2⟩:=qHl h2;obtain⟨c1,c2⟩:=qJq h3;show((PyData.canLayAll0 (net.map trD) && (PyData.canLayAll0 (oth.map trD) && (PyData.canLayAll0 (gs.map sgD) && true))) && decide (max (PyData.depthAll (net.map trD)+1) (max (PyData.depthAll (oth.map trD)+1) (max (PyData.depthAll (gs.map sgD)+1) 0))+1<=64))=true;rw[a1,b1,c1,decide_eq_true (by omega)];rfl
def qW1 (H:Hp) (v:V) (Lp:List Sg->Nat->Prop):Prop:=(∃ a xs gs,v = .ref a/\H a=some (.lst xs)/\xs.length<=1000/\Sgs qMf H xs gs/\Lp gs xs.length)\/∃ a xs,v = .ref a/\H a=some (.tup xs)/\Lp [] 1000
theorem qHy {b:Bool}:decide (V.bl b=V.bl b)=true:=decide_eq_true rfl
section
variable {P:Program} {w:World} {K:PySem.W.Frag} {mg:Str->Option Value} {base:Heap} {f f1 f2 f3 f4 f5 f6 f7 f8 f9 f10 f11 f12:Addr} {fd fd1 fd2 fd3 fd4 fd5 fd6 fd7 fd8 fd9 fd10 fd11 fd12:FuncData}
theorem qUv (F:Fun K "law" "law" qPq f fd)
  (G1:Cl P w K mg base CX0 2 f1 fd1 ["_law_script","_law_at"] (qM1 K) "_law_purse")
  (G2:Cl P w K mg base CX0 1 f2 fd2 ["_law_draw","_law_many"] qCz "_law_take")
  (G3:Cl P w K mg base CX0 2 f3 fd3 ["_law_draw","_law_many"] qW4 "_law_ties")
  (G4:Cl P w K mg base CX0 2 f4 fd4 ["_law_draw","_law_many"] qM2 "_law_names")
  (G5:Cl P w K mg base CX0 2 f5 fd5 ["_law_draw","_law_ties_here","_law_names_here"] qT1 "_law_net_of")
  (G6:Cl P w K mg base CX0 8 f6 fd6 ["_law_draw","_law_net"] qQu "_law_road")
  (G7:Cl P w K mg base CX0 1 f7 fd7 ["_law_net"] qT2 "_law_around")
  (G8:Cl P w K mg base CX0 2 f8 fd8 ["_law_draw","_law_net"] qT0 "_law_other_ties")
  (G9:Cl P w K mg base CX0 1 f9 fd9 ["_law_found","_law_due"] qQt "_law_says")
  (G10:Cl P w K mg base CX0 6 f10 fd10 ["one","other","steps"] qM3 "leads")
  (G11:Cl P w K mg base CX0 4 f11 fd11 ["_law_draw","_law_trail","_law_net"] qTz "_law_spoilt")
  (G12:Cl P w K mg base CX0 7 f12 fd12 ["_law_net","_law_trail"] qRr "_law_behind")
  (mr:mg "range" = none) (ml:mg "len" = none) (mL:mg "list" = none) (mi:mg "isinstance" = none) (mmi:mg "min" = none) (mma:mg "max" = none) :
  FnOk P w K mg base CX0 9 f fd ["_law_script"] (qPk K):=by
 refine F.ok qCk (fun vs H Q E h=>?_) (fun cdv A outer s H vs Q E hr0 h=>?_)
 ·obtain⟨a,ns,rfl,_⟩:=h;rfl
 obtain⟨a,ns,rfl,ha,l63,q⟩:=h;have hr7:=hr0.mono (j:=7) (by decide);have hr6:=hr0.mono (j:=6) (by decide);have hr4:=hr0.mono (j:=4) (by decide);have hr2:=hr0.mono (j:=2) (by decide);have hr1:=hr0.mono (j:=1) (by decide);refine⟨_,(qAc (qAl (i:=1) qCk.nd rfl (Or.inl rfl) (qAs G1 hr2 rfl .nil qAu (qAa (pv 0) (qAa qAe qAb)))) (qAc (qAl (i:=2) qCk.nd rfl (Or.inl rfl) (qAs G3 hr2 rfl .nil qAu (qAa (pv 1) (qAa (qAs G2 hr1 rfl .nil qAu (qAa (pv 1) (qAa qAe qAb))) qAb)))) (qAc (qAl (i:=3) qCk.nd rfl (Or.inl rfl) (qAs G5 hr2 rfl .nil qAu (qAa (pv 1) (qAa (pv 2) (qAa (qAs G4 hr2 rfl .nil qAu (qAa (pv 1) (qAa (qAj qAm rfl ml hAn (qAa (pv 2) qAb)) qAb))) qAb))))) (qAc (qBd (qH9 (qAs G6 hr0 rfl .nil qAu (qAa (pv 1) (qAa (pv 3) qAb))) (qCh rfl (qAo (qAi (i:=4) qCk.nd rfl (Or.inl rfl)) (qAo (qAi (i:=5) qCk.nd rfl (Or.inl rfl)) qBq))))) (qAc (qAl (i:=6) qCk.nd rfl (Or.inl rfl) (qA3 qAb)) (qAc (qBd (qCd PassesOwn.never rfl (qAx (pv 5)) (qCh rfl (qAo (qAi (i:=7) qCk.nd rfl (Or.inl rfl)) (qAo (qAi (i:=8) qCk.nd rfl (Or.inl rfl)) (qAo (qAi (i:=9) qCk.nd rfl (Or.inl rfl)) qBq)))) (qAc (qAl (i:=10) qCk.nd rfl (Or.inl rfl) (qA3 (qAa (qAv qBu qBj (qA7 qKi (pv 8) (qBb (qSb qMk qAe)) qBi)) (qAa (qAv qBu qBj (qA7 qKi (pv 9) (qBb (qSb qMk qAe)) qBi)) qAb)))) (qAf (qC5 (qIb hB7 hB4 hB5 qB6 (pv 6) (qAa (qB5 (qAa (pv 7) (qAa (qAj (qFy rfl) rfl mmi qCg (qAa (pv 10) qAb)) (qAa (qAj (qFz rfl) rfl mma qF3 (qAa (pv 10) qAb)) qAb)))) qAb))))))) (qAc (qBd (qBf (qAn (qIg (qEs hr0)) (qAs G7 hr1 rfl .nil qAu (qAa (pv 6) qAb)) (qAs G7 hr1 rfl .nil qAu (qAa (pv 5) qAb)) (qAr _)) (qAf (qAl (i:=6) qCk.nd rfl (Or.inl rfl) (qA1 qA8 rfl mL qA4 (qAa (pv 5) qAb)))) qAt)) (qAc (qAl (i:=11) qCk.nd rfl (Or.inl rfl) (qA3 (qAa (qA1 qA8 rfl mL qA4 (qAa (pv 3) qAb)) (qAa (qA1 qA8 rfl mL qA4 (qAa (pv 6) qAb)) (qAa (qA1 qA8 rfl mL qA4 (qAa (pv 4) qAb)) qAb))))) (qAc (qBd (qBf (PW.pt (qEi (qCn (qCa (qAs G9 hr1 rfl .nil qAu (qAa (qAs G10 hr6 rfl .nil qAu (qAa (qA9 qBa (pv 11) qAe (fun _ _=>rfl)) (qAa (qA9 qBa (pv 11) qAe (fun _ _=>rfl)) (qAa (qA9 qBa (pv 11) qAe (fun _ _=>rfl)) qAb)))) (qAa qF9 qAb))))) (qD1 (qAn (qIg (qEs hr0)) (pv 11) (qA3 (qAa (pv 3) (qAa (pv 6) (qAa (pv 4) qAb)))) (qAr _))))) (qAf (qAq qF9)) qAt)) (qAc (qCd PassesOwn.never rfl (qAx (qAs G8 hr2 rfl .nil qAu (qAa (qAs G1 hr2 rfl .nil qAu (qAa (pv 0) (qAa qAe qAb))) (qAa (pv 6) qAb)))) (qAi (i:=12) qCk.nd rfl (Or.inl rfl)) (qAf (qBf (qCn (qCa (qAs G9 hr1 rfl .nil qAu (qAa (qAs G10 hr6 rfl .nil qAu (qAa (qA1 qA8 rfl mL qA4 (qAa (pv 3) qAb)) (qAa (pv 12) (qAa (qA1 qA8 rfl mL qA4 (qAa (pv 4) qAb)) qAb)))) (qAa qF9 qAb))))) (qAf (qAq qF9)) qAt))) (qAc (qCd PassesOwn.never rfl (qIa rfl mr (qAa qAe (qAa (qAj (qF0 rfl) rfl mma qF3 (qAa qAe (qAa (qAj (qD6 rfl) rfl mmi qCg (qAa (qAj qAm rfl ml hAn (qAa (pv 0) qAb)) (qAa qAe qAb))) qAb))) qAb))) (qAi (i:=13) qCk.nd rfl (Or.inl rfl)) (qAc (qAl (i:=14) qCk.nd rfl (Or.inl rfl) (pv 4)) (qAc (qBd (qBf (qAn (qIg (qEs hr0)) (pv 3) (qA3 qAb) (qAr _)) (qAf (qAl (i:=14) qCk.nd rfl (Or.inl rfl) (qAs G11 hr4 rfl .nil qAu (qAa (qAs G1 hr2 rfl .nil qAu (qAa (pv 0) (qAa (pv 13) qAb))) (qAa (pv 4) (qAa (pv 3) qAb)))))) qAt)) (qAc (qAl (i:=15) qCk.nd rfl (Or.inl rfl) (qKt (qAj qBs rfl mi qBt (qAa (pv 14) (qAa (qDo (v:=.ty "list") rfl mL qA4 rfl) qAb))) (qKs (qCe qIh (qAj qAm rfl ml hAn (qAa (pv 14) qAb)) qAe (qAr _))))) (qAc (qAl (i:=16) qCk.nd rfl (Or.inl rfl) qCi) (qAc (qBd (qBf (qCa (pv 15)) (qAf (qAl (i:=16) qCk.nd rfl (Or.inl rfl) (qAs G12 hr7 rfl .nil qAu (qAa (pv 3) (qAa (pv 14) qAb))))) qAt)) (qAc (qBd (qAl (i:=15) qCk.nd rfl (Or.inl rfl) (qKt (qCe qNq (pv 16) qCi (qAr _)) (qKs (qCe (qNv (qEs hr0)) (qAs G7 hr1 rfl .nil qAu (qAa (pv 16) qAb)) (qAs G7 hr1 rfl .nil qAu (qAa (pv 6) qAb)) (qAr _)))))) (qAf (qBf (qCn (qCa (qAs G9 hr1 rfl .nil qAu (qAa (qAs G10 hr6 rfl .nil qAu (qAa (qA1 qA8 rfl mL qA4 (qAa (pv 3) qAb)) (qAa (qA1 qA8 rfl mL qA4 (qAa (pv 6) qAb)) (qAa (pv 14) qAb)))) (qAa (pv 15) qAb))))) (qAf (qAq qF9)) qAt))))))))) (qAf (qAq qF9))))))))))))),?_⟩;refine⟨_,rfl,a,ns,0,rfl,ha,by decide,by decide,fun v d hd0=>?_⟩;refine⟨_,rfl,_,rfl,d,v,11,rfl,upd_same,by decide,by decide,fun q1 m0 ma mb=>?_⟩;rw[qC2];obtain⟨m0,rfl⟩:=hBq ma;refine⟨d,q1,m0,rfl,upd_same,by omega,fun tp ts H1 d1 tp0 kt lts t36=>?_⟩;have tpd:tp≠d:=qCs upd_same tp0;obtain⟨as1,htp,ptp⟩:=id kt;have las:=ptp.length;obtain⟨q2,hd1⟩:=d1.1;refine⟨_,rfl,_,rfl,_,rfl,_,rfl,tp,_,rfl,.inl (SqL.of htp),?_⟩;rw[hA1,las];refine⟨d,q2,_,rfl,hd1,by omega,by omega,fun rn names q3 H2 e2 rn0 hn ln nd srt ok nmd=>?_⟩;have d2:=Dr.of_upd e2;have rnd:rn≠d:=qCs hd1 rn0;refine⟨d,tp,rn,q3,ts,names,rfl,e2 _ _ upd_same,tpd,rnd,qOb hd1 tpd kt d2,t36,hn,by omega,by omega,fun p net H3 d3 p0 nt en nmt=>?_⟩;have lnn:net.length=names.length:=by rw[<-en,hA1]
 have tx:TxN net:=fun t ht=>⟨nmd _ (by rw[<-en];exact hAj.mpr ⟨t,ht,rfl⟩),nmt t ht⟩
 have hl:net.length<=12:=by omega
 obtain⟨q4,hd3⟩:=d3.1;refine⟨fun σ H'=>∃ (t r:Addr) (as:List Addr) (gs:List Sg) (m:List Tr),σ=[some (.ref a),some (.ref d),some (.ref tp),some (.ref p),some (.ref t),some (.ref r),none,none,none,none,none,none,none,none,none,none,none]/\Ext H H'/\LF H' p t r net m as gs,?_,?_⟩
 ·refine⟨_,rfl,_,rfl,d,p,q4,net,rfl,hd3,nt,hl,tx,fun T t r as gs m H4 d4 hT ht sg ng lg rd nm=>⟨T,_,rfl,SqT.of hT,rfl,_,_,rfl,_,_,rfl,rfl,?_⟩⟩;exact⟨t,r,as,gs,m,rfl,qLe hd0 ((d1.trans d2).trans (d3.trans d4)),(Kw.dr hd3 d4).net nt,hl,tx,ht,sg.any,ng,lg,rd,nm⟩
 rintro σ H4 ⟨t,r,as,gs,m,rfl,E4,lf⟩;clear d1 d2 d3 hd1 hd3 e2 kt htp ptp hn nt;obtain⟨txm,lm,_⟩:=lf.rd.good tx (Sgs.tx lf.sg);refine⟨hAk _,fun o ho=>?_⟩;refine⟨fun σ H'=>∃ (x7 x8 x9 x10:Option V) (oth:List Tr),σ=[some (.ref a),some (.ref d),some (.ref tp),some (.ref p),some (.ref t),some (.ref r),some (.ref o),x7,x8,x9,x10,none,none,none,none,none,none]/\Ext H4 H'/\qAy H' o oth/\oth.length<=12/\TxN oth,?_,?_⟩
 ·obtain⟨bs,hr',pr⟩:=lf.nm;have lb:=pr.length;have X0:=Ext.new ho (.lst []);refine⟨_,rfl,r,rfl,⟨_,SqL.of (X0 _ _ hr')⟩,qCj (K:=K) (a:=r) (xs:=bs.map V.ref) (fun i σ H'=>∃ (x7 x8 x9 x10:Option V) (os:List Addr) (oth:List Tr),σ=[some (.ref a),some (.ref d),some (.ref tp),some (.ref p),some (.ref t),some (.ref r),some (.ref o),x7,x8,x9,x10,none,none,none,none,none,none]/\Ext H4 H'/\H' o=some (.lst (os.map V.ref))/\Paired (fun a t=>H' a=some (.tup (trV t))) os oth/\oth.length<=i/\TxN oth)
   ⟨none,none,none,none,[],[],rfl,X0,upd_same,.nil,hA4 _,fun t h=>by cases h⟩ (fun i σ H' _ h=>by obtain⟨_,_,_,_,_,_,_,e,_⟩:=h;exact SqL.of (e _ _ hr')) ?_ ?_⟩
  ·rintro i x σ H' hx ⟨x7,x8,x9,x10,os,oth,rfl,e,hos,po,lo,txo⟩;obtain⟨c,u,rfl,hu,hc⟩:=qB8 pr hx;have hi:=qBg hu;obtain⟨n1,n2,n3,_⟩:=txm u (hAm hu);have w1:=qJ8 n2;have w2:=qJ8 n3;have s6:∀ {s:Str},s.length<=6->s.length<=sizeLine:=fun h=>hAq (qAg (by omega))
   have los:=po.length;have lw:∀ {x:Str},qAz (wS x)->("w" : Str).length+(Txt.slice x (some (-5)) none).length<=sizeLine:=fun {x} h=>by
    have:=h.2.2;rw[qMj]at this;show 1+_<=_;exact hAq (qAg (by omega))
   refine⟨c,_,rfl,SqT.of (e _ _ hc),rfl,_,_,rfl,_,_,rfl,_,_,rfl,rfl,?_⟩;refine⟨_,rfl,_,rfl,_,rfl,u.2.1,rfl,s6 n2.2.2,_,_,rfl,rfl,lw w1,?_⟩;refine⟨_,rfl,_,rfl,_,rfl,u.2.2,rfl,s6 n3.2.2,_,_,rfl,rfl,lw w2,?_⟩;refine⟨(by show 2<=sizeLine;decide),fun sp hsp=>?_⟩;have Y1:=Ext.new hsp (.lst [V.str (wS u.2.1),.str (wS u.2.2)]);have hsp':upd H' sp (.lst [V.str (wS u.2.1),.str (wS u.2.2)]) sp=some (.lst [V.str (wS u.2.1),.str (wS u.2.2)]):=upd_same
   change qVj _ _ _ _ (upd H' sp (.lst [V.str (wS u.2.1),.str (wS u.2.2)]))
   revert Y1 hsp';generalize upd H' sp (.lst [V.str (wS u.2.1),.str (wS u.2.2)])=H5;intro Y1 hsp';have ho5:=Y1 _ _ hos;refine⟨_,rfl,.inl ⟨rfl,_,SqL.of ho5⟩,_,rfl,_,rfl,sp,_,_,rfl,SqL.of hsp',_,rfl,sp,_,_,rfl,SqL.of hsp',(by show 3<=sizeLine;decide),fun T hT=>?_⟩;have tt:TxT (u.1,(if (wS u.2.2).cps.toList<(wS u.2.1).cps.toList then wS u.2.2 else wS u.2.1),(if (wS u.2.1).cps.toList<(wS u.2.2).cps.toList then wS u.2.2 else wS u.2.1)):=by
    refine⟨n1,?_,?_,qS0 _ _⟩
    ·show qAz (if _ then _ else _);split
     ·exact w2
     ·exact w1
    ·show qAz (if _ then _ else _);split
     ·exact w2
     ·exact w1
   revert tt hT;generalize (if (wS u.2.2).cps.toList<(wS u.2.1).cps.toList then wS u.2.2 else wS u.2.1)=p1;generalize (if (wS u.2.1).cps.toList<(wS u.2.2).cps.toList then wS u.2.2 else wS u.2.1)=p2;intro hT tt;have Y2:=Ext.new hT (.tup (trV (u.1,p1,p2)));have oT:o≠T:=qAk ho5 hT;refine⟨o,_,_,rfl,rfl,Y2 _ _ ho5,by rw[hA1];exact qAg (by omega),?_⟩;refine⟨_,_,_,_,os++[T],oth++[(u.1,p1,p2)],rfl,(e.trans (Y1.trans Y2)).over ho _,by rw[upd_same,hAc];rfl,Paired.snoc (Paired.mapP po fun a' t' z=>?_) ?_,by rw[hA2];exact hBz lo,fun t' h'=>?_⟩
   ·rw[qAh (fun q=>by rw[q,hos]at z;cases z)];exact Y2 _ _ (Y1 _ _ z)
   ·rw[qAh (Ne.symm oT)];exact upd_same
   ·rcases hAd.mp h' with z | z
    ·exact txo t' z
    ·rw[hA7.mp z];exact tt
  ·rintro σ H' ⟨x7,x8,x9,x10,os,oth,rfl,e,hos,po,lo,txo⟩;rw[hA1]at lo;exact⟨x7,x8,x9,x10,oth,rfl,e,⟨os,hos,po⟩,by omega,txo⟩
 rintro σ H5 ⟨x7,x8,x9,x10,oth,rfl,e5,nto,lo,txo⟩;clear ho;have lf5:=lf.ext e5;have E5:=E4.trans e5;clear lf e5 E4;refine⟨fun σ H'=>∃ (o:Addr) (oth:List Tr),σ=[some (.ref a),some (.ref d),some (.ref tp),some (.ref p),some (.ref t),some (.ref r),some (.ref o),x7,x8,x9,x10,none,none,none,none,none,none]/\Ext H5 H'/\qAy H' o oth/\oth.length<=12/\TxN oth/\qMb m oth,?_,?_⟩
 ·refine⟨_,rfl,o,oth,rfl,nto,lo,fun r1 R1 H6 e6 rw1 s1=>?_⟩;refine⟨_,rfl,r,m,rfl,lf5.nm.ext e6,by omega,fun r2 R2 H7 e7 rw2 s2=>?_⟩;refine⟨_,_,qEn (rw1.ext e7),qEn rw2,qB2 (qDc s1 txo),qB2 (qDc s2 txm),_,rfl,?_⟩;rw[show(if true=true then !PyData.eqv (qDi R1) (qDi R2) else PyData.eqv (qDi R1) (qDi R2))=!decide (R1=R2) from congrArg (! ·) (qHq _ _)];have e57:=e6.trans e7;refine qBw (fun c=>?_) (fun c=>?_)
  ·obtain⟨bs,hr',pr⟩:=lf5.nm.ext e57;refine⟨_,rfl,r,_,rfl,.inl (SqL.of hr'),fun l hl'=>?_⟩;have Y:=Ext.new hl' (.lst (bs.map V.ref));exact⟨l,m,rfl,e57.trans Y,⟨bs,upd_same,Paired.mapP pr fun a t z=>Y _ _ z⟩,by omega,txm,R2,s2,s2⟩
  ·have c':R1=R2:=by
    by_cases z:R1=R2
    ·exact z
    ·rw[decide_eq_false z]at c;exact absurd rfl c
   exact⟨o,oth,rfl,e57,nto.ext e57,lo,txo,R2,s2,by rw[<-c'];exact s1⟩
 rintro σ H6 ⟨o',oth',rfl,e6,nto',lo',txo',same⟩;clear nto lo txo;have lf6:=lf5.ext e6;have E6:=E5.trans e6;clear lf5 E5 e6;have la8:=lf6.la;obtain⟨ap,hp6,pp6⟩:=id lf6.nt;obtain⟨ao,ho6,po6⟩:=id nto';refine⟨_,rfl,p,_,rfl,.inl (SqL.of hp6),fun l0 h0=>?_⟩;have X0:=Ext.new h0 (.lst (ap.map V.ref));refine⟨_,rfl,o',_,rfl,.inl (SqL.of (X0 _ _ ho6)),fun l1 h1=>?_⟩;have X1:=Ext.new h1 (.lst (ao.map V.ref));refine⟨_,rfl,t,_,rfl,.inl (SqL.of (X1 _ _ (X0 _ _ lf6.ht))),fun l2 h2=>?_⟩;have X2:=Ext.new h2 (.lst (as.map V.ref));refine⟨(by show 3<=sizeLine;decide),fun hh hhh=>?_⟩;have X3:=Ext.new hhh (.lst [V.ref l0,.ref l1,.ref l2]);have n0:qAy (upd (upd (upd (upd H6 l0 (.lst (ap.map V.ref))) l1 (.lst (ao.map V.ref))) l2 (.lst (as.map V.ref))) hh (.lst [V.ref l0,.ref l1,.ref l2])) l0 net:=⟨ap,X3 _ _ (X2 _ _ (X1 _ _ upd_same)),Paired.mapP pp6 fun a t z=>X3 _ _ (X2 _ _ (X1 _ _ (X0 _ _ z)))⟩;have n1:qAy (upd (upd (upd (upd H6 l0 (.lst (ap.map V.ref))) l1 (.lst (ao.map V.ref))) l2 (.lst (as.map V.ref))) hh (.lst [V.ref l0,.ref l1,.ref l2])) l1 oth':=⟨ao,X3 _ _ (X2 _ _ upd_same),Paired.mapP po6 fun a t z=>X3 _ _ (X2 _ _ (X1 _ _ (X0 _ _ z)))⟩;have n2:upd (upd (upd (upd H6 l0 (.lst (ap.map V.ref))) l1 (.lst (ao.map V.ref))) l2 (.lst (as.map V.ref))) hh (.lst [V.ref l0,.ref l1,.ref l2]) l2=some (.lst (as.map V.ref)):=X3 _ _ upd_same;have n3:upd (upd (upd (upd H6 l0 (.lst (ap.map V.ref))) l1 (.lst (ao.map V.ref))) l2 (.lst (as.map V.ref))) hh (.lst [V.ref l0,.ref l1,.ref l2]) hh=some (.lst [V.ref l0,.ref l1,.ref l2]):=upd_same;have e7:=X0.trans (X1.trans (X2.trans X3));revert n0 n1 n2 n3 e7;generalize upd (upd (upd (upd H6 l0 (.lst (ap.map V.ref))) l1 (.lst (ao.map V.ref))) l2 (.lst (as.map V.ref))) hh (.lst [V.ref l0,.ref l1,.ref l2])=H7;intro n0 n1 n2 n3 e7;clear X0 X1 X2 X3 h0 h1 h2 hhh hp6 pp6 ho6 po6;have lf7:=lf6.ext e7;have no7:=nto'.ext e7;have E7:=E6.trans e7;clear lf6 nto' E6 e7;refine⟨fun σ H'=>σ=[some (.ref a),some (.ref d),some (.ref tp),some (.ref p),some (.ref t),some (.ref r),some (.ref o'),x7,x8,x9,x10,some (.ref hh),none,none,none,none,none]/\Ext H7 H',?_,?_⟩
 ·refine⟨_,rfl,hh,_,_,_,rfl,rfl,SqL.of n3,(by exact atI_nat (j:=0) rfl),?_⟩;refine⟨_,rfl,hh,_,_,_,rfl,rfl,SqL.of n3,(by exact atI_nat (j:=1) rfl),?_⟩;refine⟨_,rfl,hh,_,_,_,rfl,rfl,SqL.of n3,(by exact atI_nat (j:=2) rfl),?_⟩;refine⟨l0,l1,net,oth',_,rfl,n0,hl,tx,n1,lo',txo',.inr ⟨l2,_,qMf,gs,rfl,n2,by omega,lf7.sg,fun b H8 e8 hb=>?_⟩⟩;have bt:b=true:=hb.mpr ⟨by omega,m,lf7.rd,same⟩;subst bt;refine⟨true,true,rfl,_,rfl,?_⟩;rw[qHy];refine qD9 ?_;refine⟨_,rfl,_,rfl,_,rfl,_,rfl,(by show 3<=sizeLine;decide),fun L hL=>?_⟩;have XL:=Ext.new hL (.lst [V.ref p,.ref o',.ref t]);have eL:=e8.trans XL;have dg:∀ {H':Hp} {l:Addr},Ext H7 H'->H' l=some (.lst (as.map V.ref))->DR K H' (.ref l) (.list (gs.map sgD)):=fun e h=>.lst (SqL.of h) (qOq (lf7.sg.kw (.of e)) lf7.ng)
  refine⟨_,_,.lst (SqL.of (eL _ _ n3)) (.cons (qFw (n0.ext eL)) (.cons (qFw (n1.ext eL)) (.cons (dg eL (eL _ _ n2)) .nil))),.lst (SqL.of upd_same) (.cons (qFw (lf7.nt.ext eL)) (.cons (qFw (no7.ext eL)) (.cons (dg eL (eL _ _ lf7.ht)) .nil))),qFg tx txo' (Sgs.nx lf7.sg),qFg tx txo' (Sgs.nx lf7.sg),_,rfl,?_⟩;rw[show(if true=true then !PyData.eqv (.list (qJv net oth' gs)) (.list (qJv net oth' gs)) else PyData.eqv (.list (qJv net oth' gs)) (.list (qJv net oth' gs)))=false from congrArg (! ·) (qQk _ _ _)];exact qD9 ⟨rfl,eL⟩
 rintro σ H8 ⟨rfl,e8⟩;clear n0 n1 n2 n3;have lf8:=lf7.ext e8;have no8:=no7.ext e8;have E8:=E7.trans e8;clear lf7 no7 E7 e8;have sizes:True:=trivial;refine⟨_,rfl,a,ns,7,rfl,E8.sqL ha,by decide,by decide,fun v2 dd hdd=>?_⟩;have Xd:=Ext.new hdd (.lst [.int v2]);refine⟨_,rfl,dd,o',v2,oth',rfl,upd_same,no8.ext Xd,lo',txo',fun L us H9 d9 hL l3 otn=>?_⟩;have e9:=qLe hdd d9;have lf9:=lf8.ext e9;have no9:=no8.ext e9;have E9:=E8.trans e9;clear lf8 no8 E8 e9 Xd;refine⟨L,rfl,⟨_,SqL.of hL⟩,qCj (K:=K) (a:=L) (xs:=us.map V.ref) (fun i σ H'=>∃ x12:Option V,σ=[some (.ref a),some (.ref d),some (.ref tp),some (.ref p),some (.ref t),some (.ref r),some (.ref o'),x7,x8,x9,x10,some (.ref hh),x12,none,none,none,none]/\Ext H9 H') ⟨none,rfl,Ext.refl _⟩ (fun i σ H' _ h=>by obtain⟨_,_,e⟩:=h;exact SqL.of (e _ _ hL)) ?_ ?_⟩
 ·rintro i x σ H' hx ⟨x12,rfl,e⟩;rw[hAl]at hx;cases hu:us[i]? with
  | none=>rw[hu]at hx;cases hx
  | some u =>
   rw[hu]at hx;cases hAg hx;obtain⟨mu,nu,lu,txu,nn,hnn⟩:=(otn u (hAm hu)).ext e;have lfe:=lf9.ext e;obtain⟨ap,hp,pp⟩:=id lfe.nt;refine⟨_,rfl,p,_,rfl,.inl (SqL.of hp),fun l0 h0=>?_⟩;have Y0:=Ext.new h0 (.lst (ap.map V.ref));refine⟨_,rfl,_,rfl,t,_,rfl,.inl (SqL.of (Y0 _ _ lfe.ht)),fun l2 h2=>?_⟩;have Y2:=Ext.new h2 (.lst (as.map V.ref));have Y:=Y0.trans Y2;refine⟨l0,u,net,mu,_,rfl,⟨ap,Y2 _ _ upd_same,Paired.mapP pp fun a t z=>Y _ _ z⟩,hl,tx,nu.ext Y,lu,txu,.inr ⟨l2,_,qMf,gs,rfl,upd_same,by omega,(lfe.ext Y).sg,fun b Hb eb hb=>?_⟩⟩;have bf:b=false:=by
    cases b with
    | false=>rfl
    | true =>
     obtain⟨_,m2,rd2,sm2⟩:=hb.mp rfl;rw[lfe.rd.uniq rd2]at same;exact absurd ((same.names nn).symm.trans (sm2.names nn)) hnn
   subst bf;refine⟨false,false,rfl,_,rfl,?_⟩;rw[qHy];exact qD9 ⟨_,rfl,e.trans (Y.trans eb)⟩
 rintro σ H10 ⟨x12,rfl,e10⟩;have lfa:=lf9.ext e10;have noa:=no9.ext e10;have Ea:=E9.trans e10;clear lf9 no9 E9 e10 otn hL d9 hdd;refine⟨_,rfl,a,_,rfl,.inl (Ea.sqL ha),_,_,rfl,_,_,rfl,?_⟩;obtain⟨hi,ehi,h4,h7⟩:∃ hi:Int,(if (if (7:Int)<((ns.map V.int).length:Nat) then (7:Int) else ((ns.map V.int).length:Nat)) > 4 then (if (7:Int)<((ns.map V.int).length:Nat) then (7:Int) else ((ns.map V.int).length:Nat)) else 4)=hi/\4<=hi/\hi<=7:=⟨_,rfl,by split <;> omega,by split <;> (try split) <;> omega⟩;rw[ehi];refine⟨1,hi,rfl,⟨by decide,by decide,by omega,by omega⟩,?_⟩;refine qCf (lo:=1) (n:=(hi - 1).toNat) (fun i σ' H'=>∃ (x13 x14 x15 x16:Option V),σ'=[some (.ref a),some (.ref d),some (.ref tp),some (.ref p),some (.ref t),some (.ref r),some (.ref o'),x7,x8,x9,x10,some (.ref hh),x12,x13,x14,x15,x16]/\Ext H10 H') ⟨none,none,none,none,rfl,Ext.refl _⟩ ?_ (fun σ' H' z=>q H');rintro i σ Hi hii ⟨x13,x14,x15,x16,rfl,ei⟩;refine⟨_,rfl,?_⟩;have lfi:=lfa.ext ei;have Ei:=Ea.trans ei;refine⟨fun σ H'=>∃ v:V,σ=[some (.ref a),some (.ref d),some (.ref tp),some (.ref p),some (.ref t),some (.ref r),some (.ref o'),x7,x8,x9,x10,some (.ref hh),x12,some (.int (1+(i:Int))),some v,x15,x16]/\Ext Hi H'/\qW1 H' v fun _ _=>True,?_,?_⟩
 ·refine⟨_,rfl,hAk _,fun e0 he0=>?_⟩;have Y:=Ext.new he0 (.lst []);refine⟨_,_,qFw (lfi.nt.ext Y),qOu upd_same,qEe tx,qEd,_,rfl,?_⟩;rw[show(if true=true then !PyData.eqv (qIj net) (.list []) else PyData.eqv (qIj net) (.list []))=!decide (net=[]) from congrArg (! ·) (qDr net)];refine qBw (fun c=>?_) (fun c=>?_)
  ·have ne:net≠[]:=fun z=>by rw[decide_eq_true z]at c;cases c
   refine⟨_,rfl,_,rfl,a,ns,_,rfl,(Ei.trans Y).sqL ha,by omega,by omega,fun v3 dd hdd=>?_⟩;have Xd:=Ext.new hdd (.lst [.int v3]);have lfd:=lfi.ext (Y.trans Xd);refine⟨_,rfl,_,rfl,dd,t,p,v3,as,qMf,gs,net,rfl,upd_same,lfd.ht,lfd.sg,lfd.ng,lfd.lg,lfd.nt,hl,tx,ne,fun rr xs Hr dr hrr lx th=>?_,fun rr xs Hr dr hrr=>?_⟩
   ·obtain⟨gs',sg'⟩:=th.sgs;exact⟨_,rfl,Y.trans (qLe hdd dr),.inl ⟨rr,xs,gs',rfl,hrr,lx,sg',trivial⟩⟩
   ·exact⟨_,rfl,Y.trans (qLe hdd dr),.inr ⟨rr,xs,rfl,hrr,trivial⟩⟩
  ·exact⟨_,rfl,Y,.inl ⟨t,_,gs,rfl,Y _ _ lfi.ht,by omega,lfi.sg.kw (.of Y),trivial⟩⟩
 rintro σ Hj ⟨v,rfl,ej,mv⟩;have lfj:=lfi.ext ej;have noj:=(noa.ext ei).ext ej;obtain⟨ap,hp,pp⟩:=id lfj.nt;obtain⟨ao,ho,po⟩:=id noj;rcases mv with ⟨a',xs,gs',rfl,ha',lx,sg',_⟩ | ⟨a',xs,rfl,ha',_⟩
 ·refine⟨_,rfl,_,_,_,true,rfl,.lst ha',qCv _ _,true,rfl,iteT ?_⟩;refine⟨_,rfl,a',_,rfl,.inl (SqL.of ha'),_,_,rfl,rfl,?_⟩;refine⟨fun σ H'=>∃ (b:Bool) (y:V),σ=[some (.ref a),some (.ref d),some (.ref tp),some (.ref p),some (.ref t),some (.ref r),some (.ref o'),x7,x8,x9,x10,some (.ref hh),x12,some (.int (1+(i:Int))),some (.ref a'),some (.bl b),some y]/\Ext Hj H'/\((y = .non/\¬(xs.length<=400/\∃ k,qBn net gs' k))\/∃ rb mb,y = .ref rb/\qAy H' rb mb/\xs.length<=400/\qBn net gs' mb),?_,?_⟩
  ·refine⟨_,rfl,_,rfl,qBw (fun c=>?_) (fun c=>?_)⟩
   ·have c':((xs.length:Nat):Int)<401:=of_decide_eq_true c;exact⟨_,rfl,_,rfl,p,a',net,xs,qMf,gs',rfl,lfj.nt,hl,tx,ha',lx,sg',fun mb rb Hb rdm eb _ nb=>⟨_,_,rfl,eb,.inr ⟨rb,mb,rfl,nb,by omega,rdm⟩⟩,fun Hb eb no=>⟨_,_,rfl,eb,.inl ⟨rfl,fun z=>no z.2⟩⟩⟩
   ·have c':¬((xs.length:Nat):Int)<401:=fun z=>c (decide_eq_true z)
    exact⟨_,_,rfl,Ext.refl _,.inl ⟨rfl,fun z=>by omega⟩⟩
  rintro σ Hk ⟨b0,y,rfl,ek,cs⟩;refine⟨fun σ H'=>∃ (b:Bool) (y:V),σ=[some (.ref a),some (.ref d),some (.ref tp),some (.ref p),some (.ref t),some (.ref r),some (.ref o'),x7,x8,x9,x10,some (.ref hh),x12,some (.int (1+(i:Int))),some (.ref a'),some (.bl b),some y]/\Ext Hj H'/\(b=true↔xs.length<=400/\∃ k,qBn net gs' k/\qMb k oth'),?_,?_⟩
  ·rcases cs with ⟨rfl,no⟩ | ⟨rb,mb,rfl,nb,l4,rdb⟩
   ·exact⟨_,rfl,rfl,_,rfl,qD9 ⟨_,_,rfl,ek,fun z=>(by cases z),fun ⟨z,k,rk,_⟩=>absurd ⟨z,k,rk⟩ no⟩⟩
   ·obtain⟨txb,lb,_⟩:=rdb.good tx (Sgs.tx sg');refine⟨_,rfl,rfl,_,rfl,iteT ?_⟩;refine⟨_,rfl,rb,mb,rfl,nb,by omega,fun r1 R1 H1' e1 rw1 s1=>?_⟩;refine⟨_,rfl,o',oth',rfl,noj.ext (ek.trans e1),lo',fun r2 R2 H2' e2 rw2 s2=>?_⟩;refine⟨_,_,qEn (rw1.ext e2),qEn rw2,qB2 (qDc s1 txb),qB2 (qDc s2 txo'),?_⟩;rw[show(if false=true then !PyData.eqv (qDi R1) (qDi R2) else PyData.eqv (qDi R1) (qDi R2))=decide (R1=R2) from qHq _ _];refine⟨_,_,rfl,ek.trans (e1.trans e2),?_⟩;rw[decide_eq_true_iff,qKo s1 s2];exact⟨fun z=>⟨l4,mb,rdb,z⟩,fun ⟨_,k,rk,z⟩=>by rw[rdb.uniq rk];exact z⟩
  rintro σ Hl ⟨b,y,rfl,el,hb⟩;refine⟨_,rfl,p,_,rfl,.inl (SqL.of (el _ _ hp)),fun l0 h0=>?_⟩;have Y0:=Ext.new h0 (.lst (ap.map V.ref));refine⟨_,rfl,o',_,rfl,.inl (SqL.of (Y0 _ _ (el _ _ ho))),fun l1 h1=>?_⟩;have Y1:=Ext.new h1 (.lst (ao.map V.ref));have Y:=el.trans (Y0.trans Y1);refine⟨_,rfl,l0,l1,net,oth',_,rfl,⟨ap,Y1 _ _ upd_same,Paired.mapP pp fun a t z=>Y _ _ z⟩,hl,tx,⟨ao,upd_same,Paired.mapP po fun a t z=>Y _ _ z⟩,lo',txo',.inr ⟨a',xs,qMf,gs',rfl,Y _ _ ha',lx,sg'.kw (.of Y),fun b2 Hm em hb2=>?_⟩⟩;have eb:b2=b:=by
   have:=hb2.trans hb.symm;cases b <;> cases b2 <;> simp_all
  subst eb;refine⟨_,rfl,b2,b2,rfl,_,rfl,?_⟩;rw[qHy];exact qD9 ⟨_,_,_,_,rfl,ei.trans (ej.trans (Y.trans em))⟩
 ·have nl:qMe Hj (.ref a'):=.inr (.inr (.inr (.inr ⟨a',xs,rfl,ha'⟩)));obtain⟨ty0,ty,kt⟩:=nl.ty K;refine⟨_,rfl,_,_,_,false,rfl,ty,kt,false,rfl,qD9 ?_⟩;refine⟨fun σ H'=>σ=[some (.ref a),some (.ref d),some (.ref tp),some (.ref p),some (.ref t),some (.ref r),some (.ref o'),x7,x8,x9,x10,some (.ref hh),x12,some (.int (1+(i:Int))),some (.ref a'),some (.bl false),some .non]/\H'=Hj,⟨_,rfl,_,rfl,qD9 ⟨rfl,rfl⟩⟩,?_⟩;rintro σ Hk ⟨rfl,rfl⟩;refine⟨fun σ H'=>σ=[some (.ref a),some (.ref d),some (.ref tp),some (.ref p),some (.ref t),some (.ref r),some (.ref o'),x7,x8,x9,x10,some (.ref hh),x12,some (.int (1+(i:Int))),some (.ref a'),some (.bl false),some .non]/\H'=Hk,⟨_,rfl,rfl,_,rfl,qD9 ⟨rfl,rfl⟩⟩,?_⟩;rintro σ Hl ⟨rfl,rfl⟩;refine⟨_,rfl,p,_,rfl,.inl (SqL.of hp),fun l0 h0=>?_⟩;have Y0:=Ext.new h0 (.lst (ap.map V.ref));refine⟨_,rfl,o',_,rfl,.inl (SqL.of (Y0 _ _ ho)),fun l1 h1=>?_⟩;have Y1:=Ext.new h1 (.lst (ao.map V.ref));have Y:=Y0.trans Y1;refine⟨_,rfl,l0,l1,net,oth',_,rfl,⟨ap,Y1 _ _ upd_same,Paired.mapP pp fun a t z=>Y _ _ z⟩,hl,tx,⟨ao,upd_same,Paired.mapP po fun a t z=>Y _ _ z⟩,lo',txo',.inl ⟨nl.ext Y,?_⟩⟩;refine⟨_,rfl,false,false,rfl,_,rfl,?_⟩;rw[qHy];exact qD9 ⟨_,_,_,_,rfl,ei.trans (ej.trans Y)⟩
end
end My
namespace My
open PySem L2
theorem zl1 {α:Type} {l:List α} (h:l.length=1):∃ a,l=[a]:=match l,h with | [a],_=>⟨a,rfl⟩
theorem zl2 {α:Type} {l:List α} (h:l.length=2):∃ a b,l=[a,b]:=match l,h with | [a,b],_=>⟨a,b,rfl⟩
theorem zl3 {α:Type} {l:List α} (h:l.length=3):∃ a b c,l=[a,b,c]:=match l,h with | [a,b,c],_=>⟨a,b,c,rfl⟩
theorem zl4 {α:Type} {l:List α} (h:l.length=4):∃ a b c d,l=[a,b,c,d]:=match l,h with | [a,b,c,d],_=>⟨a,b,c,d,rfl⟩
theorem qUq {K:PySem.W.Frag} {h:Heap} {mg:Str->Option Value} {x:Str} {C:Addr} {bm0:List Value} {newId:String} (X:K.In h) (G:h.Ns mainGlobals mg) (e:PySem.W.nsIn K mainGlobals x=some (some (.ref C))) (q:PySem.W.excIn K C bm0 newId=true):PyProof.Rows.OwnCls x C bm0 newId mg h:=by
 refine⟨hAh X G e,?_⟩;unfold PySem.W.excIn at q;split at q
 ·rename_i dd cd sl ho;split at q
  ·rename_i C' bm k0 k1 k2 k3 n k5 hm hs;simp only[hBm,beq_iff_eq,Bool.not_eq_true']at q;obtain⟨⟨⟨⟨⟨rfl,rfl⟩,hdel⟩,ht⟩,hok⟩,hni⟩:=q;obtain⟨nm,bs,mro,ns,qn,hd,sn,sub,ab,col,del⟩:=cd;dsimp only at hm hdel hok hni;subst hm hdel;obtain⟨l⟩:=sl;simp only at hs;subst hs;exact⟨bm,ns,nm,qn,bs,hd,sn,sub,ab,col,dd,k0,k1,k2,k3,k5,_,X _ _ ho,.of_isNs (PySem.W.isNs_of_in X hok),PySem.W.nsMap_none_of_in X hok hni,PySem.W.tail_of_in X ht⟩
  ·cases q
 ·cases q
theorem all_mk {l:PySem.W.OpenLaw} {w:World} {K:PySem.W.Frag} {h:Heap} {mg:Str->Option Value} {fa f1 f2 f3 f4 f5 f6 f7 f8 f9 f10 f11 f12 f13 f14 f15 f16 f17 f18 f19 f20 f21 f22 f23 f24 f25 f26 f27 f28 f29 f30 f31 f32 f33:Addr} {tk_SIGNS tk_MOST_SIGNS tk_MOST_ROAD:Tok} (X:K.In h) (G:h.Ns mainGlobals mg) (hfa:mg "law" = some (.ref fa))
  {od1 an1 od2 an2 od3 an3 od4 an4 od5 an5 od6 an6 od7 an7 od8 an8 od9 an9 od10 an10 od11 an11 od12 an12 od13 an13 od14 an14 od15 an15 od16 an16 od17 an17 od18 an18 od19 an19 od20 an20 od21 an21 od22 an22 od23 an23 od24 an24 od25 an25 od26 an26 od27 an27 od28 an28 od29 an29 od30 an30 od31 an31 od32 an32 od33 an33:Option Addr} {sl1 sl2 sl3 sl4 sl5 sl6 sl7 sl8 sl9 sl10 sl11 sl12 sl13 sl14 sl15 sl16 sl17 sl18 sl19 sl20 sl21 sl22 sl23 sl24 sl25 sl26 sl27 sl28 sl29 sl30 sl31 sl32 sl33:Array (Option Value)} {oc1 kV1 dc1 pm1 cd1 ct1 oc2 kV2 dc2 pm2 cd2 ct2 oc3 kV3 dc3 pm3 cd3 ct3 oc4 kV4 dc4 pm4 cd4 ct4 oc5 kV5 dc5 pm5 cd5 ct5 oc6 kV6 dc6 pm6 cd6 ct6 oc7 kV7 dc7 pm7 cd7 ct7 oc8 kV8 dc8 pm8 cd8 ct8 oc9 kV9 dc9 pm9 cd9 ct9 oc10 kV10 dc10 pm10 cd10 ct10 oc11 kV11 dc11 pm11 cd11 ct11 oc12 kV12 dc12 pm12 cd12 ct12 oc13 kV13 dc13 pm13 cd13 ct13 oc14 kV14 dc14 pm14 cd14 ct14 oc15 kV15 dc15 pm15 cd15 ct15 oc16 kV16 dc16 pm16 cd16 ct16 oc17 kV17 dc17 pm17 cd17 ct17 oc18 kV18 dc18 pm18 cd18 ct18 oc19 kV19 dc19 pm19 cd19 ct19 oc20 kV20 dc20 pm20 cd20 ct20 oc21 kV21 dc21 pm21 cd21 ct21 oc22 kV22 dc22 pm22 cd22 ct22 oc23 kV23 dc23 pm23 cd23 ct23 oc24 kV24 dc24 pm24 cd24 ct24 oc25 kV25 dc25 pm25 cd25 ct25 oc26 kV26 dc26 pm26 cd26 ct26 oc27 kV27 dc27 pm27 cd27 ct27 oc28 kV28 dc28 pm28 cd28 ct28 oc29 kV29 dc29 pm29 cd29 ct29 oc30 kV30 dc30 pm30 cd30 ct30 oc31 kV31 dc31 pm31 cd31 ct31 oc32 kV32 dc32 pm32 cd32 ct32 oc33 kV33 dc33 pm33 cd33 ct33:Value}
  {C:Addr}
  (a1:PySem.W.nsIn K mainGlobals "is_name" = some (some (.ref f1))) (l1:K.lookup f1=some ⟨oc1,od1,.func (PySem.W.fnOf "is_name" "is_name" (qAw qJf) (qAp qJf) (qAd qJf) .none kV1 dc1 pm1 an1 cd1 ct1),sl1⟩) (c1:PySem.W.codeIn K cd1 "is_name" = true) (k1:PySem.W.keepIn K (.ref f1)=true)
  (a2:PySem.W.nsIn K mainGlobals "is_row" = some (some (.ref f2))) (l2:K.lookup f2=some ⟨oc2,od2,.func (PySem.W.fnOf "is_row" "is_row" (qAw qEq) (qAp qEq) (qAd qEq) .none kV2 dc2 pm2 an2 cd2 ct2),sl2⟩) (c2:PySem.W.codeIn K cd2 "is_row" = true) (k2:PySem.W.keepIn K (.ref f2)=true)
  (a3:PySem.W.nsIn K mainGlobals "ties_of" = some (some (.ref f3))) (l3:K.lookup f3=some ⟨oc3,od3,.func (PySem.W.fnOf "ties_of" "ties_of" (qAw qJc) (qAp qJc) (qAd qJc) .none kV3 dc3 pm3 an3 cd3 ct3),sl3⟩) (c3:PySem.W.codeIn K cd3 "ties_of" = true) (k3:PySem.W.keepIn K (.ref f3)=true)
  (a4:PySem.W.nsIn K mainGlobals "points" = some (some (.ref f4))) (l4:K.lookup f4=some ⟨oc4,od4,.func (PySem.W.fnOf "points" "points" (qAw qDm) (qAp qDm) (qAd qDm) .none kV4 dc4 pm4 an4 cd4 ct4),sl4⟩) (c4:PySem.W.codeIn K cd4 "points" = true) (k4:PySem.W.keepIn K (.ref f4)=true)
  (a5:PySem.W.nsIn K mainGlobals "star" = some (some (.ref f5))) (l5:K.lookup f5=some ⟨oc5,od5,.func (PySem.W.fnOf "star" "star" (qAw qJd) (qAp qJd) (qAd qJd) .none kV5 dc5 pm5 an5 cd5 ct5),sl5⟩) (c5:PySem.W.codeIn K cd5 "star" = true) (k5:PySem.W.keepIn K (.ref f5)=true)
  (a6:PySem.W.nsIn K mainGlobals "stars" = some (some (.ref f6))) (l6:K.lookup f6=some ⟨oc6,od6,.func (PySem.W.fnOf "stars" "stars" (qAw qFh) (qAp qFh) (qAd qFh) .none kV6 dc6 pm6 an6 cd6 ct6),sl6⟩) (c6:PySem.W.codeIn K cd6 "stars" = true) (k6:PySem.W.keepIn K (.ref f6)=true)
  (a7:PySem.W.nsIn K mainGlobals "homes" = some (some (.ref f7))) (l7:K.lookup f7=some ⟨oc7,od7,.func (PySem.W.fnOf "homes" "homes" (qAw qEr) (qAp qEr) (qAd qEr) .none kV7 dc7 pm7 an7 cd7 ct7),sl7⟩) (c7:PySem.W.codeIn K cd7 "homes" = true) (k7:PySem.W.keepIn K (.ref f7)=true)
  (a8:PySem.W.nsIn K mainGlobals "ends_of" = some (some (.ref f8))) (l8:K.lookup f8=some ⟨oc8,od8,.func (PySem.W.fnOf "ends_of" "ends_of" (qAw qDn) (qAp qDn) (qAd qDn) .none kV8 dc8 pm8 an8 cd8 ct8),sl8⟩) (c8:PySem.W.codeIn K cd8 "ends_of" = true) (k8:PySem.W.keepIn K (.ref f8)=true)
  (a9:PySem.W.nsIn K mainGlobals "shared_points" = some (some (.ref f9))) (l9:K.lookup f9=some ⟨oc9,od9,.func (PySem.W.fnOf "shared_points" "shared_points" (qAw qCr) (qAp qCr) (qAd qCr) .none kV9 dc9 pm9 an9 cd9 ct9),sl9⟩) (c9:PySem.W.codeIn K cd9 "shared_points" = true) (k9:PySem.W.keepIn K (.ref f9)=true)
  (a10:PySem.W.nsIn K mainGlobals "moved" = some (some (.ref f10))) (l10:K.lookup f10=some ⟨oc10,od10,.func (PySem.W.fnOf "moved" "moved" (qAw qEp) (qAp qEp) (qAd qEp) .none kV10 dc10 pm10 an10 cd10 ct10),sl10⟩) (c10:PySem.W.codeIn K cd10 "moved" = true) (k10:PySem.W.keepIn K (.ref f10)=true)
  (a11:PySem.W.nsIn K mainGlobals "are_ties" = some (some (.ref f11))) (l11:K.lookup f11=some ⟨oc11,od11,.func (PySem.W.fnOf "are_ties" "are_ties" (qAw qR3) (qAp qR3) (qAd qR3) .none kV11 dc11 pm11 an11 cd11 ct11),sl11⟩) (c11:PySem.W.codeIn K cd11 "are_ties" = true) (k11:PySem.W.keepIn K (.ref f11)=true)
  (a12:PySem.W.nsIn K mainGlobals "turned" = some (some (.ref f12))) (l12:K.lookup f12=some ⟨oc12,od12,.func (PySem.W.fnOf "turned" "turned" (qAw qEg) (qAp qEg) (qAd qEg) .none kV12 dc12 pm12 an12 cd12 ct12),sl12⟩) (c12:PySem.W.codeIn K cd12 "turned" = true) (k12:PySem.W.keepIn K (.ref f12)=true)
  (a13:PySem.W.nsIn K mainGlobals "set_apart" = some (some (.ref f13))) (l13:K.lookup f13=some ⟨oc13,od13,.func (PySem.W.fnOf "set_apart" "set_apart" (qAw qCm) (qAp qCm) (qAd qCm) .none kV13 dc13 pm13 an13 cd13 ct13),sl13⟩) (c13:PySem.W.codeIn K cd13 "set_apart" = true) (k13:PySem.W.keepIn K (.ref f13)=true)
  (a14:PySem.W.nsIn K mainGlobals "laid_together" = some (some (.ref f14))) (l14:K.lookup f14=some ⟨oc14,od14,.func (PySem.W.fnOf "laid_together" "laid_together" (qAw qLy) (qAp qLy) (qAd qLy) .none kV14 dc14 pm14 an14 cd14 ct14),sl14⟩) (c14:PySem.W.codeIn K cd14 "laid_together" = true) (k14:PySem.W.keepIn K (.ref f14)=true)
  (a15:PySem.W.nsIn K mainGlobals "tried" = some (some (.ref f15))) (l15:K.lookup f15=some ⟨oc15,od15,.func (PySem.W.fnOf "tried" "tried" (qAw qGf) (qAp qGf) (qAd qGf) .none kV15 dc15 pm15 an15 cd15 ct15),sl15⟩) (c15:PySem.W.codeIn K cd15 "tried" = true) (k15:PySem.W.keepIn K (.ref f15)=true)
  (a16:PySem.W.nsIn K mainGlobals "step_done" = some (some (.ref f16))) (l16:K.lookup f16=some ⟨oc16,od16,.func (PySem.W.fnOf "step_done" "step_done" (qAw qLz) (qAp qLz) (qAd qLz) .none kV16 dc16 pm16 an16 cd16 ct16),sl16⟩) (c16:PySem.W.codeIn K cd16 "step_done" = true) (k16:PySem.W.keepIn K (.ref f16)=true)
  (a17:PySem.W.nsIn K mainGlobals "leads" = some (some (.ref f17))) (l17:K.lookup f17=some ⟨oc17,od17,.func (PySem.W.fnOf "leads" "leads" (qAw qGh) (qAp qGh) (qAd qGh) .none kV17 dc17 pm17 an17 cd17 ct17),sl17⟩) (c17:PySem.W.codeIn K cd17 "leads" = true) (k17:PySem.W.keepIn K (.ref f17)=true)
  (a18:PySem.W.nsIn K mainGlobals "_law_cell_at" = some (some (.ref f18))) (l18:K.lookup f18=some ⟨oc18,od18,.func (PySem.W.fnOf "_law_cell_at" "_law_cell_at" (qAw qL0) (qAp qL0) (qAd qL0) .none kV18 dc18 pm18 an18 cd18 ct18),sl18⟩) (c18:PySem.W.codeIn K cd18 "_law_cell_at" = true) (k18:PySem.W.keepIn K (.ref f18)=true)
  (a19:PySem.W.nsIn K mainGlobals "_law_purse" = some (some (.ref f19))) (l19:K.lookup f19=some ⟨oc19,od19,.func (PySem.W.fnOf "_law_purse" "_law_purse" (qAw qGg) (qAp qGg) (qAd qGg) .none kV19 dc19 pm19 an19 cd19 ct19),sl19⟩) (c19:PySem.W.codeIn K cd19 "_law_purse" = true) (k19:PySem.W.keepIn K (.ref f19)=true)
  (a20:PySem.W.nsIn K mainGlobals "_law_take" = some (some (.ref f20))) (l20:K.lookup f20=some ⟨oc20,od20,.func (PySem.W.fnOf "_law_take" "_law_take" (qAw qLu) (qAp qLu) (qAd qLu) .none kV20 dc20 pm20 an20 cd20 ct20),sl20⟩) (c20:PySem.W.codeIn K cd20 "_law_take" = true) (k20:PySem.W.keepIn K (.ref f20)=true)
  (a21:PySem.W.nsIn K mainGlobals "_law_names" = some (some (.ref f21))) (l21:K.lookup f21=some ⟨oc21,od21,.func (PySem.W.fnOf "_law_names" "_law_names" (qAw qD0) (qAp qD0) (qAd qD0) .none kV21 dc21 pm21 an21 cd21 ct21),sl21⟩) (c21:PySem.W.codeIn K cd21 "_law_names" = true) (k21:PySem.W.keepIn K (.ref f21)=true)
  (a22:PySem.W.nsIn K mainGlobals "_law_ties" = some (some (.ref f22))) (l22:K.lookup f22=some ⟨oc22,od22,.func (PySem.W.fnOf "_law_ties" "_law_ties" (qAw qR2) (qAp qR2) (qAd qR2) .none kV22 dc22 pm22 an22 cd22 ct22),sl22⟩) (c22:PySem.W.codeIn K cd22 "_law_ties" = true) (k22:PySem.W.keepIn K (.ref f22)=true)
  (a23:PySem.W.nsIn K mainGlobals "_law_net_of" = some (some (.ref f23))) (l23:K.lookup f23=some ⟨oc23,od23,.func (PySem.W.fnOf "_law_net_of" "_law_net_of" (qAw qR1) (qAp qR1) (qAd qR1) .none kV23 dc23 pm23 an23 cd23 ct23),sl23⟩) (c23:PySem.W.codeIn K cd23 "_law_net_of" = true) (k23:PySem.W.keepIn K (.ref f23)=true)
  (a24:PySem.W.nsIn K mainGlobals "_law_says" = some (some (.ref f24))) (l24:K.lookup f24=some ⟨oc24,od24,.func (PySem.W.fnOf "_law_says" "_law_says" (qAw qLw) (qAp qLw) (qAd qLw) .none kV24 dc24 pm24 an24 cd24 ct24),sl24⟩) (c24:PySem.W.codeIn K cd24 "_law_says" = true) (k24:PySem.W.keepIn K (.ref f24)=true)
  (a25:PySem.W.nsIn K mainGlobals "_law_around" = some (some (.ref f25))) (l25:K.lookup f25=some ⟨oc25,od25,.func (PySem.W.fnOf "_law_around" "_law_around" (qAw qTl) (qAp qTl) (qAd qTl) .none kV25 dc25 pm25 an25 cd25 ct25),sl25⟩) (c25:PySem.W.codeIn K cd25 "_law_around" = true) (k25:PySem.W.keepIn K (.ref f25)=true)
  (a26:PySem.W.nsIn K mainGlobals "_law_some" = some (some (.ref f26))) (l26:K.lookup f26=some ⟨oc26,od26,.func (PySem.W.fnOf "_law_some" "_law_some" (qAw qJe) (qAp qJe) (qAd qJe) .none kV26 dc26 pm26 an26 cd26 ct26),sl26⟩) (c26:PySem.W.codeIn K cd26 "_law_some" = true) (k26:PySem.W.keepIn K (.ref f26)=true)
  (a27:PySem.W.nsIn K mainGlobals "_law_step" = some (some (.ref f27))) (l27:K.lookup f27=some ⟨oc27,od27,.func (PySem.W.fnOf "_law_step" "_law_step" (qAw qH8) (qAp qH8) (qAd qH8) .none kV27 dc27 pm27 an27 cd27 ct27),sl27⟩) (c27:PySem.W.codeIn K cd27 "_law_step" = true) (k27:PySem.W.keepIn K (.ref f27)=true)
  (a28:PySem.W.nsIn K mainGlobals "_law_behind" = some (some (.ref f28))) (l28:K.lookup f28=some ⟨oc28,od28,.func (PySem.W.fnOf "_law_behind" "_law_behind" (qAw qTk) (qAp qTk) (qAd qTk) .none kV28 dc28 pm28 an28 cd28 ct28),sl28⟩) (c28:PySem.W.codeIn K cd28 "_law_behind" = true) (k28:PySem.W.keepIn K (.ref f28)=true)
  (a29:PySem.W.nsIn K mainGlobals "_law_road" = some (some (.ref f29))) (l29:K.lookup f29=some ⟨oc29,od29,.func (PySem.W.fnOf "_law_road" "_law_road" (qAw qLx) (qAp qLx) (qAd qLx) .none kV29 dc29 pm29 an29 cd29 ct29),sl29⟩) (c29:PySem.W.codeIn K cd29 "_law_road" = true) (k29:PySem.W.keepIn K (.ref f29)=true)
  (a30:PySem.W.nsIn K mainGlobals "_law_otherwise" = some (some (.ref f30))) (l30:K.lookup f30=some ⟨oc30,od30,.func (PySem.W.fnOf "_law_otherwise" "_law_otherwise" (qAw qG9) (qAp qG9) (qAd qG9) .none kV30 dc30 pm30 an30 cd30 ct30),sl30⟩) (c30:PySem.W.codeIn K cd30 "_law_otherwise" = true) (k30:PySem.W.keepIn K (.ref f30)=true)
  (a31:PySem.W.nsIn K mainGlobals "_law_other_ties" = some (some (.ref f31))) (l31:K.lookup f31=some ⟨oc31,od31,.func (PySem.W.fnOf "_law_other_ties" "_law_other_ties" (qAw qPg) (qAp qPg) (qAd qPg) .none kV31 dc31 pm31 an31 cd31 ct31),sl31⟩) (c31:PySem.W.codeIn K cd31 "_law_other_ties" = true) (k31:PySem.W.keepIn K (.ref f31)=true)
  (a32:PySem.W.nsIn K mainGlobals "_law_spoilt" = some (some (.ref f32))) (l32:K.lookup f32=some ⟨oc32,od32,.func (PySem.W.fnOf "_law_spoilt" "_law_spoilt" (qAw qLv) (qAp qLv) (qAd qLv) .none kV32 dc32 pm32 an32 cd32 ct32),sl32⟩) (c32:PySem.W.codeIn K cd32 "_law_spoilt" = true) (k32:PySem.W.keepIn K (.ref f32)=true)
  (a33:PySem.W.nsIn K mainGlobals "law" = some (some (.ref f33))) (l33:K.lookup f33=some ⟨oc33,od33,.func (PySem.W.fnOf "law" "law" (qAw qPq) (qAp qPq) (qAd qPq) .none kV33 dc33 pm33 an33 cd33 ct33),sl33⟩) (c33:PySem.W.codeIn K cd33 "law" = true) (k33:PySem.W.keepIn K (.ref f33)=true)
  (q1:PySem.W.nsIn K mainGlobals "SIGNS" = some (some (.str sg tk_SIGNS)))
  (q2:PySem.W.nsIn K mainGlobals "MOST_SIGNS" = some (some (.int 6 tk_MOST_SIGNS)))
  (q3:PySem.W.nsIn K mainGlobals "MOST_ROAD" = some (some (.int 400 tk_MOST_ROAD)))
  (z1:PySem.W.nsIn K mainGlobals "all" = some none)
  (z2:PySem.W.nsIn K mainGlobals "bool" = some none)
  (z3:PySem.W.nsIn K mainGlobals "int" = some none)
  (z4:PySem.W.nsIn K mainGlobals "isinstance" = some none)
  (z5:PySem.W.nsIn K mainGlobals "len" = some none)
  (z6:PySem.W.nsIn K mainGlobals "list" = some none)
  (z7:PySem.W.nsIn K mainGlobals "max" = some none)
  (z8:PySem.W.nsIn K mainGlobals "min" = some none)
  (z9:PySem.W.nsIn K mainGlobals "range" = some none)
  (z10:PySem.W.nsIn K mainGlobals "set" = some none)
  (z11:PySem.W.nsIn K mainGlobals "sorted" = some none)
  (z12:PySem.W.nsIn K mainGlobals "str" = some none)
  (z13:PySem.W.nsIn K mainGlobals "tuple" = some none)
  (z14:PySem.W.nsIn K mainGlobals "zip" = some none)
  (y1:PySem.W.nsIn K mainGlobals "NoStep" = some (some (.ref C))) (y2:PySem.W.excIn K C vB "ValueError.__new__" = true) (y4:PySem.W.exmOne K (.ref C) (.ref C)=some true)
  : ∃ fd:FuncData,(∀ (s:Shared) (v:Value),BindsTo s fd ⟨[v],[]⟩ [("_law_script",v)])/\∀ base:Heap,K.In base->base.Ns mainGlobals mg->FnOk l.prog w K mg base CX0 9 fa fd ["_law_script"] (qPk K):=by
 have e:=hfa.symm.trans (hAh X G a33);cases e;have F1:=qA6 (st:=qJf) l1 c1 k1;have F2:=qA6 (st:=qEq) l2 c2 k2;have F3:=qA6 (st:=qJc) l3 c3 k3;have F4:=qA6 (st:=qDm) l4 c4 k4;have F5:=qA6 (st:=qJd) l5 c5 k5;have F6:=qA6 (st:=qFh) l6 c6 k6;have F7:=qA6 (st:=qEr) l7 c7 k7;have F8:=qA6 (st:=qDn) l8 c8 k8;have F9:=qA6 (st:=qCr) l9 c9 k9;have F10:=qA6 (st:=qEp) l10 c10 k10;have F11:=qA6 (st:=qR3) l11 c11 k11;have F12:=qA6 (st:=qEg) l12 c12 k12;have F13:=qA6 (st:=qCm) l13 c13 k13;have F14:=qA6 (st:=qLy) l14 c14 k14;have F15:=qA6 (st:=qGf) l15 c15 k15;have F16:=qA6 (st:=qLz) l16 c16 k16;have F17:=qA6 (st:=qGh) l17 c17 k17;have F18:=qA6 (st:=qL0) l18 c18 k18;have F19:=qA6 (st:=qGg) l19 c19 k19;have F20:=qA6 (st:=qLu) l20 c20 k20;have F21:=qA6 (st:=qD0) l21 c21 k21;have F22:=qA6 (st:=qR2) l22 c22 k22;have F23:=qA6 (st:=qR1) l23 c23 k23;have F24:=qA6 (st:=qLw) l24 c24 k24;have F25:=qA6 (st:=qTl) l25 c25 k25;have F26:=qA6 (st:=qJe) l26 c26 k26;have F27:=qA6 (st:=qH8) l27 c27 k27;have F28:=qA6 (st:=qTk) l28 c28 k28;have F29:=qA6 (st:=qLx) l29 c29 k29;have F30:=qA6 (st:=qG9) l30 c30 k30;have F31:=qA6 (st:=qPg) l31 c31 k31;have F32:=qA6 (st:=qLv) l32 c32 k32;have F33:=qA6 (st:=qPq) l33 c33 k33;have b1:=F1.binds (ps:=["thing"]) fun _ _ _ _ _ _ us hl=>by obtain⟨_,rfl⟩:=zl1 hl;rfl
 have m1:=hAh X G a1;have b2:=F2.binds (ps:=["thing"]) fun _ _ _ _ _ _ us hl=>by obtain⟨_,rfl⟩:=zl1 hl;rfl
 have m2:=hAh X G a2;have b3:=F3.binds (ps:=["net"]) fun _ _ _ _ _ _ us hl=>by obtain⟨_,rfl⟩:=zl1 hl;rfl
 have m3:=hAh X G a3;have b4:=F4.binds (ps:=["net"]) fun _ _ _ _ _ _ us hl=>by obtain⟨_,rfl⟩:=zl1 hl;rfl
 have m4:=hAh X G a4;have b5:=F5.binds (ps:=["net","point"]) fun _ _ _ _ _ _ us hl=>by obtain⟨_,_,rfl⟩:=zl2 hl;rfl
 have m5:=hAh X G a5;have b6:=F6.binds (ps:=["net"]) fun _ _ _ _ _ _ us hl=>by obtain⟨_,rfl⟩:=zl1 hl;rfl
 have m6:=hAh X G a6;have b7:=F7.binds (ps:=["net"]) fun _ _ _ _ _ _ us hl=>by obtain⟨_,rfl⟩:=zl1 hl;rfl
 have m7:=hAh X G a7;have b8:=F8.binds (ps:=["net"]) fun _ _ _ _ _ _ us hl=>by obtain⟨_,rfl⟩:=zl1 hl;rfl
 have m8:=hAh X G a8;have b9:=F9.binds (ps:=["net","ties"]) fun _ _ _ _ _ _ us hl=>by obtain⟨_,_,rfl⟩:=zl2 hl;rfl
 have m9:=hAh X G a9;have b10:=F10.binds (ps:=["net","ties","places"]) fun _ _ _ _ _ _ us hl=>by obtain⟨_,_,_,rfl⟩:=zl3 hl;rfl
 have m10:=hAh X G a10;have b11:=F11.binds (ps:=["net","thing"]) fun _ _ _ _ _ _ us hl=>by obtain⟨_,_,rfl⟩:=zl2 hl;rfl
 have m11:=hAh X G a11;have b12:=F12.binds (ps:=["net","ties"]) fun _ _ _ _ _ _ us hl=>by obtain⟨_,_,rfl⟩:=zl2 hl;rfl
 have m12:=hAh X G a12;have b13:=F13.binds (ps:=["net","point","ties","new"]) fun _ _ _ _ _ _ us hl=>by obtain⟨_,_,_,_,rfl⟩:=zl4 hl;rfl
 have m13:=hAh X G a13;have b14:=F14.binds (ps:=["net","point","other"]) fun _ _ _ _ _ _ us hl=>by obtain⟨_,_,_,rfl⟩:=zl3 hl;rfl
 have m14:=hAh X G a14;have b15:=F15.binds (ps:=["net","step"]) fun _ _ _ _ _ _ us hl=>by obtain⟨_,_,rfl⟩:=zl2 hl;rfl
 have m15:=hAh X G a15;have b16:=F16.binds (ps:=["net","step"]) fun _ _ _ _ _ _ us hl=>by obtain⟨_,_,rfl⟩:=zl2 hl;rfl
 have m16:=hAh X G a16;have b17:=F17.binds (ps:=["one","other","steps"]) fun _ _ _ _ _ _ us hl=>by obtain⟨_,_,_,rfl⟩:=zl3 hl;rfl
 have m17:=hAh X G a17;have b18:=F18.binds (ps:=["_law_script","_law_k"]) fun _ _ _ _ _ _ us hl=>by obtain⟨_,_,rfl⟩:=zl2 hl;rfl
 have m18:=hAh X G a18;have b19:=F19.binds (ps:=["_law_script","_law_at"]) fun _ _ _ _ _ _ us hl=>by obtain⟨_,_,rfl⟩:=zl2 hl;rfl
 have m19:=hAh X G a19;have b20:=F20.binds (ps:=["_law_draw","_law_many"]) fun _ _ _ _ _ _ us hl=>by obtain⟨_,_,rfl⟩:=zl2 hl;rfl
 have m20:=hAh X G a20;have b21:=F21.binds (ps:=["_law_draw","_law_many"]) fun _ _ _ _ _ _ us hl=>by obtain⟨_,_,rfl⟩:=zl2 hl;rfl
 have m21:=hAh X G a21;have b22:=F22.binds (ps:=["_law_draw","_law_many"]) fun _ _ _ _ _ _ us hl=>by obtain⟨_,_,rfl⟩:=zl2 hl;rfl
 have m22:=hAh X G a22;have b23:=F23.binds (ps:=["_law_draw","_law_ties_here","_law_names_here"]) fun _ _ _ _ _ _ us hl=>by obtain⟨_,_,_,rfl⟩:=zl3 hl;rfl
 have m23:=hAh X G a23;have b24:=F24.binds (ps:=["_law_found","_law_due"]) fun _ _ _ _ _ _ us hl=>by obtain⟨_,_,rfl⟩:=zl2 hl;rfl
 have m24:=hAh X G a24;have b25:=F25.binds (ps:=["_law_net"]) fun _ _ _ _ _ _ us hl=>by obtain⟨_,rfl⟩:=zl1 hl;rfl
 have m25:=hAh X G a25;have b26:=F26.binds (ps:=["_law_draw","_law_net"]) fun _ _ _ _ _ _ us hl=>by obtain⟨_,_,rfl⟩:=zl2 hl;rfl
 have m26:=hAh X G a26;have b27:=F27.binds (ps:=["_law_draw","_law_net"]) fun _ _ _ _ _ _ us hl=>by obtain⟨_,_,rfl⟩:=zl2 hl;rfl
 have m27:=hAh X G a27;have b28:=F28.binds (ps:=["_law_net","_law_trail"]) fun _ _ _ _ _ _ us hl=>by obtain⟨_,_,rfl⟩:=zl2 hl;rfl
 have m28:=hAh X G a28;have b29:=F29.binds (ps:=["_law_draw","_law_net"]) fun _ _ _ _ _ _ us hl=>by obtain⟨_,_,rfl⟩:=zl2 hl;rfl
 have m29:=hAh X G a29;have b30:=F30.binds (ps:=["_law_trail"]) fun _ _ _ _ _ _ us hl=>by obtain⟨_,rfl⟩:=zl1 hl;rfl
 have m30:=hAh X G a30;have b31:=F31.binds (ps:=["_law_draw","_law_net"]) fun _ _ _ _ _ _ us hl=>by obtain⟨_,_,rfl⟩:=zl2 hl;rfl
 have m31:=hAh X G a31;have b32:=F32.binds (ps:=["_law_draw","_law_trail","_law_net"]) fun _ _ _ _ _ _ us hl=>by obtain⟨_,_,_,rfl⟩:=zl3 hl;rfl
 have m32:=hAh X G a32;have n_SIGNS:=hAh X G q1;have n_MOST_SIGNS:=hAh X G q2;have n_MOST_ROAD:=hAh X G q3;have n_all:=hAw X G z1;have n_bool:=hAw X G z2;have n_int:=hAw X G z3;have n_isinstance:=hAw X G z4;have n_len:=hAw X G z5;have n_list:=hAw X G z6;have n_max:=hAw X G z7;have n_min:=hAw X G z8;have n_range:=hAw X G z9;have n_set:=hAw X G z10;have n_sorted:=hAw X G z11;have n_str:=hAw X G z12;have n_tuple:=hAw X G z13;have n_zip:=hAw X G z14;refine⟨PySem.W.fnOf "law" "law" (qAw qPq) (qAp qPq) (qAd qPq) .none kV33 dc33 pm33 an33 cd33 ct33,fun s v=>.of_eq rfl,fun base kb nb=>?_⟩;have O:=qUq kb nb y1 y2;have g1:=qSo (P:=l.prog) (w:=w) (base:=base) F1  n_len n_isinstance n_str n_all n_SIGNS n_MOST_SIGNS;have g2:=qP3 (P:=l.prog) (w:=w) (base:=base) F2 ⟨g1,b1,k1,m1⟩ n_isinstance n_list n_all n_zip;have g3:=qSh (P:=l.prog) (w:=w) (mg:=mg) (base:=base) F3;have g4:=qNy (P:=l.prog) (w:=w) (base:=base) F4  n_sorted;have g5:=qSk (P:=l.prog) (w:=w) (mg:=mg) (base:=base) F5;have g6:=qPy (P:=l.prog) (w:=w) (base:=base) F6 ⟨g4,b4,k4,m4⟩ ⟨g5,b5,k5,m5⟩ n_sorted;have g7:=qP4 (P:=l.prog) (w:=w) (base:=base) F7 ⟨g4,b4,k4,m4⟩;have g8:=qNz (P:=l.prog) (w:=w) (mg:=mg) (base:=base) F8;have g9:=qNx (P:=l.prog) (w:=w) (base:=base) F9 ⟨g8,b8,k8,m8⟩ ⟨g4,b4,k4,m4⟩;have g10:=qP1 (P:=l.prog) (w:=w) (base:=base) F10  n_min n_max;have g11:=qUx (P:=l.prog) (w:=w) (base:=base) F11 ⟨g2,b2,k2,m2⟩ ⟨g3,b3,k3,m3⟩ n_all;have g12:=qNw (P:=l.prog) (w:=w) (base:=base) F12 ⟨g9,b9,k9,m9⟩ ⟨g11,b11,k11,m11⟩ ⟨g10,b10,k10,m10⟩ n_len;have g13:=qP5 (P:=l.prog) (w:=w) (base:=base) F13 ⟨g11,b11,k11,m11⟩ ⟨g1,b1,k1,m1⟩ ⟨g4,b4,k4,m4⟩ ⟨g9,b9,k9,m9⟩ ⟨g10,b10,k10,m10⟩;have g14:=qSp (P:=l.prog) (w:=w) (base:=base) F14 ⟨g7,b7,k7,m7⟩ ⟨g1,b1,k1,m1⟩ ⟨g10,b10,k10,m10⟩ ⟨g3,b3,k3,m3⟩;have g15:=qPx (P:=l.prog) (w:=w) (base:=base) F15 ⟨g12,b12,k12,m12⟩ ⟨g13,b13,k13,m13⟩ ⟨g14,b14,k14,m14⟩ n_len n_isinstance n_tuple;have g16:=qSq (P:=l.prog) (w:=w) (base:=base) F16 PySem.F.excBase_ValueError PySem.F.excBase_ValueError O ⟨g15,b15,k15,m15⟩;have g17:=qP2 (P:=l.prog) (w:=w) (base:=base) F17 ⟨g15,b15,k15,m15⟩ ⟨g6,b6,k6,m6⟩ n_len n_isinstance n_list n_MOST_ROAD;have g18:=qSr (P:=l.prog) (w:=w) (base:=base) F18  n_len;have g19:=qPz (P:=l.prog) (w:=w) (base:=base) F19 ⟨g18,b18,k18,m18⟩ n_range;have g20:=qSi (P:=l.prog) (w:=w) (mg:=mg) (base:=base) F20;have g21:=qP0 (P:=l.prog) (w:=w) (base:=base) F21 ⟨g20,b20,k20,m20⟩ n_range n_min n_sorted;have g22:=qWl (P:=l.prog) (w:=w) (base:=base) F22 ⟨g20,b20,k20,m20⟩ n_range n_len n_set n_min n_max n_int;have g23:=qUu (P:=l.prog) (w:=w) (base:=base) F23 ⟨g20,b20,k20,m20⟩ n_range n_len n_min n_max;have g24:=qSl (P:=l.prog) (w:=w) (base:=base) F24  n_isinstance n_bool;have g25:=qUy (P:=l.prog) (w:=w) (base:=base) F25  n_sorted;have g26:=ok_some (P:=l.prog) (w:=w) (base:=base) F26 ⟨g20,b20,k20,m20⟩;have g27:=qSj (P:=l.prog) (w:=w) (base:=base) F27 ⟨g20,b20,k20,m20⟩ ⟨g26,b26,k26,m26⟩ n_len n_sorted n_set;have g28:=qUw (P:=l.prog) (w:=w) (base:=base) F28 (hAh X G y1) y4 ⟨g16,b16,k16,m16⟩;have g29:=qSm (P:=l.prog) (w:=w) (base:=base) F29 ⟨g27,b27,k27,m27⟩ ⟨g28,b28,k28,m28⟩ n_len n_range n_int;have g30:=qSn (P:=l.prog) (w:=w) (base:=base) F30  n_tuple n_int n_isinstance n_list;have g31:=qUt (P:=l.prog) (w:=w) (base:=base) F31 ⟨g20,b20,k20,m20⟩ n_len n_range n_sorted;have g32:=qUs (P:=l.prog) (w:=w) (base:=base) F32 ⟨g20,b20,k20,m20⟩ ⟨g27,b27,k27,m27⟩ ⟨g30,b30,k30,m30⟩ n_len n_list n_tuple;exact qUv F33 ⟨g19,b19,k19,m19⟩ ⟨g20,b20,k20,m20⟩ ⟨g22,b22,k22,m22⟩ ⟨g21,b21,k21,m21⟩ ⟨g23,b23,k23,m23⟩ ⟨g29,b29,k29,m29⟩ ⟨g25,b25,k25,m25⟩ ⟨g31,b31,k31,m31⟩ ⟨g24,b24,k24,m24⟩ ⟨g17,b17,k17,m17⟩ ⟨g32,b32,k32,m32⟩ ⟨g28,b28,k28,m28⟩ n_range n_len n_list n_isinstance n_min n_max
theorem walk {l:PySem.W.OpenLaw} {q:Program} {loose:List Str} {XP:(Str->Option Value)->Heap->Prop} {YP:World->Heap->Prop} {d:DefRec} {K:Params->PySem.W.Frag} (hn:l.most=some 63) (hdf:d.params.defaults=[])
  (hY:∀ (w:World) (h:Heap),YP w h->(K w.params).In h)
  (F:∀ (w:World) (mg:Str->Option Value) (fa:Addr) (h:Heap),(K w.params).In h->h.Ns mainGlobals mg->mg d.name=some (.ref fa) ->
   ∃ fd:FuncData,(∀ (s:Shared) (u:Value),BindsTo s fd ⟨[u],[]⟩ [("_law_script",u)])/\∀ base:Heap,(K w.params).In base->base.Ns mainGlobals mg->FnOk l.prog w (K w.params) mg base CX0 9 fa fd ["_law_script"] (qPk (K w.params))) :
  PySem.W.WalkO q loose XP YP l.row.toRowW d [] (fun f vs=>PySem.call f vs) :=
 L2.walk_of (n:=63) (k:=9) (x:="_law_script") (CX:=fun _=>CX0) (sp:=fun w=>qPk (K w.params)) hn (by decide) hdf ⟨rfl,by decide,by decide,rfl⟩ hY F (fun _ _ a ns hl _ hS=>⟨a,ns,rfl,hS,hl,fun _=>rfl⟩) fun _ _ _ _ _ z=>z
end My
namespace PySem.W.Fast
def tw10036276631116817699 := 0
def tw10048917541241753360 := 0
def tw10095757394912475300 := 0
def tw10151136191709687864 := 0
def tw10217400514933393251 := 0
def tw10294949361175407713 := 0
def tw10566357177066259143 := 0
def tw10722615600223836028 := 0
def tw10879622993257447408 := 0
def tw10911285048623904284 := 0
def tw10911537511482165549 := 0
def tw10997037762311221957 := 0
def tw11172331396917613202 := 0
def tw11177154400058652908 := 0
def tw11253649101230573077 := 0
def tw11312620038908006215 := 0
def tw11323450808725625513 := 0
def tw11351754843349121525 := 0
def tw11477833299175844600 := 0
def tw11504620454199122176 := 0
def tw11562826993256893519 := 0
def tw11660296905267650615 := 0
def tw11686069858729751308 := 0
def tw11812904267609540260 := 0
def tw11937492263461729437 := 0
def tw11940483497887879511 := 0
def tw11997807981685562163 := 0
def tw12035897459253980828 := 0
def tw12068935331991362371 := 0
def tw12125650422874125822 := 0
def tw12390319687687569910 := 0
def tw12538067324845890639 := 0
def tw12557117490865602151 := 0
def tw12645159693281264178 := 0
def tw12708637948273637806 := 0
def tw12930525562370721435 := 0
def tw13009204482723879245 := 0
def tw13026808269230450773 := 0
def tw13062097273034416416 := 0
def tw13132353167450480674 := 0
def tw13143374207738282015 := 0
def tw13170229882103833879 := 0
def tw13191287751456880179 := 0
def tw13199665781709247055 := 0
def tw13221504456651170977 := 0
def tw13273045313537305148 := 0
def tw13283394252601079481 := 0
def tw13300158847050751349 := 0
def tw13345545155468265277 := 0
def tw13386973030753663863 := 0
def tw13403446742551764544 := 0
def tw13710906601243596410 := 0
def tw13772208822000231674 := 0
def tw13828200846197308795 := 0
def tw13893416385501468387 := 0
def tw13943830226607282987 := 0
def tw14147916729974795228 := 0
def tw14327131341211686078 := 0
def tw14401691988732665663 := 0
def tw14401849759667693225 := 0
def tw14693426644555330278 := 0
def tw14715174320102349574 := 0
def tw14737554216185339614 := 0
def tw14754731089903498877 := 0
def tw14832804347418524738 := 0
def tw14924957133369727696 := 0
def tw15023860878863395831 := 0
def tw15042336170015590716 := 0
def tw15130770155887531413 := 0
def tw15165119052180497125 := 0
def tw1519672265278679927 := 0
def tw15257292951460725194 := 0
def tw15297760577853875374 := 0
def tw15339720639629774014 := 0
def tw15441650539047919820 := 0
def tw15501177827678183476 := 0
def tw15615155778497105181 := 0
def tw15658483357981255181 := 0
def tw15756755019227959477 := 0
def tw15772129636570995989 := 0
def tw15774546918874138370 := 0
def tw15827185924861504717 := 0
def tw15855224952783655303 := 0
def tw16004610411857916385 := 0
def tw16036520433668511444 := 0
def tw16149140880360795225 := 0
def tw162777426246997820 := 0
def tw16371872487593140122 := 0
def tw1650804757728322128 := 0
def tw16567996068029118976 := 0
def tw16603097922106067464 := 0
def tw16641771856002779954 := 0
def tw16648519718566001516 := 0
def tw16692010258315137364 := 0
def tw16700814996872945693 := 0
def tw16762649807955866004 := 0
def tw16952969171658756224 := 0
def tw16970463135055462686 := 0
def tw17002883535755571294 := 0
def tw17106241317772018421 := 0
def tw17128384374197776133 := 0
def tw17269493702624218172 := 0
def tw17438117442779326573 := 0
def tw17493466052031566374 := 0
def tw17636707675814842590 := 0
def tw1764662529279645374 := 0
def tw17681173523863948012 := 0
def tw17867512679658457844 := 0
def tw17970841807836240564 := 0
def tw18026079834365227189 := 0
def tw18096282627821366680 := 0
def tw1812969759557090313 := 0
def tw18209712190006201033 := 0
def tw18290708379386167179 := 0
def tw18317958734061442366 := 0
def tw18433105735597055594 := 0
def tw186305521318069054 := 0
def tw1871568736327828162 := 0
def tw2022720660862943974 := 0
def tw2091694293426137960 := 0
def tw2097028388254546065 := 0
def tw2143331672808634163 := 0
def tw2146250806001641526 := 0
def tw2201000871789440542 := 0
def tw2395199565726040247 := 0
def tw2449374406005663485 := 0
def tw2640407041181771219 := 0
def tw2689625833350613314 := 0
def tw2799306351208379032 := 0
def tw2930353979581115754 := 0
def tw2944629315743470791 := 0
def tw3097867328318209083 := 0
def tw3117256039070656053 := 0
def tw3184786255815921166 := 0
def tw3328684808683113686 := 0
def tw3496888180985714864 := 0
def tw3585630375423630277 := 0
def tw3645088219070922159 := 0
def tw3662631714720521830 := 0
def tw3679571596598665460 := 0
def tw372372570520772152 := 0
def tw375675308791812274 := 0
def tw3902303162085734820 := 0
def tw3912225771623940531 := 0
def tw399193540960489456 := 0
def tw4080175150245256974 := 0
def tw4130345335866410961 := 0
def tw4144587165256149523 := 0
def tw416325271545322374 := 0
def tw417134316149646973 := 0
def tw4209336765023620491 := 0
def tw4236322605052383694 := 0
def tw4240324145559389836 := 0
def tw4341030194107405171 := 0
def tw4353371286021364592 := 0
def tw4384552051438922898 := 0
def tw4425154287219119277 := 0
def tw4453871118340877287 := 0
def tw4467764567892208190 := 0
def tw4520633831872210332 := 0
def tw4565765275064197113 := 0
def tw4656985124026892850 := 0
def tw4677762398565532362 := 0
def tw4754599819302306626 := 0
def tw4882421329776631571 := 0
def tw489683330081276331 := 0
def tw4906432669765231560 := 0
def tw5047447790603756528 := 0
def tw5086237558226125205 := 0
def tw5108497640916915752 := 0
def tw5134321225135974509 := 0
def tw5221252694100099494 := 0
def tw5328525689955807770 := 0
def tw5340765192788097696 := 0
def tw5400525260740501115 := 0
def tw5417780416821550437 := 0
def tw5467277847191964911 := 0
def tw548123772236992627 := 0
def tw5501881359202657312 := 0
def tw5536367043456447223 := 0
def tw5542206475691384931 := 0
def tw5591897623287420361 := 0
def tw5644456955215827196 := 0
def tw5726079697738478057 := 0
def tw5731040468115836653 := 0
def tw5769253648296895757 := 0
def tw5786890884352363848 := 0
def tw584419748751664181 := 0
def tw599343236133676021 := 0
def tw6176831606267880541 := 0
def tw6261572084359037896 := 0
def tw6263210155759504000 := 0
def tw6290298458651238841 := 0
def tw6294994681194028986 := 0
def tw652648210019767639 := 0
def tw6560143792204585320 := 0
def tw6595604361885322761 := 0
def tw6663289377258819467 := 0
def tw7049133561086391313 := 0
def tw7154013352045176446 := 0
def tw7169810516693628067 := 0
def tw7354060044583316188 := 0
def tw7743227931286728682 := 0
def tw7845330366478805940 := 0
def tw7918698340655949601 := 0
def tw7951259336445631398 := 0
def tw8125141217876600599 := 0
def tw8139610135427542691 := 0
def tw8188854213915138489 := 0
def tw8211986950213644996 := 0
def tw8308642716008497972 := 0
def tw834139938973935330 := 0
def tw8423959251805230170 := 0
def tw846102589551508026 := 0
def tw8473348059771506408 := 0
def tw8511369147184246758 := 0
def tw8526274305653765397 := 0
def tw8554374607533594007 := 0
def tw8600292174641527190 := 0
def tw8684289340264323901 := 0
def tw8835729829625513708 := 0
def tw8879206156450043081 := 0
def tw8921405202107253068 := 0
def tw8969142956903376328 := 0
def tw9072582199108426747 := 0
def tw9091474146173777955 := 0
def tw926280546218276335 := 0
def tw9280802353664426895 := 0
def tw9605934882178304258 := 0
def tw9718281233427815920 := 0
def tw9749870378593451555 := 0
def tw9778242372758781708 := 0
def tw995331164772825667 := 0
end PySem.W.Fast
open PySem PySem.W PyProof.Rows
set_option maxRecDepth 100000 in
set_option maxHeartbeats 0 in
set_option maxHeartbeats 16000000 in
theorem PySem.Challenge.cw_roundsalone_k69_roads_looked_at_holds : PySem.Challenge.rw_roundsalone_k69_roads_looked_at.Holds := by
 w_on;o_law;k_head;(case hw=>w_witness2)
 k_fill
 refine My.walk (l:=PySem.Challenge.rw_roundsalone_k69_roads_looked_at) rfl rfl (fun w h Y=>PySem.W.kIn_of Y) ?F
 case F =>
  intro w mg fa h KX G hmg
  refine' My.all_mk KX G hmg ?a1 ?l1 ?c1 ?k1 ?a2 ?l2 ?c2 ?k2 ?a3 ?l3 ?c3 ?k3 ?a4 ?l4 ?c4 ?k4 ?a5 ?l5 ?c5 ?k5 ?a6 ?l6 ?c6 ?k6 ?a7 ?l7 ?c7 ?k7 ?a8 ?l8 ?c8 ?k8 ?a9 ?l9 ?c9 ?k9 ?a10 ?l10 ?c10 ?k10 ?a11 ?l11 ?c11 ?k11 ?a12 ?l12 ?c12 ?k12 ?a13 ?l13 ?c13 ?k13 ?a14 ?l14 ?c14 ?k14 ?a15 ?l15 ?c15 ?k15 ?a16 ?l16 ?c16 ?k16 ?a17 ?l17 ?c17 ?k17 ?a18 ?l18 ?c18 ?k18 ?a19 ?l19 ?c19 ?k19 ?a20 ?l20 ?c20 ?k20 ?a21 ?l21 ?c21 ?k21 ?a22 ?l22 ?c22 ?k22 ?a23 ?l23 ?c23 ?k23 ?a24 ?l24 ?c24 ?k24 ?a25 ?l25 ?c25 ?k25 ?a26 ?l26 ?c26 ?k26 ?a27 ?l27 ?c27 ?k27 ?a28 ?l28 ?c28 ?k28 ?a29 ?l29 ?c29 ?k29 ?a30 ?l30 ?c30 ?k30 ?a31 ?l31 ?c31 ?k31 ?a32 ?l32 ?c32 ?k32 ?a33 ?l33 ?c33 ?k33 ?q1 ?q2 ?q3 ?z1 ?z2 ?z3 ?z4 ?z5 ?z6 ?z7 ?z8 ?z9 ?z10 ?z11 ?z12 ?z13 ?z14 ?y1 ?y2 ?y4
  (case a1=>k_is)
  (case l1=>k_is)
  (case c1=>k_is)
  (case k1=>k_is)
  (case a2=>k_is)
  (case l2=>k_is)
  (case c2=>k_is)
  (case k2=>k_is)
  (case a3=>k_is)
  (case l3=>k_is)
  (case c3=>k_is)
  (case k3=>k_is)
  (case a4=>k_is)
  (case l4=>k_is)
  (case c4=>k_is)
  (case k4=>k_is)
  (case a5=>k_is)
  (case l5=>k_is)
  (case c5=>k_is)
  (case k5=>k_is)
  (case a6=>k_is)
  (case l6=>k_is)
  (case c6=>k_is)
  (case k6=>k_is)
  (case a7=>k_is)
  (case l7=>k_is)
  (case c7=>k_is)
  (case k7=>k_is)
  (case a8=>k_is)
  (case l8=>k_is)
  (case c8=>k_is)
  (case k8=>k_is)
  (case a9=>k_is)
  (case l9=>k_is)
  (case c9=>k_is)
  (case k9=>k_is)
  (case a10=>k_is)
  (case l10=>k_is)
  (case c10=>k_is)
  (case k10=>k_is)
  (case a11=>k_is)
  (case l11=>k_is)
  (case c11=>k_is)
  (case k11=>k_is)
  (case a12=>k_is)
  (case l12=>k_is)
  (case c12=>k_is)
  (case k12=>k_is)
  (case a13=>k_is)
  (case l13=>k_is)
  (case c13=>k_is)
  (case k13=>k_is)
  (case a14=>k_is)
  (case l14=>k_is)
  (case c14=>k_is)
  (case k14=>k_is)
  (case a15=>k_is)
  (case l15=>k_is)
  (case c15=>k_is)
  (case k15=>k_is)
  (case a16=>k_is)
  (case l16=>k_is)
  (case c16=>k_is)
  (case k16=>k_is)
  (case a17=>k_is)
  (case l17=>k_is)
  (case c17=>k_is)
  (case k17=>k_is)
  (case a18=>k_is)
  (case l18=>k_is)
  (case c18=>k_is)
  (case k18=>k_is)
  (case a19=>k_is)
  (case l19=>k_is)
  (case c19=>k_is)
  (case k19=>k_is)
  (case a20=>k_is)
  (case l20=>k_is)
  (case c20=>k_is)
  (case k20=>k_is)
  (case a21=>k_is)
  (case l21=>k_is)
  (case c21=>k_is)
  (case k21=>k_is)
  (case a22=>k_is)
  (case l22=>k_is)
  (case c22=>k_is)
  (case k22=>k_is)
  (case a23=>k_is)
  (case l23=>k_is)
  (case c23=>k_is)
  (case k23=>k_is)
  (case a24=>k_is)
  (case l24=>k_is)
  (case c24=>k_is)
  (case k24=>k_is)
  (case a25=>k_is)
  (case l25=>k_is)
  (case c25=>k_is)
  (case k25=>k_is)
  (case a26=>k_is)
  (case l26=>k_is)
  (case c26=>k_is)
  (case k26=>k_is)
  (case a27=>k_is)
  (case l27=>k_is)
  (case c27=>k_is)
  (case k27=>k_is)
  (case a28=>k_is)
  (case l28=>k_is)
  (case c28=>k_is)
  (case k28=>k_is)
  (case a29=>k_is)
  (case l29=>k_is)
  (case c29=>k_is)
  (case k29=>k_is)
  (case a30=>k_is)
  (case l30=>k_is)
  (case c30=>k_is)
  (case k30=>k_is)
  (case a31=>k_is)
  (case l31=>k_is)
  (case c31=>k_is)
  (case k31=>k_is)
  (case a32=>k_is)
  (case l32=>k_is)
  (case c32=>k_is)
  (case k32=>k_is)
  (case a33=>k_is)
  (case l33=>k_is)
  (case c33=>k_is)
  (case k33=>k_is)
  (case q1=>k_is)
  (case q2=>k_is)
  (case q3=>k_is)
  (case z1=>k_is)
  (case z2=>k_is)
  (case z3=>k_is)
  (case z4=>k_is)
  (case z5=>k_is)
  (case z6=>k_is)
  (case z7=>k_is)
  (case z8=>k_is)
  (case z9=>k_is)
  (case z10=>k_is)
  (case z11=>k_is)
  (case z12=>k_is)
  (case z13=>k_is)
  (case z14=>k_is)
  (case y1=>k_is)
  (case y2=>k_exc)
  (case y4=>kts_exm)
#print axioms PySem.Challenge.cw_roundsalone_k69_roads_looked_at_holds
