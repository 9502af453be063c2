import PyProof.Rows.All
import Wide.All
import OpenK.AllK
import Wide.FinOn
import Lean
import PyProof.EqAt
import PyProof.EqKinds
import PyProof.TupleCall
import KE.KSortKey
import KE.KLam
import KE.KRevIter
import PyProof.FactsAll.range_2
import KE.KSortTup
import PyProof.ReprBulk
import PyProof.FString5
import PyProof.P3In
import PySem.Challenge.RW_roundsalone_k17_whole_taken_and_crossed
set_option Elab.async false
set_option linter.all false
set_option maxHeartbeats 16000000
set_option maxRecDepth 100000
namespace L2
open PySem PySem.Spec PyProof.Rows
abbrev Key:=Sum Int Str
def keyIs:Key->Value->Bool
 | .inl k,v=>Value.isInt k v
 | .inr x,v=>Value.isStrOf x v
def keyH (w:World):Key->Int
 | .inl k=>hashInt k
 | .inr x=>hashStr w x
theorem keyIs_shape:∀ {k:Key} {v:Value},keyIs k v=true->(∃ i t,k=Sum.inl i/\v=Value.int i t)\/(∃ x t,k=Sum.inr x/\v=Value.str x t)
 | .inl i,v,h=>by
  obtain ⟨t,e⟩:=Value.isInt_shape (k:=i) (v:=v) h
  exact .inl ⟨i,t,rfl,e⟩
 | .inr x,v,h=>by
  obtain ⟨t,e⟩:=Value.isStrOf_shape (x:=x) (v:=v) h
  exact .inr ⟨x,t,rfl,e⟩
theorem key_ll (a b:Int):decide ((Sum.inl a:Key)=Sum.inl b)=(a == b):=by
 by_cases e:a=b
 ·subst e;simp
 ·have h:¬(Sum.inl a:Key)=Sum.inl b:=fun q=>e (Sum.inl.inj q)
  rw [decide_eq_false h]
  exact (beq_eq_false_iff_ne.mpr e).symm
theorem key_rr (a b:Str):decide ((Sum.inr a:Key)=Sum.inr b)=decide (a=b):=by
 by_cases e:a=b
 ·subst e;simp
 ·have h:¬(Sum.inr a:Key)=Sum.inr b:=fun q=>e (Sum.inr.inj q)
  rw [decide_eq_false h,decide_eq_false e]
theorem key_lr (a:Int) (b:Str):decide ((Sum.inl a:Key)=Sum.inr b)=false:=decide_eq_false (fun q=>nomatch q)
theorem key_rl (a:Str) (b:Int):decide ((Sum.inr a:Key)=Sum.inl b)=false:=decide_eq_false (fun q=>nomatch q)
def mixKind (prog:Program) (w:World):PySem.KeyKind prog w Key where
 is:=keyIs
 hash:=keyH w
 inj:=fun v a b ha hb=>by
  rcases keyIs_shape ha with ⟨i,t,rfl,rfl⟩ | ⟨x,t,rfl,rfl⟩
  ·rcases keyIs_shape hb with ⟨j,u,rfl,e⟩ | ⟨y,u,rfl,e⟩
   ·injection e with e1 _;rw [e1]
   ·exact nomatch e
  ·rcases keyIs_shape hb with ⟨j,u,rfl,e⟩ | ⟨y,u,rfl,e⟩
   ·exact nomatch e
   ·injection e with e1 _;rw [e1]
 byValue:=fun k v h=>by
  rcases keyIs_shape h with ⟨i,t,rfl,rfl⟩ | ⟨x,t,rfl,rfl⟩ <;> rfl
 pyHash:=fun hv h=>by
  rcases keyIs_shape hv with ⟨i,t,rfl,rfl⟩ | ⟨x,t,rfl,rfl⟩
  ·exact wpAny_pyHash_int h
  ·exact wpAny_pyHash_str h
 eqBool:=fun hu hv h=>by
  rcases keyIs_shape hu with ⟨i,t,rfl,rfl⟩ | ⟨x,t,rfl,rfl⟩
  ·rcases keyIs_shape hv with ⟨j,u,rfl,rfl⟩ | ⟨y,u,rfl,rfl⟩
   ·rw [key_ll] at h;exact wpAny_eqBool_int h
   ·rw [key_lr] at h;exact SeqAt.EqAt.int_str i t y u _ _ _ _ h
  ·rcases keyIs_shape hv with ⟨j,u,rfl,rfl⟩ | ⟨y,u,rfl,rfl⟩
   ·rw [key_rl] at h;exact SeqAt.EqAt.str_int x t j u _ _ _ _ h
   ·rw [key_rr] at h;exact wpAny_eqBool_str h
 «strs»:=fun k x t v h=>by
  rcases keyIs_shape h with ⟨i,u,rfl,e⟩ | ⟨y,u,rfl,e⟩
  ·exact nomatch e
  ·injection e with e1 _
   subst e1
   cases v <;> rfl
end L2
namespace L2
open PySem PySem.Spec PyProof.Rows
inductive V where
 | non | bl (b:Bool) | int (i:Int) | str (x:Str) | byt (b:Array UInt8) | flt (b:UInt64) | ref (a:Addr) | ty (n:String)
 deriving DecidableEq
def qCs:V->Value->Prop
 | .non,u=>u=Value.none
 | .bl b,u=>u=Value.bool b
 | .int i,u=>∃ t,u=Value.int i t
 | .str x,u=>∃ t,u=Value.str x t
 | .byt b,u=>∃ t,u=Value.bytes b t
 | .flt b,u=>∃ t,u=Value.float b t
 | .ref a,u=>u=Value.ref a
 | .ty n,u=>u=Value.type n
abbrev qBc:List V->List Value->Prop:=Paired qCs
theorem qBc.length {xs:List V} {us:List Value} (r:qBc xs us):xs.length=us.length:=Paired.length r
theorem qBc.get:∀ {xs:List V} {us:List Value} {i:Nat} {x:V},qBc xs us->xs[i]?=some x->∃ u,us[i]?=some u/\qCs x u
 | _,_,_,_,.nil,e=>by simp at e
 | _,_,0,_,.cons r _,e=>by simp at e;subst e;exact ⟨_,rfl,r⟩
 | _,_,i+1,x,.cons _ t,e=>by
  obtain ⟨u,h1,h2⟩:=qBc.get (i:=i) (x:=x) t (by simpa using e)
  exact ⟨u,by simpa using h1,h2⟩
theorem qBc.append:∀ {xs ys:List V} {us ws:List Value},qBc xs us->qBc ys ws->qBc (xs++ys) (us++ws)
 | _,_,_,_,.nil,s=>s
 | _,_,_,_,.cons r t,s=>.cons r (qBc.append t s)
theorem qBc.take:∀ {xs:List V} {us:List Value} (n:Nat),qBc xs us->qBc (xs.take n) (us.take n)
 | _,_,0,_=>.nil
 | _,_,_+1,.nil=>.nil
 | _,_,n+1,.cons r t=>.cons r (qBc.take n t)
theorem qBc.drop:∀ {xs:List V} {us:List Value} (n:Nat),qBc xs us->qBc (xs.drop n) (us.drop n)
 | _,_,0,r=>r
 | _,_,_+1,.nil=>.nil
 | _,_,n+1,.cons _ t=>qBc.drop n t
def RelO:Option V->Option Value->Prop
 | some v,some u=>qCs v u
 | none,none=>True
 | _,_=>False
def KV {κ:Type}:List (κ×V)->List (κ×Value)->Prop:=Paired fun (p:κ×V) (q:κ×Value)=>p.1=q.1/\qCs p.2 q.2
def kV:Key->V
 | .inl i=>.int i
 | .inr x=>.str x
inductive HO where
  | lst (xs:List V)
  | tup (xs:List V)
  | dK (kvs:List (Key×V)) | dT (kvs:List (List Key×V))
  | set (S:Int->Bool) (n:Nat)
  | ins (C dx:Addr) (fs:List (Str×V))
  | own (x:Addr)
  | xd (fs:List (Str×V))
  | met (f x:Addr)
  | rng (lo hi:Int)
  | frz (o:Obj) (u:HO)
  | tbl (ps:Array Value)
  | ext (φ:Heap->Prop)
abbrev Hp:=Addr->Option HO
def upd (H:Hp) (a:Addr) (o:HO):Hp:=fun b=>if b=a then some o else H b
theorem upd_same {H:Hp} {a:Addr} {o:HO}:upd H a o a=some o:=by unfold upd;rw [if_pos rfl]
theorem qAm {H:Hp} {a b:Addr} {o:HO} (h:b≠a):upd H a o b=H b:=by unfold upd;rw [if_neg h]
theorem qAl {H:Hp} {a b:Addr} {o:HO} (h:H a=some o) (h':H b=none):a≠b:=by
 intro e;subst e;rw [h] at h';cases h'
section
variable (P:Program) (w:World)
def qC3 (H:Hp) (h:Heap) (a:Addr):HO->Prop
 | .lst xs=>xs.length<=sizeLine/\∃ (its:List Value) (n:Nat),qBc xs its/\h.get? a=some { cls:=.type "list",data:=.seq its.toArray n }
 | .tup xs=>xs.length<=sizeLine/\∃ its:List Value,qBc xs its/\IsTup h a its.toArray
 | .dK kvs=>kvs.length<=sizeLine/\(a == sysModules)=false/\∃ vs,KV kvs vs/\h.DictOf (mixKind P w) a vs
 | .dT kvs=>kvs.length<=sizeLine/\(a == sysModules)=false/\∃ xs:List (List Key×Addr×Value),
   Paired (fun (p:List Key×V) (q:List Key×Addr×Value)=>p.1=q.1/\H q.2.1=some (.tup (p.1.map kV))/\qCs p.2 q.2.2) kvs xs /\
   ∃ o es ep,h.get? a=some o/\o.ExactDict/\o.data = .dict es ep/\es.toList=xs.map (entryOfKey (tupleKind (mixKind P w)))/\(xs.map (·.1)).Nodup
 | .set S n=>h.SetOf (intKind P w) a S n
 | .ins C dx fs=>H dx=some (.own a)/\fs.length<=1000/\dx≠a/\h.get? a=some (PySem.W.instObj C dx) /\
   ∃ mA,h.Ns1 dx mA/\(∀ f,RelO (fs.lookup f) (mA f))/\PySem.Within mA (fs.map (·.1))
 | .own _=>∃ o,h.get? a=some o
 | .xd fs=>∃ mA,h.Ns1 a mA/\∀ f,RelO (fs.lookup f) (mA f)
 | .rng lo hi=>∃ t u v,h.get? a=some { cls:=.type "range",data:=.fields #[.int lo t,.int hi u,.int 1 v] }
 | .frz o u=>h.get? a=some o/\qC3 H h a u
 | .tbl ps=>h.get? a=some { cls:=.none,data:=.fields ps }
 | .met f x=>h.get? a=some (PySem.W.methodObj (.ref f) (.ref x))
 | .ext φ=>φ h/\(∃ o,h.get? a=some o)/\∀ h1 h2:Heap,φ h1->(∀ o,h1.get? a=some o->h2.get? a=some o)->φ h2
def HOk (H:Hp) (h:Heap):Prop:=∀ a o,H a=some o->qC3 P w H h a o
end
section
variable {P:Program} {w:World} {H H':Hp} {h h':Heap} {a:Addr} {o:HO}
theorem qC3.lt (x:qC3 P w H h a o):a<h.objs.size:=by
 cases o with
 | lst xs=>obtain ⟨_,_,_,_,e⟩:=x;exact Heap.lt_size e
 | tup xs=>obtain ⟨_,_,_,p⟩:=x;exact p.lt
 | dK kvs=>obtain ⟨_,_,_,_,o,_,_,e,_⟩:=x;exact Heap.lt_size e
 | dT kvs=>obtain ⟨_,_,_,_,o,_,_,e,_⟩:=x;exact Heap.lt_size e
 | set S n=>obtain ⟨o,_,_,_,e,_⟩:=x;exact Heap.lt_size e
 | ins C dx fs=>obtain ⟨_,_,_,e,_⟩:=x;exact Heap.lt_size e
 | own y=>obtain ⟨_,e⟩:=x;exact Heap.lt_size e
 | xd fs=>obtain ⟨_,⟨_,_,_,e,_⟩,_⟩:=x;exact Heap.lt_size e
 | rng lo hi=>obtain ⟨_,_,_,e⟩:=x;exact Heap.lt_size e
 | frz ob u=>obtain ⟨e,_⟩:=x;exact Heap.lt_size e
 | tbl ps=>exact Heap.lt_size (show h.get? a=some _ from x)
 | met f y=>exact Heap.lt_size (show h.get? a=some _ from x)
 | ext φ=>obtain ⟨_,⟨_,e⟩,_⟩:=x;exact Heap.lt_size e
theorem Paired.mapP {α β:Type} {F G:α->β->Prop}:∀ {l₁:List α} {l₂:List β},Paired F l₁ l₂->(∀ a b,F a b->G a b)->Paired G l₁ l₂
 | _,_,.nil,_=>.nil
 | _,_,.cons r t,f=>.cons (f _ _ r) (Paired.mapP t f)
theorem qC3.stay (x:qC3 P w H h a o) (k:∀ b u,(b=a\/H b=some (.own a))->h.get? b=some u->h'.get? b=some u)
  (ho:∀ b,H b=some (.own a)->H' b=some (.own a)) (ht:∀ b xs,H b=some (.tup xs)->H' b=some (.tup xs)):qC3 P w H' h' a o:=by
 induction o with
 | lst xs=>obtain ⟨z,its,n,r,e⟩:=x;exact ⟨z,its,n,r,k _ _ (.inl rfl) e⟩
 | tup xs=>obtain ⟨z,its,r,ob,e,c⟩:=x;exact ⟨z,its,r,ob,k _ _ (.inl rfl) e,c⟩
 | dK kvs=>obtain ⟨z,y,vs,r,ob,es,ep,e,c⟩:=x;exact ⟨z,y,vs,r,ob,es,ep,k _ _ (.inl rfl) e,c⟩
 | dT kvs =>
  obtain ⟨z,y,xs,r,ob,es,ep,e,c⟩:=x
  exact ⟨z,y,xs,Paired.mapP r fun p q z=>⟨z.1,ht _ _ z.2.1,z.2.2⟩,ob,es,ep,k _ _ (.inl rfl) e,c⟩
 | set S n=>obtain ⟨ob,es,ep,t,e,c⟩:=x;exact ⟨ob,es,ep,t,k _ _ (.inl rfl) e,c⟩
 | ins C dx fs =>
  obtain ⟨d,z,ne,e,mA,⟨od,es,ep,e2,c⟩,r⟩:=x
  exact ⟨ho _ d,z,ne,k _ _ (.inl rfl) e,mA,⟨od,es,ep,k _ _ (.inr d) e2,c⟩,r⟩
 | own y=>obtain ⟨ob,e⟩:=x;exact ⟨ob,k _ _ (.inl rfl) e⟩
 | xd fs=>obtain ⟨mA,⟨od,es,ep,e,c⟩,r⟩:=x;exact ⟨mA,⟨od,es,ep,k _ _ (.inl rfl) e,c⟩,r⟩
 | rng lo hi=>obtain ⟨t,u,v,e⟩:=x;exact ⟨t,u,v,k _ _ (.inl rfl) e⟩
 | frz ob u ih=>obtain ⟨e,q⟩:=x;exact ⟨k _ _ (.inl rfl) e,ih q⟩
 | tbl ps =>
  have e:h.get? a=some { cls:=.none,data:=.fields ps }:=x
  show h'.get? a=some { cls:=.none,data:=.fields ps }
  exact k a _ (.inl rfl) e
 | met f y =>
  have e:h.get? a=some (PySem.W.methodObj (.ref f) (.ref y)):=x
  show h'.get? a=some (PySem.W.methodObj (.ref f) (.ref y))
  exact k a _ (.inl rfl) e
 | ext φ=>obtain ⟨p,⟨o,e⟩,st⟩:=x;exact ⟨st _ _ p fun o q=>k _ _ (.inl rfl) q,⟨o,k _ _ (.inl rfl) e⟩,st⟩
theorem HOk.lt (x:HOk P w H h) (e:H a=some o):a<h.objs.size:=(x a o e).lt
theorem HOk.fresh (x:HOk P w H h) (e:h.objs.size<=a):H a=none:=by
 cases q:H a with
 | none=>rfl
 | some u=>exact absurd (Nat.lt_of_lt_of_le (x.lt q) e) (Nat.lt_irrefl _)
theorem HOk.kept (x:HOk P w H h) (k:∀ b u,h.get? b=some u->h'.get? b=some u):HOk P w H h':=fun a o e =>
 (x a o e).stay (fun b u _ q=>k b u q) (fun _ q=>q) fun _ _ q=>q
theorem HOk.laid (x:HOk P w H h) (k:∀ b u,h.get? b=some u->h'.get? b=some u) (hp:h.objs.size<=a) (new:qC3 P w (upd H a o) h' a o):HOk P w (upd H a o) h':=fun b u e=>by
 have hn:=x.fresh hp
 by_cases hb:b=a
 ·subst hb;rw [upd_same] at e;cases e;exact new
 ·rw [qAm hb] at e
  exact (x b u e).stay (fun c v _ q=>k c v q) (fun c q=>by rw [qAm (qAl q hn)];exact q) fun c xs q=>by rw [qAm (qAl q hn)];exact q
end
def Rd (H:Hp) (a:Addr) (u:HO):Prop:=H a=some u\/∃ o,H a=some (.frz o u)
theorem Rd.ok {P:Program} {w:World} {H:Hp} {h:Heap} {a:Addr} {u:HO} (r:Rd H a u) (x:HOk P w H h):qC3 P w H h a u:=by
 rcases r with r | ⟨o,r⟩
 ·exact x a u r
 ·obtain ⟨_,q⟩:=x a _ r
  exact q
def Mut:Option HO->Prop
 | some (.lst _)=>True
 | some (.dK _)=>True
 | some (.dT _)=>True
 | some (.set _ _)=>True
 | some (.ins _ _ _)=>True
 | some (.ext _)=>True
 | _=>False
section
variable {P:Program} {w:World} {H:Hp} {h h':Heap} {x e:Addr} {o':HO}
theorem HOk.write (ok:HOk P w H h) (mu:Mut (H x)) (he:e=x\/H e=some (.own x)) (k:∀ b u,b≠e->h.get? b=some u->h'.get? b=some u) (heo:∃ u,h'.get? e=some u)
  (new:qC3 P w (upd H x o') h' x o'):HOk P w (upd H x o') h':=fun b u q=>by
 have nown:∀ c y,H c=some (.own y)->c≠x:=fun c y r z=>by subst z;rw [r] at mu;exact mu
 have ntup:∀ c xs,H c=some (.tup xs)->c≠x:=fun c xs r z=>by subst z;rw [r] at mu;exact mu
 by_cases hb:b=x
 ·subst hb;rw [upd_same] at q;cases q;exact new
 ·rw [qAm hb] at q
  by_cases hbe:b=e
  ·have q':H b=some (.own x):=by
    rcases he with z | z
    ·exact absurd (hbe.trans z) hb
    ·rw [hbe];exact z
   rw [q] at q';cases q'
   obtain ⟨v,hv⟩:=heo
   exact ⟨v,by rw [hbe];exact hv⟩
  ·refine (ok b u q).stay (fun c v hc r=>k c v ?_ r) (fun c r=>by rw [qAm (nown c b r)];exact r) fun c xs r=>by rw [qAm (ntup c xs r)];exact r
   rcases hc with rfl | hc
   ·exact hbe
   ·rintro rfl
    rcases he with z | z
    ·exact nown c b hc z
    ·rw [hc] at z;cases z;exact hb rfl
end
structure Un (fs ex:List Addr) (H H':Hp) (h h':Heap):Prop where
 keep:∀ b o,h.get? b=some o->H b=none->b∉fs->b∉ex->h'.get? b=some o
 slot:∀ b o,h.get? b=some o->H b=none->b∈fs->b∉ex->∃ sl,h'.get? b=some { o with slots:=sl }
 free:∀ b o,h.get? b=some o->H b=none->b∉ex->H' b=none
 there:∀ b o,h.get? b=some o->b∉ex->∃ o',h'.get? b=some o'
 tups:∀ b xs,H b=some (.tup xs)->H' b=some (.tup xs)
 frzs:∀ b o u,H b=some (.frz o u)->H' b=some (.frz o u)
 tbls:∀ b ps,H b=some (.tbl ps)->∃ more,H' b=some (.tbl (ps++more))
section
variable {fs fs' ex ex':List Addr} {H H1 H2:Hp} {h h1 h2 h':Heap} {a x e:Addr} {o:HO}
theorem Un.any (u:Un fs ex H H1 h h1) {b:Addr} {ob:Obj} (q:h.get? b=some ob) (n:H b=none) (hx:b∉ex):∃ sl,h1.get? b=some { ob with slots:=sl }:=by
 by_cases hb:b∈fs
 ·exact u.slot b ob q n hb hx
 ·exact ⟨ob.slots,u.keep b ob q n hb hx⟩
theorem Un.kept (k:∀ b u,h.get? b=some u->h'.get? b=some u):Un fs ex H H h h' :=
 ⟨fun b ob q _ _ _=>k b ob q,fun b ob q _ _ _=>⟨ob.slots,k b ob q⟩,fun _ _ _ n _=>n,fun b ob q _=>⟨ob,k b ob q⟩,fun _ _ q=>q,fun _ _ _ q=>q,fun _ ps q=>⟨#[],by rw [q];simp⟩⟩
theorem Un.refl:Un fs ex H H h h:=Un.kept fun _ _ q=>q
theorem Un.laid (k:∀ b u,h.get? b=some u->h'.get? b=some u) (hp:h.objs.size<=a) (hn:H a=none):Un fs ex H (upd H a o) h h' where
 keep:=fun b u q _ _ _=>k b u q
 slot:=fun b u q _ _ _=>⟨u.slots,k b u q⟩
 free:=fun b u q n _=>by rw [qAm (Nat.ne_of_lt (Nat.lt_of_lt_of_le (Heap.lt_size q) hp))];exact n
 there:=fun b u q _=>⟨u,k b u q⟩
 tups:=fun b xs q=>by rw [qAm (qAl q hn)];exact q
 frzs:=fun b u xs q=>by rw [qAm (qAl q hn)];exact q
 tbls:=fun b ps q=>⟨#[],by rw [qAm (qAl q hn),q];simp⟩
theorem Un.write (mu:Mut (H x)) (he:e=x\/H e=some (.own x)) (k:∀ b u,b≠e->h.get? b=some u->h'.get? b=some u) (heo:∃ u,h'.get? e=some u):Un fs ex H (upd H x o) h h':=by
 have hx:∀ b,H b=none->b≠x:=fun b n z=>by subst z;rw [n] at mu;exact mu
 have hb:∀ b,H b=none->b≠e:=fun b n z=>by
  subst z
  rcases he with r | r
  ·exact hx b n r
  ·rw [n] at r;cases r
 have hm:∀ b u,H b=some u->¬Mut (some u)->b≠x:=fun b u q nm z=>by subst z;rw [q] at mu;exact nm mu
 refine ⟨fun b u q n _ _=>k b u (hb b n) q,fun b u q n _ _=>⟨u.slots,k b u (hb b n) q⟩,fun b u q n _=>by rw [qAm (hx b n)];exact n,fun b u q _=>?_,
  fun b xs q=>by rw [qAm (hm b _ q fun z=>z)];exact q,fun b u xs q=>by rw [qAm (hm b _ q fun z=>z)];exact q,fun b ps q=>⟨#[],by rw [qAm (hm b _ q fun z=>z),q];simp⟩⟩
 by_cases hbe:b=e
 ·subst hbe;exact heo
 ·exact ⟨u,k b u hbe q⟩
end
def trk (h:Heap) (H:Hp):List Addr:=(List.range h.objs.size).filter fun a=>(H a).isSome
def hidT (h:Heap) (H:Hp):Heap:=PySem.W.hideAll h (trk h H)
theorem hidT_size (h:Heap) (H:Hp):(hidT h H).objs.size=h.objs.size:=PySem.W.hideAll_size _ _
theorem hidT_get {h:Heap} {H:Hp} {b:Addr} {o:Obj} (e:h.get? b=some o) (n:H b=none):(hidT h H).get? b=some o :=
 PySem.W.hideAll_get _ e fun hm=>by
  have q:(H b).isSome=true:=(List.mem_filter.mp hm).2
  rw [n] at q;simp at q
theorem of_hidT {h:Heap} {H:Hp} {b:Addr} {o:Obj} (e:(hidT h H).get? b=some o):h.get? b=some o/\H b=none:=by
 have e':h.get? b=some o:=PySem.W.of_hideAll (trk h H) e
 refine ⟨e',?_⟩
 cases q:H b with
 | none=>rfl
 | some x =>
  have hm:b∈trk h H:=List.mem_filter.mpr ⟨List.mem_range.mpr (Heap.lt_size e'),by simp [q]⟩
  have z:(hidT h H).get? b=none:=PySem.W.hideAll_none (trk h H) hm
  rw [z] at e;cases e
def allNews (g h:Heap) (L:Addr):List (Addr×Obj):=(List.range h.objs.size).filterMap fun a=>if a=L\/(g.get? a).isSome=true then none else (h.get? a).map fun o=>(a,o)
def rest (g h:Heap) (L d:Addr):List (Addr×Obj):=(allNews g h L).filter fun p=>decide (p.1≠d)
end L2
namespace L2
open PySem PySem.Spec PyProof.Rows
structure Mod (K:PySem.W.Frag) (mg:Str->Option Value) (base:Heap):Prop where
 kin:K.In base
 glob:base.Ns mainGlobals mg
 blt:∃ mb,base.Ns builtinsNs mb/\∀ x:Str,x≠"__name__"->mb x=bootBuiltins x
 nolimit:base.NoLimit
structure Cx where
 prog:Program
 w:World
 K:PySem.W.Frag
 mg:Str->Option Value
 base:Heap
 A:Around
 N:List Str
 s₀:Shared
 H₀:Hp
 env:Env
 outer:List Env
 stack:List Env
 ex:List Addr
 fn:Str->Bool
 calm:Bool
 pn:List (Addr×Obj)
 xe:Value->Shared->Prop
def frs (l:List Env):List Addr:=l.filterMap (·.frame)
abbrev Cx.fs (X:Cx):List Addr:=frs X.outer
def Vis (sc:Scope) (x:Str):Prop:=sc.names.lookup x=some .local\/sc.names.lookup x=some .cell\/sc.names.lookup x=some .free
def Loc (sc:Scope) (x:Str):Prop:=sc.names.lookup x=some .local\/sc.names.lookup x=some .cell
def Look (env:Env) (h:Heap) (m:Str->Option Value) (x:Str) (u:Value):Prop :=
 (env.kindOf x=some .local/\m x=some u)\/((env.kindOf x=some .cell\/env.kindOf x=some .free)/\∃ c,env.cells.lookup x=some c/\h.IsCell c (some u))
structure Cx.Ok (X:Cx):Prop where
 mod:Mod X.K X.mg X.base
 kind:X.env.scope.kind = .function
 glob:X.env.globals=mainGlobals
 blt:X.env.builtins=builtinsNs
 above:X.s₀.heap.objs.size<=X.env.locals
 inj:∀ x y c,X.env.cells.lookup x=some c->X.env.cells.lookup y=some c->x=y
 has:∀ x,(X.env.kindOf x=some .cell\/X.env.kindOf x=some .free)->∃ c,X.env.cells.lookup x=some c
 cab:∀ x c,X.fn x=true->X.env.cells.lookup x=some c->X.s₀.heap.objs.size<=c
 hd:X.calm=true->X.A.handled=none
 frames:X.A.frames=some X.stack
 stk:X.stack=X.outer\/(X.stack=X.env :: X.outer/\X.env.frame=some X.env.locals)
 exf:∀ b∈X.ex,b≠X.env.locals/\∀ x c,X.env.cells.lookup x=some c->c≠b
 bs:∀ b o,X.base.get? b=some o->X.s₀.heap.get? b=some o/\X.H₀ b=none
 bsz:X.base.objs.size<=X.s₀.heap.objs.size
 noex:∀ b o,X.base.get? b=some o->b∉X.ex
 exfs:∀ b∈X.ex,b∉X.fs
 funs:X.s₀.heap.FunFrames X.base X.outer
 frf:∀ b∈X.fs,X.H₀ b=none
structure Inv (X:Cx) (pins:List (Addr×Obj)) (σ:List (Option V)) (H:Hp) (s:Shared):Prop where
 ok:X.Ok
 os:s.os=X.s₀.os
 bare:AllBare s.gens
 base:Un X.fs X.ex X.H₀ H X.s₀.heap s.heap
 loc:∃ m,s.heap.Ns X.env.locals m/\∀ (i:Nat) (x:Str) (v:V),X.N[i]?=some x->σ[i]?=some (some v)->Vis X.env.scope x->∃ u,qCs v u/\Look X.env s.heap m x u
 cell:∀ x c,X.env.cells.lookup x=some c->∃ v,s.heap.IsCell c v
 free:H X.env.locals=none
 freeC:∀ x c,X.env.cells.lookup x=some c->H c=none
 pin:∀ p∈X.pn++pins,s.heap.get? p.1=some p.2/\H p.1=none/\p.1≠X.env.locals/\p.1∉X.fs/\∀ v,p.2.data≠.cell v
 hok:HOk X.prog X.w H s.heap
 len:σ.length=X.N.length
section
variable {X:Cx} {pins:List (Addr×Obj)} {σ:List (Option V)} {H H':Hp} {s:Shared} {h':Heap}
theorem Cx.Ok.nofr (ok:X.Ok) {b:Addr} {o:Obj} (e:X.base.get? b=some o):b∉X.fs:=fun hb=>by
 have:=(ok.funs.mem hb).1
 rw [e] at this;cases this
theorem Inv.bs (I:Inv X pins σ H s):∀ b o,X.base.get? b=some o->s.heap.get? b=some o/\H b=none:=fun b o e =>
 ⟨I.base.keep b o (I.ok.bs b o e).1 (I.ok.bs b o e).2 (I.ok.nofr e) (I.ok.noex b o e),I.base.free b o (I.ok.bs b o e).1 (I.ok.bs b o e).2 (I.ok.noex b o e)⟩
theorem Inv.bk (I:Inv X pins σ H s):∀ b o,X.base.get? b=some o->s.heap.get? b=some o:=fun b o e=>(I.bs b o e).1
theorem Inv.mod (I:Inv X pins σ H s):Mod X.K X.mg X.base:=I.ok.mod
theorem Inv.kIn (I:Inv X pins σ H s):X.K.In s.heap:=I.ok.mod.kin.keeps I.bk
theorem Inv.lt (I:Inv X pins σ H s):X.env.locals<s.heap.objs.size:=let ⟨_,hn,_⟩:=I.loc;hn.lt
theorem Inv.sz (I:Inv X pins σ H s):X.s₀.heap.objs.size<=s.heap.objs.size:=Nat.le_trans I.ok.above (Nat.le_of_lt I.lt)
theorem Inv.nofs (I:Inv X pins σ H s) {a:Addr} (h:s.heap.objs.size<=a):a∉X.fs:=fun hb=>by
 obtain ⟨_,o,ho,_⟩:=I.ok.funs.mem hb
 exact absurd (Nat.lt_of_lt_of_le (Heap.lt_size ho) (Nat.le_trans I.sz h)) (Nat.lt_irrefl _)
theorem Inv.cne (I:Inv X pins σ H s):∀ x c,X.env.cells.lookup x=some c->c≠X.env.locals:=fun x c e z=>by
 obtain ⟨v,o,ho,hd⟩:=I.cell x c e
 obtain ⟨m,⟨o',es,ep,ho',hd',_⟩,_⟩:=I.loc
 rw [z,ho'] at ho;cases ho;rw [hd'] at hd;cases hd
theorem Inv.funs (I:Inv X pins σ H s):s.heap.FunFrames X.base X.outer:=by
 have all:∀ (l:List Env),(∀ b∈frs l,b∈X.fs)->X.s₀.heap.FunFrames X.base l->s.heap.FunFrames X.base l:=by
  intro l
  induction l with
  | nil=>intro _ _;trivial
  | cons env r ih =>
   intro hs hl
   obtain ⟨hk,⟨L,o,hf,hn,ho,hd⟩,hr⟩:=hl
   have hL:L∈X.fs:=hs L (by unfold frs;rw [List.filterMap_cons,hf];exact List.mem_cons_self)
   obtain ⟨sl,e⟩:=I.base.slot L o ho (I.ok.frf L hL) hL fun z=>I.ok.exfs L z hL
   exact ⟨hk,⟨L,_,hf,hn,e,hd⟩,ih (fun b hb=>hs b (by unfold frs;rw [List.filterMap_cons,hf];exact List.mem_cons_of_mem _ hb)) hr⟩
 exact all X.outer (fun _ hb=>hb) I.ok.funs
theorem Inv.stack (I:Inv X pins σ H s):s.heap.FunFrames X.base X.stack:=by
 rcases I.ok.stk with e | ⟨e,hf⟩
 ·rw [e];exact I.funs
 ·rw [e]
  obtain ⟨m,hn,_⟩:=I.loc
  refine .cons (by rw [I.ok.kind];decide) hf hn ?_ I.funs
  exact Heap.get?_none_of_le (Nat.le_trans I.ok.bsz I.ok.above)
theorem Inv.stkSub (I:Inv X pins σ H s):∀ b∈frs X.stack,b∈X.env.locals :: X.fs:=fun b hb=>by
 rcases I.ok.stk with e | ⟨e,hf⟩
 ·rw [e] at hb;exact List.mem_cons_of_mem _ hb
 ·rw [e] at hb
  unfold frs at hb
  rw [List.filterMap_cons,hf] at hb
  exact hb
theorem Inv.stkFree (I:Inv X pins σ H s):∀ b∈frs X.stack,H b=none:=fun b hb=>by
 rcases List.mem_cons.mp (I.stkSub b hb) with e | hb
 ·rw [e];exact I.free
 ·obtain ⟨_,o,ho,_⟩:=I.ok.funs.mem hb
  exact I.base.free b o ho (I.ok.frf b hb) fun z=>I.ok.exfs b z hb
theorem Inv.step {g':Array GenState} {t':Nat} {d':Drawn} {ch:List Addr} (I:Inv X pins σ H s)
  (hch:∀ b∈ch,(b∈X.ex\/X.s₀.heap.objs.size<=b)/\b≠X.env.locals/\(∀ x c,X.env.cells.lookup x=some c->c≠b)/\∀ p∈X.pn++pins,p.1≠b)
  (keep:∀ b o,b≠X.env.locals->b∉X.fs->b∉ch->s.heap.get? b=some o->H b=none->h'.get? b=some o)
  (slot:∀ b o,b≠X.env.locals->b∈X.fs->b∉ch->s.heap.get? b=some o->H b=none->∃ sl,h'.get? b=some { o with slots:=sl }) (free:∀ b o,b∉ch->s.heap.get? b=some o->H b=none->H' b=none)
  (there:∀ b o,b∉ch->s.heap.get? b=some o->∃ o',h'.get? b=some o')
  (tups:∀ b xs,H b=some (.tup xs)->H' b=some (.tup xs)) (frzs:∀ b o u,H b=some (.frz o u)->H' b=some (.frz o u)) (tbls:∀ b ps,H b=some (.tbl ps)->∃ more,H' b=some (.tbl (ps++more)))
  (ns:∀ m,s.heap.Ns X.env.locals m->h'.Ns X.env.locals m) (hok:HOk X.prog X.w H' h') (hg:AllBare g') :
  Inv X pins σ H' { s with heap:=h',gens:=g',drawn:=d',toks:=t' }:=by
 have neL:∀ b o,X.s₀.heap.get? b=some o->b≠X.env.locals:=fun b o e=>Nat.ne_of_lt (Nat.lt_of_lt_of_le (Heap.lt_size e) I.ok.above)
 have neC:∀ b o,X.s₀.heap.get? b=some o->b∉X.ex->b∉ch:=fun b o e hx hb=>by
  rcases (hch b hb).1 with z | z
  ·exact hx z
  ·exact absurd (Nat.lt_of_lt_of_le (Heap.lt_size e) z) (Nat.lt_irrefl _)
 have cellK:∀ x c,X.env.cells.lookup x=some c->∀ v,s.heap.IsCell c v->h'.IsCell c v:=fun x c e v ⟨o,ho,hd⟩=>by
  have nch:c∉ch:=fun z=>(hch c z).2.2.1 x c e rfl
  by_cases hc:c∈X.fs
  ·obtain ⟨sl,q⟩:=slot c o (I.cne x c e) hc nch ho (I.freeC x c e)
   exact ⟨_,q,hd⟩
  ·exact ⟨o,keep c o (I.cne x c e) hc nch ho (I.freeC x c e),hd⟩
 refine ⟨I.ok,I.os,hg,⟨fun b o e n hb hx=>?_,fun b o e n hb hx=>?_,fun b o e n hx=>?_,fun b o e hx=>?_,fun b xs e=>tups b xs (I.base.tups b xs e),fun b o xs e=>frzs b o xs (I.base.frzs b o xs e),fun b ps e=>?_⟩,?_,fun x c e=>?_,?_,fun x c e=>?_,fun p hp=>?_,hok,I.len⟩
 ·exact keep b o (neL b o e) hb (neC b o e hx) (I.base.keep b o e n hb hx) (I.base.free b o e n hx)
 ·obtain ⟨sl,e1⟩:=I.base.slot b o e n hb hx
  obtain ⟨sl',e2⟩:=slot b _ (neL b o e) hb (neC b o e hx) e1 (I.base.free b o e n hx)
  exact ⟨sl',e2⟩
 ·obtain ⟨o',e1⟩:=I.base.there b o e hx
  exact free b o' (neC b o e hx) e1 (I.base.free b o e n hx)
 ·obtain ⟨o',e1⟩:=I.base.there b o e hx
  exact there b o' (neC b o e hx) e1
 ·obtain ⟨m1,e1⟩:=I.base.tbls b ps e
  obtain ⟨m2,e2⟩:=tbls b _ e1
  exact ⟨m1++m2,by rw [e2,Array.append_assoc]⟩
 ·obtain ⟨m,hn,hl⟩:=I.loc
  refine ⟨m,ns m hn,fun i x v e1 e2 e3=>?_⟩
  obtain ⟨u,r,l⟩:=hl i x v e1 e2 e3
  refine ⟨u,r,?_⟩
  rcases l with l | ⟨k,c,e,z⟩
  ·exact .inl l
  ·exact .inr ⟨k,c,e,cellK x c e _ z⟩
 ·obtain ⟨v,z⟩:=I.cell x c e
  exact ⟨v,cellK x c e v z⟩
 ·obtain ⟨m,⟨o,_,_,ho,_⟩,_⟩:=I.loc
  exact free _ o (fun z=>(hch _ z).2.1 rfl) ho I.free
 ·obtain ⟨v,o,ho,hd⟩:=I.cell x c e
  exact free c o (fun z=>(hch c z).2.2.1 x c e rfl) ho (I.freeC x c e)
 ·obtain ⟨e,n,ne,nf,d⟩:=I.pin p hp
  have nch:p.1∉ch:=fun z=>(hch p.1 z).2.2.2 p hp rfl
  exact ⟨keep p.1 p.2 ne nf nch e n,free p.1 p.2 nch e n,ne,nf,d⟩
theorem Inv.un {t':Nat} (I:Inv X pins σ H s) (u:Un X.fs [] H H' s.heap h') (hok:HOk X.prog X.w H' h'):Inv X pins σ H' { s with heap:=h',toks:=t' }:=by
 obtain ⟨m,⟨o,es,ep,ho,r⟩,_⟩:=id I.loc
 obtain ⟨sl,hL⟩:=u.any ho I.free (by simp)
 exact I.step (g':=s.gens) (d':=s.drawn) (ch:=[]) (fun _ z=>nomatch z) (fun b o _ hb _ e n=>u.keep b o e n hb (by simp)) (fun b o _ hb _ e n=>u.slot b o e n hb (by simp)) (fun b o _ e n=>u.free b o e n (by simp)) (fun b o _ e=>u.there b o e (by simp)) u.tups u.frzs u.tbls (fun m' hm=>by
  obtain ⟨o',es',ep',ho',r'⟩:=hm
  rw [ho] at ho';cases ho'
  exact ⟨_,es',ep',hL,r'⟩) hok I.bare
theorem Inv.call {g':Array GenState} {t':Nat} {d':Drawn} {ch:List Addr} (I:Inv X pins σ H s) (u:Un (frs X.stack) ch H H' s.heap h') (hok:HOk X.prog X.w H' h') (hg:AllBare g')
  (hch:∀ b∈ch,(b∈X.ex\/X.s₀.heap.objs.size<=b)/\b≠X.env.locals/\(∀ x c,X.env.cells.lookup x=some c->c≠b)/\∀ p∈X.pn++pins,p.1≠b) :
  Inv X pins σ H' { s with heap:=h',gens:=g',drawn:=d',toks:=t' }:=by
 obtain ⟨m,⟨o,es,ep,ho,r⟩,_⟩:=id I.loc
 obtain ⟨sl,hL⟩:=u.any ho I.free fun z=>(hch _ z).2.1 rfl
 exact I.step (ch:=ch) hch (fun b o hL hb hc e n=>u.keep b o e n (fun z=>(List.mem_cons.mp (I.stkSub b z)).elim hL hb) hc) (fun b o _ _ hc e n=>u.any e n hc) (fun b o hc e n=>u.free b o e n hc) (fun b o hc e=>u.there b o e hc) u.tups u.frzs u.tbls (fun m' hm=>by
  obtain ⟨o',es',ep',ho',r'⟩:=hm
  rw [ho] at ho';cases ho'
  exact ⟨_,es',ep',hL,r'⟩) hok hg
theorem Inv.turned {t':Nat} {it:Addr} (I:Inv X pins σ H s) (k:∀ b o,b≠it->s.heap.get? b=some o->h'.get? b=some o) (hn:H it=none) (hL:it≠X.env.locals)
  (h1:it∈X.ex\/X.s₀.heap.objs.size<=it) (h2:∀ x c,X.env.cells.lookup x=some c->c≠it) (h3:∀ p∈X.pn++pins,p.1≠it):Inv X pins σ H { s with heap:=h',toks:=t' }:=by
 have nit:∀ b u,H b=some u->b≠it:=fun b u e z=>by rw [z,hn] at e;cases e
 refine I.step (g':=s.gens) (d':=s.drawn) (ch:=[it]) (fun b hb=>?_) (fun b o _ _ hc e _=>k b o (fun z=>hc (by simp [z])) e) (fun b o _ _ hc e _=>⟨o.slots,k b o (fun z=>hc (by simp [z])) e⟩) (fun _ _ _ _ n=>n)
  (fun b o hc e=>⟨o,k b o (fun z=>hc (by simp [z])) e⟩) (fun _ _ e=>e) (fun _ _ _ e=>e) (fun b ps e=>⟨#[],by rw [e];simp⟩) (fun m hm=>?_) (fun b u e=>?_) I.bare
 ·have e:b=it:=by simpa using hb
  subst e
  exact ⟨h1,hL,h2,h3⟩
 ·obtain ⟨o,es,ep,ho,r⟩:=hm
  exact ⟨o,es,ep,k _ o (Ne.symm hL) ho,r⟩
 ·refine (I.hok b u e).stay (fun c v hc q=>k c v ?_ q) (fun _ q=>q) fun _ _ q=>q
  rcases hc with z | z
  ·rw [z];exact nit b u e
  ·exact nit c _ z
theorem Inv.tok (I:Inv X pins σ H s) (t:Nat):Inv X pins σ H { s with toks:=t }:=I.un (h':=s.heap) (t':=t) Un.refl I.hok
theorem Inv.kept {t':Nat} (I:Inv X pins σ H s) (k:∀ b u,s.heap.get? b=some u->h'.get? b=some u):Inv X pins σ H { s with heap:=h',toks:=t' }:=I.un (Un.kept k) (I.hok.kept k)
theorem Inv.laid {a:Addr} {o:HO} {t':Nat} (I:Inv X pins σ H s) (k:∀ b u,s.heap.get? b=some u->h'.get? b=some u) (hp:s.heap.objs.size<=a) (new:qC3 X.prog X.w (upd H a o) h' a o) :
  Inv X pins σ (upd H a o) { s with heap:=h',toks:=t' }:=I.un (Un.laid k hp (I.hok.fresh hp)) (I.hok.laid k hp new)
theorem Inv.write {x e:Addr} {o:HO} {t':Nat} (I:Inv X pins σ H s) (mu:Mut (H x)) (he:e=x\/H e=some (.own x)) (k:∀ b u,b≠e->s.heap.get? b=some u->h'.get? b=some u) (heo:∃ u,h'.get? e=some u)
  (new:qC3 X.prog X.w (upd H x o) h' x o):Inv X pins σ (upd H x o) { s with heap:=h',toks:=t' }:=I.un (Un.write mu he k heo) (I.hok.write mu he k heo new)
theorem Inv.weak {σ':List (Option V)} (I:Inv X pins σ H s) (hl:σ'.length=σ.length) (w:∀ (i:Nat) v,σ'[i]?=some (some v)->σ[i]?=some (some v)):Inv X pins σ' H s :=
 ⟨I.ok,I.os,I.bare,I.base,let ⟨m,hn,hl'⟩:=I.loc;⟨m,hn,fun i x v e1 e2 e3=>hl' i x v e1 (w i v e2) e3⟩,I.cell,I.free,I.freeC,I.pin,I.hok,hl.trans I.len⟩
theorem Inv.pins_of {pins':List (Addr×Obj)} (I:Inv X pins σ H s) (h:∀ p∈pins',s.heap.get? p.1=some p.2/\H p.1=none/\p.1≠X.env.locals/\p.1∉X.fs/\∀ v,p.2.data≠.cell v):Inv X pins' σ H s :=
 ⟨I.ok,I.os,I.bare,I.base,I.loc,I.cell,I.free,I.freeC,fun p hp=>(List.mem_append.mp hp).elim (fun z=>I.pin p (List.mem_append_left _ z)) (h p),I.hok,I.len⟩
theorem nodup_ix {N:List Str} (hN:N.Nodup) {i j:Nat} {x:Str} (a:N[i]?=some x) (b:N[j]?=some x):i=j:=by
 obtain ⟨h1,e1⟩:=List.getElem?_eq_some_iff.mp a
 obtain ⟨h2,e2⟩:=List.getElem?_eq_some_iff.mp b
 exact (List.getElem_inj hN).mp (e1.trans e2.symm)
theorem store_ok2 {M:Model} {A:Around} {E:Value->Shared->Prop} {i:Nat} {x:Str} {v:V} {u:Value} {Q:Unit->Shared->Prop} (I:Inv X pins σ H s) (hN:X.N.Nodup) (hi:X.N[i]?=some x) (hx:Loc X.env.scope x) (r:qCs v u)
  (h:∀ s',Inv X pins (σ.set i (some v)) H s'->(∃ a,Heap.SameBut a s.heap s'.heap/\(a=X.env.locals\/X.env.cells.lookup x=some a))->Q () s') (hf:X.fn x=true\/X.env.scope.names.lookup x=some .local:=by first | exact .inl rfl | exact .inr rfl | assumption):wpAny M A (storeName X.env x u) Q E s:=by
 obtain ⟨m,hn,hl⟩:=id I.loc
 have hcls:(X.env.scope.kind == .class || (X.env.scope.kind == .module && X.env.locals != X.env.globals))=false:=by rw [I.ok.kind];rfl
 have hiσ:i < σ.length:=by rw [I.len];exact (List.getElem?_eq_some_iff.mp hi).1
 have cne:=I.cne
 have tracked:∀ {a:Addr} {h':Heap},(∃ o,s.heap.get? a=some o/\H a=none)->Heap.SameBut a s.heap h'->HOk X.prog X.w H h':=fun {a h'} ha hs b ob e=>by
  obtain ⟨_,_,hfree⟩:=ha
  refine (I.hok b ob e).stay (fun c w' hc q=>(hs.2 c ?_).trans q) (fun _ q=>q) fun _ _ q=>q
  rintro rfl
  rcases hc with rfl | hc
  ·rw [hfree] at e;cases e
  ·rw [hfree] at hc;cases hc
 rcases hx with hk | hk
 ·refine wpAny_storeName_local hk hn (fun h' hn' hs=>?_) hcls
  obtain ⟨oL,_,_,hoL,_⟩:=id hn
  refine h _ ⟨I.ok,I.os,I.bare,⟨fun b o e n hb hx=>?_,fun b o e n hb hx=>?_,I.base.free,fun b o e hx=>?_,I.base.tups,I.base.frzs,I.base.tbls⟩,⟨_,hn',fun j y v' e1 e2 e3=>?_⟩,fun y c e=>?_,I.free,I.freeC,fun p hp=>?_,tracked ⟨oL,hoL,I.free⟩ hs,by simpa using I.len⟩ ⟨_,hs,.inl rfl⟩
  ·exact (hs.2 b (Nat.ne_of_lt (Nat.lt_of_lt_of_le (Heap.lt_size e) I.ok.above))).trans (I.base.keep b o e n hb hx)
  ·obtain ⟨sl,e1⟩:=I.base.slot b o e n hb hx
   exact ⟨sl,(hs.2 b (Nat.ne_of_lt (Nat.lt_of_lt_of_le (Heap.lt_size e) I.ok.above))).trans e1⟩
  ·obtain ⟨o',e1⟩:=I.base.there b o e hx
   exact ⟨o',(hs.2 b (Nat.ne_of_lt (Nat.lt_of_lt_of_le (Heap.lt_size e) I.ok.above))).trans e1⟩
  ·by_cases hj:j=i
   ·subst hj
    rw [hi] at e1;cases e1
    rw [List.getElem?_set_self hiσ] at e2
    cases e2
    exact ⟨u,r,.inl ⟨hk,by simp⟩⟩
   ·rw [List.getElem?_set_ne (Ne.symm hj)] at e2
    obtain ⟨u',r',q⟩:=hl j y v' e1 e2 e3
    refine ⟨u',r',?_⟩
    rcases q with ⟨k,e⟩ | ⟨k,c,e,z⟩
    ·refine .inl ⟨k,?_⟩
     have:y≠x:=fun e=>hj (nodup_ix hN e1 (e▸hi))
     simp [this,e]
    ·exact .inr ⟨k,c,e,z.sameBut hs (cne y c e)⟩
  ·obtain ⟨w',z⟩:=I.cell y c e
   exact ⟨w',z.sameBut hs (cne y c e)⟩
  ·obtain ⟨e,n,ne,nf,d⟩:=I.pin p hp
   exact ⟨(hs.2 p.1 ne).trans e,n,ne,nf,d⟩
 ·have hfn:X.fn x=true:=by
   rcases hf with z | z
   ·exact z
   ·rw [z] at hk;cases hk
  obtain ⟨c,hc⟩:=I.ok.has x (.inl hk)
  obtain ⟨w',z⟩:=I.cell x c hc
  refine wpAny_storeName_cell I.ok.kind hk hc z (fun h' hc' hs=>?_)
  obtain ⟨oc,hoc,hocd⟩:=id z
  refine h { s with heap:=h' } ⟨I.ok,I.os,I.bare,⟨fun b o e n hb hx=>?_,fun b o e n hb hx=>?_,I.base.free,fun b o e hx=>?_,I.base.tups,I.base.frzs,I.base.tbls⟩,⟨m,hn.sameBut hs (Ne.symm (cne x c hc)),fun j y v' e1 e2 e3=>?_⟩,fun y c' e=>?_,I.free,I.freeC,fun p hp=>?_,tracked ⟨oc,hoc,I.freeC x c hc⟩ hs,by simpa using I.len⟩ ⟨c,hs,.inr hc⟩
  ·exact (hs.2 b (Nat.ne_of_lt (Nat.lt_of_lt_of_le (Heap.lt_size e) (I.ok.cab x c hfn hc)))).trans (I.base.keep b o e n hb hx)
  ·obtain ⟨sl,e1⟩:=I.base.slot b o e n hb hx
   exact ⟨sl,(hs.2 b (Nat.ne_of_lt (Nat.lt_of_lt_of_le (Heap.lt_size e) (I.ok.cab x c hfn hc)))).trans e1⟩
  ·obtain ⟨o',e1⟩:=I.base.there b o e hx
   exact ⟨o',(hs.2 b (Nat.ne_of_lt (Nat.lt_of_lt_of_le (Heap.lt_size e) (I.ok.cab x c hfn hc)))).trans e1⟩
  ·by_cases hj:j=i
   ·subst hj
    rw [hi] at e1;cases e1
    rw [List.getElem?_set_self hiσ] at e2
    cases e2
    exact ⟨u,r,.inr ⟨.inl hk,c,hc,hc'⟩⟩
   ·rw [List.getElem?_set_ne (Ne.symm hj)] at e2
    obtain ⟨u',r',q⟩:=hl j y v' e1 e2 e3
    refine ⟨u',r',?_⟩
    rcases q with q | ⟨k,c',e,z'⟩
    ·exact .inl q
    ·refine .inr ⟨k,c',e,z'.sameBut hs ?_⟩
     rintro rfl
     exact hj (nodup_ix hN e1 (I.ok.inj _ _ _ e hc▸hi))
  ·by_cases hcc:c'=c
   ·subst hcc;exact ⟨_,hc'⟩
   ·obtain ⟨w2,z2⟩:=I.cell y c' e
    exact ⟨w2,z2.sameBut hs hcc⟩
  ·obtain ⟨e,n,ne,nf,d⟩:=I.pin p hp
   refine ⟨(hs.2 p.1 ?_).trans e,n,ne,nf,d⟩
   intro q
   rw [q,hoc] at e
   have q':oc=p.2:=Option.some.inj e
   exact d w' (by rw [<-q'];exact hocd)
theorem store_ok {M:Model} {A:Around} {E:Value->Shared->Prop} {i:Nat} {x:Str} {v:V} {u:Value} {Q:Unit->Shared->Prop} (I:Inv X pins σ H s) (hN:X.N.Nodup) (hi:X.N[i]?=some x) (hx:Loc X.env.scope x) (r:qCs v u)
  (h:∀ s',Inv X pins (σ.set i (some v)) H s'->Q () s') (hf:X.fn x=true\/X.env.scope.names.lookup x=some .local:=by first | exact .inl rfl | exact .inr rfl | assumption):wpAny M A (storeName X.env x u) Q E s :=
 store_ok2 I hN hi hx r (fun s' I' _=>h s' I') hf
theorem Inv.call' {s':Shared} {ch:List Addr} (I:Inv X pins σ H s) (ho:s'.os=s.os) (u:Un (frs X.stack) ch H H' s.heap s'.heap) (hok:HOk X.prog X.w H' s'.heap) (hg:AllBare s'.gens)
  (hch:∀ b∈ch,(b∈X.ex\/X.s₀.heap.objs.size<=b)/\b≠X.env.locals/\(∀ x c,X.env.cells.lookup x=some c->c≠b)/\∀ p∈X.pn++pins,p.1≠b):Inv X pins σ H' s':=by
 obtain ⟨h',g',d',t',o'⟩:=s'
 have e:o'=s.os:=ho
 subst e
 exact I.call (g':=g') (t':=t') (d':=d') u hok hg hch
end
abbrev XK:=Value->Option Addr->Hp->Prop
abbrev St:=List (Option V)
abbrev VK:=V->Hp->Prop
abbrev TE:=St->Hp->VK->Prop
abbrev TT:=St->Hp->(Bool->Hp->Prop)->Prop
abbrev TA:=St->Hp->(List V->Hp->Prop)->Prop
structure Ends where
 nx:St->Hp->Prop
 rt:VK
 bk:St->Hp->Prop:=fun _ _=>False
 ct:St->Hp->Prop:=fun _ _=>False
abbrev TS:=Ends->St->Hp->Prop
def EP (X:Cx) (pins:List (Addr×Obj)) (σ:St) (Q:VK) (u:Value) (s':Shared):Prop:=∃ v H',Inv X pins σ H' s'/\qCs v u/\Q v H'
def TP (X:Cx) (pins:List (Addr×Obj)) (σ:St) (Q:Bool->Hp->Prop) (b:Bool) (s':Shared):Prop:=∃ H',Inv X pins σ H' s'/\Q b H'
def AP (X:Cx) (pins:List (Addr×Obj)) (σ:St) (Q:List V->Hp->Prop) (us:List Value) (s':Shared):Prop:=∃ vs H',Inv X pins σ H' s'/\qBc vs us/\Q vs H'
def SP (X:Cx) (pins:List (Addr×Obj)) (D:Ends) (f:Flow) (s':Shared):Prop :=
 match f with
 | .next=>∃ σ' H',Inv X pins σ' H' s'/\D.nx σ' H'
 | .brk=>∃ σ' H',Inv X pins σ' H' s'/\D.bk σ' H'
 | .cont=>∃ σ' H',Inv X pins σ' H' s'/\D.ct σ' H'
 | .ret u=>∃ v σ' H',Inv X pins σ' H' s'/\qCs v u/\D.rt v H'
def PE (X:Cx) (e:Expr) (t:TE):Prop :=
 ∀ (pins:List (Addr×Obj)) (s:Shared) (σ:St) (H:Hp) (Q:VK),Inv X pins σ H s->t σ H Q->wpAny (model X.prog X.w) X.A (eval e X.env) (EP X pins σ Q) X.xe s
def PT (X:Cx) (e:Expr) (t:TT):Prop :=
 ∀ (pins:List (Addr×Obj)) (s:Shared) (σ:St) (H:Hp) (Q:Bool->Hp->Prop),Inv X pins σ H s->t σ H Q->wpAny (model X.prog X.w) X.A (isTrue e X.env (eval e X.env)) (TP X pins σ Q) X.xe s
def PW (X:Cx) (e:Expr) (t:TT):Prop :=
 ∀ (whole:Sem Value) (pins:List (Addr×Obj)) (s:Shared) (σ:St) (H:Hp) (Q:Bool->Hp->Prop),Inv X pins σ H s->t σ H Q->wpAny (model X.prog X.w) X.A (isTrue e X.env whole) (TP X pins σ Q) X.xe s
theorem PW.pt {X:Cx} {e:Expr} {t:TT} (h:PW X e t):PT X e t:=h _
def PA (X:Cx) (es:List Expr) (t:TA):Prop :=
 ∀ (pos:Pos) (pins:List (Addr×Obj)) (s:Shared) (σ:St) (H:Hp) (Q:List V->Hp->Prop),Inv X pins σ H s->t σ H Q->wpAny (model X.prog X.w) X.A (spliced (backTo pos (starEach es X.env))) (AP X pins σ Q) X.xe s
def PS (X:Cx) (st:Stmt) (t:TS):Prop :=
 ∀ (pins:List (Addr×Obj)) (s:Shared) (σ:St) (H:Hp) (D:Ends),Inv X pins σ H s->t D σ H->wpAny (model X.prog X.w) X.A (exec st X.env) (SP X pins D) X.xe s
def PSs (X:Cx) (st:List Stmt) (t:TS):Prop :=
 ∀ (pins:List (Addr×Obj)) (s:Shared) (σ:St) (H:Hp) (D:Ends),Inv X pins σ H s->t D σ H->wpAny (model X.prog X.w) X.A (execs st X.env) (SP X pins D) X.xe s
theorem thn {α:Type} {t:Sem α} {Q Q':α->Shared->Prop} {M:Model} {A:Around} {E:Value->Shared->Prop} {s:Shared} (h:wpAny M A t Q E s) (hQ:∀ a s,Q a s->Q' a s):wpAny M A t Q' E s:=wpAny_mono h hQ fun _ _ x=>x
end L2
namespace L2
open PySem PySem.Spec PyProof.Rows
section
variable {X:Cx}
def tVar (i:Nat):TE:=fun σ H Q=>∃ v,σ[i]?=some (some v)/\Q v H
def tC (v:V):TE:=fun _ H Q=>Q v H
theorem pe_var {i:Nat} {x:Str} {pos:Pos} (hN:X.N[i]?=some x) (hv:Vis X.env.scope x) (hd:(x == ("__debug__" : Str))=false:=by decide) (hcd:(x == ("__classdict__" : Str))=false:=by decide):PE X (.Name x pos) (tVar i):=by
 intro pins s σ H Q I h
 obtain ⟨v,e,h⟩:=h
 obtain ⟨m,hn,hl⟩:=I.loc
 obtain ⟨u,r,l⟩:=hl i x v hN e hv
 have fin:EP X pins σ Q u s:=⟨v,H,I,r,h⟩
 rcases l with ⟨hk,hm⟩ | ⟨hk,c,hc,hcell⟩
 ·exact wpAny_Name (wpAny_loadName_local I.ok.kind hk hn hm fin) hd
 ·rcases hk with hk | hk
  ·exact wpAny_Name (wpAny_loadName_cell I.ok.kind hk hc hcell fin) hd
  ·exact wpAny_Name (wpAny_loadName_free I.ok.kind hk hc hcell fin hcd) hd
theorem qAe {i j pos}:PE X (.Constant (.int i) j pos) (tC (.int i)):=fun _ _ _ H _ I h=>wpAny_Constant_int ⟨.int i,H,I.tok _,⟨_,rfl⟩,h⟩
theorem pe_bl {b j pos}:PE X (.Constant (.bool b) j pos) (tC (.bl b)):=fun _ _ _ H _ I h=>Constant_bool ⟨.bl b,H,I,rfl,h⟩
theorem pe_str {x j pos}:PE X (.Constant (.str x) j pos) (tC (.str x)):=fun _ _ _ H _ I h=>Calls.Constant_str ⟨.str x,H,I.tok _,⟨_,rfl⟩,h⟩
def Gl (X:Cx) (x:Str):Prop:=X.env.kindOf x=some .globalImplicit
theorem ld_glob {E:Value->Shared->Prop} {pins:List (Addr×Obj)} {s:Shared} {σ:St} {H:Hp} {x:Str} {u:Value} {pos:Pos} {Q:Value->Shared->Prop} (I:Inv X pins σ H s) (hg:Gl X x) (hm:X.mg x=some u) (h:Q u s)
  (hd:(x == ("__debug__" : Str))=false:=by decide):wpAny (model X.prog X.w) X.A (eval (.Name x pos) X.env) Q E s :=
 Calls.Name_function_global I.ok.kind hg (Calls.loadGlobal_global (by rw [I.ok.glob];exact I.mod.glob.keeps I.bk) hm h) hd
theorem qFu {E:Value->Shared->Prop} {pins:List (Addr×Obj)} {s:Shared} {σ:St} {H:Hp} {x:Str} {u:Value} {pos:Pos} {Q:Value->Shared->Prop} (I:Inv X pins σ H s) (hg:Gl X x) (hm:X.mg x=none) (hv:bootBuiltins x=some u) (h:Q u s)
  (hn:x≠"__name__":=by decide) (hd:(x == ("__debug__" : Str))=false:=by decide):wpAny (model X.prog X.w) X.A (eval (.Name x pos) X.env) Q E s:=by
 obtain ⟨mb,h1,h2⟩:=I.mod.blt
 exact Calls.Name_function_global I.ok.kind hg (Calls.loadGlobal_builtin (by rw [I.ok.glob];exact I.mod.glob.keeps I.bk) hm (by rw [I.ok.blt];exact h1.keeps I.bk) ((h2 x hn).trans hv) h) hd
variable {a b:Expr} {ta tb:TE} {pos:Pos}
def tB (t:TE):TT:=fun σ H Q=>t σ H fun x H1=>∃ c,x = .bl c/\Q c H1
theorem pt_val {e:Expr} {t:TE} (h:PE X e t) (he:∀ whole,isTrue e X.env whole=(do let v ← whole;standAt e.pos;holding [v] (truthy v)):=by intro _;rfl):PT X e (tB t):=by
 intro pins s σ H Q I hw
 refine isTrue_plain (thn (h pins s σ H _ I hw) fun v s1 ⟨x,H1,I1,r1,q1⟩=>?_) (he _)
 obtain ⟨d,rfl,q⟩:=q1
 cases r1
 exact wpAny_truthy_bool ⟨H1,I1,q⟩
variable {tA tB':TT} {rest:List Expr}
def tAnd (t u:TT):TT:=fun σ H Q=>t σ H fun c H1=>if c=true then u σ H1 Q else Q false H1
def tNot (t:TT):TT:=fun σ H Q=>t σ H fun c H1=>Q (!c) H1
theorem qFo (ha:PT X a tA):PW X (.BoolOp .And [a] pos) tA:=by
 intro wh pins s σ H Q I h
 refine isTrue_and (thn (ha pins s σ H Q I h) fun c s1 e=>?_)
 cases c with
 | true=>exact isTrue_and_nil e
 | false=>exact e
theorem pw_and (ha:PT X a tA) (hb:PW X (.BoolOp .And (b :: rest) pos) tB'):PW X (.BoolOp .And (a :: b :: rest) pos) (tAnd tA tB'):=by
 intro wh pins s σ H Q I h
 refine isTrue_and (thn (ha pins s σ H _ I h) fun c s1 ⟨H1,I1,q1⟩=>?_)
 cases c with
 | true=>exact hb wh pins s1 σ H1 Q I1 q1
 | false=>exact ⟨H1,I1,q1⟩
theorem pt_not (ha:PT X a tA):PT X (.UnaryOp .Not a pos) (tNot tA):=by
 intro pins s σ H Q I h
 exact isTrue_not (ha pins s σ H (fun c H1=>Q (!c) H1) I h)
def tAndV (ta tb:TE):TE:=fun σ H Q=>ta σ H fun x H1=>∃ c,x = .bl c/\if c=true then tb σ H1 Q else Q (.bl false) H1
theorem pe_one {op} {t:TE} (h:PE X a t):PE X (.BoolOp op [a] pos) t:=fun pins s σ H Q I hw=>BoolOp_one (h pins s σ H Q I hw)
theorem pe_and (ha:PE X a ta) (hb:PE X (.BoolOp .And (b :: rest) pos) tb):PE X (.BoolOp .And (a :: b :: rest) pos) (tAndV ta tb):=by
 intro pins s σ H Q I h
 refine BoolOp_and (thn (ha pins s σ H _ I h) fun v s1 ⟨x,H1,I1,r1,q1⟩=>?_)
 obtain ⟨c,rfl,q1⟩:=q1
 cases r1
 refine wpAny_truthy_bool ?_
 cases c with
 | true=>exact hb pins s1 σ H1 Q I1 q1
 | false=>exact ⟨.bl false,H1,I1,rfl,q1⟩
def tIf (t:TT) (ta tb:TE):TE:=fun σ H Q=>t σ H fun c H1=>if c=true then ta σ H1 Q else tb σ H1 Q
theorem pe_ifExp {c:Expr} (hc:PT X c tA) (ha:PE X a ta) (hb:PE X b tb):PE X (.IfExp c a b pos) (tIf tA ta tb):=by
 intro pins s σ H Q I h
 refine wpAny_IfExp (thn (hc pins s σ H _ I h) fun d s1 ⟨H1,I1,q1⟩=>?_)
 cases d with
 | true=>exact ha pins s1 σ H1 Q I1 q1
 | false=>exact hb pins s1 σ H1 Q I1 q1
end
end L2
namespace L2
open PySem PySem.Spec PyProof.Rows
def SqL (K:PySem.W.Frag) (H:Hp) (a:Addr) (xs:List V):Prop :=
 Rd H a (.lst xs) \/
  ∃ (o:Obj) (its:Array Value) (n:Nat),K.lookup a=some o/\o.cls = .type "list"/\o.dict=none/\o.data = .seq its n/\its.size<=sizeLine/\qBc xs its.toList
def SqT (K:PySem.W.Frag) (H:Hp) (a:Addr) (xs:List V):Prop :=
 Rd H a (.tup xs) \/
  ∃ (o:Obj) (its:Array Value) (n:Nat),K.lookup a=some o/\o.cls = .type "tuple"/\o.data = .seq its n/\its.size<=sizeLine/\qBc xs its.toList
def absV:Value->Option V
 | .none=>some .non
 | .bool b=>some (.bl b)
 | .int i _=>some (.int i)
 | .str x _=>some (.str x)
 | .bytes b _=>some (.byt b)
 | .float b _=>some (.flt b)
 | .ref a=>some (.ref a)
 | .type n=>some (.ty n)
 | _=>none
theorem qCs.abs {x:V} {u:Value} (r:qCs x u):absV u=some x:=by
 cases x with
 | non=>cases r;rfl
 | bl _=>cases r;rfl
 | int _=>obtain ⟨t,rfl⟩:=r;rfl
 | str _=>obtain ⟨t,rfl⟩:=r;rfl
 | byt _=>obtain ⟨t,rfl⟩:=r;rfl
 | flt _=>obtain ⟨t,rfl⟩:=r;rfl
 | ref _=>cases r;rfl
 | ty _=>cases r;rfl
theorem qCs.inj {x y:V} {u:Value} (r:qCs x u) (q:qCs y u):x=y:=Option.some.inj (r.abs.symm.trans q.abs)
theorem qBc.inj:∀ {xs ys:List V} {us:List Value},qBc xs us->qBc ys us->xs=ys
 | _,_,_,.nil,.nil=>rfl
 | _,_,_,.cons r t,.cons r' t'=>by rw [r.inj r',qBc.inj t t']
section
variable {X:Cx} {pins:List (Addr×Obj)} {σ:St} {H:Hp} {s:Shared} {a:Addr} {xs ys:List V}
theorem SqL.of {K:PySem.W.Frag} (h:H a=some (.lst xs)):SqL K H a xs:=.inl (.inl h)
theorem SqT.of {K:PySem.W.Frag} (h:H a=some (.tup xs)):SqT K H a xs:=.inl (.inl h)
theorem Inv.list (I:Inv X pins σ H s) (h:SqL X.K H a xs):∃ its:List Value,qBc xs its/\PlainL s.heap a its.toArray/\xs.length<=sizeLine:=by
 rcases h with h | ⟨o,its,n,hk,hc,hd,hs,hz,r⟩
 ·obtain ⟨z,its,n,r,e⟩:=h.ok I.hok
  exact ⟨its,r,⟨_,n,e,rfl,rfl,rfl⟩,z⟩
 ·refine ⟨its.toList,r,⟨o,n,I.kIn a o hk,hc,hd,by simpa using hs⟩,?_⟩
  have e:=r.length
  simp only [Array.length_toList] at e
  omega
theorem Inv.tuple (I:Inv X pins σ H s) (h:SqT X.K H a xs):∃ its:List Value,qBc xs its/\IsTup s.heap a its.toArray/\xs.length<=sizeLine:=by
 rcases h with h | ⟨o,its,n,hk,hc,hs,hz,r⟩
 ·obtain ⟨z,its,r,p⟩:=h.ok I.hok
  exact ⟨its,r,p,z⟩
 ·refine ⟨its.toList,r,⟨o,I.kIn a o hk,hc,n,by simpa using hs⟩,?_⟩
  have e:=r.length
  simp only [Array.length_toList] at e
  omega
theorem Inv.list_inj (I:Inv X pins σ H s) (h:SqL X.K H a xs) (h':SqL X.K H a ys):xs=ys:=by
 obtain ⟨its,r,⟨o,n,e,_,_,d⟩,_⟩:=I.list h
 obtain ⟨its',r',⟨o',n',e',_,_,d'⟩,_⟩:=I.list h'
 rw [e] at e';cases e'
 rw [d] at d'
 injection d' with d1 _
 have:its=its':=by simpa using congrArg Array.toList d1
 subst this
 exact r.inj r'
end
abbrev Cx.wish (X:Cx) (E:Value->Shared->Prop):Cx:={ X with xe:=E }
abbrev Cx.nox (X:Cx):Cx:=X.wish fun _ _=>False
theorem Cx.Ok.wish {X:Cx} (ok:X.Ok) (E:Value->Shared->Prop):(X.wish E).Ok :=
 ⟨ok.mod,ok.kind,ok.glob,ok.blt,ok.above,ok.inj,ok.has,ok.cab,ok.hd,ok.frames,ok.stk,ok.exf,ok.bs,ok.bsz,ok.noex,ok.exfs,ok.funs,ok.frf⟩
theorem Cx.Ok.unwish {X:Cx} {E:Value->Shared->Prop} (ok:(X.wish E).Ok):X.Ok :=
 ⟨ok.mod,ok.kind,ok.glob,ok.blt,ok.above,ok.inj,ok.has,ok.cab,ok.hd,ok.frames,ok.stk,ok.exf,ok.bs,ok.bsz,ok.noex,ok.exfs,ok.funs,ok.frf⟩
section
variable {X:Cx} {pins:List (Addr×Obj)} {σ:St} {H:Hp} {s:Shared} {E:Value->Shared->Prop}
theorem Inv.wish (I:Inv X pins σ H s) (E:Value->Shared->Prop):Inv (X.wish E) pins σ H s:=⟨I.ok.wish E,I.os,I.bare,I.base,I.loc,I.cell,I.free,I.freeC,I.pin,I.hok,I.len⟩
theorem Inv.unwish (I:Inv (X.wish E) pins σ H s):Inv X pins σ H s:=⟨I.ok.unwish,I.os,I.bare,I.base,I.loc,I.cell,I.free,I.freeC,I.pin,I.hok,I.len⟩
theorem SP.unwish {D:Ends} {f:Flow} {s':Shared} (h:SP (X.wish E) pins D f s'):SP X pins D f s':=by
 cases f with
 | next=>obtain ⟨σ',H',I,q⟩:=h;exact ⟨σ',H',I.unwish,q⟩
 | brk=>obtain ⟨σ',H',I,q⟩:=h;exact ⟨σ',H',I.unwish,q⟩
 | cont=>obtain ⟨σ',H',I,q⟩:=h;exact ⟨σ',H',I.unwish,q⟩
 | ret u=>obtain ⟨v,σ',H',I,r,q⟩:=h;exact ⟨v,σ',H',I.unwish,r,q⟩
theorem PSs.nox {st:List Stmt} {t:TS} (h:PSs X.nox st t):PSs X st t:=fun pins s σ H D I hw =>
 wpAny_mono (h pins s σ H D (I.wish _) hw) (fun _ _ q=>q.unwish) fun _ _ z=>False.elim z
end
section
variable {X:Cx} {st:Stmt} {rest:List Stmt} {t u:TS} {e:Expr} {te:TE} {pos:Pos}
def tNext:TS:=fun D σ H=>D.nx σ H
def tSeq (t u:TS):TS:=fun D σ H=>t { D with nx:=u D } σ H
theorem qA8:PSs X [] tNext:=fun _ _ σ H _ I h=>wpAny_execs_nil ⟨σ,H,I,h⟩
theorem qAb (h1:PS X st t) (h2:PSs X rest u):PSs X (st :: rest) (tSeq t u):=by
 intro pins s σ H D I h
 refine wpAny_execs_cons (thn (h1 pins s σ H { D with nx:=u D } I h) fun f s1 q=>?_)
 cases f with
 | next =>
  obtain ⟨σ',H',I',q⟩:=q
  exact h2 pins s1 σ' H' D I' q
 | ret v=>exact q
 | brk=>exact q
 | cont=>exact q
theorem qAf (h1:PS X st t):PSs X [st] t:=by
 intro pins s σ H D I h
 refine wpAny_execs_cons (thn (h1 pins s σ H D I h) fun f s1 q=>?_)
 cases f with
 | next=>exact wpAny_execs_nil q
 | ret v=>exact q
 | brk=>exact q
 | cont=>exact q
theorem Inv.quiet {pins:List (Addr×Obj)} {σ:St} {H:Hp} {s:Shared} (I:Inv X pins σ H s):interactive X.env=false:=by simp [interactive,I.ok.kind]
def tDrop (te:TE):TS:=fun D σ H=>te σ H fun _ H1=>D.nx σ H1
theorem qCl (he:PE X e te) (hs:swapsWith e none pos.line X.env=pure false:=by rfl):PS X (.Expr e pos) (tDrop te):=by
 intro pins s σ H D I h
 exact wpAny_Expr_any (thn (he pins s σ H _ I h) fun v s1 ⟨x,H1,I1,r1,q1⟩=>⟨σ,H1,I1,q1⟩) I.quiet hs
def tRet (te:TE):TS:=fun D σ H=>te σ H D.rt
theorem qAw (he:PE X e te):PS X (.Return (some e) pos) (tRet te):=by
 intro pins s σ H D I h
 exact wpAny_Return_some (thn (he pins s σ H _ I h) fun v s1 ⟨x,H1,I1,r1,q1⟩=>⟨x,σ,H1,I1,r1,q1⟩)
def tIfS (c:TT) (t u:TS):TS:=fun D σ H=>c σ H fun b H1=>if b=true then t D σ H1 else u D σ H1
theorem qB6 {c:Expr} {a b:List Stmt} {tc:TT} (hc:PT X c tc) (ha:PSs X a t) (hb:PSs X b u):PS X (.If c a b pos) (tIfS tc t u):=by
 intro pins s σ H D I h
 refine wpAny_If (thn (hc pins s σ H _ I h) fun d s1 ⟨H1,I1,q1⟩=>?_)
 cases d with
 | true=>exact ha pins s1 σ H1 D I1 q1
 | false=>exact hb pins s1 σ H1 D I1 q1
def tNever:TS:=fun _ _ _=>False
theorem ps_never:PS X st tNever:=fun _ _ _ _ _ _ h=>h.elim
end
abbrev TG:=V->St->Hp->(St->Hp->Prop)->Prop
abbrev TGs:=List V->St->Hp->(St->Hp->Prop)->Prop
def PG (X:Cx) (target:Expr) (t:TG):Prop :=
 ∀ (pins:List (Addr×Obj)) (s:Shared) (σ:St) (H:Hp) (v:V) (u:Value) (Q:St->Hp->Prop),Inv X pins σ H s->qCs v u->t v σ H Q ->
  wpAny (model X.prog X.w) X.A (assign target X.env u) (fun _ s'=>∃ σ' H',Inv X pins σ' H' s'/\Q σ' H') X.xe s
def PGs (X:Cx) (ts:List Expr) (t:TGs):Prop :=
 ∀ (pins:List (Addr×Obj)) (s:Shared) (σ:St) (H:Hp) (vs:List V) (us:List Value) (Q:St->Hp->Prop),Inv X pins σ H s->qBc vs us->t vs σ H Q ->
  wpAny (model X.prog X.w) X.A (assignInOrder ((assignEach ts X.env).map (·.2)) us) (fun _ s'=>∃ σ' H',Inv X pins σ' H' s'/\Q σ' H') X.xe s
abbrev TIp:=V->V->Hp->VK->Prop
def PIp (X:Cx) (op:Operator) (t:TIp):Prop :=
 ∀ (pins:List (Addr×Obj)) (s:Shared) (σ:St) (H:Hp) (x y:V) (v u:Value) (Q:VK),Inv X pins σ H s->qCs x v->qCs y u->t x y H Q ->
  wpAny (model X.prog X.w) X.A (inplaceOp op v u) (EP X pins σ Q) X.xe s
section
variable {X:Cx} {pos:Pos}
def gName (i:Nat):TG:=fun v σ H Q=>Q (σ.set i (some v)) H
theorem qAi {i:Nat} {x:Str} (hN:X.N.Nodup) (hi:X.N[i]?=some x) (hx:Loc X.env.scope x) (hf:X.fn x=true\/X.env.scope.names.lookup x=some .local:=by first | exact .inl rfl | exact .inr rfl | assumption):PG X (.Name x pos) (gName i):=by
 intro pins s σ H v u Q I r h
 exact wpAny_assign_Name (store_ok I hN hi hx r (fun s' I'=>⟨_,H,I',h⟩) hf)
def gNil:TGs:=fun vs σ H Q=>vs=[]/\Q σ H
def gCons (t:TG) (u:TGs):TGs:=fun vs σ H Q=>∃ v r,vs=v :: r/\t v σ H fun σ' H'=>u r σ' H' Q
theorem qCb:PGs X [] gNil:=by
 intro pins s σ H vs us Q I r h
 obtain ⟨e,h⟩:=h
 subst e
 cases r
 exact assignInOrder_nil ⟨σ,H,I,h⟩
theorem qAz {e:Expr} {es:List Expr} {t:TG} {u:TGs} (h1:PG X e t) (h2:PGs X es u)
  (hs:(assignEach (e :: es) X.env).map (·.2)=assign e X.env :: (assignEach es X.env).map (·.2):=by rfl):PGs X (e :: es) (gCons t u):=by
 intro pins s σ H vs us Q I r h
 obtain ⟨v,vr,e1,h⟩:=h
 subst e1
 cases r with
 | cons r rr =>
  rw [hs]
  refine assignInOrder_cons (thn (h1 pins s σ H _ _ _ I r h) fun _ s1 ⟨σ1,H1,I1,q1⟩=>?_)
  exact h2 pins s1 σ1 H1 _ _ Q I1 rr q1
def gTup (K:PySem.W.Frag) (n:Nat) (t:TGs):TG:=fun v σ H Q=>∃ a xs,v = .ref a/\SqT K H a xs/\xs.length=n/\t xs σ H Q
theorem qC5 {es:List Expr} {k:Nat} {t:TGs} {n:Nat} (hc:X.calm=true) (h:PGs X es t)
  (hn:(assignEach es X.env).length=n:=by rfl) (hst:(assignEach es X.env).findIdx? (·.1)=none:=by rfl):PG X (.Tuple es k pos) (gTup X.K n t):=by
 intro pins s σ H v u Q I r hw
 obtain ⟨a,xs,e1,hq,hl,hw⟩:=hw
 subst e1
 cases r
 obtain ⟨its,rv,ht,hz⟩:=I.tuple hq
 refine assign_Tuple_tuple (I.ok.hd hc) ht (by simp [hn,<-hl,rv.length]) hst fun h' hx=>?_
 have I1:Inv X pins σ H { s with heap:=h' }:=I.kept (t':=s.toks) fun b o e=>hx b o (Nat.ne_of_lt (Heap.lt_size e)) e
 exact h pins _ σ H xs _ Q I1 (by simpa using rv) hw
def tAsg (te:TE) (g:TG):TS:=fun D σ H=>te σ H fun x H1=>g x σ H1 D.nx
theorem qGo {tg e:Expr} {te:TE} {g:TG} (he:PE X e te) (hg:PG X tg g) (hs:swapsWithSole [tg] e pos.line X.env=pure false:=by rfl) (hw:swappedStores [tg] e X.env=pure none:=by rfl)
  (h1:(assignEach [tg] X.env).map (·.2)=[assign tg X.env]:=by rfl):PS X (.Assign [tg] e pos) (tAsg te g):=by
 intro pins s σ H D I h
 refine wpAny_Assign_stores (thn (he pins s σ H _ I h) fun v s1 ⟨x,H1,I1,r1,q1⟩=>?_) hs hw
 rw [h1]
 exact thn (hg pins s1 σ H1 x v _ I1 r1 q1) fun _ s2 q=>q
theorem qAj {i:Nat} {x:Str} {e:Expr} {te:TE} {pos':Pos} (hN:X.N.Nodup) (hi:X.N[i]?=some x) (hx:Loc X.env.scope x) (he:PE X e te) (hs:swapsWith e (some (.Name x pos')) pos.line X.env=pure false:=by rfl) (hf:X.fn x=true\/X.env.scope.names.lookup x=some .local:=by first | exact .inl rfl | exact .inr rfl | assumption) :
  PS X (.Assign [.Name x pos'] e pos) (tAsg te (gName i)):=by
 intro pins s σ H D I h
 refine wpAny_Assign_Name (thn (he pins s σ H _ I h) fun v s1 ⟨y,H1,I1,r1,q1⟩=>?_) hs
 exact store_ok I1 hN hi hx r1 (fun s2 I2=>⟨_,H1,I2,q1⟩) hf
def tAug (i:Nat) (te:TE) (ti:TIp):TS:=fun D σ H=>∃ x,σ[i]?=some (some x)/\te σ H fun y H1=>ti x y H1 fun z H2=>D.nx (σ.set i (some z)) H2
theorem ps_aug {i:Nat} {x:Str} {e:Expr} {te:TE} {op:Operator} {ti:TIp} {pos':Pos} (hN:X.N.Nodup) (hi:X.N[i]?=some x) (hx:Loc X.env.scope x) (he:PE X e te) (ho:PIp X op ti) (hf:X.fn x=true\/X.env.scope.names.lookup x=some .local:=by first | exact .inl rfl | exact .inr rfl | assumption) :
  PS X (.AugAssign (.Name x pos') op e pos) (tAug i te ti):=by
 intro pins s σ H D I h
 obtain ⟨v,e1,h⟩:=h
 obtain ⟨m,hn,hl⟩:=I.loc
 have vis:Vis X.env.scope x:=by rcases hx with k | k;exact .inl k;exact .inr (.inl k)
 obtain ⟨u,r,l⟩:=hl i x v hi e1 vis
 refine wpAny_AugAssign_Name ?_
 have go:wpAny (model X.prog X.w) X.A (eval e X.env) (fun w s₂=>wpAny (model X.prog X.w) X.A (inplaceOp op u w) (fun r s₃=>wpAny (model X.prog X.w) X.A (storeName X.env x r) (fun _=>SP X pins D .next) X.xe s₃) X.xe s₂) X.xe s:=by
  refine thn (he pins s σ H _ I h) fun w s1 ⟨y,H1,I1,r1,q1⟩=>?_
  refine thn (ho pins s1 σ H1 v y u w _ I1 r r1 q1) fun z s2 ⟨zv,H2,I2,r2,q2⟩=>?_
  exact store_ok I2 hN hi hx r2 (fun s3 I3=>⟨_,H2,I3,q2⟩) hf
 rcases l with ⟨hk,hm⟩ | ⟨hk,c,hc,hcell⟩
 ·exact wpAny_loadName_local I.ok.kind hk hn hm go
 ·rcases hk with hk | hk
  ·exact wpAny_loadName_cell I.ok.kind hk hc hcell go
  ·rcases hx with k | k
   ·have:X.env.scope.names.lookup x=some .free:=hk
    rw [k] at this;cases this
   ·have:X.env.scope.names.lookup x=some .free:=hk
    rw [k] at this;cases this
def ipI (f:Int->Int->Int):TIp:=fun x y H Q=>∃ i j,x = .int i/\y = .int j/\Q (.int (f i j)) H
theorem ip_add:PIp X .Add (ipI fun i j=>i+j):=by
 intro pins s σ H x y v u Q I r1 r2 h
 obtain ⟨i,j,e1,e2,q⟩:=h
 subst e1;subst e2
 obtain ⟨t,rfl⟩:=r1
 obtain ⟨t',rfl⟩:=r2
 exact iadd_int ⟨.int _,H,I.tok _,⟨_,rfl⟩,q⟩
theorem ip_sub:PIp X .Sub (ipI fun i j=>i - j):=by
 intro pins s σ H x y v u Q I r1 r2 h
 obtain ⟨i,j,e1,e2,q⟩:=h
 subst e1;subst e2
 obtain ⟨t,rfl⟩:=r1
 obtain ⟨t',rfl⟩:=r2
 exact isub_int ⟨.int _,H,I.tok _,⟨_,rfl⟩,q⟩
end
section
variable {X:Cx} {pos:Pos}
def tWhile (c:TT) (tb:TS):TS:=fun D σ H=>∃ W:Nat->St->Hp->Prop,(∃ m,W m σ H)/\∀ m σ H,W m σ H ->
 c σ H fun b H1=>if b=true then ∃ N:St->Hp->Prop,(∀ σ' H',N σ' H'->∃ m',m'<m/\W m' σ' H')/\tb { D with nx:=N,ct:=N,bk:=D.nx } σ H1 else D.nx σ H1
theorem ps_while {c:Expr} {body:List Stmt} {tc:TT} {tb:TS} (hp:PassesOwn (model X.prog X.w) X.A X.env X.xe) (hc:PT X c tc) (hb:PSs X body tb):PS X (.While c body [] pos) (tWhile tc tb):=by
 intro pins s σ H D I h
 obtain ⟨W,⟨m0,w0⟩,turn⟩:=h
 refine wpAny_While (codeAny_whileLoop (fun n s'=>∃ σ' H',Inv X pins σ' H' s'/\W n σ' H') ?_ m0 ⟨σ,H,I,w0⟩)
 rintro n s1 ⟨σ1,H1,I1,w1⟩
 refine wpAny_passesOwn hp (thn (hc pins s1 σ1 H1 _ I1 (turn n σ1 H1 w1)) fun b s2 ⟨H2,I2,q2⟩=>?_)
 cases b with
 | true =>
  obtain ⟨N,hN,q2⟩:=q2
  rw [if_pos rfl]
  refine wpAny_passesOwn hp (thn (hb pins s2 σ1 H2 _ I2 q2) fun f s3 q3=>?_)
  cases f with
  | next =>
   obtain ⟨σ3,H3,I3,n3⟩:=q3
   obtain ⟨m',hm,w3⟩:=hN σ3 H3 n3
   exact ⟨m',hm,σ3,H3,I3,w3⟩
  | cont =>
   obtain ⟨σ3,H3,I3,n3⟩:=q3
   obtain ⟨m',hm,w3⟩:=hN σ3 H3 n3
   exact ⟨m',hm,σ3,H3,I3,w3⟩
  | brk=>exact q3
  | ret v=>exact q3
 | false =>
  rw [if_neg Bool.false_ne_true]
  exact wpAny_execs_nil ⟨σ1,H2,I2,q2⟩
end
structure It where
 go:Nat->Hp->Prop
 yld:Nat->Hp->V->Hp->Prop
 stop:Nat->Hp->Prop
def FpOk (X:Cx) (pins:List (Addr×Obj)) (H:Hp) (b:Addr):Prop :=
 H b=none/\b≠X.env.locals/\b∉X.fs/\(b∈X.ex\/X.s₀.heap.objs.size<=b)/\(∀ x c,X.env.cells.lookup x=some c->c≠b)/\∀ p∈X.pn++pins,p.1≠b
theorem Inv.fpOk {X:Cx} {pins:List (Addr×Obj)} {σ:St} {H H':Hp} {s:Shared} {b:Addr} (I:Inv X pins σ H s) (hb:s.heap.objs.size<=b) (hn:H' b=none):FpOk X pins H' b:=by
 refine ⟨hn,Nat.ne_of_gt (Nat.lt_of_lt_of_le I.lt hb),I.nofs hb,.inr (Nat.le_trans I.sz hb),fun x c e z=>?_,fun p hp z=>?_⟩
 ·obtain ⟨v,q⟩:=I.cell x c e
  exact absurd (Nat.lt_of_lt_of_le q.lt (by rw [z];exact hb)) (Nat.lt_irrefl _)
 ·exact absurd (Nat.lt_of_lt_of_le (Heap.lt_size (I.pin p hp).1) (by rw [z];exact hb)) (Nat.lt_irrefl _)
structure Turn (P:Program) (w:World) (K:PySem.W.Frag) (tg:Expr) (J:It) (fp:List Addr) (it:Addr) (tn:Nat->Heap->Prop):Prop where
 mem:it∈fp
 obj:∀ i h,tn i h->∀ b∈fp,∃ o,h.get? b=some o/\∀ v,o.data≠.cell v
 keep:∀ i h h',tn i h->(∀ b∈fp,∀ o,h.get? b=some o->h'.get? b=some o)->tn i h'
 item:∀ (X:Cx),X.prog=P->X.w=w->X.K=K->X.calm=true->∀ (i:Nat) (pins:List (Addr×Obj)) (s:Shared) (σ:St) (H:Hp) (E:Value->Shared->Prop),Inv X pins σ H s->(∀ b∈fp,FpOk X pins H b)->tn i s.heap->J.go i H ->
  wpAny (model P w) X.A (pyNext (.ref it)) (fun r s1=>∃ u,r=some u /\
   wpAny (model P w) X.A (letOwnedTupleGo tg (.ref it) u) (fun _ s2=>∃ x H',Inv X pins σ H' s2/\qCs x u/\J.yld i H x H'/\tn (i+1) s2.heap/\∀ b∈fp,H' b=none) E s1) E s
 done:∀ (X:Cx),X.prog=P->X.w=w->X.K=K->X.calm=true->∀ (i:Nat) (pins:List (Addr×Obj)) (s:Shared) (σ:St) (H:Hp) (E:Value->Shared->Prop),Inv X pins σ H s->(∀ b∈fp,FpOk X pins H b)->tn i s.heap->J.stop i H ->
  wpAny (model P w) X.A (pyNext (.ref it)) (fun r s1=>r=none/\Inv X pins σ H s1) E s
 self:∀ (A:Around) (i:Nat) (s:Shared) (Q:Value->Shared->Prop) (E:Value->Shared->Prop),tn i s.heap->Q (.ref it) s->wpAny (model P w) A (pyIter (.ref it)) Q E s
abbrev TI:=St->Hp->(It->Hp->Prop)->Prop
def PIE (X:Cx) (pins:List (Addr×Obj)) (σ:St) (tg:Expr) (R:It->Hp->Prop) (itv:Value) (s2:Shared):Prop :=
 ∃ (it:Addr) (fp:List Addr) (tn:Nat->Heap->Prop) (J:It) (H':Hp),itv = .ref it/\Inv X pins σ H' s2/\Turn X.prog X.w X.K tg J fp it tn/\tn 0 s2.heap/\(∀ b∈fp,FpOk X pins H' b)/\R J H'
def PI (X:Cx) (tg iter:Expr) (wi:TI):Prop :=
 ∀ (pins:List (Addr×Obj)) (s:Shared) (σ:St) (H:Hp) (R:It->Hp->Prop),Inv X pins σ H s->wi σ H R ->
  wpAny (model X.prog X.w) X.A (eval iter X.env) (fun v s1=>wpAny (model X.prog X.w) X.A (pyIter v) (PIE X pins σ tg R) X.xe s1) X.xe s
theorem go_of {M:Model} {A:Around} {E:Value->Shared->Prop} {s:Shared} {tg:Expr} {it:Addr} {u:Value} {o:Obj} {n:String} {vs:Array Value} {Q:Unit->Shared->Prop} (ho:s.heap.get? it=some o) (hc:o.cls = .type n) (hd:o.data = .fields vs)
  (hn:["enumerate","zip","dict_itemiterator","dict_reverseitemiterator","odict_iterator","itertools.zip_longest","itertools.pairwise"].contains n=false) (hQ:Q () s):wpAny M A (letOwnedTupleGo tg (.ref it) u) Q E s:=by
 unfold letOwnedTupleGo
 cases tg <;> first
  | exact wpAny_pure hQ
  | (cases u <;> first
    | exact wpAny_pure hQ
    | (refine wpAny_bind (wpAny_load ho ?_);rw [hc,hd];show wpAny M A (if (["enumerate","zip","dict_itemiterator","dict_reverseitemiterator","odict_iterator","itertools.zip_longest","itertools.pairwise"].contains n && vs[0]? == some (rawInt _))=true then _ else _) Q E s;rw [if_neg (by intro h;rw [hn,Bool.false_and] at h;cases h)];exact wpAny_pure hQ))
def Itl (K:PySem.W.Frag) (a:Addr):It :=
 ⟨fun i H=>∃ xs x,SqL K H a xs/\xs[i]?=some x,fun i H x H'=>H'=H/\∀ xs,SqL K H a xs->xs[i]?=some x,fun i H=>∃ xs,SqL K H a xs/\xs.length<=i⟩
def Itr (lo:Int) (n:Nat):It:=⟨fun i _=>i<n,fun i H x H'=>H'=H/\x = .int (lo+i),fun i _=>n<=i⟩
theorem turn_list {P:Program} {w:World} {K:PySem.W.Frag} {tg:Expr} (a it:Addr):Turn P w K tg (Itl K a) [it] it (fun i h=>h.IsListIter it a i) where
 mem:=by simp
 obj:=fun i h st b hb=>by
  have e:b=it:=by simpa using hb
  subst e
  obtain ⟨o,e,c,d⟩:=st
  exact ⟨o,e,fun v z=>by rw [d] at z;cases z⟩
 keep:=fun i h h' st k=>st.at fun o e=>k it (by simp) o e
 item:=by
  intro X hP hw hK hc i pins s σ H E I hf st hg
  subst hP hw hK
  obtain ⟨xs,x,hq,hx⟩:=hg
  obtain ⟨its,rv,p,hz⟩:=I.list hq
  obtain ⟨u,hu,ru⟩:=rv.get hx
  obtain ⟨f0,f1,f2,f3,f4,f5⟩:=hf it (by simp)
  refine wpAny_pyNext_list_item st p.isList (x:=u) (by simpa using hu) fun h' st' sb=>?_
  have I1:Inv X pins σ H { s with heap:=h' }:=I.turned (t':=s.toks) (fun b o hb e=>(sb.2 b hb).trans e) f0 f1 f3 f4 f5
  obtain ⟨o,e,c,d⟩:=id st'
  exact ⟨u,rfl,go_of (s:={ s with heap:=h' }) e c d (by decide) ⟨x,H,I1,ru,⟨rfl,fun ys hy=>by rw [I.list_inj hy hq];exact hx⟩,st',fun b hb=>(hf b hb).1⟩⟩
 done:=by
  intro X hP hw hK hc i pins s σ H E I hf st hg
  subst hP hw hK
  obtain ⟨xs,hq,hx⟩:=hg
  obtain ⟨its,rv,p,hz⟩:=I.list hq
  obtain ⟨f0,f1,f2,f3,f4,f5⟩:=hf it (by simp)
  have hl:=rv.length
  exact wpAny_pyNext_list_end (I.ok.hd hc) st p.isList (by simp;omega) fun h' eb=>⟨rfl,I.turned (t':=s.toks) (fun b o hb e=>eb b o hb e) f0 f1 f3 f4 f5⟩
 self:=fun _ _ _ _ _ st h=>wpAny_pyIter_listiter st h
theorem turn_range {P:Program} {w:World} {K:PySem.W.Frag} {tg:Expr} (it:Addr) (lo:Int) (n:Nat):Turn P w K tg (Itr lo n) [it] it (fun i h=>IsRangeIter h it (lo+(i:Nat)*1) ((n:Int) - (i:Nat)) 1) where
 mem:=by simp
 obj:=fun i h st b hb=>by
  have e:b=it:=by simpa using hb
  subst e
  exact ⟨_,st,fun v z=>by
   have z':Data.fields _=Data.cell v:=z
   cases z'⟩
 keep:=fun i h h' st k=>k it (by simp) _ st
 item:=by
  intro X hP hw hK hc i pins s σ H E I hf st hg
  subst hP hw hK
  obtain ⟨f0,f1,f2,f3,f4,f5⟩:=hf it (by simp)
  have W:=Walks.range (prog:=X.prog) (w:=X.w) (I.ok.hd hc) it lo 1 n
  refine W.item i s _ _ hg st fun v h' tk hv st' kk=>?_
  obtain ⟨t,rfl⟩:=hv
  have I1:Inv X pins σ H { s with heap:=h',toks:=tk }:=I.turned (fun b o hb e=>kk b o (by simpa using hb) e) f0 f1 f3 f4 f5
  refine ⟨_,rfl,go_of (s:={ s with heap:=h',toks:=tk }) (n:="range_iterator") st' rfl rfl (by decide) ⟨.int (lo+i),H,I1,⟨t,?_⟩,⟨rfl,rfl⟩,st',fun b hb=>(hf b hb).1⟩⟩
  rw [Int.mul_one]
 done:=by
  intro X hP hw hK hc i pins s σ H E I hf st hg
  subst hP hw hK
  obtain ⟨f0,f1,f2,f3,f4,f5⟩:=hf it (by simp)
  exact wpAny_pyNext_range_end (I.ok.hd hc) st (by have:n<=i:=hg;omega) fun h' eb=>⟨rfl,I.turned (t':=s.toks) (fun b o hb e=>eb b o hb e) f0 f1 f3 f4 f5⟩
 self:=fun _ _ _ _ _ st h=>wpAny_pyIter_rangeiter st h
end L2
namespace L2
open PySem PySem.Spec PyProof.Rows
section
variable {X:Cx} {tg:Expr}
def iList (K:PySem.W.Frag) (tl:TE):TI:=fun σ H R=>tl σ H fun x H1=>∃ a,x = .ref a/\(∃ xs,SqL K H1 a xs)/\R (Itl K a) H1
theorem qAr {l:Expr} {tl:TE} (hl:PE X l tl):PI X tg l (iList X.K tl):=by
 intro pins s σ H R I h
 refine thn (hl pins s σ H _ I h) fun v s1 ⟨x,H1,I1,r1,q1⟩=>?_
 obtain ⟨a,e,⟨xs,hq⟩,q⟩:=q1
 subst e
 cases r1
 obtain ⟨its,rv,p,hz⟩:=I1.list hq
 refine wpAny_pyIter_list p.isList ?_
 refine ⟨s1.heap.objs.size,[s1.heap.objs.size],_,_,H1,rfl,I1.kept (t':=s1.toks) fun b o e=>Heap.get?_push_of_some _ e,turn_list a _,⟨_,Heap.get?_push_size _ rfl,rfl,rfl⟩,fun b hb=>?_,q⟩
 have e:b=s1.heap.objs.size:=by simpa using hb
 subst e
 exact I1.fpOk (Nat.le_refl _) (I1.hok.fresh (Nat.le_refl _))
theorem range_it {pins:List (Addr×Obj)} {σ:St} {H:Hp} {s:Shared} {R:It->Hp->Prop} {E:Value->Shared->Prop} {lo hi:Int} {t u v:Tok} {tk:Nat} (I:Inv X pins σ H s) (h1:-(2^62)<=lo) (h2:lo<2^62) (h3:-(2^62)<=hi) (h4:hi<2^62)
  (q:R (Itr lo (hi - lo).toNat) H):wpAny (model X.prog X.w) X.A (pyIter (.ref s.heap.objs.size)) (PIE X pins σ tg R) E { s with heap:=s.heap.push { cls:=.type "range",data:=.fields #[.int lo t,.int hi u,.int 1 v] },toks:=tk }:=by
 refine wpAny_pyIter_range (IsRange.new ..) (small_one h1 h2 h3 h4) ?_
 have I1:Inv X pins σ H { s with heap:=s.heap.push { cls:=.type "range",data:=.fields #[.int lo t,.int hi u,.int 1 v] },toks:=tk }:=I.kept fun b o e=>Heap.get?_push_of_some _ e
 refine ⟨(s.heap.push { cls:=.type "range",data:=.fields #[.int lo t,.int hi u,.int 1 v] }).objs.size,[(s.heap.push { cls:=.type "range",data:=.fields #[.int lo t,.int hi u,.int 1 v] }).objs.size],_,_,H,rfl,
  I1.kept (t':=tk) fun b o e=>Heap.get?_push_of_some _ e,turn_range _ lo (hi - lo).toNat,?_,fun b hb=>?_,q⟩
 ·have e1:lo+((0:Nat):Int)*1=lo:=by simp
  have e2:(((hi - lo).toNat:Nat):Int) - ((0:Nat):Int)=Builtin.Range.rangeSize lo hi 1:=by rw [rangeSize_one];split <;> omega
  show IsRangeIter _ _ (lo+((0:Nat):Int)*1) ((((hi - lo).toNat:Nat):Int) - ((0:Nat):Int)) 1
  rw [e1,e2]
  exact Heap.get?_push_size _ rfl
 ·have e:b=(s.heap.push { cls:=.type "range",data:=.fields #[.int lo t,.int hi u,.int 1 v] }).objs.size:=by simpa using hb
  subst e
  exact I1.fpOk (Nat.le_refl _) (I1.hok.fresh (Nat.le_refl _))
def iRng1 (ta:TA):TI:=fun σ H R=>ta σ H fun vs H1=>∃ j:Int,vs=[.int j]/\-(2^62)<=j/\j<2^62/\R (Itr 0 j.toNat) H1
theorem qBj {a:Expr} {ta:TA} {p pos:Pos} (hg:Gl X "range") (hm:X.mg "range" = none) (ha:PA X [a] ta) (hs:starEach [a] X.env=[(false,eval a X.env)]:=by rfl):PI X tg (.Call (.Name "range" p) [a] [] pos) (iRng1 ta):=by
 intro pins s σ H R I h
 refine Call_ (qFu I hg hm boot_range (PyProof.Rows.callWith_type1 (thn (ha pos pins s σ H _ I h) fun us s1 ⟨vs,H1,I1,r1,q1⟩=>?_) hs rfl))
 obtain ⟨j,e,q1,q2,q⟩:=q1
 subst e
 cases r1 with
 | cons r rr =>
  cases rr
  obtain ⟨t,rfl⟩:=r
  exact call_range_1 (range_it I1 (by omega) (by omega) q1 q2 (by simpa using q))
def tFor (wi:TI) (g:TG) (tb:TS):TS:=fun D σ H=>wi σ H fun J H1=>∃ W:Nat->Nat->St->Hp->Prop,(∃ m,W 0 m σ H1)/\∀ i m σ H,W i m σ H ->
 (J.stop i H/\D.nx σ H)\/(J.go i H/\∃ N:St->Hp->Prop,(∀ σ' H',N σ' H'->∃ m',m'<m/\W (i+1) m' σ' H')/\∀ x H',J.yld i H x H'->g x σ H' fun σ2 H2=>tb { D with nx:=N,ct:=N,bk:=D.nx } σ2 H2)
def qGp (fp:List Addr) (h:Heap):List (Addr×Obj):=fp.filterMap fun b=>(h.get? b).map fun o=>(b,o)
theorem qCi {fp:List Addr} {h:Heap} {b:Addr} {o:Obj} (hb:b∈fp) (e:h.get? b=some o):(b,o)∈qGp fp h:=List.mem_filterMap.mpr ⟨b,hb,by rw [e];rfl⟩
theorem of_pinsAt {fp:List Addr} {h:Heap} {p:Addr×Obj} (hp:p∈qGp fp h):p.1∈fp/\h.get? p.1=some p.2:=by
 obtain ⟨b,hb,e⟩:=List.mem_filterMap.mp hp
 cases q:h.get? b with
 | none=>rw [q] at e;cases e
 | some o =>
  rw [q] at e
  have e':(b,o)=p:=Option.some.inj e
  subst e'
  exact ⟨hb,q⟩
theorem Inv.pinned {pins:List (Addr×Obj)} {σ:St} {H:Hp} {s:Shared} {fp:List Addr} (I:Inv X pins σ H s) (hf:∀ b∈fp,FpOk X pins H b) (ho:∀ b∈fp,∃ o,s.heap.get? b=some o/\∀ v,o.data≠.cell v):Inv X (pins++qGp fp s.heap) σ H s :=
 I.pins_of fun p hp=>(List.mem_append.mp hp).elim (fun z=>I.pin p (List.mem_append_right _ z)) fun z=>by
  obtain ⟨hb,e⟩:=of_pinsAt z
  obtain ⟨f0,f1,f2,_⟩:=hf p.1 hb
  obtain ⟨o,e',d⟩:=ho p.1 hb
  rw [e] at e';cases e'
  exact ⟨e,f0,f1,f2,d⟩
theorem Inv.unpinned {pins pl:List (Addr×Obj)} {σ:St} {H:Hp} {s:Shared} (I:Inv X (pins++pl) σ H s):Inv X pins σ H s:=I.pins_of fun p hp=>I.pin p (List.mem_append_right _ (List.mem_append_left _ hp))
theorem qBi {iter:Expr} {body:List Stmt} {wi:TI} {g:TG} {tb:TS} {pos:Pos} (hp:PassesOwn (model X.prog X.w) X.A X.env X.xe) (hc:X.calm=true) (hi:PI X tg iter wi) (hg:PG X tg g) (hb:PSs X body tb)
  (hs:∀ x,foldedSetIterable iter X.env x=pure x:=by intro _;rfl):PS X (.For tg iter body [] pos) (tFor wi g tb):=by
 intro pins s σ H D I h
 refine wpAny_For (thn (hi pins s σ H _ I h) fun v s1 h1=>thn h1 fun itv s2 h2=>?_) hs
 obtain ⟨it,fp,tn,J,H2,e,I2,T,st2,f2,W,⟨m0,w0⟩,turn⟩:=h2
 subst e
 have stat:∀ {H':Hp},(∀ b∈fp,H' b=none)->∀ b∈fp,FpOk X pins H' b:=fun hn b hb=>⟨hn b hb,(f2 b hb).2⟩
 refine codeAny_forLoop_any (fun n s'=>∃ i σ' H',Inv X pins σ' H' s'/\tn i s'.heap/\(∀ b∈fp,H' b=none)/\W i n σ' H') ?_ m0 ⟨0,σ,H2,I2,st2,fun b hb=>(f2 b hb).1,w0⟩
 rintro n s3 ⟨i,σ3,H3,I3,st3,fr3,w3⟩
 rcases turn i n σ3 H3 w3 with ⟨stop,qn⟩ | ⟨go,N,hN,step⟩
 ·refine wpAny_passesOwn hp (thn (T.done X rfl rfl rfl hc i pins s3 σ3 H3 X.xe I3 (stat fr3) st3 stop) fun r s4 ⟨hr,I4⟩=>?_)
  subst hr
  exact wpAny_execs_nil ⟨σ3,H3,I4,qn⟩
 ·refine wpAny_passesOwn hp (thn (T.item X rfl rfl rfl hc i pins s3 σ3 H3 X.xe I3 (stat fr3) st3 go) fun r s4 ⟨u,hr,h4⟩=>?_)
  subst hr
  refine wpAny_passesOwn hp (thn h4 fun _ s5 ⟨x,H5,I5,r5,y5,st5,fr5⟩=>?_)
  have I5':=I5.pinned (stat fr5) (T.obj _ _ st5)
  refine wpAny_passesOwn hp (thn (hg _ s5 σ3 H5 x u _ I5' r5 (step x H5 y5)) fun _ s6 ⟨σ6,H6,I6,q6⟩=>?_)
  refine wpAny_passesOwn hp (thn (hb _ s6 σ6 H6 _ I6 q6) fun f s7 q7=>?_)
  have again:∀ {σ7:St} {H7:Hp},Inv X (pins++qGp fp s5.heap) σ7 H7 s7->N σ7 H7->∃ m,m<n/\∃ i σ' H',Inv X pins σ' H' s7/\tn i s7.heap/\(∀ b∈fp,H' b=none)/\W i m σ' H':=fun {σ7 H7} I7 n7=>by
   obtain ⟨m',hm,w7⟩:=hN σ7 H7 n7
   refine ⟨m',hm,i+1,σ7,H7,I7.unpinned,T.keep _ _ _ st5 fun b hb o e=>(I7.pin (b,o) (List.mem_append_right _ (List.mem_append_right _ (qCi hb e)))).1,fun b hb=>?_,w7⟩
   obtain ⟨o,e,d⟩:=T.obj _ _ st5 b hb
   exact (I7.pin (b,o) (List.mem_append_right _ (List.mem_append_right _ (qCi hb e)))).2.1
  cases f with
  | next=>obtain ⟨σ7,H7,I7,n7⟩:=q7;exact again I7 n7
  | cont=>obtain ⟨σ7,H7,I7,n7⟩:=q7;exact again I7 n7
  | brk=>obtain ⟨σ7,H7,I7,q7⟩:=q7;exact ⟨σ7,H7,I7.unpinned,q7⟩
  | ret v=>obtain ⟨x7,σ7,H7,I7,r7,q7⟩:=q7;exact ⟨x7,σ7,H7,I7.unpinned,r7,q7⟩
end
theorem qBs {K:PySem.W.Frag} {a:Addr} {xs:List V} {g:TG} {tb:TS} {D:Ends} {σ:St} {H:Hp} (Pv:Nat->St->Hp->Prop) (h0:Pv 0 σ H) (hl:∀ i σ H,i<=xs.length->Pv i σ H->SqL K H a xs)
  (hs:∀ i x σ H,xs[i]?=some x->Pv i σ H->g x σ H fun σ2 H2=>tb { D with nx:=Pv (i+1),ct:=Pv (i+1),bk:=D.nx } σ2 H2) (hd:∀ σ H,Pv xs.length σ H->D.nx σ H) :
  ∃ W:Nat->Nat->St->Hp->Prop,(∃ m,W 0 m σ H)/\∀ i m σ H,W i m σ H ->
   ((Itl K a).stop i H/\D.nx σ H)\/((Itl K a).go i H/\∃ N:St->Hp->Prop,(∀ σ' H',N σ' H'->∃ m',m'<m/\W (i+1) m' σ' H')/\∀ x H',(Itl K a).yld i H x H'->g x σ H' fun σ2 H2=>tb { D with nx:=N,ct:=N,bk:=D.nx } σ2 H2):=by
 refine ⟨fun i m σ H=>m=xs.length - i/\i<=xs.length/\Pv i σ H,⟨xs.length,by simp,Nat.zero_le _,h0⟩,?_⟩
 rintro i m σ H ⟨rfl,hi,p⟩
 have q:=hl i σ H hi p
 by_cases hlt:i<xs.length
 ·refine .inr ⟨⟨xs,xs[i],q,by simp [hlt]⟩,Pv (i+1),fun σ' H' p'=>⟨xs.length - (i+1),by omega,rfl,hlt,p'⟩,fun x H' y=>?_⟩
  obtain ⟨e,y⟩:=y
  subst e
  exact hs i x σ _ (y xs q) p
 ·have e:i=xs.length:=by omega
  subst e
  exact .inl ⟨⟨xs,q,Nat.le_refl _⟩,hd σ H p⟩
theorem qB1 {lo:Int} {n:Nat} {g:TG} {tb:TS} {D:Ends} {σ:St} {H:Hp} (Pv:Nat->St->Hp->Prop) (h0:Pv 0 σ H)
  (hs:∀ i σ H,i<n->Pv i σ H->g (.int (lo+i)) σ H fun σ2 H2=>tb { D with nx:=Pv (i+1),ct:=Pv (i+1),bk:=D.nx } σ2 H2) (hd:∀ σ H,Pv n σ H->D.nx σ H) :
  ∃ W:Nat->Nat->St->Hp->Prop,(∃ m,W 0 m σ H)/\∀ i m σ H,W i m σ H ->
   ((Itr lo n).stop i H/\D.nx σ H)\/((Itr lo n).go i H/\∃ N:St->Hp->Prop,(∀ σ' H',N σ' H'->∃ m',m'<m/\W (i+1) m' σ' H')/\∀ x H',(Itr lo n).yld i H x H'->g x σ H' fun σ2 H2=>tb { D with nx:=N,ct:=N,bk:=D.nx } σ2 H2):=by
 refine ⟨fun i m σ H=>m=n - i/\i<=n/\Pv i σ H,⟨n,by simp,Nat.zero_le _,h0⟩,?_⟩
 rintro i m σ H ⟨rfl,hi,p⟩
 by_cases hlt:i<n
 ·refine .inr ⟨hlt,Pv (i+1),fun σ' H' p'=>⟨n - (i+1),by omega,rfl,hlt,p'⟩,fun x H' y=>?_⟩
  obtain ⟨e,y⟩:=y
  subst e y
  exact hs i σ _ hlt p
 ·have e:i=n:=by omega
  subst e
  exact .inl ⟨Nat.le_refl _,hd σ H p⟩
end L2
namespace L2
open PySem PySem.Spec PyProof.Rows
abbrev R2:=V->V->Hp->VK->Prop
def OpR (X:Cx) (f:Value->Value->Sem Value) (r:R2):Prop :=
 ∀ (pins:List (Addr×Obj)) (s:Shared) (σ:St) (H:Hp) (x y:V) (v u:Value) (Q:VK),Inv X pins σ H s->qCs x v->qCs y u->r x y H Q ->
  wpAny (model X.prog X.w) X.A (f v u) (EP X pins σ Q) X.xe s
def UnR (X:Cx) (f:Value->Sem Value) (r:V->Hp->VK->Prop):Prop :=
 ∀ (pins:List (Addr×Obj)) (s:Shared) (σ:St) (H:Hp) (x:V) (v:Value) (Q:VK),Inv X pins σ H s->qCs x v->r x H Q ->
  wpAny (model X.prog X.w) X.A (f v) (EP X pins σ Q) X.xe s
def qCw (X:Cx) (f:Value) (r:List V->Hp->VK->Prop):Prop :=
 ∀ (pins:List (Addr×Obj)) (s:Shared) (σ:St) (H:Hp) (xs:List V) (us:List Value) (Q:VK),Inv X pins σ H s->qBc xs us->r xs H Q ->
  wpAny (model X.prog X.w) X.A (call f us) (EP X pins σ Q) X.xe s
def tOp (r:R2) (ta tb:TE):TE:=fun σ H Q=>ta σ H fun x H1=>tb σ H1 fun y H2=>r x y H2 Q
def tUn (r:V->Hp->VK->Prop) (ta:TE):TE:=fun σ H Q=>ta σ H fun x H1=>r x H1 Q
def rI (C:Int->Int->Prop) (g:Int->Int->V):R2:=fun x y H Q=>∃ i j,x = .int i/\y = .int j/\C i j/\Q (g i j) H
def rI0 (g:Int->Int->V):R2:=fun x y H Q=>∃ i j,x = .int i/\y = .int j/\Q (g i j) H
def rU (g:Int->V):V->Hp->VK->Prop:=fun x H Q=>∃ i,x = .int i/\Q (g i) H
section
variable {X:Cx} {a b c:Expr} {ta tb tc:TE} {pos:Pos}
theorem binT (ha:PE X a ta) (hb:PE X b tb) {pins:List (Addr×Obj)} {s:Shared} {σ:St} {H:Hp} {R:V->V->Hp->Prop} (I:Inv X pins σ H s)
  (h:ta σ H fun x H1=>tb σ H1 fun y H2=>R x y H2) {Q:Value->Shared->Prop} {f:Value->Value->Sem Value}
  (hf:∀ v u s2 x y H2,Inv X pins σ H2 s2->qCs x v->qCs y u->R x y H2->wpAny (model X.prog X.w) X.A (f v u) Q X.xe s2) :
  wpAny (model X.prog X.w) X.A (eval a X.env) (fun v s₁=>wpAny (model X.prog X.w) X.A (eval b X.env) (fun u s₂=>wpAny (model X.prog X.w) X.A (f v u) Q X.xe s₂) X.xe s₁) X.xe s:=by
 refine thn (ha pins s σ H _ I h) fun v s1 ⟨x,H1,I1,r1,q1⟩=>?_
 refine thn (hb pins s1 σ H1 _ I1 q1) fun u s2 ⟨y,H2,I2,r2,q2⟩=>?_
 exact hf v u s2 x y H2 I2 r1 r2 q2
theorem qAh {op:Operator} {r:R2} (ho:OpR X (binaryOp op) r) (ha:PE X a ta) (hb:PE X b tb):PE X (.BinOp a op b pos) (tOp r ta tb):=by
 intro pins s σ H Q I h
 exact wpAny_BinOp (binT ha hb I h fun v u s2 x y H2 I2 rx ry q=>ho pins s2 σ H2 x y v u Q I2 rx ry q)
theorem pe_un {op:UnaryOp} {r:V->Hp->VK->Prop} (ho:UnR X (unaryOp op) r) (ha:PE X a ta):PE X (.UnaryOp op a pos) (tUn r ta):=by
 intro pins s σ H Q I h
 exact UnaryOp_ (thn (ha pins s σ H _ I h) fun v s1 ⟨x,H1,I1,r1,q1⟩=>ho pins s1 σ H1 x v Q I1 r1 q1)
theorem opI {f:Value->Value->Sem Value} {C:Int->Int->Prop} {g:Int->Int->Int}
  (rule:∀ (i j:Int) (t u:Tok) (s:Shared) (Q:Value->Shared->Prop) (E:Value->Shared->Prop),C i j->Q (.int (g i j) s.toks) { s with toks:=s.toks+1 }->wpAny (model X.prog X.w) X.A (f (.int i t) (.int j u)) Q E s) :
  OpR X f (rI C fun i j=>.int (g i j)):=by
 intro pins s σ H x y v u Q I rx ry h
 obtain ⟨i,j,rfl,rfl,hc,q⟩:=h
 obtain ⟨t,rfl⟩:=rx
 obtain ⟨t',rfl⟩:=ry
 exact rule i j t t' s _ _ hc ⟨.int (g i j),H,I.tok _,⟨_,rfl⟩,q⟩
theorem opI0 {f:Value->Value->Sem Value} {g:Int->Int->Int}
  (rule:∀ (i j:Int) (t u:Tok) (s:Shared) (Q:Value->Shared->Prop) (E:Value->Shared->Prop),Q (.int (g i j) s.toks) { s with toks:=s.toks+1 }->wpAny (model X.prog X.w) X.A (f (.int i t) (.int j u)) Q E s) :
  OpR X f (rI0 fun i j=>.int (g i j)):=by
 intro pins s σ H x y v u Q I rx ry h
 obtain ⟨i,j,rfl,rfl,q⟩:=h
 obtain ⟨t,rfl⟩:=rx
 obtain ⟨t',rfl⟩:=ry
 exact rule i j t t' s _ _ ⟨.int (g i j),H,I.tok _,⟨_,rfl⟩,q⟩
theorem opB0 {f:Value->Value->Sem Value} {g:Int->Int->Bool}
  (rule:∀ (i j:Int) (t u:Tok) (s:Shared) (Q:Value->Shared->Prop) (E:Value->Shared->Prop),Q (.bool (g i j)) s->wpAny (model X.prog X.w) X.A (f (.int i t) (.int j u)) Q E s) :
  OpR X f (rI0 fun i j=>.bl (g i j)):=by
 intro pins s σ H x y v u Q I rx ry h
 obtain ⟨i,j,rfl,rfl,q⟩:=h
 obtain ⟨t,rfl⟩:=rx
 obtain ⟨t',rfl⟩:=ry
 exact rule i j t t' s _ _ ⟨.bl (g i j),H,I,rfl,q⟩
def CDiv (i j:Int):Prop:=0<j/\j<1073741824
def CPow (i j:Int):Prop:=0<=j/\j<=1000000/\i.natAbs<2^64
def CMul (i j:Int):Prop:=(-(2^64)<i/\i<2^64)\/(-(2^64)<j/\j<2^64)
theorem CMul.ok {i j:Int} (h:CMul i j):IntMulOk i j:=by
 rcases h with ⟨h1,h2⟩ | ⟨h1,h2⟩
 ·exact .of_left (intBits_le_64 h1 h2)
 ·exact .of_right (intBits_le_64 h1 h2)
theorem two_pow_nn (k:Nat):(0:Int)<=2^k:=by
 rw [two_pow_cast]
 exact Int.natCast_nonneg _
theorem qBk:OpR X (binaryOp .Add) (rI0 fun i j=>.int (i+j)):=opI0 fun _ _ _ _ _ _ _ q=>add_int q
theorem qDk:OpR X (binaryOp .Sub) (rI0 fun i j=>.int (i - j)):=opI0 fun _ _ _ _ _ _ _ q=>sub_int q
theorem qDl:OpR X (binaryOp .Mult) (rI CMul fun i j=>.int (i*j)):=opI fun _ _ _ _ _ _ _ hc q=>mul_int q hc.ok
theorem qA4:OpR X (binaryOp .FloorDiv) (rI CDiv fun i j=>.int (i / j)):=opI fun i j _ _ _ _ _ hc q=>by
 have h1:(0:Int)<j:=hc.1
 have h2:j<1073741824:=hc.2
 exact floordiv_int (by omega) (by rw [Int.fdiv_eq_ediv_of_nonneg i (by omega)];exact q) (.inl (PyProof.noPylong_small (by omega)))
theorem qBe:OpR X (binaryOp .Mod) (rI (fun _ j=>0<j) fun i j=>.int (i % j)):=opI fun i j _ _ _ _ _ hc q=>by
 have h1:(0:Int)<j:=hc
 exact mod_int' (by omega) (by rw [Int.fmod_eq_emod_of_nonneg i (by omega)];exact q)
theorem op_pow:OpR X (binaryOp .Pow) (rI CPow fun i j=>.int (i^j.toNat)):=opI fun _ _ _ _ _ _ _ hc q=>pow_int_small hc.1 hc.2.1 hc.2.2 q
theorem qCt:OpR X (binaryOp .LShift) (rI CPow fun i j=>.int (i*2^j.toNat)):=opI fun _ _ _ _ _ _ _ hc q=>lshift_int_small hc.1 hc.2.1 hc.2.2 q
theorem qGt:OpR X (binaryOp .RShift) (rI (fun _ j=>0<=j) fun i j=>.int (i / 2^j.toNat)):=opI fun i j _ _ _ _ _ hc q =>
 rshift_int hc (by rw [Int.fdiv_eq_ediv_of_nonneg i (two_pow_nn _)];exact q)
theorem qBy:OpR X (binaryOp .BitAnd) (rI0 fun i j=>.int (Builtin.bitAnd i j)):=opI0 fun _ _ _ _ _ _ _ q=>and_int q
theorem op_or:OpR X (binaryOp .BitOr) (rI0 fun i j=>.int (Builtin.bitOr i j)):=opI0 fun _ _ _ _ _ _ _ q=>or_int q
theorem qDj:OpR X (binaryOp .BitXor) (rI0 fun i j=>.int (Builtin.bitXor i j)):=opI0 fun _ _ _ _ _ _ _ q=>xor_int q
theorem unI {f:Value->Sem Value} {g:Int->Int}
  (rule:∀ (i:Int) (t:Tok) (s:Shared) (Q:Value->Shared->Prop) (E:Value->Shared->Prop),Q (.int (g i) s.toks) { s with toks:=s.toks+1 }->wpAny (model X.prog X.w) X.A (f (.int i t)) Q E s) :
  UnR X f (rU fun i=>.int (g i)):=by
 intro pins s σ H x v Q I rx h
 obtain ⟨i,rfl,q⟩:=h
 obtain ⟨t,rfl⟩:=rx
 exact rule i t s _ _ ⟨.int (g i),H,I.tok _,⟨_,rfl⟩,q⟩
theorem un_neg:UnR X (unaryOp .USub) (rU fun i=>.int (-i)):=unI fun _ _ _ _ _ q=>neg_int q
end
def scal:V->V->Bool
 | .non,.non=>true | .non,.int _=>true | .int _,.non=>true | .non,.bl _=>true | .bl _,.non=>true | .non,.str _=>true | .str _,.non=>true
 | .int _,.int _=>true | .bl _,.bl _=>true | .str _,.str _=>true | .byt _,.byt _=>true
 | .int _,.str _=>true | .str _,.int _=>true | .bl _,.str _=>true | .str _,.bl _=>true
 | _,_=>false
def rEq:R2:=fun x y H Q=>scal x y=true/\Q (.bl (decide (x=y))) H
def rNe:R2:=fun x y H Q=>scal x y=true/\Q (.bl (!decide (x=y))) H
theorem dec_int {i j:Int}:decide (V.int i=V.int j)=(i == j):=by
 rw [Bool.eq_iff_iff]
 simp
theorem dec_bl {i j:Bool}:decide (V.bl i=V.bl j)=(i == j):=by
 rw [Bool.eq_iff_iff]
 simp
theorem dec_str {i j:Str}:decide (V.str i=V.str j)=(i == j):=by
 rw [Bool.eq_iff_iff]
 simp
theorem dec_byt {i j:Array UInt8}:decide (V.byt i=V.byt j)=(i.toList == j.toList):=by
 rw [Bool.eq_iff_iff]
 cases i
 cases j
 simp
section
variable {X:Cx} {a b c:Expr} {ta tb tc:TE} {pos:Pos}
theorem fin_bl {pins:List (Addr×Obj)} {σ:St} {H:Hp} {s:Shared} {Q:VK} {k k':Bool} (I:Inv X pins σ H s) (q:Q (.bl k) H) (e:k=k'):EP X pins σ Q (.bool k') s:=by
 subst e
 exact ⟨.bl k,H,I,rfl,q⟩
theorem qDt:OpR X (compareOp .Eq) rEq:=by
 intro pins s σ H x y v u Q I rx ry h
 obtain ⟨hs,q⟩:=h
 cases x with
 | non =>
  cases rx
  cases y with
  | non=>cases ry;exact PySem.EqNone.eq_none_none (fin_bl I q (by simp))
  | bl j=>cases ry;exact PySem.EqNone.eq_none_bool (fin_bl I q (by simp))
  | int j=>obtain ⟨t',rfl⟩:=ry;exact PySem.EqNone.eq_none_int (fin_bl I q (by simp))
  | str j=>obtain ⟨t',rfl⟩:=ry;exact PySem.EqNone.eq_none_str (fin_bl I q (by simp))
  | _=>exact absurd (show false=true from hs) Bool.false_ne_true
 | bl i =>
  cases rx
  cases y with
  | non=>cases ry;exact PySem.EqNone.eq_bool_none (fin_bl I q (by simp))
  | bl j=>cases ry;exact eq_bool (fin_bl I q dec_bl)
  | str j=>obtain ⟨t',rfl⟩:=ry;exact PySem.EqMixed.eq_bool_str (fin_bl I q (by simp))
  | _=>exact absurd (show false=true from hs) Bool.false_ne_true
 | int i =>
  obtain ⟨t,rfl⟩:=rx
  cases y with
  | non=>cases ry;exact PySem.EqNone.eq_int_none (fin_bl I q (by simp))
  | int j=>obtain ⟨t',rfl⟩:=ry;exact eq_int (fin_bl I q dec_int)
  | str j=>obtain ⟨t',rfl⟩:=ry;exact PySem.EqMixed.eq_int_str (fin_bl I q (by simp))
  | _=>exact absurd (show false=true from hs) Bool.false_ne_true
 | str i =>
  obtain ⟨t,rfl⟩:=rx
  cases y with
  | non=>cases ry;exact PySem.EqNone.eq_str_none (fin_bl I q (by simp))
  | bl j=>cases ry;exact PySem.EqMixed.eq_str_bool (fin_bl I q (by simp))
  | int j=>obtain ⟨t',rfl⟩:=ry;exact PySem.EqMixed.eq_str_int (fin_bl I q (by simp))
  | str j=>obtain ⟨t',rfl⟩:=ry;exact eq_str (fin_bl I q dec_str)
  | _=>exact absurd (show false=true from hs) Bool.false_ne_true
 | byt i =>
  obtain ⟨t,rfl⟩:=rx
  cases y with
  | byt j=>obtain ⟨t',rfl⟩:=ry;exact PySem.W.eq_bytes (fin_bl I q dec_byt)
  | _=>exact absurd (show false=true from hs) Bool.false_ne_true
 | _=>cases y <;> exact absurd (show false=true from hs) Bool.false_ne_true
theorem qFr:OpR X (compareOp .NotEq) rNe:=by
 intro pins s σ H x y v u Q I rx ry h
 obtain ⟨hs,q⟩:=h
 cases x with
 | non =>
  cases rx
  cases y with
  | non=>cases ry;exact PySem.EqNone.ne_none_none (fin_bl I q (by simp))
  | bl j=>cases ry;exact PySem.EqNone.ne_none_bool (fin_bl I q (by simp))
  | int j=>obtain ⟨t',rfl⟩:=ry;exact PySem.EqNone.ne_none_int (fin_bl I q (by simp))
  | str j=>obtain ⟨t',rfl⟩:=ry;exact PySem.EqNone.ne_none_str (fin_bl I q (by simp))
  | _=>exact absurd (show false=true from hs) Bool.false_ne_true
 | bl i =>
  cases rx
  cases y with
  | non=>cases ry;exact PySem.EqNone.ne_bool_none (fin_bl I q (by simp))
  | bl j=>cases ry;exact ne_bool (fin_bl I q (congrArg not dec_bl))
  | str j=>obtain ⟨t',rfl⟩:=ry;exact PySem.EqMixed.ne_bool_str (fin_bl I q (by simp))
  | _=>exact absurd (show false=true from hs) Bool.false_ne_true
 | int i =>
  obtain ⟨t,rfl⟩:=rx
  cases y with
  | non=>cases ry;exact PySem.EqNone.ne_int_none (fin_bl I q (by simp))
  | int j=>obtain ⟨t',rfl⟩:=ry;exact ne_int (fin_bl I q (congrArg not dec_int))
  | str j=>obtain ⟨t',rfl⟩:=ry;exact PySem.EqMixed.ne_int_str (fin_bl I q (by simp))
  | _=>exact absurd (show false=true from hs) Bool.false_ne_true
 | str i =>
  obtain ⟨t,rfl⟩:=rx
  cases y with
  | non=>cases ry;exact PySem.EqNone.ne_str_none (fin_bl I q (by simp))
  | bl j=>cases ry;exact PySem.EqMixed.ne_str_bool (fin_bl I q (by simp))
  | int j=>obtain ⟨t',rfl⟩:=ry;exact PySem.EqMixed.ne_str_int (fin_bl I q (by simp))
  | str j=>obtain ⟨t',rfl⟩:=ry;exact ne_str (fin_bl I q (congrArg not dec_str))
  | _=>exact absurd (show false=true from hs) Bool.false_ne_true
 | byt i =>
  obtain ⟨t,rfl⟩:=rx
  cases y with
  | byt j=>obtain ⟨t',rfl⟩:=ry;exact PySem.W.ne_bytes (fin_bl I q (congrArg not dec_byt))
  | _=>exact absurd (show false=true from hs) Bool.false_ne_true
 | _=>cases y <;> exact absurd (show false=true from hs) Bool.false_ne_true
theorem qFs:OpR X (compareOp .Lt) (rI0 fun i j=>.bl (decide (i<j))):=opB0 fun _ _ _ _ _ _ _ q=>lt_int q
theorem op_le:OpR X (compareOp .LtE) (rI0 fun i j=>.bl (decide (i<=j))):=opB0 fun _ _ _ _ _ _ _ q=>le_int q
theorem op_gt:OpR X (compareOp .Gt) (rI0 fun i j=>.bl (decide (j<i))):=opB0 fun _ _ _ _ _ _ _ q=>gt_int q
theorem op_ge:OpR X (compareOp .GtE) (rI0 fun i j=>.bl (decide (j<=i))):=opB0 fun _ _ _ _ _ _ _ q=>ge_int q
theorem qAx (b:Expr) {op:CmpOp} (h:op≠.In:=by decide) (h2:op≠.NotIn:=by decide):behindInMarks op b=false:=by
 have e1:(op == CmpOp.In)=false:=by cases op <;> first | rfl | exact absurd rfl h
 have e2:(op == CmpOp.NotIn)=false:=by cases op <;> first | rfl | exact absurd rfl h2
 cases b <;> simp [behindInMarks,e1,e2]
theorem qFp {op:CmpOp} {r:R2} (ho:OpR X (compareOp op) r) (ha:PE X a ta) (hb:PE X b tb) (hm:behindInMarks op b=false):PE X (.Compare a [op] [b] pos) (tOp r ta tb):=by
 intro pins s σ H Q I h
 exact wpAny_Compare1 (binT ha hb I h fun v u s2 x y H2 I2 rx ry q=>ho pins s2 σ H2 x y v u Q I2 rx ry q) hm
def tTest (t:TE):TT:=fun σ H Q=>t σ H fun x H'=>∃ k,x = .bl k/\Q k H'
theorem qAo {op:CmpOp} {r:R2} (ho:OpR X (compareOp op) r) (ha:PE X a ta) (hb:PE X b tb) (hm:behindInMarks op b=false):PT X (.Compare a [op] [b] pos) (tTest (tOp r ta tb)):=by
 intro pins s σ H Q I h
 refine wpAny_isTrue_Compare1 (thn (ha pins s σ H _ I h) fun v s1 ⟨x,H1,I1,r1,q1⟩=>thn (hb pins s1 σ H1 _ I1 q1) fun u s2 ⟨y,H2,I2,r2,q2⟩ =>
  thn (ho pins s2 σ H2 x y v u _ I2 r1 r2 q2) fun c s3 ⟨z,H3,I3,r3,k,e,q3⟩=>?_) hm
 subst e
 cases r3
 exact wpAny_truthy_bool ⟨H3,I3,q3⟩
def tChain (r r':R2) (ta tb tc:TE):TE:=fun σ H Q=>ta σ H fun x H1=>tb σ H1 fun y H2=>r x y H2 fun z H3=>∃ k,z = .bl k /\
 (if k=true then tc σ H3 fun w' H4=>r' y w' H4 Q else Q (.bl false) H3)
theorem pt_chain {op op':CmpOp} {r r':R2} (ho:OpR X (compareOp op) r) (ho':OpR X (compareOp op') r') (ha:PE X a ta) (hb:PE X b tb) (hc:PE X c tc)
  (hm:lastMarks [op,op'] [b,c]=false:=by with_unfolding_all rfl):PT X (.Compare a [op,op'] [b,c] pos) (tTest (tChain r r' ta tb tc)):=by
 intro pins s σ H Q I h
 refine isTrue_chain (thn (ha pins s σ H _ I h) fun v s1 ⟨x,H1,I1,r1,q1⟩=>test_link (thn (hb pins s1 σ H1 _ I1 q1) fun u s2 ⟨y,H2,I2,r2,q2⟩ =>
  thn (ho pins s2 σ H2 x y v u _ I2 r1 r2 q2) fun d s3 ⟨z,H3,I3,r3,k,e,q3⟩=>?_)) hm
 subst e
 cases r3
 refine wpAny_truthy_bool ?_
 cases k with
 | false =>
  obtain ⟨k',e',q'⟩:=q3
  cases e'
  exact ite_ff ⟨H3,I3,q'⟩
 | true =>
  refine ite_tt (test_last (thn (hc pins s3 σ H3 _ I3 q3) fun w' s4 ⟨z',H4,I4,r4,q4⟩=>thn (ho' pins s4 σ H4 y z' u w' _ I4 r2 r4 q4) fun d' s5 ⟨z2,H5,I5,r5,k2,e2,q5⟩=>?_))
  subst e2
  cases r5
  exact wpAny_truthy_bool ⟨H5,I5,q5⟩
theorem line63:(sizeLine:Nat)<2^63:=by rw [sizeLine_eq];decide
theorem qEb:OpR X (binaryOp .Add) (fun x y H Q=>∃ i j,x = .str i/\y = .str j/\i.length+j.length<=sizeLine/\Q (.str (i++j)) H):=by
 intro pins s σ H x y v u Q I rx ry h
 obtain ⟨i,j,rfl,rfl,hz,q⟩:=h
 obtain ⟨t,rfl⟩:=rx
 obtain ⟨t',rfl⟩:=ry
 exact add_str (fun t' tk=>⟨.str (i++j),H,I.tok _,⟨_,rfl⟩,q⟩) hz
theorem qCx {x:V} {us:List Value} (r:qBc [x] us):∃ u,us=[u]/\qCs x u:=by
 cases r with
 | cons r1 r2=>cases r2;exact ⟨_,rfl,r1⟩
theorem vals2 {x y:V} {us:List Value} (r:qBc [x,y] us):∃ u w',us=[u,w']/\qCs x u/\qCs y w':=by
 cases r with
 | cons r1 r2 =>
  cases r2 with
  | cons r3 r4=>cases r4;exact ⟨_,_,rfl,r1,r3⟩
theorem call_abs:qCw X (.builtin "abs") (fun xs H Q=>∃ i,xs=[.int i]/\Q (.int (if i<0 then -i else i)) H):=by
 intro pins s σ H xs us Q I r h
 obtain ⟨i,rfl,q⟩:=h
 obtain ⟨u,rfl,t,rfl⟩:=qCx r
 exact call_abs_int fun u tk=>⟨.int (if i<0 then -i else i),H,I.tok _,⟨_,rfl⟩,q⟩
theorem qF2 (hc:X.calm=true):qCw X (.builtin "min") (fun xs H Q=>∃ i j,xs=[.int i,.int j]/\Q (.int (if j<i then j else i)) H):=by
 intro pins s σ H xs us Q I r h
 obtain ⟨i,j,rfl,q⟩:=h
 obtain ⟨u,w',rfl,⟨t,rfl⟩,⟨t',rfl⟩⟩:=vals2 r
 refine min_two_ints (I.ok.hd hc) fun h' tk k=>⟨_,H,I.kept k,?_,q⟩
 by_cases hj:j<i
 ·rw [if_pos hj,if_pos hj];exact ⟨_,rfl⟩
 ·rw [if_neg hj,if_neg hj];exact ⟨_,rfl⟩
theorem call_int1:qCw X (.type "int") (fun xs H Q=>(∃ i,xs=[.int i]/\Q (.int i) H)\/∃ k,xs=[.bl k]/\Q (.int (if k then 1 else 0)) H):=by
 intro pins s σ H xs us Q I r h
 rcases h with ⟨i,rfl,q⟩ | ⟨k,rfl,q⟩
 ·obtain ⟨u,rfl,t,rfl⟩:=qCx r
  exact call_int_int ⟨.int i,H,I,⟨_,rfl⟩,q⟩
 ·obtain ⟨u,rfl,r1⟩:=qCx r
  cases r1
  exact call_int_bool ⟨.int (if k then 1 else 0),H,I.tok _,⟨_,rfl⟩,q⟩
end
end L2
namespace L2
open PySem PySem.Spec PyProof.Rows
structure ObjM (h:Heap) (x dx C:Addr) (mA:Str->Option Value):Prop where
 obj:h.get? x=some (PySem.W.instObj C dx)
 ns:h.Ns1 dx mA
 ne:dx≠x
structure Cls (K:PySem.W.Frag) (C:Addr):Prop where
 pg:PySem.W.plainGet K C Str.empty=true
 hd:PySem.W.hasDictIn K C=true
 po:PySem.W.plainOver K C=true
 sa:PySem.W.findIn K (.ref C) "__setattr__" = some (some (.builtin "object.__setattr__"))
structure Con (K:PySem.W.Frag) (C:Addr) (f:Str) (v:V) (u:Value):Prop where
 at_:PySem.W.findIn K (.ref C) f=some (some u)
 rel:qCs v u
 get:PySem.W.specialIn K u "__get__" = some none
 cp:PySem.W.copiedNames.contains f=false
structure Meth (K:PySem.W.Frag) (C:Addr) (m:Str) (f:Addr):Prop where
 at_:PySem.W.findIn K (.ref C) m=some (some (.ref f))
 fn:PySem.W.isFn K (.ref f)=true
 kp:PySem.W.keepIn K (.ref f)=true
section
variable {X:Cx} {pins:List (Addr×Obj)} {σ:St} {H:Hp} {s:Shared} {A:Around} {E:Value->Shared->Prop} {Q:Value->Shared->Prop} {c:Value} {b:Bool}
inductive TyOf (K:PySem.W.Frag) (H:Hp):V->Value->Prop where
 | non:TyOf K H .non (.type "NoneType")
 | bl (x:Bool):TyOf K H (.bl x) (.type "bool")
 | int (i:Int):TyOf K H (.int i) (.type "int")
 | str (x:Str):TyOf K H (.str x) (.type "str")
 | flt (x:UInt64):TyOf K H (.flt x) (.type "float")
 | lst {a:Addr} {xs:List V} (e:H a=some (.lst xs)):TyOf K H (.ref a) (.type "list")
 | frz {a:Addr} {o:Obj} {xs:List V} (e:H a=some (.frz o (.lst xs))):TyOf K H (.ref a) (.type "list")
 | tup {a:Addr} {xs:List V} (e:H a=some (.tup xs)):TyOf K H (.ref a) (.type "tuple")
 | dK {a:Addr} {kvs:List (Key×V)} (e:H a=some (.dK kvs)):TyOf K H (.ref a) (.type "dict")
 | dT {a:Addr} {kvs:List (List Key×V)} (e:H a=some (.dT kvs)):TyOf K H (.ref a) (.type "dict")
 | ins {a C dx:Addr} {fs:List (Str×V)} (e:H a=some (.ins C dx fs)) (cl:Cls K C) (ha:PySem.W.findIn K (.ref C) "__class__" = some (some (.builtin "object.__class__")))
   (hn:PySem.W.specialIn K (.builtin "object.__class__") "__get__" = some (some (.builtin "getset_descriptor.__get__"))) (htk:PySem.W.takesIn K (.builtin "object.__class__")=some true)
   (hm:PySem.W.mroIn K C (.type "object")=some true):TyOf K H (.ref a) (.ref C)
end
end L2
namespace L2
open PySem PySem.Spec PyProof.Rows
structure Room (k:Nat) (A:Around):Prop where
 hd:A.handled=none
 dp:A.depth+3*k+5<recursionLimit
 un:A.units+16*k+200<cLine
 gd:A.guards=some []
theorem Room.mono {j k:Nat} {A:Around} (r:Room k A) (h:j<=k):Room j A:=⟨r.hd,by have:=r.dp;omega,by have:=r.un;omega,r.gd⟩
theorem Room.deeper {k:Nat} {A:Around} (r:Room (k+1) A) (env:Env):Room k (A.deeper env) :=
 ⟨r.hd,by have:=r.dp;show A.depth+1+3*k+5<_;omega,by have:=r.un;show A.units+3+16*k+200<_;omega,r.gd⟩
theorem Room.in1 {k:Nat} {A:Around} (r:Room (k+1) A):Room k A.in1 :=
 ⟨r.hd,by have:=r.dp;show A.depth+3*k+5<_;omega,by have:=r.un;show A.units+1+16*k+200<_;omega,r.gd⟩
theorem Room.depth {k:Nat} {A:Around} (r:Room k A):A.depth<recursionLimit:=by have:=r.dp;omega
def tNil:TA:=fun _ H Q=>Q [] H
def qF7 (ta:TE) (tr:TA):TA:=fun σ H Q=>ta σ H fun x H1=>tr σ H1 fun xs H2=>Q (x :: xs) H2
section
variable {X:Cx} {e:Expr} {es:List Expr} {te:TE} {t:TA} {pos:Pos}
theorem qAd:PA X [] tNil:=fun _ _ _ _ H Q I h=>Calls.spliced_nil ⟨[],H,I,.nil,h⟩
theorem qAa (ha:PE X e te) (hr:PA X es t) (hs:starEach (e :: es) X.env=(false,eval e X.env) :: starEach es X.env:=by rfl):PA X (e :: es) (qF7 te t):=by
 intro pos pins s σ H Q I h
 rw [hs]
 show wpAny _ _ (spliced ((false,eval e X.env) :: backTo pos (starEach es X.env))) _ _ s
 refine Calls.spliced_cons (thn (ha pins s σ H _ I h) fun u s1 ⟨x,H1,I1,r1,q1⟩=>?_)
 exact thn (hr pos pins s1 σ H1 _ I1 q1) fun us s2 ⟨xs,H2,I2,r2,q2⟩=>⟨x :: xs,H2,I2,.cons r1 r2,q2⟩
def tTup (t:TA):TE:=fun σ H Q=>t σ H fun xs H1=>xs.length<=sizeLine/\∀ p,H1 p=none->Q (.ref p) (upd H1 p (.tup xs))
def tLst (t:TA):TE:=fun σ H Q=>t σ H fun xs H1=>xs.length<=sizeLine/\∀ p,H1 p=none->Q (.ref p) (upd H1 p (.lst xs))
theorem qCm {x1} (h:PA X es t):PE X (.Tuple es x1 pos) (tTup t):=by
 intro pins s σ H Q I hq
 refine wpAny_Tuple_spliced (thn (h pos pins s σ H _ I hq) fun us s1 ⟨xs,H1,I1,r,z,q⟩=>⟨by rw [<-r.length];exact z,?_⟩)
 have hf:H1 s1.heap.objs.size=none:=I1.hok.fresh (Nat.le_refl _)
 refine ⟨.ref s1.heap.objs.size,upd H1 s1.heap.objs.size (.tup xs),I1.laid (t':=s1.toks) (fun b u e=>Heap.get?_push_of_some _ e) (Nat.le_refl _) ?_,rfl,q _ hf⟩
 exact ⟨z,us,r,⟨_,Heap.get?_push_size _ rfl,rfl,_,rfl⟩⟩
theorem qBa (h:PA X es t):PE X (.List es pos) (tLst t):=by
 intro pins s σ H Q I hq
 refine wpAny_List_spliced (thn (h pos pins s σ H _ I hq) fun us s1 ⟨xs,H1,I1,r,z,q⟩=>⟨by rw [<-r.length];exact z,?_⟩)
 have hf:H1 s1.heap.objs.size=none:=I1.hok.fresh (Nat.le_refl _)
 refine ⟨.ref s1.heap.objs.size,upd H1 s1.heap.objs.size (.lst xs),I1.laid (t':=s1.toks) (fun b u e=>Heap.get?_push_of_some _ e) (Nat.le_refl _) ?_,rfl,q _ hf⟩
 exact ⟨z,us,0,r,Heap.get?_push_size _ rfl⟩
end
abbrev Sp:=List V->Hp->VK->XK->Prop
abbrev CXT:=List Env->Hp->Shared->XK->Value->Shared->Prop
structure Env0 (P:Program) (w:World) (K:PySem.W.Frag) (mg:Str->Option Value) (base:Heap) (A:Around) (outer:List Env) (s:Shared) (H:Hp):Prop where
 frames:A.frames=some outer
 mod:Mod K mg base
 bs:∀ b o,base.get? b=some o->s.heap.get? b=some o/\H b=none
 bsz:base.objs.size<=s.heap.objs.size
 funs:s.heap.FunFrames base outer
 frf:∀ b∈frs outer,H b=none
 hok:HOk P w H s.heap
 bare:AllBare s.gens
def CE (outer:List Env) (P:Program) (w:World) (H:Hp) (s:Shared) (Q:VK) (u:Value) (s':Shared):Prop :=
 ∃ v H',s'.os=s.os/\AllBare s'.gens/\Un (frs outer) [] H H' s.heap s'.heap/\HOk P w H' s'.heap/\qCs v u/\Q v H'
def CR (CX:CXT) (outer:List Env) (P:Program) (w:World) (H:Hp) (s:Shared) (Q:VK) (E:XK) (r:Result) (s':Shared):Prop :=
 match r with
 | .ok (.ret u)=>CE outer P w H s Q u s'
 | .ok _=>False
 | .error e=>CX outer H s E e s'
structure FnOk (P:Program) (w:World) (K:PySem.W.Frag) (mg:Str->Option Value) (base:Heap) (CX:CXT) (k:Nat) (f:Addr) (fd:FuncData) (ps:List Str) (sp:Sp):Prop where
 len:∀ vs H Q E,sp vs H Q E->vs.length=ps.length
 run:∀ (A:Around) (outer:List Env) (s:Shared) (H:Hp) (args:Args) (us:List Value) (vs:List V) (Q:VK) (E:XK),Room k A->Env0 P w K mg base A outer s H->BindsTo s fd args (ps.zip us)->qBc vs us->sp vs H Q E ->
  codeAny (model P w) A (.call (.ref f) args) (CR CX outer P w H s Q E) s
theorem Env0.in1 {P:Program} {w:World} {K:PySem.W.Frag} {mg:Str->Option Value} {base:Heap} {A:Around} {outer:List Env} {s:Shared} {H:Hp} (e:Env0 P w K mg base A outer s H) :
  Env0 P w K mg base A.in1 outer s H:=⟨e.frames,e.mod,e.bs,e.bsz,e.funs,e.frf,e.hok,e.bare⟩
section
variable {X:Cx} {pins:List (Addr×Obj)} {σ:St} {H:Hp} {s s':Shared}
theorem Inv.env0 (I:Inv X pins σ H s):Env0 X.prog X.w X.K X.mg X.base X.A X.stack s H :=
 ⟨I.ok.frames,I.ok.mod,I.bs,Nat.le_trans I.ok.bsz I.sz,I.stack,I.stkFree,I.hok,I.bare⟩
theorem Inv.after {Q:VK} {u:Value} (I:Inv X pins σ H s) (h:CE X.stack X.prog X.w H s Q u s'):EP X pins σ Q u s':=by
 obtain ⟨v,H',os,bare,un,hok,r,q⟩:=h
 obtain ⟨hh,g,d,t,os'⟩:=s'
 obtain rfl:os'=s.os:=os
 exact ⟨v,H',I.call (h':=hh) (g':=g) (d':=d) (t':=t) (ch:=[]) un hok bare (fun b z=>absurd z (by simp)),r,q⟩
end
def tCall (sp:Sp) (dvs:List V) (E:XK) (t:TA):TE:=fun σ H Q=>t σ H fun vs H1=>sp (vs++dvs) H1 Q E
def qA1 (K:PySem.W.Frag) (fd:FuncData) (ps:List Str) (ds:List Value):Prop :=
 ∀ (s:Shared) (us:List Value),K.In s.heap->(us++ds).length=ps.length->BindsTo s fd ⟨us,[]⟩ (ps.zip (us++ds))
theorem qA1.all {K:PySem.W.Frag} {fd:FuncData} {ps:List Str} (h:∀ us:List Value,us.length=ps.length->bindArgs fd ⟨us,[]⟩=pure (ps.zip us)):qA1 K fd ps []:=fun s us _ hl=>by
 rw [List.append_nil] at hl ⊢
 exact .of_eq (h us hl)
def Passes (CX:CXT) (X:Cx) (E:XK):Prop:=∀ (pins:List (Addr×Obj)) (σ:St) (H:Hp) (s:Shared) (e:Value) (s':Shared),Inv X pins σ H s->CX X.stack H s E e s'->X.xe e s'
section
variable {X:Cx} {CX:CXT} {k:Nat} {f C:Addr} {fd:FuncData} {ps:List Str} {sp:Sp} {dvs:List V} {ds:List Value} {E:XK} {x m:Str} {p pos apos:Pos} {e o:Expr} {es:List Expr} {ta:TE} {t:TA}
theorem run_fn {pins:List (Addr×Obj)} {σ:St} {H:Hp} {s:Shared} {Q:VK} {us:List Value} {vs:List V} (F:FnOk X.prog X.w X.K X.mg X.base CX k f fd ps sp) (hr:Room k X.A) (hb:qA1 X.K fd ps ds) (hd:qBc dvs ds) (hx:Passes CX X E)
  (I:Inv X pins σ H s) (r:qBc vs us) (h:sp (vs++dvs) H Q E):wpAny (model X.prog X.w) X.A (call (.ref f) us) (EP X pins σ Q) X.xe s:=by
 have r2:qBc (vs++dvs) (us++ds):=r.append hd
 have hl:(us++ds).length=ps.length:=by rw [<-r2.length];exact F.len _ _ _ _ h
 refine wpAny_call (codeAny_mono (F.run X.A X.stack s H ⟨us,[]⟩ (us++ds) (vs++dvs) Q E hr I.env0 (hb s us I.kIn hl) r2 h) fun r s' hq=>?_)
 cases r with
 | error e=>exact hx pins σ H s e s' I hq
 | ok fl =>
  cases fl with
  | ret u=>exact I.after hq
  | next=>exact False.elim hq
  | brk=>exact False.elim hq
  | cont=>exact False.elim hq
theorem qAg (F:FnOk X.prog X.w X.K X.mg X.base CX k f fd ps sp) (hr:Room k X.A) (hg:Gl X x) (hm:X.mg x=some (.ref f)) (hk:PySem.W.keepIn X.K (.ref f)=true) (hb:qA1 X.K fd ps ds) (hd:qBc dvs ds) (hx:Passes CX X E)
  (ha:PA X (e :: es) t) (hdb:(x == ("__debug__" : Str))=false:=by decide) (he:starEach (e :: es) X.env=(false,eval e X.env) :: starEach es X.env:=by rfl) (hpl:(backTo pos (starEach es X.env)).any (·.1)=false:=by rfl) :
  PE X (.Call (.Name x p) (e :: es) [] pos) (tCall sp dvs E t):=by
 intro pins s σ H Q I h
 refine wpAny_Call_Name_kw (ld_glob I hg hm ?_ hdb)
 refine PySem.W.callWith_K (h₀:=X.base) I.ok.mod.kin hk (thn (ha pos pins s σ H _ I h) fun us s1 ⟨vs,H1,I1,r,q⟩=>⟨I1.kIn,?_⟩) he hpl
 exact run_fn F hr hb hd hx I1 r q
structure Mk (K:PySem.W.Frag) (C f:Addr):Prop where
 makes:PySem.W.makesIn K C=true
 init:PySem.W.findIn K (.ref C) "__init__" = some (some (.ref f))
 fn:PySem.W.isFn K (.ref f)=true
 kp:PySem.W.keepIn K (.ref C)=true
end
section
variable {X:Cx} {CX:CXT} {k:Nat} {f C:Addr} {fd:FuncData} {ps ks:List Str} {sp:Sp} {E:XK} {x m:Str} {p pos apos kpos:Pos} {e o:Expr} {es:List Expr} {kws:List Keyword} {te ta:TE} {t tk:TA} {nm:Option Str}
structure KBinds (K:PySem.W.Frag) (fd:FuncData) (ps ks:List Str) (g:List Value->List Value->List Value) (gV:List V->List V->List V):Prop where
 to:∀ (s:Shared) (us ws:List Value),K.In s.heap->(g us ws).length=ps.length->BindsTo s fd ⟨us,ks.zip ws⟩ (ps.zip (g us ws))
 rel:∀ {vs:List V} {us:List Value} {zs:List V} {ws:List Value},qBc vs us->qBc zs ws->qBc (gV vs zs) (g us ws)
variable {g:List Value->List Value->List Value} {gV:List V->List V->List V}
end
structure FnScope (N P:List Str) (sc:Scope):Prop where
 kind:sc.kind = .function
 co:sc.isCoroutine=false
 gen:sc.isGenerator=false
 nd:N.Nodup
 pre:N.take P.length=P
 par:∀ x∈P,sc.names.lookup x=some .local\/sc.names.lookup x=some .cell
 nofree:∀ y∈sc.names,y.2≠.free
theorem bindL_out {kindOf:Str->Option NameKind} {x:Str}:∀ {binds:List (Str×Value)} {m:Str->Option Value},(∀ v,(x,v)∉binds)->bindL kindOf binds m x=m x
 | [],_,_=>rfl
 | (n,v) :: r,m,h=>by
  unfold bindL
  rw [bindL_out fun w hw=>h w (List.mem_cons_of_mem _ hw)]
  split
  ·have:x≠n:=by rintro rfl;exact h v List.mem_cons_self
   simp [this]
  ·rfl
theorem bindC_out {kindOf:Str->Option NameKind} {x:Str}:∀ {binds:List (Str×Value)} {m:Str->Option Value},(∀ v,(x,v)∉binds)->bindC kindOf binds m x=m x
 | [],_,_=>rfl
 | (n,v) :: r,m,h=>by
  unfold bindC
  rw [bindC_out fun w hw=>h w (List.mem_cons_of_mem _ hw)]
  split
  ·rfl
  ·have:x≠n:=by rintro rfl;exact h v List.mem_cons_self
   simp [this]
theorem bindL_get {kindOf:Str->Option NameKind} {x:Str} {v:Value}:∀ {P:List Str} {vs:List Value} {i:Nat} {m:Str->Option Value},P.Nodup->P[i]?=some x->vs[i]?=some v->kindOf x=some .local ->
  bindL kindOf (P.zip vs) m x=some v
 | [],_,_,_,_,h,_,_=>by simp at h
 | _ :: _,[],_,_,_,_,h,_=>by simp at h
 | p :: P,w :: vs,0,m,nd,h1,h2,hk=>by
  simp at h1 h2;subst h1;subst h2
  show bindL kindOf ((p,w) :: P.zip vs) m p=_
  unfold bindL
  rw [bindL_out fun v hv=>(List.nodup_cons.mp nd).1 (List.of_mem_zip hv).1,if_pos hk]
  simp
 | p :: P,w :: vs,i+1,m,nd,h1,h2,hk=>by
  show bindL kindOf ((p,w) :: P.zip vs) m x=_
  unfold bindL
  exact bindL_get (i:=i) (List.nodup_cons.mp nd).2 (by simpa using h1) (by simpa using h2) hk
theorem bindC_get {kindOf:Str->Option NameKind} {x:Str} {v:Value}:∀ {P:List Str} {vs:List Value} {i:Nat} {m:Str->Option Value},P.Nodup->P[i]?=some x->vs[i]?=some v->kindOf x≠some .local ->
  bindC kindOf (P.zip vs) m x=some v
 | [],_,_,_,_,h,_,_=>by simp at h
 | _ :: _,[],_,_,_,_,h,_=>by simp at h
 | p :: P,w :: vs,0,m,nd,h1,h2,hk=>by
  simp at h1 h2;subst h1;subst h2
  show bindC kindOf ((p,w) :: P.zip vs) m p=_
  unfold bindC
  rw [bindC_out fun v hv=>(List.nodup_cons.mp nd).1 (List.of_mem_zip hv).1,if_neg hk]
  simp
 | p :: P,w :: vs,i+1,m,nd,h1,h2,hk=>by
  show bindC kindOf ((p,w) :: P.zip vs) m x=_
  unfold bindC
  exact bindC_get (i:=i) (List.nodup_cons.mp nd).2 (by simpa using h1) (by simpa using h2) hk
def qEs (N:List Str) (vs:List V):St:=vs.map some++List.replicate (N.length - vs.length) none
def cxOf (CX:CXT) (P:Program) (w:World) (K:PySem.W.Frag) (mg:Str->Option Value) (base:Heap) (N:List Str) (qual:Str) (scope:Scope) (f:Addr) (cd:Value) (A:Around) (outer:List Env) (s:Shared) (H:Hp) (E:XK):Cx where
 prog:=P
 w:=w
 K:=K
 mg:=mg
 base:=base
 A:=A.deeper (envOfC qual scope s.heap.objs.size f cd)
 N:=N
 s₀:=s
 H₀:=H
 env:=envOfC qual scope s.heap.objs.size f cd
 outer:=outer
 stack:=envOfC qual scope s.heap.objs.size f cd :: outer
 ex:=[]
 calm:=true
 fn:=fun _=>true
 pn:=[]
 xe:=fun e s'=>wpAny (model P w) (A.deeper (envOfC qual scope s.heap.objs.size f cd)) (leaving (envOfC qual scope s.heap.objs.size f cd) e) (fun _ s''=>CX outer H s E e s'') (fun e' s''=>CX outer H s E e' s'') s'
theorem cell_has {sc:Scope} {n:Nat} {x:Str} (h:sc.names.lookup x=some .cell):∃ c,(cellsFrom n sc.names []).lookup x=some c:=by
 have q:=PySem.W.cellsFrom_some sc.names n [] (.inl h)
 exact Option.isSome_iff_exists.mp q
theorem inv_start {CX:CXT} {P:Program} {w:World} {K:PySem.W.Frag} {mg:Str->Option Value} {base:Heap} {N ps:List Str} {qual:Str} {scope:Scope} {f:Addr} {cd:Value} {A:Around} {outer:List Env} {s s1:Shared} {H:Hp} {E:XK} {us:List Value} {vs:List V}
  (S:FnScope N ps scope) (hd:A.handled=none) (e0:Env0 P w K mg base A outer s H) (hl:vs.length=ps.length) (r:qBc vs us)
  (x:InCallC s s.heap.objs.size (bindL (envOfC qual scope s.heap.objs.size f cd).kindOf (ps.zip us) fun _=>none) (cellsFrom (s.heap.objs.size+1) scope.names []) (bindC (envOfC qual scope s.heap.objs.size f cd).kindOf (ps.zip us) fun _=>none) s1) :
  Inv (cxOf CX P w K mg base N qual scope f cd A outer s H E) [] (qEs N vs) H s1:=by
 have hpl:ps.length<=N.length:=by have:=congrArg List.length S.pre;rw [List.length_take] at this;omega
 obtain ⟨h1,tk,rfl,hk⟩:=x.done
 have noA:∀ b:Addr,b∉(cxOf CX P w K mg base N qual scope f cd A outer s H E).ex:=fun b z=>absurd (show b∈([]:List Addr) from z) (by simp)
 refine ⟨⟨e0.mod,S.kind,rfl,rfl,Nat.le_refl _,fun y z c h1 h2=>?_,fun y hy=>?_,fun y c _ h=>?_,fun _=>hd,Around.frames_deeper e0.frames,.inr ⟨rfl,rfl⟩,fun b z=>absurd z (noA b),e0.bs,e0.bsz,fun b _ _=>noA b,fun b z=>absurd z (noA b),e0.funs,e0.frf⟩,
  rfl,e0.bare,Un.kept hk,⟨_,x.toInCall.ns,fun i y v h1 h2 h3=>?_⟩,fun y c h=>⟨_,x.cell y c h⟩,e0.hok.fresh (Nat.le_refl _),fun y c h=>?_,fun p hp=>absurd (show p∈([]:List (Addr×Obj)) from hp) (by simp),e0.hok.kept hk,?_⟩
 ·exact name_of_addr x.apart (PySem.mem_of_lookup h1) (PySem.mem_of_lookup h2)
 ·have hy:scope.names.lookup y=some .cell\/scope.names.lookup y=some .free:=hy
  rcases hy with hy | hy
  ·exact cell_has hy
  ·exact absurd rfl (S.nofree _ (PySem.mem_of_lookup hy))
 ·exact Nat.le_of_lt (x.above y c (PySem.mem_of_lookup h))
 ·have hi:i<vs.length:=by
   unfold qEs at h2
   by_cases hi:i<vs.length
   ·exact hi
   ·rw [List.getElem?_append_right (by simpa using hi)] at h2
    rw [List.getElem?_replicate] at h2
    split at h2 <;> cases h2
  have ha:vs[i]?=some v:=by
   unfold qEs at h2
   rw [List.getElem?_append_left (by simpa using hi),List.getElem?_map] at h2
   cases e:vs[i]? with
   | none=>rw [e] at h2;cases h2
   | some a=>rw [e] at h2;cases h2;rfl
  obtain ⟨u,hu,rv⟩:=r.get ha
  have hp:ps[i]?=some y:=by
   rw [<-S.pre,List.getElem?_take_of_lt (by omega)];exact h1
  have ndP:ps.Nodup:=by rw [<-S.pre];exact S.nd.sublist (List.take_sublist _ _)
  refine ⟨u,rv,?_⟩
  rcases S.par y (List.mem_of_getElem? hp) with k | k
  ·exact .inl ⟨k,bindL_get ndP hp hu k⟩
  ·obtain ⟨c,e⟩:=cell_has (n:=s.heap.objs.size+1) k
   refine .inr ⟨.inl k,c,e,?_⟩
   have q:=x.cell y c e
   rw [bindC_get ndP hp hu (by show scope.names.lookup y≠_;rw [k];decide)] at q
   exact q
 ·exact e0.hok.fresh (Nat.le_of_lt (x.above y c (PySem.mem_of_lookup h)))
 ·unfold qEs
  show _=N.length
  rw [List.length_append,List.length_map,List.length_replicate]
  omega
theorem fn_of {CX:CXT} {P:Program} {w:World} {K:PySem.W.Frag} {mg:Str->Option Value} {base:Heap} {k:Nat} {f:Addr} {name qual:Str} {params:Arguments} {body:List Stmt} {scope:Scope} {dV kV doc pm cdv ct oc:Value} {an od:Option Addr}
  {osl:Array (Option Value)} {N ps:List Str} {sp:Sp} (lk:K.lookup f=some ⟨oc,od,.func (PySem.W.fnOf name qual params body scope dV kV doc pm an cdv ct),osl⟩) (hcd:PySem.W.codeIn K cdv qual=true) (S:FnScope N ps scope)
  (len:∀ vs H Q E,sp vs H Q E->vs.length=ps.length)
  (hbody:∀ (A:Around) (outer:List Env) (s:Shared) (H:Hp) (vs:List V) (Q:VK) (E:XK),Room k (A.deeper (envOfC qual scope s.heap.objs.size f cdv))->sp vs H Q E ->
   ∃ t,PSs (cxOf CX P w K mg base N qual scope f cdv A outer s H E) body t/\t { nx:=fun _ H'=>Q .non H',rt:=Q } (qEs N vs) H) :
  FnOk P w K mg base CX (k+1) f (PySem.W.fnOf name qual params body scope dV kV doc pm an cdv ct) ps sp:=by
 refine ⟨len,fun A outer s H args us vs Q E hr e0 hb r hsp=>?_⟩
 have hl:=len _ _ _ _ hsp
 have KX:K.In s.heap:=e0.mod.kin.keeps fun b o e=>(e0.bs b o e).1
 have lim:s.heap.NoLimit:=e0.mod.nolimit.keeps fun b o e=>(e0.bs b o e).1
 have hkind:∀ y∈ps.zip us,scope.names.lookup y.1=some .local\/(scope.names.lookup y.1=some .cell/\((cellsFrom (s.heap.objs.size+1) scope.names []).lookup y.1).isSome=true):=fun ⟨n,v⟩ hy=>by
  rcases S.par n (List.of_mem_zip hy).1 with q | q
  ·exact .inl q
  ·exact .inr ⟨q,PySem.W.cellsFrom_some _ _ _ (.inl q)⟩
 refine codeAny_call_function hr.depth (KX _ _ lk) rfl S.co S.gen rfl (PySem.W.codeRec_of KX hcd) (hb _ _ _ _ ?_)
 refine wpAny_newFunctionEnv_cells S.kind hkind fun env he s1 x=>?_
 subst he
 refine ⟨lim.keeps x.toInCall.keep,codeAny_func ?_⟩
 obtain ⟨t,ht,hq⟩:=hbody A outer s H vs Q E (hr.deeper _) hsp
 have I:Inv (cxOf CX P w K mg base N qual scope f cdv A outer s H E) [] (qEs N vs) H s1:=inv_start S hr.hd e0 hl r x
 refine wpAny_mono (ht [] s1 (qEs N vs) H _ I hq) (fun fl s' hs=>?_) fun e s' hs=>hs
 have fin:∀ {σ':St} {H':Hp} {v:V} {u:Value},Inv (cxOf CX P w K mg base N qual scope f cdv A outer s H E) [] σ' H' s'->qCs v u->Q v H'->CE outer P w H s Q u s' :=
  fun {σ' H' v u} J rv q=>⟨v,H',J.os,J.bare,J.base,J.hok,rv,q⟩
 cases fl with
 | ret u =>
  obtain ⟨v,σ',H',J,rv,q⟩:=hs
  exact fin J rv q
 | next =>
  obtain ⟨σ',H',J,q⟩:=hs
  exact fin (v:=V.non) (u:=Value.none) J rfl q
 | brk =>
  obtain ⟨_,_,_,q⟩:=hs
  exact False.elim q
 | cont =>
  obtain ⟨_,_,_,q⟩:=hs
  exact False.elim q
end L2
namespace L2
open PySem PySem.Spec PyProof.Rows
section
variable {X:Cx} {x:Str} {p pos:Pos} {e:Expr} {es:List Expr} {t:TA} {id T:String} {r:List V->Hp->VK->Prop}
def tCB (r:List V->Hp->VK->Prop) (t:TA):TE:=fun σ H Q=>t σ H fun vs H1=>r vs H1 Q
theorem qAs (hc:qCw X (.builtin id) r) (hg:Gl X x) (hm:X.mg x=none) (hv:bootBuiltins x=some (.builtin id)) (ha:PA X (e :: es) t) (hn:x≠"__name__":=by decide) (hdb:(x == ("__debug__" : Str))=false:=by decide)
  (he:starEach (e :: es) X.env=(false,eval e X.env) :: starEach es X.env:=by rfl) (hpl:(backTo pos (starEach es X.env)).any (·.1)=false:=by rfl):PE X (.Call (.Name x p) (e :: es) [] pos) (tCB r t):=by
 intro pins s σ H Q I h
 refine wpAny_Call_Name_kw (qFu I hg hm hv ?_ hn hdb)
 exact PyProof.Rows.callWith_builtin1 (thn (ha pos pins s σ H _ I h) fun us s1 ⟨vs,H1,I1,r1,q1⟩=>hc pins s1 σ H1 vs us Q I1 r1 q1) he hpl
theorem qBd (hc:qCw X (.type T) r) (hg:Gl X x) (hm:X.mg x=none) (hv:bootBuiltins x=some (.type T)) (ha:PA X (e :: es) t) (hn:x≠"__name__":=by decide) (hdb:(x == ("__debug__" : Str))=false:=by decide)
  (he:starEach (e :: es) X.env=(false,eval e X.env) :: starEach es X.env:=by rfl) (hpl:(backTo pos (starEach es X.env)).any (·.1)=false:=by rfl):PE X (.Call (.Name x p) (e :: es) [] pos) (tCB r t):=by
 intro pins s σ H Q I h
 refine wpAny_Call_Name_kw (qFu I hg hm hv ?_ hn hdb)
 exact PyProof.Rows.callWith_type1 (thn (ha pos pins s σ H _ I h) fun us s1 ⟨vs,H1,I1,r1,q1⟩=>hc pins s1 σ H1 vs us Q I1 r1 q1) he hpl
end
end L2
namespace HT
open PySem PyProof.Rows
section
variable {prog:Program} {w:World} {A:Around} {E:Value->Shared->Prop} {s:Shared}
theorem cat_tup {t b:Addr} {vs ws:List Value} {Q:Value->Shared->Prop} (ht:IsTup s.heap t vs.toArray) (hb:IsTup s.heap b ws.toArray) (hv:vs≠[])
  (h1:ws=[]->Q (.ref t) s) (h2:ws≠[]->Q (.ref s.heap.objs.size) { s with heap:=s.heap.push { cls:=.type "tuple",data:=.seq (vs++ws).toArray } })
  (hsz:vs.length+ws.length<=sizeLine):wpAny (model prog w) A (binaryOp .Add (.ref t) (.ref b)) Q E s:=by
 obtain ⟨⟨cls,dd,data,sl⟩,ho,hc,n,hd⟩:=id ht
 obtain ⟨⟨cls2,dd2,data2,sl2⟩,ho2,hc2,n2,hd2⟩:=id hb
 simp only at hc hd hc2 hd2
 subst hc hd hc2 hd2
 have e:vs.toArray++ws.toArray=(vs++ws).toArray:=by simp
 by_cases hw:ws=[]
 ·exact concat_meets ⟨_,ho,rfl⟩ ⟨_,ho2,rfl⟩ noFill_tuple_add seq_tuple_add PySem.F.slot_tuple_add PySem.F.entry_tuple_add (PySem.F.args_tuple_add_2 _ _)
   (tuple_addW1 t b vs.toArray ws.toArray n n2 dd dd2 sl sl2 (by simpa using hv) (by simp [hw])) ⟨ho,ho2,h1 hw⟩
 ·refine concat_meets ⟨_,ho,rfl⟩ ⟨_,ho2,rfl⟩ noFill_tuple_add seq_tuple_add PySem.F.slot_tuple_add PySem.F.entry_tuple_add (PySem.F.args_tuple_add_2 _ _)
   (tuple_addW2 t b vs.toArray ws.toArray n n2 dd dd2 sl sl2 (by simpa using hv) (by simpa using hw) (by rw [List.size_toArray,List.size_toArray];exact hsz)) ⟨ho,ho2,?_⟩
  rw [e]
  exact h2 hw
def sIx (n d:Nat):Option Int->Nat
 | none=>d
 | some v=>if v<0 then (v+(n:Int)).toNat else min v.toNat n
theorem sIx_none (n d:Nat):sIx n d none=d:=rfl
theorem sIx_nat (n d k:Nat):sIx n d (some (k:Int))=min k n:=by
 show (if (k:Int)<0 then ((k:Int)+(n:Int)).toNat else min (k:Int).toNat n)=min k n
 rw [if_neg (by omega),Int.toNat_natCast]
end
end HT
namespace L2
open PySem PySem.Spec PyProof.Rows
abbrev TO:=St->Hp->(Option Int->Hp->Prop)->Prop
def PO (X:Cx) (e:Option Expr) (t:TO):Prop :=
 ∀ (pins:List (Addr×Obj)) (s:Shared) (σ:St) (H:Hp) (Q:Option Int->Hp->Prop),Inv X pins σ H s->t σ H Q ->
  wpAny (model X.prog X.w) X.A (evalPart e X.env) (fun u s'=>∃ o H',Inv X pins σ H' s'/\IsPart u o/\Q o H') X.xe s
def tNoPart:TO:=fun _ H Q=>Q none H
def tPart (t:TE):TO:=fun σ H Q=>t σ H fun x H1=>∃ i,x = .int i/\Q (some i) H1
section
variable {X:Cx} {e:Expr} {te:TE} {lo hi:Option Expr} {tl th:TO} {pos p2:Pos}
theorem qDs:PO X none tNoPart:=by
 intro pins s σ H Q I h
 rw [evalPart_none]
 exact wpAny_pure ⟨none,H,I,.none,h⟩
theorem qDr (h:PE X e te):PO X (some e) (tPart te):=by
 intro pins s σ H Q I hw
 rw [evalPart_some]
 refine thn (h pins s σ H _ I hw) fun u s1 ⟨x,H1,I1,r1,q1⟩=>?_
 obtain ⟨i,rfl,q⟩:=q1
 obtain ⟨t,rfl⟩:=r1
 exact ⟨some i,H1,I1,.int i t,q⟩
def SlR (X:Cx) (r:V->Option Int->Option Int->Hp->VK->Prop):Prop :=
 ∀ (pins:List (Addr×Obj)) (s:Shared) (σ:St) (H:Hp) (x:V) (v vl vu:Value) (lo hi:Option Int) (sl:Addr) (Q:VK),Inv X pins σ H s->qCs x v->s.heap.IsSliceOf sl vl vu .none->IsPart vl lo->IsPart vu hi->r x lo hi H Q ->
  ∃ T id,typeLookup (.type T) "__getitem__" = pure (some (.builtin id))/\s.TypeIs v T/\wpAny (model X.prog X.w) X.A (getItem v (.ref sl)) (EP X pins σ Q) X.xe s
def tSl (r:V->Option Int->Option Int->Hp->VK->Prop) (te:TE) (tl th:TO):TE:=fun σ H Q=>te σ H fun x H1=>tl σ H1 fun l H2=>th σ H2 fun u H3=>r x l u H3 Q
theorem qCy {r:V->Option Int->Option Int->Hp->VK->Prop} (hr:SlR X r) (he:PE X e te) (hl:PO X lo tl) (hu:PO X hi th):PE X (.Subscript e (.Slice lo hi none p2) pos) (tSl r te tl th):=by
 intro pins s σ H Q I h
 refine Subscript_ (thn (he pins s σ H _ I h) fun v s1 ⟨x,H1,I1,r1,q1⟩=>?_)
 refine wpAny_Slice (thn (hl pins s1 σ H1 _ I1 q1) fun vl s2 ⟨l,H2,I2,pl,q2⟩=>thn (hu pins s2 σ H2 _ I2 q2) fun vu s3 ⟨u,H3,I3,pu,q3⟩=>?_)
 rw [evalPart_none]
 refine wpAny_pure ?_
 have I4:Inv X pins σ H3 { s3 with heap:=s3.heap.push { cls:=.type "slice",data:=.fields #[vl,vu,.none] } }:=I3.kept (t':=s3.toks) fun b ob q=>Heap.get?_push_of_some _ q
 obtain ⟨T,id,hT,ht,hg⟩:=hr pins { s3 with heap:=s3.heap.push { cls:=.type "slice",data:=.fields #[vl,vu,.none] } } σ H3 x v vl vu l u s3.heap.objs.size Q I4 r1 (Heap.IsSliceOf.new ..) pl pu q3
 show wpAny (model X.prog X.w) X.A (subscriptTail e (.Slice lo hi none p2) v (.ref s3.heap.objs.size)) (EP X pins σ Q) X.xe { s3 with heap:=s3.heap.push { cls:=.type "slice",data:=.fields #[vl,vu,.none] } }
 exact tail_any (ops:=[.ref s3.heap.objs.size,v]) ht hT hg (by with_unfolding_all rfl)
def cutV (xs:List V) (lo hi:Option Int):List V:=(xs.drop (HT.sIx xs.length 0 lo)).take (HT.sIx xs.length xs.length hi - HT.sIx xs.length 0 lo)
theorem cutV_length (xs:List V) (lo hi:Option Int):(cutV xs lo hi).length<=xs.length:=by
 unfold cutV
 rw [List.length_take,List.length_drop]
 omega
def rCatT (K:PySem.W.Frag):R2:=fun x y H Q=>∃ a b xs ys,x = .ref a/\y = .ref b/\SqT K H a xs/\SqT K H b ys/\xs≠[]/\xs.length+ys.length<=sizeLine /\
 (ys=[]->Q (.ref a) H)/\(ys≠[]->∀ p,H p=none->Q (.ref p) (upd H p (.tup (xs++ys))))
theorem qBc.nil_iff {xs:List V} {us:List Value} (r:qBc xs us):us=[]↔xs=[]:=by
 cases r with
 | nil=>simp
 | cons _ _=>simp
theorem op_catT:OpR X (binaryOp .Add) (rCatT X.K):=by
 intro pins s σ H x y v u Q I rx ry h
 obtain ⟨a,b,xs,ys,rfl,rfl,ha,hb,hx,hz,q1,q2⟩:=h
 cases rx
 cases ry
 obtain ⟨its,r1,p1,_⟩:=I.tuple ha
 obtain ⟨its2,r2,p2,_⟩:=I.tuple hb
 refine HT.cat_tup p1 p2 (fun z=>hx (r1.nil_iff.mp z)) (fun z=>⟨.ref a,H,I,rfl,q1 (r2.nil_iff.mp z)⟩) (fun z=>?_) (by rw [<-r1.length,<-r2.length];exact hz)
 refine ⟨.ref s.heap.objs.size,_,I.laid (t':=s.toks) (o:=.tup (xs++ys)) (fun b ob q=>Heap.get?_push_of_some _ q) (Nat.le_refl _) ?_,rfl,q2 (fun w=>z (r2.nil_iff.mpr w)) _ (I.hok.fresh (Nat.le_refl _))⟩
 exact ⟨by rw [List.length_append];exact hz,_,r1.append r2,IsTup.new _ _⟩
end
end L2
namespace L2
open PySem PySem.Spec PyProof.Rows
def ixN (n:Nat) (i:Int):Option Nat:=if 0<=i then (if i<n then some i.toNat else none) else if -(n:Int)<=i then some (i+n).toNat else none
def atI {α:Type} (xs:List α) (i:Int):Option α:=(ixN xs.length i).bind fun j=>xs[j]?
theorem ixN_seq {n:Nat} {i:Int} {j:Nat} (h:ixN n i=some j):seqIndex? i n=some j/\j<n/\-(n:Int)<=i/\i<n:=by
 unfold ixN at h
 by_cases h0:0<=i
 ·rw [if_pos h0] at h
  by_cases h1:i<n
  ·rw [if_pos h1] at h
   have e:i.toNat=j:=Option.some.inj h
   exact ⟨by rw [seqIndex_of h0 h1,e],by omega,by omega,h1⟩
  ·rw [if_neg h1] at h;cases h
 ·rw [if_neg h0] at h
  by_cases h1:-(n:Int)<=i
  ·rw [if_pos h1] at h
   have e:(i+n).toNat=j:=Option.some.inj h
   exact ⟨by rw [seqIndex_neg (by omega) h1,e],by omega,h1,by omega⟩
  ·rw [if_neg h1] at h;cases h
theorem atI_get {α:Type} {xs:List α} {i:Int} {v:α} (h:atI xs i=some v):∃ j,seqIndex? i xs.length=some j/\xs[j]?=some v/\j<xs.length/\-(xs.length:Int)<=i/\i<xs.length:=by
 unfold atI at h
 cases e:ixN xs.length i with
 | none=>rw [e] at h;cases h
 | some j =>
  rw [e] at h
  obtain ⟨h1,h2,h3,h4⟩:=ixN_seq e
  exact ⟨j,h1,h,h2,h3,h4⟩
theorem qAy {α:Type} {xs:List α} {j:Nat} {v:α} (h:xs[j]?=some v):atI xs (j:Int)=some v:=by
 have hj:j<xs.length:=(List.getElem?_eq_some_iff.mp h).1
 have e:ixN xs.length (j:Int)=some j:=by
  unfold ixN
  rw [if_pos (by omega),if_pos (by omega)];simp
 unfold atI;rw [e];exact h
def PlainIx (b:Expr):Prop:=∀ o i,subscripted b false o i=operate [o,i] (getItem o i)
def IxR (X:Cx) (r:R2):Prop :=
 ∀ (value slice:Expr) (pins:List (Addr×Obj)) (s:Shared) (σ:St) (H:Hp) (x y:V) (v u:Value) (Q:VK),Inv X pins σ H s->qCs x v->qCs y u->r x y H Q ->
  subscripted slice false v u=operate [v,u] (getItem v u)->wpAny (model X.prog X.w) X.A (subscriptTail value slice v u) (EP X pins σ Q) X.xe s
def MtR (X:Cx) (id:String) (r:V->List V->Hp->VK->Prop):Prop :=
 ∀ (pins:List (Addr×Obj)) (s:Shared) (σ:St) (H:Hp) (x:V) (xs:List V) (v:Value) (us:List Value) (Q:VK),Inv X pins σ H s->qCs x v->qBc xs us->r x xs H Q ->
  wpAny (model X.prog X.w) X.A (call (.builtin id) (v :: us)) (EP X pins σ Q) X.xe s
section
variable {X:Cx} {a b:Expr} {ta tb:TE} {pos:Pos}
theorem qBg {r:R2} (hr:IxR X r) (ha:PE X a ta) (hb:PE X b tb) (hs:PlainIx b):PE X (.Subscript a b pos) (tOp r ta tb):=by
 intro pins s σ H Q I h
 exact Subscript_ (binT ha hb I h fun v u s2 x y H2 I2 rx ry q=>hr a b pins s2 σ H2 x y v u Q I2 rx ry q (hs _ _))
def rIxL (K:PySem.W.Frag):R2:=fun x y H Q=>∃ p xs i v,x = .ref p/\y = .int i/\SqL K H p xs/\atI xs i=some v/\Q v H
def rIxT (K:PySem.W.Frag):R2:=fun x y H Q=>∃ p xs i v,x = .ref p/\y = .int i/\SqT K H p xs/\atI xs i=some v/\Q v H
def rIxS:R2:=fun x y H Q=>∃ z i c,x = .str z/\y = .int i/\z.length<=sizeLine/\atI z.cps.toList i=some c/\Q (.str ⟨#[c]⟩) H
theorem qCc:IxR X (rIxL X.K):=by
 intro value slice pins s σ H x y v u Q I rx ry h hs
 obtain ⟨p,xs,i,z,rfl,rfl,hq,he,q⟩:=h
 cases rx
 obtain ⟨t,rfl⟩:=ry
 obtain ⟨its,r,pl,hz⟩:=I.list hq
 obtain ⟨j,h1,h2,h3,h4,h5⟩:=atI_get he
 obtain ⟨w,ew,rw'⟩:=r.get h2
 have hl:=r.length
 have hn:=line63
 have fin:EP X pins σ Q w s:=⟨z,H,I,rw',q⟩
 by_cases h0:0<=i
 ·have hj:i.toNat=j:=by
   rw [seqIndex_of h0 h5] at h1
   exact Option.some.inj h1
  exact item_listR pl.isList h0 (by omega) (by rw [hj];simpa using ew) fin hs
 ·have hj:(i+(its.toArray.size:Int)).toNat=j:=by
   rw [seqIndex_neg (by omega) h4] at h1
   rw [List.size_toArray,<-hl]
   exact Option.some.inj h1
  exact subscriptTail_builtinR (x:=w) pl.isList.typeIs slot_list_getitem.lookup
   (wpAny_getItem_list_neg (Q:=fun r s'=>r=w/\EP X pins σ Q r s') pl.isList (by omega) (by rw [List.size_toArray] <;> omega) (by omega) (by rw [hj];simpa using ew) ⟨rfl,fin⟩) hs
theorem qBl:IxR X (rIxT X.K):=by
 intro value slice pins s σ H x y v u Q I rx ry h hs
 obtain ⟨p,xs,i,z,rfl,rfl,hq,he,q⟩:=h
 cases rx
 obtain ⟨t,rfl⟩:=ry
 obtain ⟨its,r,pl,hz⟩:=I.tuple hq
 obtain ⟨j,h1,h2,h3,h4,h5⟩:=atI_get he
 obtain ⟨w,ew,rw'⟩:=r.get h2
 have hl:=r.length
 have hn:=line63
 have fin:EP X pins σ Q w s:=⟨z,H,I,rw',q⟩
 exact subscriptTail_builtinR (x:=w) pl.typeIs slot_tuple_getitem.lookup
  (getItem_tuple (j:=j) (Q:=fun r s'=>r=w/\EP X pins σ Q r s') pl (by omega) (by omega) (by rw [List.size_toArray,<-hl];exact h1) (by simpa using ew) ⟨rfl,fin⟩) hs
theorem ix_str:IxR X rIxS:=by
 intro value slice pins s σ H x y v u Q I rx ry h hs
 obtain ⟨z,i,c,rfl,rfl,hz,he,q⟩:=h
 obtain ⟨t,rfl⟩:=rx
 obtain ⟨t',rfl⟩:=ry
 obtain ⟨j,h1,h2,h3,h4,h5⟩:=atI_get he
 have hl:z.cps.toList.length=z.length:=by simp [Str.length]
 rw [hl] at h1 h4 h5
 have hn:=line63
 exact tail_any (typeIs_str s z t) slot_str_getitem.lookup (getItem_str (c:=c) (by
  have e1:decide (i < -(2^63:Int))=false:=decide_eq_false (by omega)
  have e2:decide (i >= 2^63)=false:=decide_eq_false (by omega)
  rw [e1,e2,Bool.or_false]) (by rw [h1];simpa using h2) ⟨.str ⟨#[c]⟩,H,I.tok _,⟨_,rfl⟩,q⟩) hs
theorem slice_bounds (lo hi:Option Int) (n:Nat):(sliceBounds lo hi none n).1=((HT.sIx n 0 lo:Nat):Int)/\(sliceBounds lo hi none n).2.1=((HT.sIx n n hi:Nat):Int)/\(sliceBounds lo hi none n).2.2=1:=by
 refine ⟨?_,?_,rfl⟩
 ·cases lo with
  | none=>simp [sliceBounds,HT.sIx]
  | some i =>
   simp only [sliceBounds,HT.sIx,Option.getD_none,show (1:Int) > 0 by decide,if_true]
   by_cases h:i<0
   ·simp only [h,if_true] <;> omega
   ·simp only [h,if_false] <;> omega
 ·cases hi with
  | none=>simp [sliceBounds,HT.sIx]
  | some i =>
   simp only [sliceBounds,HT.sIx,Option.getD_none,show (1:Int) > 0 by decide,if_true]
   by_cases h:i<0
   ·simp only [h,if_true] <;> omega
   ·simp only [h,if_false] <;> omega
theorem slicePick_cut (its:List Value) (lo hi:Option Int):slicePick its.toArray lo hi none=((its.drop (HT.sIx its.length 0 lo)).take (HT.sIx its.length its.length hi - HT.sIx its.length 0 lo)).toArray:=by
 obtain ⟨h1,h2,h3⟩:=slice_bounds lo hi its.toArray.size
 unfold slicePick
 rw [h1,h2,h3]
 simp only [sliceRange_one,pick_run,List.size_toArray] <;> rfl
def rSlL (K:PySem.W.Frag):V->Option Int->Option Int->Hp->VK->Prop:=fun x lo hi H Q=>∃ a xs,x = .ref a/\SqL K H a xs/\∀ p,H p=none->Q (.ref p) (upd H p (.lst (cutV xs lo hi)))
theorem qFc:SlR X (rSlL X.K):=by
 intro pins s σ H x v vl vu lo hi sl Q I rx hs pl pu h
 obtain ⟨a,xs,rfl,hx,q⟩:=h
 cases rx
 obtain ⟨its,r,ht,hz⟩:=I.list hx
 have hlen:=r.length
 refine ⟨"list",_,slot_list_getitem.lookup,ht.isList.typeIs,?_⟩
 refine wpAny_getItem_list_slice ht.isList hs pl pu .none (by simp) ?_ (by rw [List.size_toArray] <;> omega)
 rw [slicePick_cut,<-hlen]
 refine ⟨.ref s.heap.objs.size,_,I.laid (t':=s.toks) (o:=.lst (cutV xs lo hi)) (fun b ob q=>Heap.get?_push_of_some _ q) (Nat.le_refl _) ?_,rfl,q _ (I.hok.fresh (Nat.le_refl _))⟩
 exact ⟨Nat.le_trans (cutV_length xs lo hi) hz,_,0,(r.drop (HT.sIx xs.length 0 lo)).take (HT.sIx xs.length xs.length hi - HT.sIx xs.length 0 lo),Heap.get?_push_size _ rfl⟩
def flatV:V->Bool
 | .non=>true
 | .bl _=>true
 | .int _=>true
 | .str _=>true
 | _=>false
def eqV:V->V->Bool
 | .non,.non=>true
 | .bl a,.bl b=>a == b
 | .bl a,.int b=>(if a then 1 else 0) == b
 | .int a,.bl b=>a == (if b then 1 else 0)
 | .int a,.int b=>a == b
 | .str a,.str b=>a == b
 | _,_=>false
theorem eqAt_V {A:Around} {s:Shared} {y x:V} {u v:Value} (ry:qCs y u) (rx:qCs x v) (fy:flatV y=true) (fx:flatV x=true):SeqAt.EqAt A s u v (eqV y x):=by
 cases y with
 | non =>
  cases ry
  cases x with
  | non=>cases rx;exact SeqAt.EqAt.same _
  | bl b=>cases rx;exact SeqAt.EqAt.none_bool b
  | int b=>obtain ⟨t,rfl⟩:=rx;exact SeqAt.EqAt.none_int b t
  | str b=>obtain ⟨t,rfl⟩:=rx;exact SeqAt.EqAt.none_str b t
  | _=>exact absurd (show false=true from fx) Bool.false_ne_true
 | bl a =>
  cases ry
  cases x with
  | non=>cases rx;exact SeqAt.EqAt.bool_none a
  | bl b=>cases rx;exact SeqAt.EqAt.bool_bool a b
  | int b=>obtain ⟨t,rfl⟩:=rx;exact SeqAt.EqAt.bool_int a b t
  | str b=>obtain ⟨t,rfl⟩:=rx;exact SeqAt.EqAt.bool_str a b t
  | _=>exact absurd (show false=true from fx) Bool.false_ne_true
 | int a =>
  obtain ⟨t',rfl⟩:=ry
  cases x with
  | non=>cases rx;exact SeqAt.EqAt.int_none a t'
  | bl b=>cases rx;exact SeqAt.EqAt.int_bool a t' b
  | int b=>obtain ⟨t,rfl⟩:=rx;exact SeqAt.EqAt.int_int a t' b t
  | str b=>obtain ⟨t,rfl⟩:=rx;exact SeqAt.EqAt.int_str a t' b t
  | _=>exact absurd (show false=true from fx) Bool.false_ne_true
 | str a =>
  obtain ⟨t',rfl⟩:=ry
  cases x with
  | non=>cases rx;exact SeqAt.EqAt.str_none a t'
  | bl b=>cases rx;exact SeqAt.EqAt.str_bool a t' b
  | int b=>obtain ⟨t,rfl⟩:=rx;exact SeqAt.EqAt.str_int a t' b t
  | str b=>obtain ⟨t,rfl⟩:=rx;exact SeqAt.EqAt.str_str a t' b t
  | _=>exact absurd (show false=true from fx) Bool.false_ne_true
 | _=>exact absurd (show false=true from fy) Bool.false_ne_true
def eqU (x:V) (u:Value):Bool:=match u with
 | .none=>eqV .non x
 | .bool b=>eqV (.bl b) x
 | .int i _=>eqV (.int i) x
 | .str z _=>eqV (.str z) x
 | _=>false
theorem eqU_of {x y:V} {u:Value} (r:qCs y u) (f:flatV y=true):eqU x u=eqV y x:=by
 cases y with
 | non=>cases r;rfl
 | bl b=>cases r;rfl
 | int i=>obtain ⟨t,rfl⟩:=r;rfl
 | str z=>obtain ⟨t,rfl⟩:=r;rfl
 | _=>exact absurd (show false=true from f) Bool.false_ne_true
theorem qF4 {x:V}:∀ {xs:List V} {us:List Value},qBc xs us->xs.all flatV=true->us.any (eqU x)=xs.any fun y=>eqV y x
 | _,_,.nil,_=>rfl
 | y :: xs,u :: us,.cons r t,f=>by
  rw [List.all_cons,Bool.and_eq_true] at f
  rw [List.any_cons,List.any_cons,eqU_of r f.1,qF4 t f.2]
theorem qDz {A:Around} {s:Shared} {x:V} {v:Value} (rx:qCs x v) (fx:flatV x=true):∀ {xs:List V} {us:List Value},qBc xs us->xs.all flatV=true->∀ u∈us,SeqAt.EqAt A s u v (eqU x u)
 | _,_,.nil,_=>fun u hu=>by cases hu
 | y :: xs,u :: us,.cons r t,f=>fun u' hu=>by
  rw [List.all_cons,Bool.and_eq_true] at f
  rcases List.mem_cons.mp hu with rfl | hu
  ·rw [eqU_of r f.1];exact eqAt_V r rx f.1 fx
  ·exact qDz rx fx t f.2 u' hu
def inV (x:V) (xs:List V):Bool:=xs.any fun y=>eqV y x
def rIn (K:PySem.W.Frag) (neg:Bool):R2:=fun x y H Q=>∃ p xs,y = .ref p/\(SqL K H p xs\/SqT K H p xs)/\flatV x=true/\xs.all flatV=true/\Q (.bl (if neg then !inV x xs else inV x xs)) H
theorem op_in_seq:OpR X (compareOp .In) (rIn X.K false):=by
 intro pins s σ H x y v u Q I rx ry h
 obtain ⟨p,xs,rfl,hq,fx,fs,q⟩:=h
 cases ry
 rcases hq with hq | hq
 ·obtain ⟨its,r,pl,hz⟩:=I.list hq
  refine SeqAt.in_listAt (eqU x) pl.isList (fun w hw=>qDz rx fx r fs w (by simpa using hw)) ⟨.bl _,H,I,rfl,?_⟩
  rw [show its.toArray.any (eqU x)=its.any (eqU x) by simp,qF4 r fs]
  exact q
 ·obtain ⟨its,r,pl,hz⟩:=I.tuple hq
  refine SeqAt.in_tupleAt (eqU x) pl (fun w hw=>qDz rx fx r fs w (by simpa using hw)) ⟨.bl _,H,I,rfl,?_⟩
  rw [show its.toArray.any (eqU x)=its.any (eqU x) by simp,qF4 r fs]
  exact q
theorem qB7:OpR X (compareOp .NotIn) (rIn X.K true):=by
 intro pins s σ H x y v u Q I rx ry h
 obtain ⟨p,xs,rfl,hq,fx,fs,q⟩:=h
 cases ry
 rcases hq with hq | hq
 ·obtain ⟨its,r,pl,hz⟩:=I.list hq
  refine SeqAt.notIn_listAt (eqU x) pl.isList (fun w hw=>qDz rx fx r fs w (by simpa using hw)) ⟨.bl _,H,I,rfl,?_⟩
  rw [show its.toArray.any (eqU x)=its.any (eqU x) by simp,qF4 r fs]
  exact q
 ·obtain ⟨its,r,pl,hz⟩:=I.tuple hq
  refine SeqAt.notIn_tupleAt (eqU x) pl (fun w hw=>qDz rx fx r fs w (by simpa using hw)) ⟨.bl _,H,I,rfl,?_⟩
  rw [show its.toArray.any (eqU x)=its.any (eqU x) by simp,qF4 r fs]
  exact q
theorem qAv:qCw X (.builtin "len") (fun xs H Q=>∃ p ys,xs=[.ref p]/\(SqL X.K H p ys\/SqT X.K H p ys)/\Q (.int ys.length) H):=by
 intro pins s σ H xs us Q I r h
 obtain ⟨p,ys,rfl,hq,q⟩:=h
 obtain ⟨u,rfl,rx⟩:=qCx r
 cases rx
 have hn:=line63
 rcases hq with hq | hq
 ·obtain ⟨its,r',pl,hz⟩:=I.list hq
  have hlen:=r'.length
  exact Calls.call_len_list pl.isList (by simp only [List.size_toArray] <;> omega) ⟨.int ys.length,H,I.tok _,⟨s.toks+1,by rw [List.size_toArray,hlen]⟩,q⟩
 ·obtain ⟨its,r',pl,hz⟩:=I.tuple hq
  have hlen:=r'.length
  exact len_tuple pl (by simp only [List.size_toArray] <;> omega) ⟨.int ys.length,H,I.tok _,⟨s.toks+1,by rw [List.size_toArray,hlen]⟩,q⟩
theorem call_len_str:qCw X (.builtin "len") (fun xs H Q=>∃ z,xs=[.str z]/\z.length<=sizeLine/\Q (.int z.length) H):=by
 intro pins s σ H xs us Q I r h
 obtain ⟨z,rfl,hz,q⟩:=h
 obtain ⟨u,rfl,t,rfl⟩:=qCx r
 have hn:=line63
 exact len_str (by omega) ⟨.int z.length,H,I.tok _,⟨_,rfl⟩,q⟩
theorem qBn:qCw X (.type "list") (fun xs H Q=>∃ p ys,xs=[.ref p]/\(SqL X.K H p ys\/SqT X.K H p ys)/\∀ l,H l=none->Q (.ref l) (upd H l (.lst ys))):=by
 intro pins s σ H xs us Q I r h
 obtain ⟨p,ys,rfl,hq,q⟩:=h
 obtain ⟨u,rfl,rx⟩:=qCx r
 cases rx
 have fin:∀ (its:List Value),qBc ys its->ys.length<=sizeLine->∀ (h':Heap) (c':Nat),(∀ b o',s.heap.get? b=some o'->h'.get? b=some o') ->
   h'.get? s.heap.objs.size=some { cls:=.type "list",dict:=none,data:=.seq its.toArray c',slots:=#[] }->EP X pins σ Q (.ref s.heap.objs.size) { s with heap:=h' }:=fun its r' hz h' c' kp e =>
  ⟨.ref s.heap.objs.size,_,I.laid (t':=s.toks) kp (Nat.le_refl _) (show qC3 X.prog X.w _ h' _ (.lst ys) from ⟨hz,its,c',r',e⟩),rfl,q _ (I.hok.fresh (Nat.le_refl _))⟩
 rcases hq with hq | hq
 ·obtain ⟨its,r',pl,hz⟩:=I.list hq
  have hlen:=r'.length
  obtain ⟨o,ho,hc,n,hd⟩:=pl.isList
  exact call_list_seq p (.inl rfl) ho hc hd (fun h' c' kp e=>fin its r' hz h' c' kp e) (by simp only [List.size_toArray] <;> omega)
 ·obtain ⟨its,r',pl,hz⟩:=I.tuple hq
  have hlen:=r'.length
  obtain ⟨o,ho,hc,n,hd⟩:=pl
  exact call_list_seq p (.inr rfl) ho hc hd (fun h' c' kp e=>fin its r' hz h' c' kp e) (by simp only [List.size_toArray] <;> omega)
theorem call_tuple_of:qCw X (.type "tuple") (fun xs H Q=>∃ p ys,xs=[.ref p]/\((SqL X.K H p ys/\∀ l,H l=none->Q (.ref l) (upd H l (.tup ys)))\/(SqT X.K H p ys/\Q (.ref p) H))):=by
 intro pins s σ H xs us Q I r h
 obtain ⟨p,ys,rfl,h⟩:=h
 obtain ⟨u,rfl,rx⟩:=qCx r
 cases rx
 rcases h with ⟨hq,q⟩ | ⟨hq,q⟩
 ·obtain ⟨its,r',pl,hz⟩:=I.list hq
  have hlen:=r'.length
  refine call_tuple_list pl.isList (fun h' kp=>?_) (by simp only [List.size_toArray] <;> omega)
  have I1:Inv X pins σ H { s with heap:=h' }:=I.kept (t':=s.toks) kp
  have I2:Inv X pins σ (upd H h'.objs.size (.tup ys)) { s with heap:=h'.push { cls:=.type "tuple",data:=.seq its.toArray } } :=
   I1.laid (t':=s.toks) (fun b o e=>Heap.get?_push_of_some _ e) (Nat.le_refl _) (show qC3 X.prog X.w _ _ _ (.tup ys) from ⟨hz,its,r',IsTup.new _ _⟩)
  exact ⟨.ref h'.objs.size,_,I2,rfl,q _ (I1.hok.fresh (Nat.le_refl _))⟩
 ·obtain ⟨its,r',pl,hz⟩:=I.tuple hq
  exact call_tuple_same pl ⟨.ref p,H,I,rfl,q⟩
def tyV (K:PySem.W.Frag) (T:String) (x:V) (H:Hp):Prop:=match x with
 | .str _=>T = "str"
 | .int _=>T = "int"
 | .ref p=>(T = "list"/\∃ xs,SqL K H p xs)\/(T = "tuple"/\∃ o,K.lookup p=some o/\o.cls = .type "tuple"/\o.dict=none) \/
   (T = "dict"/\((∃ kvs,H p=some (.dK kvs))\/∃ kvs,H p=some (.dT kvs)))\/(T = "set"/\∃ S n,H p=some (.set S n))
 | _=>False
theorem tyV_is {pins:List (Addr×Obj)} {σ:St} {H:Hp} {s:Shared} {T:String} {x:V} {v:Value} (I:Inv X pins σ H s) (r:qCs x v) (ty:tyV X.K T x H) :
  s.TypeIs v T/\∀ a,v = .ref a->∃ ob,s.heap.get? a=some ob/\ob.dict=none:=by
 cases x with
 | str z =>
  obtain ⟨t,rfl⟩:=r
  cases (show T = "str" from ty)
  exact ⟨typeIs_str s z t,fun _ e=>nomatch e⟩
 | int i =>
  obtain ⟨t,rfl⟩:=r
  cases (show T = "int" from ty)
  exact ⟨typeIs_int s i t,fun _ e=>nomatch e⟩
 | ref p =>
  cases r
  rcases ty with ⟨rfl,xs,hq⟩ | ⟨rfl,o,hk,hc,hd⟩ | ⟨rfl,hk⟩ | ⟨rfl,S,n,hk⟩
  ·obtain ⟨its,_,pl,_⟩:=I.list hq
   refine ⟨pl.isList.typeIs,fun a e=>?_⟩
   cases e
   obtain ⟨o,n,e,c,hd,_⟩:=pl
   exact ⟨o,e,hd⟩
  ·refine ⟨⟨o,I.kIn p o hk,hc⟩,fun a e=>?_⟩
   cases e
   exact ⟨o,I.kIn _ o hk,hd⟩
  ·have z:∃ o,s.heap.get? p=some o/\o.ExactDict:=by
    rcases hk with ⟨kvs,hk⟩ | ⟨kvs,hk⟩
    ·obtain ⟨_,_,_,_,o,_,_,e,ex,_⟩:=I.hok p _ hk
     exact ⟨o,e,ex⟩
    ·obtain ⟨_,_,_,_,o,_,_,e,ex,_⟩:=I.hok p _ hk
     exact ⟨o,e,ex⟩
   obtain ⟨o,e,ex⟩:=z
   refine ⟨⟨o,e,ex.1⟩,fun a e2=>?_⟩
   cases e2
   exact ⟨o,e,ex.2.1⟩
  ·obtain ⟨o,_,_,_,e,ex,_⟩:=I.hok p _ hk
   refine ⟨⟨o,e,ex.1⟩,fun a e2=>?_⟩
   cases e2
   exact ⟨o,e,ex.2.1⟩
 | _=>exact False.elim ty
def tBM0 (K:PySem.W.Frag) (T:String) (r:V->List V->Hp->VK->Prop) (to:TE):TE:=fun σ H Q=>to σ H fun x H1=>tyV K T x H1/\r x [] H1 Q
def tBM (K:PySem.W.Frag) (T:String) (r:V->List V->Hp->VK->Prop) (to:TE) (t:TA):TE:=fun σ H Q=>to σ H fun x H1=>tyV K T x H1/\t σ H1 fun xs H2=>r x xs H2 Q
variable {o e:Expr} {es:List Expr} {to:TE} {t:TA} {name:Str} {apos cpos:Pos} {T id:String} {r:V->List V->Hp->VK->Prop}
theorem pe_bm0 (pa:PlainAttrs T) (slot:Slot T name id) (hty:typeOf (.builtin id)=pure (.type "method_descriptor")) (hm:MtR X id r) (ho:PE X o to)
  (hbase:attributeBase o name X.env (eval o X.env)=eval o X.env:=by rfl) (hline:(apos.endLine == cpos.line)=true:=by rfl):PE X (.Call (.Attribute o name apos) [] [] cpos) (tBM0 X.K T r to):=by
 intro pins s σ H Q I h
 refine wpAny_Call_method0_late hbase hline (thn (ho pins s σ H _ I h) fun v s1 ⟨x,H1,I1,r1,ty,q1⟩=>?_)
 obtain ⟨h1,h2⟩:=tyV_is I1 r1 ty
 exact ⟨T,id,pa,slot,hty,h1,h2,Calls.callWith_builtin rfl (PySem.evalArgs_none (hm pins s1 σ H1 x [] v [] Q I1 r1 .nil q1))⟩
theorem qD9 (pa:PlainAttrs T) (slot:Slot T name id) (hty:typeOf (.builtin id)=pure (.type "method_descriptor")) (hm:MtR X id r) (ho:PE X o to) (ha:PA X (e :: es) t)
  (hbase:attributeBase o name X.env (eval o X.env)=eval o X.env:=by rfl)
  (hfew:((backTo cpos (starEach (e :: es) X.env)).all (fun x=>!x.1) && (backToKw cpos (keywordEach [] X.env)).all (fun x=>x.1.isSome)
   && decide ((e :: es).length+([]:List Keyword).length+(if ([]:List Keyword).isEmpty then 0 else 1)<30))=true:=by rfl)
  (hline:(apos.endLine == cpos.line)=true:=by rfl) (hs:starEach (e :: es) X.env=(false,eval e X.env) :: starEach es X.env:=by rfl) (hplain:(backTo cpos (starEach es X.env)).any (·.1)=false:=by rfl) :
  PE X (.Call (.Attribute o name apos) (e :: es) [] cpos) (tBM X.K T r to t):=by
 intro pins s σ H Q I h
 refine wpAny_Call_method_late hbase hfew hline rfl (thn (ho pins s σ H _ I h) fun v s1 ⟨x,H1,I1,r1,ty,q1⟩=>?_)
 obtain ⟨h1,h2⟩:=tyV_is I1 r1 ty
 refine ⟨T,id,pa,slot,hty,h1,h2,?_⟩
 have hA:=ha cpos pins s1 σ H1 _ I1 q1
 rw [hs] at hA ⊢
 refine Calls.callWith_builtin (by show (false || (backTo cpos (starEach es X.env)).any (·.1))=false;rw [hplain] <;> rfl) (Calls.evalArgs_plain ?_)
 exact thn hA fun us s2 ⟨vs,H2,I2,r2,q2⟩=>hm pins s2 σ H2 x vs v us Q I2 r1 r2 q2
end
end L2
namespace L2
open PySem PySem.Spec PyProof.Rows
def MtM (X:Cx) (id:String) (r:V->List V->Hp->VK->Prop):Prop :=
 ∀ (pins:List (Addr×Obj)) (s:Shared) (σ:St) (H:Hp) (x:V) (xs:List V) (v:Value) (us:List Value) (Q:VK),Inv X pins σ H s->qCs x v->qBc xs us->r x xs H Q ->
  wpAny (model X.prog X.w) X.A (call (.builtin id) (v :: us)) (EP X pins σ Q) X.xe s
theorem qBc.one:∀ {x:V} {us:List Value},qBc [x] us->∃ u,us=[u]/\qCs x u
 | _,_,.cons r .nil=>⟨_,rfl,r⟩
theorem qBc.zero:∀ {us:List Value},qBc [] us->us=[]
 | _,.nil=>rfl
section
variable {X:Cx} {pins:List (Addr×Obj)} {σ:St} {H:Hp} {s:Shared} {l b:Addr} {xs ys zs:List V}
theorem Inv.lset {its its':List Value} {n:Nat} {f:Array Value->Array Value} {t':Nat} (I:Inv X pins σ H s) (hH:H l=some (.lst xs))
  (e:s.heap.get? l=some { cls:=.type "list",data:=.seq its.toArray n }) (hf:f its.toArray=its'.toArray) (hv:qBc ys its') (hz:ys.length<=sizeLine) :
  Inv X pins σ (upd H l (.lst ys)) { s with heap:=s.heap.update l (Obj.mapSeq f),toks:=t' }:=by
 have q:=PySem.IsL.update e f
 rw [hf] at q
 refine I.write (x:=l) (e:=l) (by rw [hH];exact trivial) (.inl rfl) (fun b' u hb hu=>(Heap.get?_update_other s.heap (Obj.mapSeq f) (Ne.symm hb)).trans hu) ⟨_,q⟩ ?_
 exact ⟨hz,its',_,hv,q⟩
theorem Inv.lnew {its:List Value} {t':Nat} (I:Inv X pins σ H s) (hv:qBc ys its) (hz:ys.length<=sizeLine) :
  Inv X pins σ (upd H s.heap.objs.size (.lst ys)) { s with heap:=s.heap.push { cls:=.type "list",data:=.seq its.toArray },toks:=t' } :=
 I.laid (fun _ _ q=>Heap.get?_push_of_some _ q) (Nat.le_refl _) ⟨hz,its,0,hv,Heap.get?_push_size _ rfl⟩
theorem Inv.fresh (I:Inv X pins σ H s):H s.heap.objs.size=none:=I.hok.fresh (Nat.le_refl _)
theorem Inv.lstM (I:Inv X pins σ H s) (hH:H l=some (.lst xs)):xs.length<=sizeLine/\∃ (its:List Value) (n:Nat),qBc xs its/\xs.length=its.length/\s.heap.get? l=some { cls:=.type "list",data:=.seq its.toArray n }:=by
 obtain ⟨z,its,n,r,e⟩:=I.hok l _ hH
 exact ⟨z,its,n,r,r.length,e⟩
end
section
variable {X:Cx}
def rAppend:V->List V->Hp->VK->Prop:=fun x vs H Q=>∃ l xs y,x = .ref l/\vs=[y]/\H l=some (.lst xs)/\xs.length<sizeLine/\Q .non (upd H l (.lst (xs++[y])))
theorem qBp:MtM X "list.append" rAppend:=by
 intro pins s σ H x vs v us Q I rx rv h
 obtain ⟨l,xs,y,rfl,rfl,hH,hz,q⟩:=h
 cases rx
 obtain ⟨u,rfl,ru⟩:=rv.one
 obtain ⟨z,its,n,r,hl,e⟩:=I.lstM hH
 refine call_meets F.slot_list_append ⟨_,e,rfl⟩ F.entry_list_append (F.args_list_append_2 _ _) (PySem.list_append l its.toArray n u (by rw [List.size_toArray];omega)) ⟨e,?_⟩
 refine ⟨.non,_,I.lset (its':=its++[u]) hH e (by simp) (r.append (.cons ru .nil)) ?_,rfl,q⟩
 rw [List.length_append,List.length_singleton]
 omega
def rCat:R2:=fun x y H Q=>∃ l b xs zs,x = .ref l/\y = .ref b/\H l=some (.lst xs)/\H b=some (.lst zs)/\xs.length+zs.length<=sizeLine/\∀ p,H p=none->Q (.ref p) (upd H p (.lst (xs++zs)))
theorem qDm:OpR X (binaryOp .Add) rCat:=by
 intro pins s σ H x y v u Q I rx ry h
 obtain ⟨l,b,xs,zs,rfl,rfl,hH,hB,hz,q⟩:=h
 cases rx
 cases ry
 obtain ⟨z,its,n,r,hl,e⟩:=I.lstM hH
 obtain ⟨z2,its2,n2,r2,hl2,e2⟩:=I.lstM hB
 refine PySem.P.add_list e e2 ?_ (by rw [List.size_toArray,List.size_toArray];omega)
 have ea:its.toArray++its2.toArray=(its++its2).toArray:=by simp
 rw [ea]
 exact ⟨.ref _,_,I.lnew (t':=s.toks) (r.append r2) (by rw [List.length_append];omega),rfl,q _ I.fresh⟩
end
end L2
namespace Att
open PySem PySem.W PySem.Calls PyProof.Rows
theorem qFy {P:Params} {h:Heap}:∀ (ns:List Int) (vs:List Value),WellAll P h vs (ns.map WData.int)->IntsAre vs ns:=by
 intro ns
 induction ns with
 | nil =>
  intro vs w
  rw [List.map_nil] at w
  cases w
  exact .nil
 | cons n ns ih =>
  intro vs w
  rw [List.map_cons] at w
  cases w with
  | cons a b =>
   cases a
   exact .cons _ _ (ih _ b)
theorem script_of {l:OpenLaw} {n:Nat} (hn:l.most=some n) {P:Params} {h:Heap} {args:List WData} {vals:List Value}
  (hpre:l.row.toRowW.claim.pre args=true) (hwl:WellAll P h vals args) :
  ∃ a vs ns,vals=[Value.ref a]/\args=[WData.list (ns.map WData.int)]/\h.get? a=some { cls:=.type "list",data:=.seq vs.toArray }/\IntsAre vs ns/\ns.length<=n:=by
 have hsh:WShape.hasAll [] args [.list .int]=true:=(pre_splitW hpre).1
 have hc:l.pre.holds [] { args:=args }=true:=(pre_splitW hpre).2
 obtain ⟨d,r,rfl,h1,h2⟩:=hasAllW_cons hsh
 obtain rfl:=hasAllW_nil h2
 obtain ⟨xs,rfl,h3⟩:=hasW_list h1
 obtain ⟨ns,rfl⟩:=items_int h3
 have hlen:ns.length<=n:=by
  unfold OpenLaw.pre at hc
  have h4:(WTm.not (.lt (.lit (.int (n:Int))) (.len (.arg 0)))).holds [] { args:=[.list (ns.map .int)] }=true:=by
   have h4:=(holds_andW hc).1
   rw [hn] at h4
   exact h4
  have h5:=condW_of h4 (w_not (w_lt w_lit (w_len_list (w_arg rfl))))
  rw [List.length_map] at h5
  refine Nat.le_of_not_lt fun q=>?_
  have q':(n:Int)<((ns.length:Nat):Int):=by omega
  first
   | (rw [decide_eq_true q'] at h5;exact absurd h5 (by decide))
   | (simp at h5;omega)
 cases hwl with
 | cons w1 w2 =>
  cases w2
  cases w1 with
  | list ho hall=>exact ⟨_,_,ns,rfl,rfl,ho,qFy ns _ hall,hlen⟩
theorem post_true (l:OpenLaw) (args:List WData):l.row.toRowW.claim.post args (.bool true) args=true :=
 postW_of (r:=l.row.toRowW) (X:=(true == true))
  (show WShape.has [] (.bool true) .bool=true by first | rfl | decide | simp [WShape.has,WShape.arms,WShape.armsAll])
  (show (WTm.eq .res (.lit (.bool true))).value [] { args:=args,res:=some (.bool true),after:=args }=some (.bool (true == true)) from w_eq_bool (w_res rfl) w_lit) rfl
theorem attach_call {l:OpenLaw} {n:Nat} {q:Program} {loose:List Str} {XP:(Str->Option Value)->Heap->Prop} {YP:World->Heap->Prop} {d:DefRec}
  (hn:l.most=some n) (hdf:d.params.defaults=[])
  (call:∀ (w:World) (s₀ s₁:Shared) (mg mb:Str->Option Value) (fa:Addr) (o:Obj) (pm cd doc:Value) (a:Addr) (vs:List Value) (ns:List Int),
   Ground q loose [] XP w s₀ mg mb s₁.heap->YP w s₁.heap ->
   s₁.heap.get? fa=some o->o.data = .func (docDef d.name d.params d.body d.scope pm cd doc)->s₁.heap.CodeRec cd d.name->mg d.name=some (.ref fa) ->
   s₁.heap.get? a=some { cls:=.type "list",data:=.seq vs.toArray }->IntsAre vs ns->ns.length<=n->s₁.gens=#[] ->
   codeAny (model l.prog w) callerA (.call (.ref fa) ⟨[.ref a],[]⟩) (fun r s'=>r = .ok (.ret (.bool true))/\OldK s₁.heap s'.heap/\s'.os=s₁.os/\AllBare s'.gens) s₁) :
  WalkO q loose XP YP l.row.toRowW d [] (fun f vs=>PySem.call f vs):=by
 intro w s₀ s₁ mg mb G Y fa o pm cd doc dV kV ho hd hcd hD hmg hg args vals as hpre hlay hrd hwl hlo
 obtain rfl:dV = .none:=Dflts.none hD hdf
 obtain rfl:kV = .none:=Dflts.noKw hD
 obtain ⟨a,vs,ns,rfl,rfl,hobj,hints,hlen⟩:=script_of hn hpre hwl
 refine enter_call (codeAny_mono (call w s₀ s₁ mg mb fa o pm cd doc a vs ns G Y ho (fd_plain hd) hcd hmg hobj hints hlen hg) fun r s' hq=>?_)
 obtain ⟨rfl,h2,h3,h4⟩:=hq
 exact ⟨.inl ⟨.bool true,.bool true,[],rfl,fun _=>rfl,.bool true,post_true l _,fun _=>⟨List.Pairwise.nil,fun _ hm=>(nomatch hm)⟩⟩,h2,h3,h4⟩
section
variable {prog:Program} {w:World} {A:Around} {E:Value->Shared->Prop} {s:Shared} {K:Frag}
def ledger (h:Heap) (L d:Addr):List (Addr×Obj):=(List.range h.objs.size).filterMap fun a=>if a=L\/a=d then none else (h.get? a).map fun o=>(a,o)
end
end Att
namespace L2
open PySem PySem.Spec PyProof.Rows
theorem qE4:∀ {vs:List Value} {ns:List Int},IntsAre vs ns->qBc (ns.map V.int) vs
 | _,_,.nil=>.nil
 | _,_,.cons n t h=>.cons ⟨t,rfl⟩ (qE4 h)
end L2
namespace L2
open PySem PySem.Spec PyProof.Rows
def qAq (s:Stmt):Arguments:=match s with
 | .FunctionDef _ a _ _ _ _ _ _ _ _=>a
 | _=>{ posonlyargs:=[],args:=[],vararg:=none,kwonlyargs:=[],kw_defaults:=[],kwarg:=none,defaults:=[] }
def qAp (s:Stmt):List Stmt:=match s with
 | .FunctionDef _ _ b _ _ _ _ _ _ _=>b
 | _=>[]
def qAc (s:Stmt):Scope:=match s with
 | .FunctionDef _ _ _ _ _ _ sc _ _ _=>sc
 | _=>{ kind:=.function,names:=[],isGenerator:=false,isCoroutine:=false }
abbrev CX0:CXT:=fun _ _ _ _ _ _=>False
abbrev E0:XK:=fun _ _ _=>False
theorem qAt {X:Cx}:Passes CX0 X E0:=fun _ _ _ _ _ _ _ h=>h.elim
structure Fun (K:PySem.W.Frag) (x qual:Str) (st:Stmt) (f:Addr) (fd:FuncData):Prop where
 ex:∃ (oc:Value) (od:Option Addr) (kV doc pm:Value) (an:Option Addr) (cdv ct:Value) (osl:Array (Option Value)),
  fd=PySem.W.fnOf x qual (qAq st) (qAp st) (qAc st) .none kV doc pm an cdv ct/\K.lookup f=some ⟨oc,od,.func fd,osl⟩/\PySem.W.codeIn K cdv qual=true
 kp:PySem.W.keepIn K (.ref f)=true
section
variable {P:Program} {w:World} {K:PySem.W.Frag} {mg:Str->Option Value} {base:Heap}
theorem Fun.ok {x qual:Str} {st:Stmt} {f:Addr} {fd:FuncData} {N ps:List Str} {k:Nat} {sp:Sp} (F:Fun K x qual st f fd) (S:FnScope N ps (qAc st)) (len:∀ vs H Q E,sp vs H Q E->vs.length=ps.length)
  (hbody:∀ (cdv:Value) (A:Around) (outer:List Env) (s:Shared) (H:Hp) (vs:List V) (Q:VK) (E:XK),Room k (A.deeper (envOfC qual (qAc st) s.heap.objs.size f cdv))->sp vs H Q E ->
   ∃ t,PSs (cxOf CX0 P w K mg base N qual (qAc st) f cdv A outer s H E).nox (qAp st) t/\t { nx:=fun _ H'=>Q .non H',rt:=Q } (qEs N vs) H):FnOk P w K mg base CX0 (k+1) f fd ps sp:=by
 obtain ⟨oc,od,kV,doc,pm,an,cdv,ct,osl,rfl,lk,hcd⟩:=F.ex
 refine fn_of lk hcd S len fun A outer s H vs Q E hr hsp=>?_
 obtain ⟨t,h,q⟩:=hbody cdv A outer s H vs Q E hr hsp
 exact ⟨t,h.nox,q⟩
theorem Fun.binds {x qual:Str} {st:Stmt} {f:Addr} {fd:FuncData} {ps:List Str} (F:Fun K x qual st f fd)
  (h:∀ (kV doc pm:Value) (an:Option Addr) (cdv ct:Value) (us:List Value),us.length=ps.length->bindArgs (PySem.W.fnOf x qual (qAq st) (qAp st) (qAc st) .none kV doc pm an cdv ct) ⟨us,[]⟩=pure (ps.zip us)):qA1 K fd ps []:=by
 obtain ⟨oc,od,kV,doc,pm,an,cdv,ct,osl,rfl,lk,hcd⟩:=F.ex
 exact .all (h kV doc pm an cdv ct)
theorem qA3 {x qual:Str} {st:Stmt} {f:Addr} {oc:Value} {od an:Option Addr} {osl:Array (Option Value)} {kV doc pm cdv ct:Value} (l:K.lookup f=some ⟨oc,od,.func (PySem.W.fnOf x qual (qAq st) (qAp st) (qAc st) .none kV doc pm an cdv ct),osl⟩)
  (c:PySem.W.codeIn K cdv qual=true) (k:PySem.W.keepIn K (.ref f)=true):Fun K x qual st f (PySem.W.fnOf x qual (qAq st) (qAp st) (qAc st) .none kV doc pm an cdv ct):=⟨⟨oc,od,kV,doc,pm,an,cdv,ct,osl,rfl,l,c⟩,k⟩
end
theorem qAk {n:Nat} (h:n<=1000):n<sizeLine:=Nat.lt_of_le_of_lt h (by decide)
section
variable {X:Cx}
theorem pv (i:Nat) {x:Str} {pos:Pos} (hN:X.N[i]?=some x:=by rfl) (hv:Vis X.env.scope x:=by first | exact Or.inl rfl | exact Or.inr (Or.inl rfl) | exact Or.inr (Or.inr rfl)) (hd:(x == ("__debug__" : Str))=false:=by decide)
  (hcd:(x == ("__classdict__" : Str))=false:=by decide):PE X (.Name x pos) (tVar i):=pe_var hN hv hd hcd
end
theorem iteF {A B:Prop} (h:B):if false=true then A else B:=by
 rw [if_neg Bool.false_ne_true]
 exact h
theorem iteT {A B:Prop} (h:A):if true=true then A else B:=by
 rw [if_pos rfl]
 exact h
theorem qCg {c A B:Prop} [Decidable c] (h1:c->A) (h2:¬c->B):if c then A else B:=by
 by_cases h:c
 ·rw [if_pos h]
  exact h1 h
 ·rw [if_neg h]
  exact h2 h
end L2
set_option linter.all false
namespace L2
open PySem PySem.Spec PyProof.Rows
structure M1 (X:Cx) (o:Expr) (m:Str) (apos:Pos) (e:Expr) (cpos:Pos):Prop where
 base:attributeBase o m X.env (eval o X.env)=eval o X.env
 few:((backTo cpos (starEach [e] X.env)).all (fun x=>!x.1) && (backToKw cpos (keywordEach [] X.env)).all (fun x=>x.1.isSome)
  && decide (([e]:List Expr).length+([]:List Keyword).length+(if ([]:List Keyword).isEmpty then 0 else 1)<30))=true
 line:(apos.endLine == cpos.line)=true
 trees:backTo cpos (starEach [e] X.env)=[(false,eval e X.env)]
structure M2 (X:Cx) (o:Expr) (m:Str) (apos:Pos) (e f:Expr) (cpos:Pos):Prop where
 base:attributeBase o m X.env (eval o X.env)=eval o X.env
 few:((backTo cpos (starEach [e,f] X.env)).all (fun x=>!x.1) && (backToKw cpos (keywordEach [] X.env)).all (fun x=>x.1.isSome)
  && decide (([e,f]:List Expr).length+([]:List Keyword).length+(if ([]:List Keyword).isEmpty then 0 else 1)<30))=true
 line:(apos.endLine == cpos.line)=true
 trees:backTo cpos (starEach [e,f] X.env)=[(false,eval e X.env),(false,eval f X.env)]
end L2
namespace L2
open PySem PySem.Spec PyProof.Rows
end L2
namespace L2
open PySem PySem.Spec PyProof.Rows
def qCr (cells:List (Str×Addr)):List (Str×NameKind)->List (Str×Addr)->List (Str×Addr)
 | [],acc=>acc
 | (n,k) :: r,acc=>if k == .free then qCr cells r ((n,(cells.lookup n).getD 0) :: acc) else qCr cells r acc
theorem qGy (env:Env) (f:Str×NameKind->List (Str×Addr)->Sem (ForInStep (List (Str×Addr))))
  (hf:∀ n k cs,f (n,k) cs=if k == .free then (do let a ← cellOf env n;pure (.yield ((n,a) :: cs))) else pure (.yield cs)) :
  ∀ (names:List (Str×NameKind)) (acc:List (Str×Addr)),(∀ x∈names,x.2 = .free->∃ c,env.cells.lookup x.1=some c)->forIn names acc f=pure (qCr env.cells names acc)
 | [],acc,_=>by rw [List.forIn_nil];rfl
 | (n,k) :: r,acc,h=>by
  have ih:=qGy env f hf r
  rw [List.forIn_cons,hf]
  unfold qCr
  by_cases hk:(k == NameKind.free)=true
  ·rw [if_pos hk,if_pos hk]
   obtain ⟨c,hc⟩:=h (n,k) List.mem_cons_self (by simpa using hk)
   have e:cellOf env n=pure c:=by unfold cellOf;rw [hc]
   rw [e,hc]
   exact ih _ fun x hx=>h x (List.mem_cons_of_mem _ hx)
  ·rw [if_neg hk,if_neg hk]
   exact ih _ fun x hx=>h x (List.mem_cons_of_mem _ hx)
theorem closureFor_eq {scope:Scope} {env:Env} (h:∀ x∈scope.names,x.2 = .free->∃ c,env.cells.lookup x.1=some c):closureFor scope env=pure (qCr env.cells scope.names []):=by
 simp only [closureFor]
 rw [qGy env _ (fun n k cs=>by cases hk:k == NameKind.free <;> simp [hk]) scope.names [] h]
 rfl
theorem closL_mem {cells:List (Str×Addr)}:∀ {names:List (Str×NameKind)} {acc:List (Str×Addr)} {x:Str} {c:Addr},(x,c)∈qCr cells names acc->(x,c)∈acc\/((x,NameKind.free)∈names/\c=(cells.lookup x).getD 0)
 | [],acc,x,c,h=>.inl h
 | (n,k) :: r,acc,x,c,h=>by
  unfold qCr at h
  by_cases hk:(k == NameKind.free)=true
  ·rw [if_pos hk] at h
   rcases closL_mem h with q | ⟨q,e⟩
   ·rcases List.mem_cons.mp q with z | z
    ·cases z
     exact .inr ⟨by rw [show NameKind.free=k from (by simpa using hk:k=NameKind.free).symm];exact List.mem_cons_self,rfl⟩
    ·exact .inl z
   ·exact .inr ⟨List.mem_cons_of_mem _ q,e⟩
  ·rw [if_neg hk] at h
   rcases closL_mem h with q | ⟨q,e⟩
   ·exact .inl q
   ·exact .inr ⟨List.mem_cons_of_mem _ q,e⟩
theorem qEu {α:Type} {x n:Str} {c:α} {l:List (Str×α)} (h:(l.lookup x).isSome=true):(((n,c) :: l).lookup x).isSome=true:=by
 rw [List.lookup_cons]
 cases x == n <;> simp [h]
theorem qEf {cells:List (Str×Addr)} {x:Str}:∀ {names:List (Str×NameKind)} {acc:List (Str×Addr)},((x,NameKind.free)∈names\/(acc.lookup x).isSome=true)->((qCr cells names acc).lookup x).isSome=true
 | [],acc,h=>by
  rcases h with h | h
  ·cases h
  ·exact h
 | (n,k) :: r,acc,h=>by
  unfold qCr
  by_cases hk:(k == NameKind.free)=true
  ·rw [if_pos hk]
   refine qEf ?_
   rcases h with h | h
   ·rcases List.mem_cons.mp h with z | z
    ·cases z;exact .inr (by rw [List.lookup_cons];simp)
    ·exact .inl z
   ·exact .inr (qEu h)
  ·rw [if_neg hk]
   refine qEf ?_
   rcases h with h | h
   ·rcases List.mem_cons.mp h with z | z
    ·cases z;exact absurd rfl hk
    ·exact .inl z
   ·exact .inr h
theorem cellsFrom_mem:∀ {names:List (Str×NameKind)} {n:Nat} {acc:List (Str×Addr)} {x:Str} {c:Addr},(x,c)∈cellsFrom n names acc->(x,c)∈acc\/(x,NameKind.cell)∈names
 | [],_,_,_,_,h=>.inl h
 | (y,k) :: r,n,acc,x,c,h=>by
  unfold cellsFrom at h
  by_cases hk:(k == NameKind.cell)=true
  ·rw [if_pos hk] at h
   rcases cellsFrom_mem h with q | q
   ·rcases List.mem_cons.mp q with z | z
    ·cases z
     exact .inr (by rw [show NameKind.cell=k from (by simpa using hk:k=NameKind.cell).symm];exact List.mem_cons_self)
    ·exact .inl z
   ·exact .inr (List.mem_cons_of_mem _ q)
  ·rw [if_neg hk] at h
   rcases cellsFrom_mem h with q | q
   ·exact .inl q
   ·exact .inr (List.mem_cons_of_mem _ q)
structure CellsTwo (h:Heap) (lo:Nat) (acc cs:List (Str×Addr)):Prop where
 part:∀ x c,(x,c)∈cs->(x,c)∈acc\/(h.IsCell c none/\lo<=c)
 inj:∀ x y c,lo<=c->(x,c)∈cs->(y,c)∈cs->x=y
theorem qC2 {acc0:List (Str×Addr)}:∀ (names:List (Str×NameKind)) (h:Heap) (lo:Nat) (acc:List (Str×Addr)),CellsTwo h lo acc0 acc->(∀ x c,(x,c)∈acc->c<h.objs.size)->lo<=h.objs.size ->
  CellsTwo (pushCells h names) lo acc0 (cellsFrom h.objs.size names acc)
 | [],_,_,_,x,_,_=>x
 | (name,kind) :: r,h,lo,acc,x,hl,hlo=>by
  unfold pushCells cellsFrom
  split
  ·have:=qC2 (acc0:=acc0) r (h.push { cls:=.type "cell",data:=.cell none }) lo ((name,h.objs.size) :: acc)
    ⟨fun n c hm=>by
      rcases List.mem_cons.mp hm with e | hm
      ·cases e;exact .inr ⟨⟨_,Heap.get?_push_size _ rfl,rfl⟩,hlo⟩
      ·rcases x.part n c hm with q | q
       ·exact .inl q
       ·exact .inr ⟨q.1.keeps fun b o e=>Heap.get?_push_of_some _ e,q.2⟩,
     fun a b c hc h1 h2=>by
      rcases List.mem_cons.mp h1 with e1 | h1 <;> rcases List.mem_cons.mp h2 with e2 | h2
      ·cases e1;cases e2;rfl
      ·cases e1;exact absurd (hl _ _ h2) (Nat.lt_irrefl _)
      ·cases e2;exact absurd (hl _ _ h1) (Nat.lt_irrefl _)
      ·exact x.inj a b c hc h1 h2⟩
    (fun n c hm=>by
     rw [Heap.size_push]
     rcases List.mem_cons.mp hm with e | hm
     ·cases e;exact Nat.lt_succ_self _
     ·exact Nat.lt_succ_of_lt (hl n c hm)) (by rw [Heap.size_push];omega)
   rwa [Heap.size_push] at this
  ·exact qC2 r h lo acc x hl hlo
def qDn (env:Env) (scope:Scope) (C:Addr):Env :=
 { scope:=relabel scope env,locals:=C,globals:=env.globals,cells:=cellsFrom (C+1) scope.names (qCr env.cells scope.names []),qual:=env.qual,func:=none,code:=env.code,frame:=env.frame,builtins:=env.builtins }
theorem wpAny_compEnv {M:Model} {A:Around} {E:Value->Shared->Prop} {s:Shared} {scope:Scope} {env:Env} {cl:List (Str×Addr)} {Q:Env->Shared->Prop}
  (hQ:Q { scope:=scope,locals:=s.heap.objs.size,globals:=env.globals,cells:=cellsFrom (s.heap.objs.size+1) scope.names cl,qual:=env.qual,func:=none,code:=env.code,frame:=env.frame,builtins:=env.builtins }
   { s with heap:=pushCells (s.heap.push { cls:=.type "dict",data:=.dict #[] }) scope.names }) :
  wpAny M A (newFunctionEnv scope env.globals cl [] env.qual none .none (some env)) Q E s:=by
 simp only [newFunctionEnv,Option.isSome_some,if_true]
 refine wpAny_bind (wpAny_alloc ?_)
 refine wpAny_bind (wpAny_layCells _ (fun name kind cells=>by cases hkc:kind == NameKind.cell <;> simp [hkc]) _ _ _ _ ?_)
 rw [show ({ s with heap:=s.heap.push { cls:=.type "dict",data:=.dict #[] } }:Shared).heap.objs.size=s.heap.objs.size+1 from Heap.size_push ..]
 rw [List.forIn_nil]
 exact wpAny_bind (wpAny_pure (wpAny_pure hQ))
theorem compLoop_any {prog:Program} {w:World} {A:Around} {R:Result->Shared->Prop} {s:Shared} {elt target iter:Expr} {ifs:List Expr} {scope:Scope} {pos:Pos} {it acc:Value} {env:Env} (I:Nat->Shared->Prop)
  (turn:∀ n s,I n s->wpAny (model prog w) A (pyNext it) (fun r s₁=>match r with
   | none=>R (.ok .next) s₁
   | some v=>wpAny (model prog w) A (letOwnedTupleGo target it v) (fun _ s₁'=>wpAny (model prog w) A (assign target env v) (fun _ s₂ =>
     wpAny (model prog w) A (forIn ifs true fun c r=>if r=true then do let ok ← isTrue c env (eval c env);pure (ForInStep.yield ok) else pure (ForInStep.yield r)) (fun ok s₃ =>
      if ok=true then wpAny (model prog w) A (eval elt env) (fun x s₄ =>
       wpAny (model prog w) A (call (.builtin "list.append") [acc,x]) (fun _ s₅=>∃ m,m<n/\I m s₅) (fun _ _=>False) s₄) (fun _ _=>False) s₃
      else ∃ m,m<n/\I m s₃) (fun _ _=>False) s₂) (fun _ _=>False) s₁') (fun _ _=>False) s₁) (fun _ _=>False) s)
  (n:Nat) (h:I n s) :
  codeAny (model prog w) A (.compLoop (.ListComp elt [⟨target,iter,ifs,0⟩] scope pos) 0 it acc env) R s:=by
 refine codeAny_loop rfl I (fun n s hI=>?_) n h
 show wpAny _ A ((compTurn (.ListComp elt [⟨target,iter,ifs,0⟩] scope pos) 0 it acc env).onRaise (fun x=>do noteFrame x env;theTreesLotGoes x)) _ _ s
 refine wpAny_noted ?_
 rw [compTurn_list]
 refine wpAny_bind (wpAny_standAt (wpAny_bind (wpAny_mono (turn n s hI) (fun r s₁ h₁=>?_) fun _ _ h'=>h'.elim)))
 cases r with
 | none=>exact wpAny_pure h₁
 | some v =>
  refine wpAny_bind (wpAny_mono h₁ (fun _ s₁' h₁=>?_) fun _ _ h'=>h'.elim)
  refine wpAny_bind (wpAny_mono h₁ (fun _ s₂ h₂=>wpAny_bind (wpAny_mono h₂ (fun ok s₃ h₃=>?_) fun _ _ h'=>h'.elim)) fun _ _ h'=>h'.elim)
  cases ok with
  | false=>exact wpAny_pure ⟨rfl,h₃⟩
  | true =>
   exact wpAny_bind (wpAny_bind (wpAny_mono h₃ (fun x s₄ h₄=>wpAny_bind (wpAny_mono h₄ (fun _ s₅ h₅=>wpAny_pure (wpAny_pure ⟨rfl,h₅⟩)) fun _ _ h'=>h'.elim)) fun _ _ h'=>h'.elim))
end L2
namespace L2
open PySem PySem.Spec PyProof.Rows
def qDa (X:Cx) (scope:Scope) (N':List Str) (C:Addr) (s:Shared) (H:Hp) (fp:List Addr):Cx :=
 { X with N:=N',s₀:=s,H₀:=H,env:=qDn X.env scope C,outer:=X.stack,stack:=X.stack,ex:=fp,fn:=fun x=>!(scope.names.lookup x == some .free),pn:=[],xe:=fun _ _=>False }
def subσ (sub:List (Option Nat)) (σ:St):St:=sub.map fun o=>o.bind fun i=>(σ[i]?).join
def cmpOkB (N:List Str) (sc:Scope) (N':List Str) (scope:Scope) (sub:List (Option Nat)):Bool :=
 scope.kind == .function && decide ((scope.names.map (·.1)).Nodup) && decide N'.Nodup && sub.length == N'.length &&
 (scope.names.all fun x=>!(x.2 == .free) || sc.names.lookup x.1 == some .cell || sc.names.lookup x.1 == some .free) &&
 ((sub.zip N').all fun p=>match p.1 with
  | none=>true
  | some i=>N[i]? == some p.2 && scope.names.lookup p.2 == some .free)
structure CmpOk (N:List Str) (sc:Scope) (N':List Str) (scope:Scope) (sub:List (Option Nat)):Prop where
 kind:scope.kind = .function
 nd:(scope.names.map (·.1)).Nodup
 nd':N'.Nodup
 len:sub.length=N'.length
 free:∀ x∈scope.names,x.2 = .free->sc.names.lookup x.1=some .cell\/sc.names.lookup x.1=some .free
 sub:∀ (j i:Nat) (x:Str),sub[j]?=some (some i)->N'[j]?=some x->N[i]?=some x/\scope.names.lookup x=some .free
theorem CmpOk.of {N:List Str} {sc:Scope} {N':List Str} {scope:Scope} {sub:List (Option Nat)} (h:cmpOkB N sc N' scope sub=true):CmpOk N sc N' scope sub:=by
 unfold cmpOkB at h
 simp only [Bool.and_eq_true] at h
 obtain ⟨⟨⟨⟨⟨h1,h2⟩,h3⟩,h4⟩,h5⟩,h6⟩:=h
 refine ⟨by simpa using h1,of_decide_eq_true h2,of_decide_eq_true h3,by simpa using h4,fun x hx hf=>?_,fun j i x hj hx=>?_⟩
 ·have q:=List.all_eq_true.mp h5 x hx
  rw [hf] at q
  simp only [beq_self_eq_true,Bool.not_true,Bool.false_or,Bool.or_eq_true] at q
  rcases q with q | q
  ·exact .inl (by simpa using q)
  ·exact .inr (by simpa using q)
 ·have q:=List.all_eq_true.mp h6 (some i,x) (by
   refine List.mem_of_getElem? (i:=j) ?_
   rw [List.getElem?_zip_eq_some]
   exact ⟨hj,hx⟩)
  simp only [Bool.and_eq_true] at q
  exact ⟨by simpa using q.1,by simpa using q.2⟩
theorem qCf {α:Type}:∀ {l:List (Str×α)} {x:Str} {c:α},(l.map (·.1)).Nodup->(x,c)∈l->l.lookup x=some c
 | (y,d) :: r,x,c,nd,h=>by
  rw [List.lookup_cons]
  rcases List.mem_cons.mp h with e | h
  ·cases e;simp
  ·have ne:x≠y:=fun e=>by
    rw [List.map_cons] at nd
    exact (List.nodup_cons.mp nd).1 (by rw [<-e];exact List.mem_map.mpr ⟨(x,c),h,rfl⟩)
   rw [show (x == y)=false from by simpa using ne]
   exact qCf (List.nodup_cons.mp nd).2 h
theorem qEo {sc:Scope}:∀ {names:List (Str×NameKind)} {x:Str},
  ((names.map fun (n,k)=>if (k == NameKind.free && sc.kind == .function && sc.names.lookup n == some .cell) then (n,NameKind.cell) else (n,k)).lookup x) =
   (names.lookup x).map fun k=>if (k == NameKind.free && sc.kind == .function && sc.names.lookup x == some .cell) then NameKind.cell else k
 | [],x=>rfl
 | (n,k) :: r,x=>by
  have ih:=@qEo sc r x
  rw [List.map_cons]
  show List.lookup x ((if (k == NameKind.free && sc.kind == .function && sc.names.lookup n == some .cell)=true then (n,NameKind.cell) else (n,k)) :: _)=_
  by_cases hc:(k == NameKind.free && sc.kind == .function && sc.names.lookup n == some .cell)=true
  ·rw [if_pos hc,List.lookup_cons,List.lookup_cons]
   by_cases hx:x=n
   ·subst hx
    rw [show (x == x)=true from beq_self_eq_true x]
    show some NameKind.cell=Option.map _ (some k)
    rw [Option.map_some,if_pos hc]
   ·rw [show (x == n)=false by simpa using hx]
    exact ih
  ·rw [if_neg hc,List.lookup_cons,List.lookup_cons]
   by_cases hx:x=n
   ·subst hx
    rw [show (x == x)=true from beq_self_eq_true x]
    show some k=Option.map _ (some k)
    rw [Option.map_some,if_neg hc]
   ·rw [show (x == n)=false by simpa using hx]
    exact ih
section
variable {X:Cx} {pins:List (Addr×Obj)} {σ:St} {H H':Hp} {s:Shared}
theorem frs_sub_of (I:Inv X pins σ H s) {b:Addr} (hb:b∈frs X.stack) (n1:b≠X.env.locals):b∈X.fs:=(List.mem_cons.mp (I.stkSub b hb)).elim (fun e=>absurd e n1) id
theorem cells_facts {N':List Str} {scope:Scope} {sub:List (Option Nat)} {h3:Heap} (I:Inv X pins σ H s) (O:CmpOk X.N X.env.scope N' scope sub)
  (hk:∀ b o,s.heap.get? b=some o->h3.get? b=some o) :
  (∀ x c,(cellsFrom (h3.objs.size+1) scope.names (qCr X.env.cells scope.names [])).lookup x=some c ->
   (((pushCells (h3.push { cls:=.type "dict",data:=.dict #[] }) scope.names).IsCell c none/\h3.objs.size+1<=c/\(x,NameKind.cell)∈scope.names)\/((x,NameKind.free)∈scope.names/\X.env.cells.lookup x=some c))) /\
  (∀ x y c,(cellsFrom (h3.objs.size+1) scope.names (qCr X.env.cells scope.names [])).lookup x=some c->(cellsFrom (h3.objs.size+1) scope.names (qCr X.env.cells scope.names [])).lookup y=some c->x=y):=by
 have hin:∀ x c,(x,c)∈qCr X.env.cells scope.names []->(x,NameKind.free)∈scope.names/\X.env.cells.lookup x=some c:=fun x c h=>by
  rcases closL_mem h with q | ⟨q,e⟩
  ·cases q
  ·have hx:∃ c,X.env.cells.lookup x=some c:=by
    refine I.ok.has x ?_
    rcases O.free _ q rfl with z | z
    ·exact .inl z
    ·exact .inr z
   obtain ⟨c',hc'⟩:=hx
   rw [hc'] at e
   exact ⟨q,by rw [hc',e];rfl⟩
 have hlt:∀ x c,(x,c)∈qCr X.env.cells scope.names []->c<h3.objs.size:=fun x c h=>by
  obtain ⟨v,o,ho,_⟩:=I.cell x c (hin x c h).2
  exact Heap.lt_size (hk _ _ ho)
 have two:=qC2 (acc0:=qCr X.env.cells scope.names []) scope.names (h3.push { cls:=.type "dict",data:=.dict #[] }) (h3.objs.size+1) (qCr X.env.cells scope.names [])
  ⟨fun x c h=>.inl h,fun x y c hc h1 _=>absurd (hlt x c h1) (Nat.not_lt.mpr (Nat.le_of_succ_le hc))⟩ (fun x c h=>by rw [Heap.size_push];exact Nat.lt_succ_of_lt (hlt x c h)) (by rw [Heap.size_push];exact Nat.le_refl _)
 rw [Heap.size_push] at two
 refine ⟨fun x c h=>?_,fun x y c h1 h2=>?_⟩
 ·have m:=PySem.mem_of_lookup h
  rcases two.part x c m with q | q
  ·exact .inr (hin x c q)
  ·refine .inl ⟨q.1,q.2,?_⟩
   rcases cellsFrom_mem m with z | z
   ·exact absurd (hlt x c z) (Nat.not_lt.mpr (Nat.le_of_succ_le q.2))
   ·exact z
 ·have m1:=PySem.mem_of_lookup h1
  have m2:=PySem.mem_of_lookup h2
  by_cases hc:h3.objs.size+1<=c
  ·exact two.inj x y c hc m1 m2
  ·rcases two.part x c m1 with q1 | q1
   ·rcases two.part y c m2 with q2 | q2
    ·exact I.ok.inj x y c (hin x c q1).2 (hin y c q2).2
    ·exact absurd q2.2 hc
   ·exact absurd q1.2 hc
theorem inv_comp {N':List Str} {scope:Scope} {sub:List (Option Nat)} {fp:List Addr} (I:Inv X pins σ H s) (O:CmpOk X.N X.env.scope N' scope sub) (hf:∀ b∈fp,FpOk X pins H b)
  (hfl:∀ b∈fp,b<s.heap.objs.size) :
  Inv (qDa X scope N' (s.heap.objs.size+1) s H fp) [(s.heap.objs.size,{ cls:=.type "list",data:=.seq #[] })] (subσ sub σ) H
   { s with heap:=pushCells ((s.heap.push { cls:=.type "list",data:=.seq #[] }).push { cls:=.type "dict",data:=.dict #[] }) scope.names }:=by
 have hk3:∀ b o,s.heap.get? b=some o->(s.heap.push { cls:=.type "list",data:=.seq #[] }).get? b=some o:=fun b o e=>Heap.get?_push_of_some _ e
 have sz3:(s.heap.push { cls:=.type "list",data:=.seq #[] }).objs.size=s.heap.objs.size+1:=Heap.size_push ..
 have hk:∀ b o,s.heap.get? b=some o->(pushCells ((s.heap.push { cls:=.type "list",data:=.seq #[] }).push { cls:=.type "dict",data:=.dict #[] }) scope.names).get? b=some o :=
  fun b o e=>pushCells_keeps _ _ b o (Heap.get?_push_of_some _ (hk3 b o e))
 have cf:=cells_facts (h3:=s.heap.push { cls:=.type "list",data:=.seq #[] }) I O hk3
 rw [sz3] at cf
 have hC:H (s.heap.objs.size+1)=none:=I.hok.fresh (Nat.le_succ _)
 have nsC:(pushCells ((s.heap.push { cls:=.type "list",data:=.seq #[] }).push { cls:=.type "dict",data:=.dict #[] }) scope.names).Ns (s.heap.objs.size+1) (fun _=>none):=by
  rw [<-sz3]
  exact (Heap.Ns.new _ _).keeps (pushCells_keeps _ _)
 have has:∀ x,(scope.names.lookup x=some .cell\/scope.names.lookup x=some .free)->∃ c,(cellsFrom (s.heap.objs.size+1+1) scope.names (qCr X.env.cells scope.names [])).lookup x=some c:=fun x hx=>by
  refine Option.isSome_iff_exists.mp (PySem.W.cellsFrom_some _ _ _ ?_)
  rcases hx with z | z
  ·exact .inl z
  ·exact .inr (qEf (.inl (PySem.mem_of_lookup z)))
 have kindB:∀ x,(qDn X.env scope (s.heap.objs.size+1)).kindOf x=(scope.names.lookup x).map fun k=>if (k == NameKind.free && X.env.scope.kind == .function && X.env.scope.names.lookup x == some .cell) then NameKind.cell else k:=fun x=>qEo
 have cellOk:∀ x c,(qDn X.env scope (s.heap.objs.size+1)).cells.lookup x=some c->∃ v,(pushCells ((s.heap.push { cls:=.type "list",data:=.seq #[] }).push { cls:=.type "dict",data:=.dict #[] }) scope.names).IsCell c v:=fun x c h=>by
  rcases cf.1 x c h with q | q
  ·exact ⟨_,q.1⟩
  ·obtain ⟨v,z⟩:=I.cell x c q.2
   exact ⟨v,z.keeps hk⟩
 refine ⟨⟨I.ok.mod,O.kind,I.ok.glob,I.ok.blt,Nat.le_succ _,fun x y c h1 h2=>cf.2 x y c h1 h2,fun x hx=>?_,fun x c hx h=>?_,I.ok.hd,I.ok.frames,.inl rfl,fun b hb=>?_,fun b o e=>I.bs b o e,Nat.le_trans I.ok.bsz I.sz,fun b o e hb=>?_,fun b hb=>?_,I.stack,I.stkFree⟩,
  rfl,I.bare,Un.kept hk,⟨fun _=>none,nsC,fun i x v h1 h2 h3=>?_⟩,cellOk,hC,fun x c h=>?_,fun p hp=>?_,I.hok.kept hk,?_⟩
 ·-- has
  refine has x ?_
  have hx:(qDn X.env scope (s.heap.objs.size+1)).kindOf x=some .cell\/(qDn X.env scope (s.heap.objs.size+1)).kindOf x=some .free:=hx
  rw [kindB] at hx
  cases e:scope.names.lookup x with
  | none=>rw [e] at hx;rcases hx with z | z <;> cases z
  | some k =>
   rw [e] at hx
   cases k with
   | cell=>exact .inl rfl
   | free=>exact .inr rfl
   | _=>exfalso;rcases hx with z | z <;> simp at z
 ·-- cab
  rcases cf.1 x c h with q | q
  ·have:=q.2.1
   show s.heap.objs.size<=c
   omega
  ·exfalso
   have e:=qCf O.nd q.1
   have hx':(!(scope.names.lookup x == some NameKind.free))=true:=hx
   rw [e] at hx'
   exact absurd hx' (by decide)
 ·-- exf
  obtain ⟨f0,f1,f2,f3,f4,f5⟩:=hf b hb
  have lt:=hfl b hb
  refine ⟨fun e=>?_,fun x c h e=>?_⟩
  ·have e':b=s.heap.objs.size+1:=e
   rw [e'] at lt
   exact absurd lt (Nat.not_lt.mpr (Nat.le_succ _))
  ·rcases cf.1 x c h with q | q
   ·have z:=q.2.1
    rw [e] at z
    exact absurd lt (Nat.not_lt.mpr (Nat.le_trans (Nat.le_trans (Nat.le_succ _) (Nat.le_succ _)) z))
   ·exact f4 x c q.2 e
 ·-- noex
  obtain ⟨f0,f1,f2,f3,f4,f5⟩:=hf b hb
  rcases f3 with z | z
  ·exact I.ok.noex b o e z
  ·exact absurd (Nat.lt_of_lt_of_le (Heap.lt_size (I.ok.bs b o e).1) z) (Nat.lt_irrefl _)
 ·-- exfs
  obtain ⟨f0,f1,f2,f3,f4,f5⟩:=hf b hb
  exact fun z=>f2 (frs_sub_of I z f1)
 ·-- loc
  have h1':N'[i]?=some x:=h1
  have hsub:∃ k,sub[i]?=some (some k)/\(σ[k]?).join=some v:=by
   unfold subσ at h2
   rw [List.getElem?_map] at h2
   cases e:sub[i]? with
   | none=>rw [e] at h2;cases h2
   | some o =>
    rw [e] at h2
    cases o with
    | none=>cases h2
    | some k=>exact ⟨k,rfl,by simpa using h2⟩
  obtain ⟨k,hk1,hk2⟩:=hsub
  obtain ⟨nk,fx⟩:=O.sub i k x hk1 h1'
  have sk:σ[k]?=some (some v):=by
   cases e:σ[k]? with
   | none=>rw [e] at hk2;cases hk2
   | some o=>rw [e] at hk2;cases o with
    | none=>cases hk2
    | some y=>cases hk2;rfl
  have cx:=O.free _ (PySem.mem_of_lookup fx) rfl
  obtain ⟨m,hn,hl⟩:=I.loc
  obtain ⟨u,ru,lk⟩:=hl k x v nk sk (by
   rcases cx with z | z
   ·exact .inr (.inl z)
   ·exact .inr (.inr z))
  refine ⟨u,ru,.inr ⟨?_,?_⟩⟩
  ·show (qDn X.env scope (s.heap.objs.size+1)).kindOf x=some .cell\/(qDn X.env scope (s.heap.objs.size+1)).kindOf x=some .free
   rw [kindB,fx]
   by_cases hc:(NameKind.free == NameKind.free && X.env.scope.kind == .function && X.env.scope.names.lookup x == some .cell)=true
   ·exact .inl (by rw [Option.map_some,if_pos hc])
   ·exact .inr (by rw [Option.map_some,if_neg hc])
  ·rcases lk with ⟨kl,_⟩ | ⟨_,c,hc,hcell⟩
   ·exfalso
    have kl':X.env.scope.names.lookup x=some .local:=kl
    rcases cx with z | z <;> rw [kl'] at z <;> cases z
   ·obtain ⟨c',hc'⟩:=has x (.inr fx)
    refine ⟨c',hc',?_⟩
    rcases cf.1 x c' hc' with q | q
    ·exfalso
     have e:=qCf O.nd q.2.2
     rw [fx] at e;cases e
    ·rw [hc] at q
     have e:c=c':=Option.some.inj q.2
     subst e
     exact hcell.keeps hk
 ·-- freeC
  rcases cf.1 x c h with q | q
  ·exact I.hok.fresh (by have:=q.2.1;omega)
  ·exact I.freeC x c q.2
 ·-- pin
  have hp':p=(s.heap.objs.size,({ cls:=.type "list",data:=.seq #[] }:Obj)):=by
   have:p∈([]++[(s.heap.objs.size,({ cls:=.type "list",data:=.seq #[] }:Obj))]:List (Addr×Obj)):=hp
   simpa using this
  subst hp'
  refine ⟨pushCells_keeps _ _ _ _ (Heap.get?_push_of_some _ (Heap.get?_push_size _ rfl)),I.hok.fresh (Nat.le_refl _),Nat.ne_of_lt (Nat.lt_succ_self _),fun z=>?_,fun v z=>?_⟩
  ·rcases List.mem_cons.mp (I.stkSub _ z) with e | e
   ·exact absurd I.lt (by rw [<-e];exact Nat.lt_irrefl _)
   ·exact I.nofs (Nat.le_refl _) e
  ·cases z
 ·-- len
  show (subσ sub σ).length=N'.length
  unfold subσ
  rw [List.length_map,O.len]
end
end L2
namespace L2
open PySem PySem.Spec PyProof.Rows
def Sle (σ σ2:St):Prop:=σ2.length=σ.length/\∀ (i:Nat) (v:V),σ[i]?=some (some v)->σ2[i]?=some (some v)
theorem Sle.refl (σ:St):Sle σ σ:=⟨rfl,fun _ _ h=>h⟩
theorem Sle.set {σ σ2:St} {i:Nat} (v:V) (h:Sle σ σ2) (hi:∀ u,σ[i]?≠some (some u)):Sle σ (σ2.set i (some v)):=by
 refine ⟨by rw [List.length_set];exact h.1,fun j u hj=>?_⟩
 have ne:i≠j:=fun e=>hi u (by rw [e];exact hj)
 rw [List.getElem?_set_ne ne]
 exact h.2 j u hj
def PTs (X:Cx) (ifs:List Expr) (t:TT):Prop :=
 ∀ (pins:List (Addr×Obj)) (s:Shared) (σ:St) (H:Hp) (Q:Bool->Hp->Prop),Inv X pins σ H s->t σ H Q ->
  wpAny (model X.prog X.w) X.A (forIn ifs true fun c r=>if r=true then do let ok ← isTrue c X.env (eval c X.env);pure (ForInStep.yield ok) else pure (ForInStep.yield r)) (TP X pins σ Q) X.xe s
def tNoTest:TT:=fun _ H Q=>Q true H
theorem qBb {X:Cx}:PTs X [] tNoTest:=fun pins s σ H Q I h=>wpAny_tests_nil ⟨H,I,h⟩
theorem qB5 {X:Cx} {c:Expr} {t:TT} (h:PT X c t):PTs X [c] t:=fun pins s σ H Q I hw=>wpAny_tests_one (h pins s σ H Q I hw)
def qDo (J:It) (σ0:St) (g:TG) (tt:TT) (te:TE) (Q:List V->Hp->Prop) (H1:Hp):Prop :=
 ∃ W:Nat->Nat->List V->Hp->Prop,(∃ m,W 0 m [] H1)/\∀ i m ys H,W i m ys H ->
  (J.stop i H/\Q ys H) \/
  (J.go i H/\∀ x H',J.yld i H x H'->g x σ0 H' fun σ2 H2=>Sle σ0 σ2/\tt σ2 H2 fun b H3 =>
   if b=true then te σ2 H3 (fun v H4=>ys.length<sizeLine/\∃ m',m'<m/\W (i+1) m' (ys++[v]) H4) else ∃ m',m'<m/\W (i+1) m' ys H3)
section
variable {X:Cx} {pins:List (Addr×Obj)} {σ:St} {H:Hp} {s:Shared}
theorem comp_core {target iter elt:Expr} {ifs:List Expr} {scope:Scope} {pos:Pos} {N':List Str} {sub:List (Option Nat)} {J:It} {fp:List Addr} {it:Addr} {tn:Nat->Heap->Prop} {g:TG} {tt:TT} {te:TE}
  {Qe:List V->Hp->Prop} {E:Value->Shared->Prop} {RR:Value->Addr->Result->Shared->Prop}
  (hc:X.calm=true) (I:Inv X pins σ H s) (O:CmpOk X.N X.env.scope N' scope sub) (T:Turn X.prog X.w X.K target J fp it tn) (st:tn 0 s.heap) (hf:∀ b∈fp,FpOk X pins H b)
  (B:∀ C s H fp,PG (qDa X scope N' C s H fp) target g/\PTs (qDa X scope N' C s H fp) ifs tt/\PE (qDa X scope N' C s H fp) elt te)
  (rd:qDo J (subσ sub σ) g tt te Qe H)
  (hRR:∀ (acc C:Addr) (ys:List V) (H':Hp) (s':Shared),Inv X pins σ (upd H' acc (.lst ys)) s'->FpOk X pins (upd H' acc (.lst ys)) C->(∃ m,s'.heap.Ns C m)->H' acc=none->Qe ys H'->RR (.ref acc) C (.ok .next) s') :
  wpAny (model X.prog X.w) X.A (newList []) (fun acc s₃=>wpAny (model X.prog X.w) X.A (newFunctionEnv scope X.env.globals (qCr X.env.cells scope.names []) [] X.env.qual none .none (some X.env)) (fun cenv s₄ =>
   codeAny (model X.prog X.w) X.A (.compStart (.ListComp elt [⟨target,iter,ifs,0⟩] scope pos) 0 (.ref it) acc { cenv with scope:=relabel scope X.env }) (RR acc cenv.locals) s₄) E s₃) E s:=by
 refine wpAny_newObj_type (wpAny_compEnv ?_)
 have hfl:∀ b∈fp,b<s.heap.objs.size:=fun b hb=>by
  obtain ⟨o,e,_⟩:=T.obj _ _ st b hb
  exact Heap.lt_size e
 have I0:=inv_comp (sub:=sub) I O hf hfl
 have sz3:(s.heap.push { cls:=.type "list",data:=.seq #[] }).objs.size=s.heap.objs.size+1:=Heap.size_push ..
 dsimp only
 show codeAny _ _ (.compStart _ 0 (.ref it) (.ref s.heap.objs.size) { scope:=relabel scope X.env,locals:=(s.heap.push { cls:=.type "list",data:=.seq #[] }).objs.size,globals:=X.env.globals,cells:=cellsFrom ((s.heap.push { cls:=.type "list",data:=.seq #[] }).objs.size+1) scope.names (qCr X.env.cells scope.names []),qual:=X.env.qual,func:=none,code:=X.env.code,frame:=X.env.frame,builtins:=X.env.builtins })
  (RR (.ref s.heap.objs.size) (s.heap.push { cls:=.type "list",data:=.seq #[] }).objs.size) { s with heap:=pushCells ((s.heap.push { cls:=.type "list",data:=.seq #[] }).push { cls:=.type "dict",data:=.dict #[] }) scope.names }
 rw [sz3]
 show codeAny _ _ (.compStart _ 0 (.ref it) (.ref s.heap.objs.size) (qDn X.env scope (s.heap.objs.size+1))) (RR (.ref s.heap.objs.size) (s.heap.objs.size+1)) _
 generalize hs0:({ s with heap:=pushCells ((s.heap.push { cls:=.type "list",data:=.seq #[] }).push { cls:=.type "dict",data:=.dict #[] }) scope.names }:Shared)=s0 at I0 ⊢
 have hk0:∀ b o,s.heap.get? b=some o->s0.heap.get? b=some o:=fun b o e=>by
  rw [<-hs0]
  exact pushCells_keeps _ _ b o (Heap.get?_push_of_some _ (Heap.get?_push_of_some _ e))
 have st0:tn 0 s0.heap:=T.keep _ _ _ st fun b hb o e=>hk0 b o e
 clear hs0 sz3
 generalize hX:qDa X scope N' (s.heap.objs.size+1) s H fp=X' at I0
 have xp:X'.prog=X.prog:=by rw [<-hX];rfl
 have xw:X'.w=X.w:=by rw [<-hX];rfl
 have xK:X'.K=X.K:=by rw [<-hX];rfl
 have xA:X'.A=X.A:=by rw [<-hX];rfl
 have xc:X'.calm=true:=by rw [<-hX];exact hc
 have xe:X'.env=qDn X.env scope (s.heap.objs.size+1):=by rw [<-hX];rfl
 have xx:X'.ex=fp:=by rw [<-hX];rfl
 have xo:X'.outer=X.stack:=by rw [<-hX];rfl
 have xf:X'.fs=frs X.stack:=by rw [<-hX];rfl
 have xpn:X'.pn=[]:=by rw [<-hX];rfl
 have x0:X'.s₀=s:=by rw [<-hX];rfl
 have xh:X'.H₀=H:=by rw [<-hX];rfl
 have xxe:X'.xe=fun _ _=>False:=by rw [<-hX];rfl
 obtain ⟨hg,ht,he⟩:=B (s.heap.objs.size+1) s H fp
 rw [hX] at hg ht he
 clear hX
 have stat:∀ {pl:List (Addr×Obj)} {H':Hp},(∀ p∈pl,p.1=s.heap.objs.size)->(∀ b∈fp,H' b=none)->∀ b∈fp,FpOk X' pl H' b:=fun {pl H'} hp hn b hb=>by
  obtain ⟨f0,f1,f2,f3,f4,f5⟩:=hf b hb
  refine ⟨hn b hb,(I0.ok.exf b (by rw [xx];exact hb)).1,I0.ok.exfs b (by rw [xx];exact hb),.inl (by rw [xx];exact hb),(I0.ok.exf b (by rw [xx];exact hb)).2,fun p hp'=>?_⟩
  rw [xpn,List.nil_append] at hp'
  rw [hp p hp']
  exact Nat.ne_of_gt (hfl b hb)
 obtain ⟨W,⟨m0,w0⟩,turn⟩:=rd
 have loop:∀ s3:Shared,s3=s0->codeAny (model X.prog X.w) X.A (.compLoop (.ListComp elt [⟨target,iter,ifs,0⟩] scope pos) 0 (.ref it) (.ref s.heap.objs.size) (qDn X.env scope (s.heap.objs.size+1))) (RR (.ref s.heap.objs.size) (s.heap.objs.size+1)) s3:=by
  intro s3 e3
  refine compLoop_any (fun n s'=>∃ (i:Nat) (ys:List V) (H':Hp) (its:List Value) (k:Nat),Inv X' [(s.heap.objs.size,{ cls:=.type "list",data:=.seq its.toArray k })] (subσ sub σ) H' s'/\qBc ys its/\ys.length<=sizeLine/\tn i s'.heap/\(∀ b∈fp,H' b=none)/\W i n ys H') ?_ m0
   ⟨0,[],H,[],0,by rw [e3];exact I0,.nil,Nat.zero_le _,by rw [e3];exact st0,fun b hb=>(hf b hb).1,w0⟩
  rintro n s4 ⟨i,ys,H4,its,k,I4,rv,hz,st4,fr4,w4⟩
  have pe:∀ p∈([(s.heap.objs.size,({ cls:=.type "list",data:=.seq its.toArray k }:Obj))]:List (Addr×Obj)),p.1=s.heap.objs.size:=fun p hp=>by
   rw [List.mem_singleton] at hp
   rw [hp]
  rcases turn i n ys H4 w4 with ⟨stop,q⟩ | ⟨go,step⟩
  ·-- the end
   have td:=T.done X' xp xw xK xc i _ s4 (subσ sub σ) H4 (fun _ _=>False) I4 (stat pe fr4) st4 stop
   rw [xA] at td
   refine thn td fun r s5 ⟨hr,I5⟩=>?_
   subst hr
   have pa:=I5.pin (s.heap.objs.size,{ cls:=.type "list",data:=.seq its.toArray k }) (by rw [xpn];simp)
   have nacc:H4 s.heap.objs.size=none:=pa.2.1
   have nC:H4 (s.heap.objs.size+1)=none:=by have z:=I5.free;rw [xe] at z;exact z
   have un:Un (frs X.stack) fp H H4 s.heap s5.heap:=by have z:=I5.base;rw [xf,xx,xh,x0] at z;exact z
   have un2:Un (frs X.stack) fp H (upd H4 s.heap.objs.size (.lst ys)) s.heap s5.heap:=by
    refine ⟨un.keep,un.slot,fun b o e n hx=>?_,un.there,fun b xs e=>?_,fun b o u e=>?_,fun b ps e=>?_⟩
    ·rw [qAm (Nat.ne_of_lt (Heap.lt_size e))]
     exact un.free b o e n hx
    ·have z:=un.tups b xs e
     rw [qAm (qAl z nacc)];exact z
    ·have z:=un.frzs b o u e
     rw [qAm (qAl z nacc)];exact z
    ·obtain ⟨more,z⟩:=un.tbls b ps e
     exact ⟨more,by rw [qAm (qAl z nacc)];exact z⟩
   have hok5:HOk X.prog X.w H4 s5.heap:=by have z:=I5.hok;rw [xp,xw] at z;exact z
   have hok2:HOk X.prog X.w (upd H4 s.heap.objs.size (.lst ys)) s5.heap:=fun b u e=>by
    by_cases hb:b=s.heap.objs.size
    ·subst hb
     rw [upd_same] at e
     cases e
     exact ⟨hz,its,k,rv,pa.1⟩
    ·rw [qAm hb] at e
     exact (hok5 b u e).stay (fun _ _ _ q=>q) (fun c q=>by rw [qAm (qAl q nacc)];exact q) fun c xs q=>by rw [qAm (qAl q nacc)];exact q
   have os5:s5.os=s.os:=by have z:=I5.os;rw [x0] at z;exact z
   have J5:Inv X pins σ (upd H4 s.heap.objs.size (.lst ys)) s5:=I.call' os5 un2 hok2 I5.bare fun b hb=>by
    obtain ⟨f0,f1,f2,f3,f4,f5⟩:=hf b hb
    exact ⟨f3,f1,f4,f5⟩
   refine hRR _ _ ys H4 s5 J5 (I.fpOk (Nat.le_succ _) ?_) ?_ nacc q
   ·rw [qAm (Nat.succ_ne_self _)];exact nC
   ·obtain ⟨m,hn,_⟩:=I5.loc
    rw [xe] at hn
    exact ⟨m,hn⟩
  ·-- one turn
   have ti:=T.item X' xp xw xK xc i _ s4 (subσ sub σ) H4 (fun _ _=>False) I4 (stat pe fr4) st4 go
   rw [xA] at ti
   refine thn ti fun r s5 ⟨u,hr,h5⟩=>?_
   subst hr
   refine thn h5 fun _ s6 ⟨x,H6,I6,r6,y6,st6,fr6⟩=>?_
   have I6':=I6.pinned (stat pe fr6) (T.obj _ _ st6)
   have tg:=hg _ s6 (subσ sub σ) H6 x u _ I6' r6 (step x H6 y6)
   rw [xp,xw,xA,xe,xxe] at tg
   refine thn tg fun _ s7 ⟨σ7,H7,I7,le7,q7⟩=>?_
   have tts:=ht _ s7 σ7 H7 _ I7 q7
   rw [xp,xw,xA,xe,xxe] at tts
   refine thn tts fun b s8 ⟨H8,I8,q8⟩=>?_
   cases b with
   | false =>
    rw [if_neg Bool.false_ne_true] at q8 ⊢
    obtain ⟨m',hm',w8⟩:=q8
    have I9:Inv X' ([(s.heap.objs.size,{ cls:=.type "list",data:=.seq its.toArray k })]++qGp fp s6.heap) (subσ sub σ) H8 s8:=I8.weak le7.1.symm le7.2
    refine ⟨m',hm',i+1,ys,H8,its,k,I9.unpinned,rv,hz,T.keep _ _ _ st6 fun b hb o e=>(I9.pin (b,o) (List.mem_append_right _ (List.mem_append_right _ (qCi hb e)))).1,fun b hb=>?_,w8⟩
    obtain ⟨o,e,d⟩:=T.obj _ _ st6 b hb
    exact (I9.pin (b,o) (List.mem_append_right _ (List.mem_append_right _ (qCi hb e)))).2.1
   | true =>
    rw [if_pos rfl] at q8 ⊢
    have tee:=he _ s8 σ7 H8 _ I8 q8
    rw [xp,xw,xA,xe,xxe] at tee
    refine thn tee fun vv s9 ⟨v,H9,I9,r9,lz,m',hm',w9⟩=>?_
    have I10:Inv X' ([(s.heap.objs.size,{ cls:=.type "list",data:=.seq its.toArray k })]++qGp fp s6.heap) (subσ sub σ) H9 s9:=I9.weak le7.1.symm le7.2
    have pa:=I10.pin (s.heap.objs.size,{ cls:=.type "list",data:=.seq its.toArray k }) (by rw [xpn];simp)
    have hlen:=rv.length
    refine wpAny_list_append_plain (items:=its.toArray) ⟨k,pa.1⟩ (fun h' pl sb=>?_) (by rw [List.size_toArray];omega)
    obtain ⟨k',pl⟩:=pl
    have keepIt:∀ b∈fp,∀ o,s6.heap.get? b=some o->h'.get? b=some o:=fun b hb o e=>by
     have nb:b≠s.heap.objs.size:=Nat.ne_of_lt (hfl b hb)
     exact (sb.2 b nb).trans (I10.pin (b,o) (List.mem_append_right _ (List.mem_append_right _ (qCi hb e)))).1
    have I11:Inv X' [] (subσ sub σ) H9 s9:=I10.pins_of fun p hp=>absurd hp (by simp)
    have sacc:s.heap.objs.size≠X'.env.locals:=pa.2.2.1
    have I12:Inv X' [] (subσ sub σ) H9 { s9 with heap:=h' }:=I11.turned (t':=s9.toks) (it:=s.heap.objs.size) (fun b o hb e=>(sb.2 b hb).trans e) pa.2.1 sacc (.inr (by rw [x0];exact Nat.le_refl _))
     (fun y c hy z=>by
      obtain ⟨w',o',ho',hd'⟩:=I10.cell y c hy
      rw [z,pa.1] at ho'
      have z2:=Option.some.inj ho'
      rw [<-z2] at hd'
      cases hd') (fun p hp=>absurd hp (by rw [xpn];simp))
    refine ⟨m',hm',i+1,ys++[v],H9,its++[vv],k',I12.pins_of (fun p hp=>?_),rv.append (.cons r9 .nil),by rw [List.length_append,List.length_singleton];omega,T.keep _ _ _ st6 keepIt,fun b hb=>?_,w9⟩
    ·rw [List.mem_singleton] at hp
     subst hp
     refine ⟨?_,pa.2.1,sacc,pa.2.2.2.1,fun v z=>by cases z⟩
     show h'.get? s.heap.objs.size=_
     rw [pl]
     simp
    ·obtain ⟨o,e,d⟩:=T.obj _ _ st6 b hb
     exact (I10.pin (b,o) (List.mem_append_right _ (List.mem_append_right _ (qCi hb e)))).2.1
 exact codeAny_compStart_list (loop _ rfl) (T.self _ 0 _ _ _ st0 (loop _ rfl))
end
end L2
namespace L2
open PySem PySem.Spec PyProof.Rows
def tComp (sub:List (Option Nat)) (wi:TI) (g:TG) (tt:TT) (te:TE):TE:=fun σ H Q=>wi σ H fun J H1 =>
 qDo J (subσ sub σ) g tt te (fun ys H'=>∀ r,H' r=none->Q (.ref r) (upd H' r (.lst ys))) H1
section
variable {X:Cx} {target iter elt:Expr} {ifs:List Expr} {scope:Scope} {pos:Pos} {N':List Str} {sub:List (Option Nat)} {wi:TI} {g:TG} {tt:TT} {te:TE}
theorem clos_of {pins:List (Addr×Obj)} {σ:St} {H:Hp} {s:Shared} (I:Inv X pins σ H s) (O:CmpOk X.N X.env.scope N' scope sub):closureFor scope X.env=pure (qCr X.env.cells scope.names []) :=
 closureFor_eq fun x hx hf=>I.ok.has x.1 (by rcases O.free x hx hf with z | z;exact .inl z;exact .inr z)
theorem names_of (O:CmpOk X.N X.env.scope N' scope sub):∀ y∈scope.names,y.2 = .local->scope.names.lookup y.1=some .local:=fun y hy e=>by
 obtain ⟨n,k⟩:=y
 cases e
 exact qCf O.nd hy
theorem pe_comp (hc:X.calm=true) (O:CmpOk X.N X.env.scope N' scope sub) (hi:PI X target iter wi)
  (B:∀ C s H fp,PG (qDa X scope N' C s H fp) target g/\PTs (qDa X scope N' C s H fp) ifs tt/\PE (qDa X scope N' C s H fp) elt te)
  (hs:∀ x,foldedSetIterable iter X.env x=pure x:=by intro _;rfl):PE X (.ListComp elt [⟨target,iter,ifs,0⟩] scope pos) (tComp sub wi g tt te):=by
 intro pins s σ H Q I h
 rw [eval_ListComp]
 refine wpAny_comprehension_free (use:=none) rfl hs (clos_of I O) O.kind (names_of O) (thn (hi pins s σ H _ I h) fun v s1 h1=>thn h1 fun itv s2 h2=>?_)
 obtain ⟨it,fp,tn,J,H2,e,I2,T,st2,f2,rd⟩:=h2
 subst e
 refine comp_core (RR:=fun acc C=>compPost (model X.prog X.w) X.A X.xe none (EP X pins σ Q) acc C) hc I2 O T st2 f2 B rd fun acc C ys H' s' I' fC hn na q=>?_
 obtain ⟨m,hn⟩:=hn
 obtain ⟨f0,f1,f3,f4,f5,f6⟩:=fC
 refine ⟨m,hn,fun h' sb=>?_⟩
 exact ⟨.ref acc,upd H' acc (.lst ys),I'.turned (t':=s'.toks) (it:=C) (fun b o hb e=>(sb.2 b hb).trans e) f0 f1 f4 f5 f6,rfl,q acc na⟩
theorem ps_comp {i:Nat} {y:Str} {py spos:Pos} (hc:X.calm=true) (O:CmpOk X.N X.env.scope N' scope sub) (hi:PI X target iter wi)
  (B:∀ C s H fp,PG (qDa X scope N' C s H fp) target g/\PTs (qDa X scope N' C s H fp) ifs tt/\PE (qDa X scope N' C s H fp) elt te)
  (hN:X.N.Nodup) (hy:X.N[i]?=some y) (hx:Loc X.env.scope y)
  (hsw:swapsWith (.ListComp elt [⟨target,iter,ifs,0⟩] scope pos) (some (.Name y py)) spos.line X.env=pure true)
  (hs:∀ x,foldedSetIterable iter X.env x=pure x:=by intro _;rfl) (hf:X.fn y=true\/X.env.scope.names.lookup y=some .local:=by first | exact .inl rfl | exact .inr rfl | assumption) :
  PS X (.Assign [.Name y py] (.ListComp elt [⟨target,iter,ifs,0⟩] scope pos) spos) (tAsg (tComp sub wi g tt te) (gName i)):=by
 intro pins s σ H D I h
 rw [exec_Assign_Name_used _ _ _ _ hsw]
 refine wpAny_bind (wpAny_standAt (wpAny_bind ?_))
 show wpAny _ _ (do let _ ← comprehension (.ListComp elt [⟨target,iter,ifs,0⟩] scope pos) scope X.env _ (newList []) false (eval iter X.env) (some (assign (.Name y py) X.env))) _ _ s
 refine wpAny_bind (wpAny_mono (wpAny_comprehension_free (use:=some (assign (.Name y py) X.env)) (Q:=fun _ s'=>SP X pins D .next s') rfl hs (clos_of I O) O.kind (names_of O)
  (thn (hi pins s σ H _ I h) fun v s1 h1=>thn h1 fun itv s2 h2=>?_)) (fun _ s' hq=>wpAny_pure (wpAny_pure hq)) fun _ _ e=>e)
 obtain ⟨it,fp,tn,J,H2,e,I2,T,st2,f2,rd⟩:=h2
 subst e
 refine comp_core (RR:=fun acc C=>compPost (model X.prog X.w) X.A X.xe (some (assign (.Name y py) X.env)) (fun _ s'=>SP X pins D .next s') acc C) hc I2 O T st2 f2 B rd fun acc C ys H' s' I' fC hn na q=>?_
 obtain ⟨m,hn⟩:=hn
 obtain ⟨f0,f1,f3,f4,f5,f6⟩:=fC
 show wpAny _ _ (assign (.Name y py) X.env (.ref acc)) _ _ s'
 refine wpAny_assign_Name (store_ok2 (v:=.ref acc) I' hN hy hx rfl (fun s'' I'' ⟨a,sb,ha⟩=>?_) hf)
 have nCa:C≠a:=by
  rcases ha with z | z
  ·rw [z];exact f1
  ·exact fun e=>f5 _ _ z e.symm
 refine ⟨m,hn.sameBut sb nCa,fun h' sb'=>?_⟩
 exact ⟨_,upd H' acc (.lst ys),I''.turned (t':=s''.toks) (it:=C) (fun b o hb e=>(sb'.2 b hb).trans e) f0 f1 f4 f5 f6,q acc na⟩
end
section
variable {σ0:St} {g:TG} {tt:TT} {te:TE} {Q:List V->Hp->Prop} {H1:Hp}
def Nxt (n i:Nat) (Pv:Nat->List V->Hp->Prop) (ys:List V) (H:Hp):Prop:=∃ m',m'<n - i/\m'=n - (i+1)/\i+1<=n/\Pv (i+1) ys H
theorem nxt {n i:Nat} {Pv:Nat->List V->Hp->Prop} {ys:List V} {H:Hp} (hi:i<n) (h:Pv (i+1) ys H):Nxt n i Pv ys H:=⟨_,by omega,rfl,hi,h⟩
theorem qAu {K:PySem.W.Frag} {a:Addr} {xs:List V} (Pv:Nat->List V->Hp->Prop) (h0:Pv 0 [] H1) (hl:∀ i ys H,i<=xs.length->Pv i ys H->SqL K H a xs)
  (hs:∀ i x ys H,xs[i]?=some x->Pv i ys H->g x σ0 H fun σ2 H2=>Sle σ0 σ2/\tt σ2 H2 fun b H3=>if b=true then te σ2 H3 (fun v H4=>ys.length<sizeLine/\Nxt xs.length i Pv (ys++[v]) H4) else Nxt xs.length i Pv ys H3)
  (hd:∀ ys H,Pv xs.length ys H->Q ys H):qDo (Itl K a) σ0 g tt te Q H1:=by
 refine ⟨fun i m ys H=>m=xs.length - i/\i<=xs.length/\Pv i ys H,⟨xs.length,by simp,Nat.zero_le _,h0⟩,?_⟩
 rintro i m ys H ⟨rfl,hi,p⟩
 have q:=hl i ys H hi p
 by_cases hlt:i<xs.length
 ·refine .inr ⟨⟨xs,xs[i],q,by simp [hlt]⟩,fun x H' y=>?_⟩
  obtain ⟨e,y⟩:=y
  subst e
  exact hs i x ys _ (y xs q) p
 ·have e:i=xs.length:=by omega
  subst e
  exact .inl ⟨⟨xs,q,Nat.le_refl _⟩,hd ys H p⟩
theorem qE6 {lo:Int} {n:Nat} (Pv:Nat->List V->Hp->Prop) (h0:Pv 0 [] H1)
  (hs:∀ i ys H,i<n->Pv i ys H->g (.int (lo+i)) σ0 H fun σ2 H2=>Sle σ0 σ2/\tt σ2 H2 fun b H3=>if b=true then te σ2 H3 (fun v H4=>ys.length<sizeLine/\Nxt n i Pv (ys++[v]) H4) else Nxt n i Pv ys H3)
  (hd:∀ ys H,Pv n ys H->Q ys H):qDo (Itr lo n) σ0 g tt te Q H1:=by
 refine ⟨fun i m ys H=>m=n - i/\i<=n/\Pv i ys H,⟨n,by simp,Nat.zero_le _,h0⟩,?_⟩
 rintro i m ys H ⟨rfl,hi,p⟩
 by_cases hlt:i<n
 ·refine .inr ⟨hlt,fun x H' y=>?_⟩
  obtain ⟨e,y⟩:=y
  subst e y
  exact hs i ys _ hlt p
 ·have e:i=n:=by omega
  subst e
  exact .inl ⟨Nat.le_refl _,hd ys H p⟩
end
end L2
namespace L2
open PySem PySem.Spec PyProof.Rows PySem.SeqAt
mutual
inductive DR (K:PySem.W.Frag) (H:Hp):V->PyData->Prop
 | non:DR K H .non .none
 | bl (b:Bool):DR K H (.bl b) (.bool b)
 | int (i:Int):DR K H (.int i) (.int i)
 | str (x:Str):DR K H (.str x) (.str x)
 | lst {a:Addr} {xs:List V} {ds:List PyData}:SqL K H a xs->DRs K H xs ds->DR K H (.ref a) (.list ds)
 | tup {a:Addr} {xs:List V} {ds:List PyData}:SqT K H a xs->DRs K H xs ds->DR K H (.ref a) (.tuple ds)
inductive DRs (K:PySem.W.Frag) (H:Hp):List V->List PyData->Prop
 | nil:DRs K H [] []
 | cons {v:V} {d:PyData} {vs:List V} {ds:List PyData}:DR K H v d->DRs K H vs ds->DRs K H (v :: vs) (d :: ds)
end
section
variable {X:Cx} {pins:List (Addr×Obj)} {σ:St} {H:Hp} {s:Shared}
mutual
theorem DR.reads (I:Inv X pins σ H s):∀ {v:V} {d:PyData} {u:Value},DR X.K H v d->qCs v u->∃ as,Reads s.heap u d as
 | _,_,_,.non,r=>by cases r;exact ⟨_,.none⟩
 | _,_,_,.bl b,r=>by cases r;exact ⟨_,.bool b⟩
 | _,_,_,.int i,r=>by obtain ⟨t,rfl⟩:=r;exact ⟨_,.int i t⟩
 | _,_,_,.str x,r=>by obtain ⟨t,rfl⟩:=r;exact ⟨_,.str x t⟩
 | _,_,_,.lst hq hd,r=>by
  cases r
  obtain ⟨its,rv,⟨o,n,e,c,_,dt⟩,_⟩:=I.list hq
  obtain ⟨as,ra⟩:=DRs.reads I hd rv
  exact ⟨_,.list e c dt ra⟩
 | _,_,_,.tup hq hd,r=>by
  cases r
  obtain ⟨its,rv,⟨o,e,c,n,dt⟩,_⟩:=I.tuple hq
  obtain ⟨as,ra⟩:=DRs.reads I hd rv
  exact ⟨_,.tuple e c dt ra⟩
theorem DRs.reads (I:Inv X pins σ H s):∀ {vs:List V} {ds:List PyData} {us:List Value},DRs X.K H vs ds->qBc vs us->∃ as,ReadsAll s.heap us ds as
 | _,_,_,.nil,r=>by cases r;exact ⟨_,.nil⟩
 | _,_,_,.cons h t,r=>by
  cases r with
  | cons r rr =>
   obtain ⟨a1,q1⟩:=DR.reads I h r
   obtain ⟨a2,q2⟩:=DRs.reads I t rr
   exact ⟨_,.cons q1 q2⟩
end
end
def rEqD (K:PySem.W.Frag) (neg:Bool):R2:=fun x y H Q=>∃ dx dy,DR K H x dx/\DR K H y dy/\shaped dx=true/\shaped dy=true/\Q (.bl (if neg then !PyData.eqv dx dy else PyData.eqv dx dy)) H
section
variable {X:Cx}
theorem op_eqD (hu:X.A.units+64<cLine):OpR X (compareOp .Eq) (rEqD X.K false):=by
 intro pins s σ H x y v u Q I rx ry h
 obtain ⟨dx,dy,hx,hy,sx,sy,q⟩:=h
 obtain ⟨a1,r1⟩:=DR.reads I hx rx
 obtain ⟨a2,r2⟩:=DR.reads I hy ry
 exact eq_dataH r1 r2 sx sy hu ⟨.bl (PyData.eqv dx dy),H,I,rfl,q⟩
theorem op_neD (hu:X.A.units+64<cLine):OpR X (compareOp .NotEq) (rEqD X.K true):=by
 intro pins s σ H x y v u Q I rx ry h
 obtain ⟨dx,dy,hx,hy,sx,sy,q⟩:=h
 obtain ⟨a1,r1⟩:=DR.reads I hx rx
 obtain ⟨a2,r2⟩:=DR.reads I hy ry
 exact ne_dataH r1 r2 sx sy hu ⟨.bl (!PyData.eqv dx dy),H,I,rfl,q⟩
theorem qDf {ss:List Str}:∀ {us:List Value},qBc (ss.map V.str) us->StrsAre us ss:=by
 induction ss with
 | nil=>intro us r;cases r;exact .nil
 | cons a l ih =>
  intro us r
  cases r with
  | cons r rr =>
   obtain ⟨t,rfl⟩:=r
   exact .cons a t (ih rr)
theorem qGu {ss:List Str}:∀ {us:List Value},StrsAre us ss->qBc (ss.map V.str) us:=by
 induction ss with
 | nil=>intro us r;cases r;exact .nil
 | cons a l ih =>
  intro us r
  cases r with
  | cons _ _ r=>exact .cons ⟨_,rfl⟩ (ih r)
theorem qEp:qCw X (.builtin "sorted") (fun xs H Q=>∃ p ss,xs=[.ref p]/\SqL X.K H p (ss.map V.str)/\ss.length<64/\∀ r ss',H r=none->ss'.Perm ss->sortedS ss'=true->Q (.ref r) (upd H r (.lst (ss'.map V.str)))):=by
 intro pins s σ H xs us Q I r h
 obtain ⟨p,ss,rfl,hq,h64,q⟩:=h
 obtain ⟨u,rfl,rx⟩:=qCx r
 cases rx
 obtain ⟨its,rv,pl,hz⟩:=I.list hq
 have hl:=rv.length
 rw [List.length_map] at hl
 refine sorted_strs pl.isList (qDf rv) (by omega) fun out ss' h1 h2 h3=>?_
 obtain ⟨e,he⟩:=sortedAll_at s.heap its out
 have nz:H (s.heap.objs.size+1)=none:=I.hok.fresh (Nat.le_succ _)
 refine ⟨.ref (s.heap.objs.size+1),_,I.laid (t':=s.toks) (a:=s.heap.objs.size+1) (o:=.lst (ss'.map V.str)) (fun b o eb=>sortedAll_old eb) (Nat.le_succ _) ?_,rfl,q _ ss' nz h2 h3⟩
 refine ⟨?_,out.toList,e,qGu h1,by simpa using he⟩
 rw [List.length_map,h2.length_eq]
 exact Nat.le_of_lt (qAk (by omega))
end
end L2
namespace L2
open PySem PySem.Spec PyProof.Rows
section
variable {X:Cx}
theorem sl_str:SlR X (fun x lo hi H Q=>∃ z:Str,x = .str z/\z.length<=sizeLine/\Q (.str (Txt.slice z lo hi)) H):=by
 intro pins s σ H x v vl vu lo hi sl Q I rx hs pl pu h
 obtain ⟨z,rfl,hz,q⟩:=h
 obtain ⟨t,rfl⟩:=rx
 refine ⟨"str",_,F.slot_str_getitem.lookup,typeIs_str _ _ _,?_⟩
 obtain ⟨o,ho,hc,hd⟩:=hs
 have fin:∀ t' k,EP X pins σ Q (.str (Txt.slice z lo hi) t') { s with toks:=k }:=fun t' k=>⟨.str (Txt.slice z lo hi),H,I.tok k,⟨t',rfl⟩,q⟩
 cases pl with
 | none =>
  cases pu with
  | none=>exact wpAny_getItem_str_slice (l:=none) (u:=none) (st:=none) ⟨o,ho,hc,hd⟩ rfl (post_val_or_str ⟨Nat.le_trans (Txt.slice_le z _ _) hz,fin⟩)
  | int j uj=>exact wpAny_getItem_str_slice (l:=none) (u:=some (j,uj)) (st:=none) ⟨o,ho,hc,hd⟩ rfl (post_val_or_str ⟨Nat.le_trans (Txt.slice_le z _ _) hz,fin⟩)
 | int i ui =>
  cases pu with
  | none=>exact wpAny_getItem_str_slice (l:=some (i,ui)) (u:=none) (st:=none) ⟨o,ho,hc,hd⟩ rfl (post_val_or_str ⟨Nat.le_trans (Txt.slice_le z _ _) hz,fin⟩)
  | int j uj=>exact wpAny_getItem_str_slice (l:=some (i,ui)) (u:=some (j,uj)) (st:=none) ⟨o,ho,hc,hd⟩ rfl (post_val_or_str ⟨Nat.le_trans (Txt.slice_le z _ _) hz,fin⟩)
end
end L2
namespace L2
open PySem PySem.Spec PyProof.Rows
section
variable {X:Cx}
theorem getD_any (bs:List Bool) (d:Bool):(List.range bs.length).any (fun i=>bs.getD i d)=bs.any id:=by
 induction bs with
 | nil=>rfl
 | cons b r ih =>
  rw [List.length_cons,List.range_succ_eq_map,List.any_cons,List.any_map,List.any_cons]
  have e:((fun i=>(b :: r).getD i d)∘Nat.succ)=fun i=>r.getD i d:=by
   funext i;simp
  rw [e,ih]
  simp
theorem truths {P:Program} {w:World} {A:Around} {bs:List Bool} {its:List Value} (rv:qBc (bs.map V.bl) its) (d:Bool):TruthOf P w A (fun i v=>its.toArray[i]?=some v) (fun i=>bs.getD i d):=by
 intro i v s Q E hv hQ
 have hv':its[i]?=some v:=by simpa using hv
 have hi:i<its.length:=(List.getElem?_eq_some_iff.mp hv').1
 have hl:=rv.length
 rw [List.length_map] at hl
 have hb:(bs.map V.bl)[i]?=some (V.bl bs[i]):=by rw [List.getElem?_map,List.getElem?_eq_getElem (by omega)];rfl
 obtain ⟨u,hu,ru⟩:=rv.get hb
 rw [hv'] at hu
 have e:v=Value.bool bs[i]:=(Option.some.inj hu).trans ru
 rw [e]
 have e2:bs.getD i d=bs[i]:=by rw [List.getD_eq_getElem?_getD,List.getElem?_eq_getElem (by omega)];rfl
 have hQ:Q (bs.getD i d) s:=hQ
 rw [e2] at hQ
 exact wpAny_truthy_bool hQ
theorem call_anyB (hc:X.calm=true):qCw X (.builtin "any") (fun xs H Q=>∃ (p:Addr) (bs:List Bool),xs=[.ref p]/\SqL X.K H p (bs.map V.bl)/\Q (.bl (bs.any id)) H):=by
 intro pins s σ H xs us Q I r h
 obtain ⟨p,bs,rfl,hq,q⟩:=h
 obtain ⟨u,rfl,rx⟩:=qCx r
 cases rx
 obtain ⟨its,rv,pl,hz⟩:=I.list hq
 have hl:=rv.length
 rw [List.length_map] at hl
 have hne:p≠s.heap.objs.size:=by
  obtain ⟨o,n,e,_⟩:=pl
  exact Nat.ne_of_lt (Heap.lt_size e)
 have hh:=I.ok.hd hc
 refine call_any_walk (wpAny_pyIter_list pl.isList ?_)
 refine ⟨s.heap.objs.size,_,_,_,_,_,fun i=>bs.getD i true,rfl,Walks.list (by exact hh) _ p hne its.toArray,⟨⟨_,Heap.get?_push_size _ rfl,rfl,rfl⟩,pl.isList.at fun o e=>Heap.get?_push_of_some _ e⟩,truths rv true,fun h' tk hk=>?_⟩
 refine ⟨.bl (bs.any id),H,I.kept (t':=tk) fun b o e=>hk b o ?_ (Heap.get?_push_of_some _ e),?_,q⟩
 ·intro z
  rw [List.mem_singleton] at z
  exact absurd (Heap.lt_size e) (by rw [z];exact Nat.lt_irrefl _)
 ·show Value.bool _=Value.bool _
  rw [List.size_toArray,<-hl,getD_any]
end
end L2
namespace L2
open PySem PySem.Spec PyProof.Rows
theorem orstand_led (t:SetTable) (n:Nat):(t.orStandIn n).led=t.led:=by
 unfold SetTable.orStandIn
 split <;> rfl
theorem laynew_led (t:SetTable) (es:Array (Int×Value)) (h:Int) (x:Value):(layNew t es h x).2.1.led=t.led:=by
 unfold layNew
 split
 ·exact orstand_led _ _
 ·rfl
theorem relay_led (t:SetTable) (es:Array (Int×Value)) (k:Nat):(relayAll t es k).2.1.led=t.led:=by
 unfold relayAll
 split
 ·rename_i u order e
  have eu:u.led=t.led:=by
   unfold SetTable.relaid SetTable.laid at e
   cases hc:SetTable.layClean (SetTable.sizeAbove k - 1) (es.map (·.1)) with
   | none=>rw [hc] at e;cases e
   | some o =>
    rw [hc] at e
    injection e with e
    injection e with e1 e2
    rw [<-e1]
  dsimp only
  split
  ·exact eu
  ·rfl
 ·rfl
theorem relay_plain (t:SetTable) (es:Array (Int×Value)) (k:Nat) (hp:t.plain=false):(relayAll t es k).2.1.plain=false:=by
 unfold relayAll
 split
 ·rename_i u order e
  have eu:u.plain=t.plain:=by
   unfold SetTable.relaid SetTable.laid at e
   cases hc:SetTable.layClean (SetTable.sizeAbove k - 1) (es.map (·.1)) with
   | none=>rw [hc] at e;cases e
   | some o =>
    rw [hc] at e
    injection e with e
    injection e with e1 e2
    rw [<-e1]
  dsimp only
  split
  ·exact eu.trans hp
  ·rfl
 ·rfl
def qBv (P:Program) (w:World) (h:Heap) (a:Addr) (ss:List Str):Prop :=
 ∃ (es:Array (Int×Value)) (ep:Nat) (t:SetTable),h.get? a=some { cls:=.type "set",dict:=none,data:=.set es ep t,slots:=#[] }/\ElemsOf (PySem.strKind P w) es.toList /\
  StrsAre (es.toList.map (·.2)) ss/\es.size<scanBound/\t.fits es.size=true/\t.led=!w.params.followText "set-order"/\(es.size≠0->t.plain=false)
theorem strs_mem {x:Str}:∀ {vs:List Value} {ss:List Str},StrsAre vs ss->((∃ v∈vs,Value.isStrOf x v=true)↔x∈ss)
 | _,_,.nil=>by simp
 | _,_,.cons y t r=>by
  have ih:=strs_mem (x:=x) r
  have hy:Value.isStrOf x (.str y t)=true↔x=y:=by
   constructor
   ·intro h
    obtain ⟨u,e⟩:=Value.isStrOf_shape h
    cases e;rfl
   ·rintro rfl;simp [Value.isStrOf]
  constructor
  ·rintro ⟨v,hv,hp⟩
   rcases List.mem_cons.mp hv with rfl | hv
   ·rw [hy.mp hp];exact List.mem_cons_self
   ·exact List.mem_cons_of_mem _ (ih.mp ⟨v,hv,hp⟩)
  ·intro h
   rcases List.mem_cons.mp h with h | h
   ·exact ⟨_,List.mem_cons_self,hy.mpr h⟩
   ·obtain ⟨v,hv,hp⟩:=ih.mpr h
    exact ⟨v,List.mem_cons_of_mem _ hv,hp⟩
theorem strs_perm {es es1:List (Int×Value)} {ss:List Str} {k:Int} {x:Str} {t:Tok} (hS:StrsAre (es.map (·.2)) ss) (p:es1.Perm (es++[(k,.str x t)])):∃ ss1,StrsAre (es1.map (·.2)) ss1/\ss1.Perm (ss++[x]):=by
 have hall:∀ v,v∈es1.map (·.2)->∃ y u,v = .str y u:=by
  intro v hv
  obtain ⟨e,he,rfl⟩:=List.mem_map.mp hv
  rcases List.mem_append.mp (p.mem_iff.mp he) with z | z
  ·exact hS.all _ (List.mem_map_of_mem z)
  ·rw [List.mem_singleton] at z;subst z;exact ⟨x,t,rfl⟩
 refine ⟨_,strsAre_map _ hall,?_⟩
 have q:=(p.map (·.2)).map strOf
 rw [List.map_append,List.map_append,hS.strs] at q
 exact q
theorem qD6 {es es1:List (Int×Value)} {ss:List Str} (hS:StrsAre (es.map (·.2)) ss) (p:es1.Perm es):∃ ss1,StrsAre (es1.map (·.2)) ss1/\ss1.Perm ss:=by
 have hall:∀ v,v∈es1.map (·.2)->∃ y u,v = .str y u:=by
  intro v hv
  obtain ⟨e,he,rfl⟩:=List.mem_map.mp hv
  exact hS.all _ (List.mem_map_of_mem (p.mem_iff.mp he))
 refine ⟨_,strsAre_map _ hall,?_⟩
 have q:=(p.map (·.2)).map strOf
 rw [hS.strs] at q
 exact q
section
variable {P:Program} {w:World} {A:Around} {E:Value->Shared->Prop} {s:Shared} {a:Addr} {ss:List Str}
theorem qGf {es es':Array (Int×Value)} {ep:Nat} {t t':SetTable} (ho:s.heap.get? a=some { cls:=.type "set",dict:=none,data:=.set es ep t,slots:=#[] }) :
  (s.heap.update a (Obj.putSet es' t')).get? a=some { cls:=.type "set",dict:=none,data:=.set es' (ep+1) t',slots:=#[] }:=by
 have q:=Heap.get?_update_self (Obj.putSet es' t') ho (by rw [putSet_of es' t' rfl];rfl)
 rw [putSet_of es' t' rfl] at q
 exact q
theorem tset_tail {g:Bool->Sem Unit} (hg:∀ (b:Bool) (s1:Shared) (Q':Unit->Shared->Prop),Q' () s1->wpAny (model P w) A (g b) Q' E s1) {es es1:Array (Int×Value)} {ep:Nat} {t t2:SetTable} {ss1:List Str}
  (ho:s.heap.get? a=some { cls:=.type "set",dict:=none,data:=.set es ep t,slots:=#[] }) (e1:ElemsOf (PySem.strKind P w) es1.toList) (e2:StrsAre (es1.toList.map (·.2)) ss1) (e3:es1.size<scanBound) (e4:t2.fits es1.size=true)
  (e5:t2.led=!w.params.followText "set-order") (e6:t2.plain=false) {wasD:Bool} {R:Option Bool->Shared->Prop} (h:∀ h' ss',Heap.SameBut a s.heap h'->qBv P w h' a ss'->ss'.Perm ss1->R (some true) { s with heap:=h' }) :
  wpAny (model P w) A (do
    storeSet a es1 t2
    if (!wasD && t2.tooFull)=true then do
      g (relayAll t2 es1 (SetTable.grown es1.size)).2.2
      storeSet a (relayAll t2 es1 (SetTable.grown es1.size)).1 (relayAll t2 es1 (SetTable.grown es1.size)).2.1
      pure (some true)
     else pure (some true)) R E s:=by
 refine wpAny_bind (wpAny_storeSet_of ho rfl ?_ (fits_of_scanBound e3))
 have o1:(s.heap.update a (Obj.putSet es1 t2)).get? a=_:=qGf (s:=s) ho
 have b1:=Heap.SameBut.update s.heap a (Obj.putSet es1 t2)
 split
 ·have p:=relayAll_perm t2 es1 (SetTable.grown es1.size)
  have f:=relayAll_fits t2 es1 (SetTable.grown es1.size)
  have l:=relay_led t2 es1 (SetTable.grown es1.size)
  have pl:=relay_plain t2 es1 (SetTable.grown es1.size) e6
  generalize relayAll t2 es1 (SetTable.grown es1.size)=Rl at p f l pl ⊢
  obtain ⟨es2,t3,gv⟩:=Rl
  dsimp only at p f l pl ⊢
  have z2:es2.size=es1.size:=by rw [<-Array.length_toList,p.length_eq,Array.length_toList]
  obtain ⟨ss2,q1,q2⟩:=qD6 e2 p
  refine wpAny_bind (hg _ _ _ (wpAny_bind (wpAny_storeSet_of o1 rfl ?_ (fits_of_scanBound (by rw [z2];exact e3)))))
  have o2:((s.heap.update a (Obj.putSet es1 t2)).update a (Obj.putSet es2 t3)).get? a=_:=qGf (s:={ s with heap:=s.heap.update a (Obj.putSet es1 t2) }) o1
  exact wpAny_pure (h _ ss2 (b1.trans (Heap.SameBut.update _ a _)) ⟨es2,_,t3,o2,e1.perm p,q1,by rw [z2];exact e3,f,l.trans e5,fun _=>pl⟩ q2)
 ·exact wpAny_pure (h _ ss1 b1 ⟨es1,_,t2,o1,e1,e2,e3,e4,e5,fun _=>e6⟩ (List.Perm.refl _))
theorem tset_add {x:Str} {tk:Tok} {Q:Bool->Shared->Prop} (hS:qBv P w s.heap a ss) (room:ss.length+1<scanBound)
  (h:∀ h' ss',Heap.SameBut a s.heap h'->qBv P w h' a ss'->(if x∈ss then ss'=ss else ss'.Perm (ss++[x]))->Q (!decide (x∈ss)) { s with heap:=h' }) :
  wpAny (model P w) A (setAddHashed a (.str x tk) ((PySem.strKind P w).hash x)) Q E s:=by
 obtain ⟨es,ep,t,ho,e1,e2,e3,e4,e5,e6⟩:=hS
 have hk:(PySem.strKind P w).is x (.str x tk)=true:=strKind_is P w x tk
 have hsc:Value.scannable (.str x tk)=true:=rfl
 have hz:ss.length=es.size:=by rw [<-e2.strs,List.length_map,List.length_map,Array.length_toList]
 unfold setAddHashed setAddHashedIn
 refine wpAny_holding (wpAny_bind (wpAny_setState_of ho rfl e4 ?_))
 dsimp only
 rw [byScan_of hsc e3 e1,if_pos rfl]
 unfold setAddByScan
 refine wpAny_bind (wpAny_bind (wpAny_rule (wpAny_bind (wpAny_setScan_of hk ho rfl e4 e1 ?_))))
 cases hr:List.findIdx? (fun e=>(PySem.strKind P w).is x e.2) es.toList with
 | some j =>
  dsimp only
  obtain ⟨hj,hp,_⟩:=List.findIdx?_eq_some_iff_getElem.mp hr
  have hm:x∈ss:=(strs_mem e2).mp ⟨_,List.mem_map_of_mem (List.getElem_mem hj),hp⟩
  have q:=h s.heap ss (Heap.SameBut.refl a _) ⟨es,ep,t,ho,e1,e2,e3,e4,e5,e6⟩ (by rw [if_pos hm])
  rw [decide_eq_true hm] at q
  exact wpAny_pure (wpAny_pure q)
 | none =>
  dsimp only
  have hm:¬x∈ss:=fun z=>by
   obtain ⟨v,hv,hp⟩:=(strs_mem e2).mpr z
   obtain ⟨e,he,rfl⟩:=List.mem_map.mp hv
   have q:=List.findIdx?_eq_none_iff.mp hr e he
   rw [show (PySem.strKind P w).is x e.2=true from hp] at q
   cases q
  have gw:∀ (b:Bool) (s1:Shared) (Q':Unit->Shared->Prop),Q' () s1->wpAny (model P w) A (match b with | true=>rule "set.scan.the-table-gave-way" | false=>pure ()) Q' E s1:=fun b s1 Q' hq=>by
   cases b
   ·exact wpAny_pure hq
   ·exact wpAny_rule hq
  have p:=layNew_perm t es ((PySem.strKind P w).hash x) (.str x tk)
  have f:=layNew_fits t es ((PySem.strKind P w).hash x) (.str x tk)
  have l:=laynew_led t es ((PySem.strKind P w).hash x) (.str x tk)
  generalize layNew t es ((PySem.strKind P w).hash x) (.str x tk)=L at p f l ⊢
  obtain ⟨es1,t1,wasD,gv⟩:=L
  dsimp only at p f l ⊢
  rw [Array.toList_push] at p
  have d1:ElemsOf (PySem.strKind P w) es1.toList:=(e1.push hk hsc).perm p
  obtain ⟨ss1,d2,d3⟩:=strs_perm e2 p
  have z1:es1.size=es.size+1:=by rw [<-Array.length_toList,p.length_eq,List.length_append,Array.length_toList];rfl
  have d4:es1.size<scanBound:=by rw [z1,<-hz];exact room
  have fin:∀ h' ss',Heap.SameBut a s.heap h'->qBv P w h' a ss'->ss'.Perm ss1->Q true { s with heap:=h' }:=fun h' ss' b1 b2 b3=>by
   have q:=h h' ss' b1 b2 (by rw [if_neg hm];exact b3.trans d3)
   rw [decide_eq_false hm] at q
   exact q
  refine wpAny_bind (gw _ _ _ ?_)
  split
  ·rename_i hpl
   refine wpAny_bind ?_
   rw [hashByValue_scannable 8 hsc]
   refine wpAny_pure ?_
   refine tset_tail gw ho d1 d2 d4 (SetTable.fits_plain_off f) (l.trans e5) rfl fun h' ss' b1 b2 b3=>?_
   exact wpAny_pure (fin h' ss' b1 b2 b3)
  ·rename_i hpl
   refine wpAny_bind (wpAny_pure ?_)
   rw [if_pos rfl]
   refine tset_tail gw ho d1 d2 d4 f (l.trans e5) (by simpa using hpl) fun h' ss' b1 b2 b3=>?_
   exact wpAny_pure (fin h' ss' b1 b2 b3)
end
end L2
namespace L2
open PySem PySem.Spec PyProof.Rows
theorem qBv.at {P:Program} {w:World} {h h':Heap} {a:Addr} {ss:List Str} (x:qBv P w h a ss) (k:∀ o,h.get? a=some o->h'.get? a=some o):qBv P w h' a ss:=by
 obtain ⟨es,ep,t,ho,r⟩:=x
 exact ⟨es,ep,t,k _ ho,r⟩
def Once (val:Nat->Str) (i:Nat) (ss:List Str):Prop:=ss.Nodup/\ss.length<=i/\∀ x,x∈ss↔∃ j,j<i/\val j=x
theorem Once.zero (val:Nat->Str):Once val 0 []:=⟨List.nodup_nil,Nat.le_refl _,fun x=>by simp⟩
theorem Once.next {val:Nat->Str} {i:Nat} {ss ss':List Str} (h:Once val i ss) (e:if val i∈ss then ss'=ss else ss'.Perm (ss++[val i])):Once val (i+1) ss':=by
 obtain ⟨h1,h2,h3⟩:=h
 by_cases hm:val i∈ss
 ·rw [if_pos hm] at e
  subst e
  refine ⟨h1,by omega,fun x=>(h3 x).trans ⟨fun ⟨j,a,b⟩=>⟨j,by omega,b⟩,fun ⟨j,a,b⟩=>?_⟩⟩
  by_cases hj:j<i
  ·exact ⟨j,hj,b⟩
  ·have:j=i:=by omega
   subst this
   subst b
   exact (h3 _).mp hm
 ·rw [if_neg hm] at e
  refine ⟨e.nodup_iff.mpr ?_,?_,fun x=>?_⟩
  ·rw [List.nodup_append]
   exact ⟨h1,by simp,fun y hy z hz=>by rw [List.mem_singleton] at hz;subst hz;rintro rfl;exact hm hy⟩
  ·rw [e.length_eq,List.length_append]
   simpa using h2
  ·rw [e.mem_iff,List.mem_append,h3 x,List.mem_singleton]
   constructor
   ·rintro (⟨j,a,b⟩ | rfl)
    ·exact ⟨j,by omega,b⟩
    ·exact ⟨i,by omega,rfl⟩
   ·rintro ⟨j,a,b⟩
    by_cases hj:j<i
    ·exact .inl ⟨j,hj,b⟩
    ·have:j=i:=by omega
     subst this
     exact .inr b.symm
section
variable {P:Program} {w:World} {A:Around} {R:Result->Shared->Prop} {I:Addr} {fp wr:List Addr} {G:Array GenState->Array GenState->Prop} {n:Nat} {Pv:Nat->Value->Prop} {St:Nat->Shared->Prop}
theorem tset_loop (W:WalksS P w A.in1 I fp wr G n Pv St) (S:Addr) (nS:S∉fp) (val:Nat->Str) (hv:∀ i v,Pv i v->∃ t,v = .str (val i) t) (nb:n+1<scanBound):∀ (k i:Nat) (s:Shared) (ss:List Str),n - i=k->i<=n->St i s->qBv P w s.heap S ss->Once val i ss ->
  (∀ s' ss',Moved (S :: wr) G s s'->qBv P w s'.heap S ss'->Once val n ss'->R (.ok (.ret .none)) s')->codeAny (model P w) A (.builtin "set.update.loop" ⟨[.ref S,.ref I],[]⟩) R s:=by
 have nw:S∉wr:=fun z=>nS (W.sub _ z)
 have sub:∀ b∈wr,b∈S :: wr:=fun b z=>List.mem_cons_of_mem _ z
 intro k
 induction k with
 | zero =>
  intro i s ss hk hi st hS ho r
  have e:i=n:=by omega
  subst e
  refine codeAny_builtin PyProof.Rows.F.entry_set_update_loop ?_
  rw [Around.under_plainId PyProof.Rows.F.plain_set_update_loop _]
  show wpAny _ A.in1 (pyNext (.ref I) >>= _) _ _ _
  refine wpAny_bind (W.done s _ _ st fun s1 m1=>wpAny_pure (r s1 ss (m1.mono sub) (hS.at fun o z=>m1.heap S o nw z) ho))
 | succ k ih =>
  intro i s ss hk hi st hS ho r
  have lt:i<n:=by omega
  refine codeAny_builtin PyProof.Rows.F.entry_set_update_loop ?_
  rw [Around.under_plainId PyProof.Rows.F.plain_set_update_loop _]
  show wpAny _ A.in1 (pyNext (.ref I) >>= _) _ _ _
  refine wpAny_bind (W.item i s _ _ lt st fun v s1 pv st1 m1=>?_)
  obtain ⟨t,rfl⟩:=hv i v pv
  have hS1:qBv P w s1.heap S ss:=hS.at fun o z=>m1.heap S o nw z
  show wpAny _ A.in1 (holding [Value.str (val i) t] (setAdd S (.str (val i) t)) >>= _) _ _ s1
  refine wpAny_bind (wpAny_holding ?_)
  unfold setAdd
  refine wpAny_holding (wpAny_bind ((PySem.strKind P w).pyHash (strKind_is P w _ _) ?_))
  refine tset_add (s:={ s1 with toks:=s1.toks+1 }) hS1 (by have:=ho.2.1;omega) fun h2 ss2 sb2 hS2 q2=>?_
  refine wpAny_pure ⟨plainId_quiet PyProof.Rows.F.plain_set_update_loop _,ih (i+1) _ ss2 (by omega) lt (W.frame _ s1 _ _ st1 (Nat.le_succ _) fun b hb o e=>?_) hS2 (ho.next q2) fun s3 ss3 m3 hS3 o3=>?_⟩
  ·rw [sb2.2 b (fun z:b=S=>nS (by rw [<-z];exact hb))];exact e
  ·refine r s3 ss3 (Moved.trans W.gtrans ((m1.mono sub).then_heap (Nat.le_succ _) fun b o hb e=>?_) m3) hS3 o3
   rw [sb2.2 b (fun z:b=S=>hb (by rw [z];exact List.mem_cons_self))];exact e
end
section
variable {P:Program} {w:World} {A:Around} {E:Value->Shared->Prop} {s:Shared}
abbrev setO (w:World):Obj:={ cls:=.type "set",dict:=none,data:=.set #[] 0 (.fresh 0 0 (!w.params.followText "set-order")),slots:=#[] }
theorem setO_ok (P:Program) (w:World) {h:Heap} {a:Addr} (e:h.get? a=some (setO w)):qBv P w h a []:=⟨#[],0,_,e,fun e he=>by simp at he,.nil,by show 0<scanBound;decide,by rfl,rfl,fun z=>absurd rfl z⟩
theorem code_setT (v:Value) {Q1:Value->Shared->Prop} (h:Q1 (.ref s.heap.objs.size) { s with heap:=s.heap.push (setO w) }):codeAny (model P w) A (.call (.builtin "set.__new__") ⟨[.type "set",v],[]⟩) (wants Q1 E) s:=by
 refine codeAny_of_tree ?_
 show wpAny _ A.in1 (do checkBuiltinCall "set.__new__" ⟨[.type "set",v],[]⟩;again (.builtin "set.__new__" ⟨[.type "set",v],[]⟩)) _ _ s
 refine wpAny_bind (wpAny_of_eq (PySem.F.newCall_set_1 v) (wpAny_pure ⟨plainId_quiet PySem.F.plain_set_new _,codeAny_builtin PySem.F.entry_set_new ?_⟩))
 rw [Around.under_plainId PySem.F.plain_set_new _]
 unfold Builtin.«set.__new__» Builtin.Frozenset.newClass
 have hsub:=sub_set_self
 obtain ⟨hp,g,d,tk,os⟩:=s
 dsimp only
 wp_walk
 refine wpAny_askSetting (wpAny_pure ?_)
 dsimp only
 simp only [newObj]
 exact wpAny_bind (wpAny_alloc (wpAny_pure (wpAny_pure h)))
theorem call_setT {l:Addr} {items:Array Value} {ss0:List Str} {Q:Value->Shared->Prop} (hh:A.handled=none) (hl:s.heap.IsList l items) (hi:StrsAre items.toList ss0) (hb:items.size+1<scanBound)
  (h:∀ (h':Heap) (tk:Nat) (ss:List Str),qBv P w h' s.heap.objs.size ss->Once (fun i=>ss0.getD i default) items.size ss->(∀ b o,b<s.heap.objs.size->s.heap.get? b=some o->h'.get? b=some o)->Q (.ref s.heap.objs.size) { s with heap:=h',toks:=tk }) :
  wpAny (model P w) A (call (.type "set") [.ref l]) Q E s:=by
 obtain ⟨c,tl,hmro⟩:=PySem.F.called_set.mro
 have hmade:=PySem.F.called_set.made
 have hsub:=PySem.F.called_set.sub
 refine wpAny_call (codeAny_of_tree ?_)
 show wpAny _ _ (callAny (.type "set") _) _ _ _
 refine wpAny_pure ⟨Code.quiet_builtin _ (by decide +kernel),codeAny_builtin PySem.F.entry_type_call ?_⟩
 rw [Around.under_plain (weight_type_call_type "set" [.ref l] []) rfl]
 have h1:=PySem.F.called_set.notType
 have h2:=PySem.F.called_set.canCreate
 have hct:=PySem.F.typeCall_set_1 (.ref l)
 repeat (any_goals (first | assumption | wp_step))
 refine codeAny_mono (code_setT (.ref l) (E:=E) (Q1:=fun obj s1=>obj = .ref s.heap.objs.size/\s1={ s with heap:=s.heap.push (setO w) }) ⟨rfl,rfl⟩) fun r s1 hr=>?_
 cases r with
 | error e=>exact hr
 | ok fl =>
  cases fl with
  | ret obj =>
   obtain ⟨rfl,rfl⟩:=hr
   have hS:(s.heap.push (setO w)).get? s.heap.objs.size=some (setO w):=Heap.get?_push_size _ rfl
   have hT:Shared.TypeIs { s with heap:=s.heap.push (setO w) } (.ref s.heap.objs.size) "set":=⟨_,hS,rfl⟩
   have hli:=PySem.F.called_set.init.lookup
   have hbi:=PySem.F.called_set.init.bind (.ref s.heap.objs.size)
   repeat (any_goals (first | assumption | wp_step))
   refine codeAny_mono (codeAny_call_builtin (R:=wants (fun r s2=>r = .none/\∃ h' tk ss,s2={ s with heap:=h',toks:=tk }/\qBv P w h' s.heap.objs.size ss/\Once (fun i=>ss0.getD i default) items.size ss /\
     (∀ b o,b<s.heap.objs.size->s.heap.get? b=some o->h'.get? b=some o)) E) PySem.F.called_set.init.plain PySem.F.entry_set_init (check_set_init_1 hT ?_)) fun r2 s2 hr2=>?_
   ·obtain ⟨ol,hol,hcl,nl,hdl⟩:=hl
    obtain ⟨ocls,odict,odata,oslots⟩:=ol
    simp only at hcl hdl
    subst hcl;subst hdl
    have hol':(s.heap.push (setO w)).get? l=some { cls:=.type "list",dict:=odict,data:=.seq items nl,slots:=oslots }:=Heap.get?_push_of_some _ hol
    have hsls:=PySem.F.sub_list_set
    have hslf:=PySem.F.sub_list_frozenset
    have hne:(Value.type "list" == Value.type "dict")=false:=by decide
    have hl1:(s.heap.push (setO w)).IsList l items:=⟨_,hol',rfl,nl,rfl⟩
    unfold Builtin.«set.__init__» noKeywords Builtin.Frozenset.updateFrom
    generalize hPI:pyIter=PI
    wp_walk
    subst hPI
    refine wpAny_pyIter_list hl1 (wpAny_bind (wpAny_runValue ?_))
    have lS:l<s.heap.objs.size:=Heap.lt_size hol
    have h3:A.in1.in1.in1.handled=none:=by simp [hh]
    have nI:l≠(s.heap.push (setO w)).objs.size:=by
     rw [Heap.size_push];exact Nat.ne_of_lt (Nat.lt_succ_of_lt lS)
    have nF:s.heap.objs.size∉[(s.heap.push (setO w)).objs.size,l]:=by
     rw [Heap.size_push];simp only [List.mem_cons,List.mem_singleton,List.not_mem_nil,or_false,not_or]
     exact ⟨Nat.ne_of_lt (Nat.lt_succ_self _),Nat.ne_of_gt lS⟩
    have hval:∀ (i:Nat) (v:Value),items[i]?=some v->∃ t,v = .str ((fun i=>ss0.getD i default) i) t:=fun i v hv=>by
     have hv':items.toList[i]?=some v:=by rw [Array.getElem?_toList];exact hv
     obtain ⟨x,t,rfl⟩:=hi.all v (List.mem_of_getElem? hv')
     refine ⟨t,?_⟩
     have e:=congrArg (fun z=>z[i]?) hi.strs
     simp only [List.getElem?_map,hv'] at e
     show Value.str x t=Value.str (ss0.getD i default) t
     rw [List.getD_eq_getElem?_getD,<-e]
     rfl
    refine tset_loop ((Walks.list h3 _ l nI items).toS) s.heap.objs.size nF (fun i=>ss0.getD i default) hval hb (items.size - 0) 0 _ [] (by omega) (Nat.zero_le _) ⟨⟨_,Heap.get?_push_size _ rfl,rfl,rfl⟩,(hl1.push _)⟩ (setO_ok P w (Heap.get?_push_of_some _ hS)) (Once.zero _) fun s' ss' hm hS' hO=>?_
    obtain ⟨h',g',d',tk',os'⟩:=s'
    cases (show g'=s.gens from hm.gens)
    cases (show d'=s.drawn from hm.drawn)
    cases (show os'=s.os from hm.os)
    show wpAny _ _ _ _ _ _
    refine wpAny_pure ?_
    show wpAny _ _ (ret Value.none) _ _ _
    refine wpAny_pure ⟨rfl,h',tk',ss',rfl,hS',hO,fun b o hb e=>?_⟩
    have b1:b≠s.heap.objs.size:=Nat.ne_of_lt hb
    have b2:b≠(s.heap.push (setO w)).objs.size:=by
     rw [Heap.size_push];exact Nat.ne_of_lt (Nat.lt_succ_of_lt hb)
    exact hm.heap b o (by simp only [List.mem_cons,List.mem_singleton,List.not_mem_nil,or_false,not_or];exact ⟨b1,b2⟩) (Heap.get?_push_of_some _ (Heap.get?_push_of_some _ e))
   ·cases r2 with
    | error e=>exact hr2
    | ok fl2 =>
     cases fl2 with
     | ret r =>
      obtain ⟨rfl,h',tk,ss,rfl,hS',hO,hk'⟩:=hr2
      repeat (any_goals (first | assumption | wp_step))
      exact h _ _ _ hS' hO hk'
     | _=>exact hr2.elim
  | _=>exact hr.elim
end
end L2
namespace L2
open PySem PySem.Spec PyProof.Rows
namespace FS
theorem entry_set_iter':entryFor table "set.__iter__" = some Builtin.«frozenset.__iter__»:=entryFor_alias (id':="frozenset.__iter__") (by kernel_rfl) rfl (by decide +kernel) (by kernel_rfl)
theorem slot_sin:Slot "set_iterator" "__next__" "set_iterator.__next__":=.of (owner:="set_iterator") (n:="__next__") (by rw [typeLookup_type,builtinLookup_eq_fast];kernel_rfl) (by decide +kernel) (by decide +kernel) (by decide +kernel) (by first | exact .inl (by decide +kernel) | exact .inr (by decide +kernel)) (by rw [isSubtype_type];kernel_rfl)
theorem entry_sin:entryFor table "set_iterator.__next__" = some Builtin.«set_iterator.__next__»:=entryFor_of_tree (by kernel_rfl)
theorem owner_si:Manifest.owners.lookup (String.ofList ['r','o','t','a','r','e','t','i','_','t','e','s'].reverse)=some Manifest.sig_set_iterator:=by kernel_rfl
theorem args_sin (a:Value):argsOk "set_iterator.__next__" ⟨[a],[]⟩:=by
 unfold argsOk;rw [signature?_of (id:="set_iterator.__next__") (n:=['_','_','t','x','e','n','_','_']) (o:=['r','o','t','a','r','e','t','i','_','t','e','s']) (by kernel_rfl) owner_si];kernel_rfl
theorem slot_sii:Slot "set_iterator" "__iter__" "set_iterator.__iter__":=.of (owner:="set_iterator") (n:="__iter__") (by rw [typeLookup_type,builtinLookup_eq_fast];kernel_rfl) (by decide +kernel) (by decide +kernel) (by decide +kernel) (by first | exact .inl (by decide +kernel) | exact .inr (by decide +kernel)) (by rw [isSubtype_type];kernel_rfl)
theorem entry_sii:entryFor table "set_iterator.__iter__" = some Builtin.«dict_keyiterator.__iter__»:=entryFor_alias (id':="dict_keyiterator.__iter__") (by kernel_rfl) (by first | rfl | decide +kernel | (unfold String.splitOn;simp +decide [String.splitOnAux])) (by decide +kernel) (by kernel_rfl)
theorem args_sii (a:Value):argsOk "set_iterator.__iter__" ⟨[a],[]⟩:=by
 unfold argsOk;rw [signature?_of (id:="set_iterator.__iter__") (n:=['_','_','r','e','t','i','_','_']) (o:=['r','o','t','a','r','e','t','i','_','t','e','s']) (by kernel_rfl) owner_si];kernel_rfl
end FS
theorem qEd {α:Type}:∀ (l:List α) (i:Nat) (x:α),l[i]?=some x->(x :: l.eraseIdx i).Perm l
 | [],i,x,h=>by simp at h
 | y :: l,0,x,h=>by simp at h;subst h;exact List.Perm.refl _
 | y :: l,i+1,x,h=>by
  have q:=qEd l i x (by simpa using h)
  rw [List.eraseIdx_cons_succ]
  exact (List.Perm.swap y x _).trans (q.cons y)
section
variable {M:Model} {A:Around} {E:Value->Shared->Prop} {s:Shared}
theorem wp_choose {src:Source} {n:Nat} {Q:Nat->Shared->Prop} (hn:n≠0) (h:∀ i d,i<n->Q i { s with drawn:=d }):wpAny M A (choose src n) Q E s:=fun Γ p _=>⟨hn,h _ _ (Nat.mod_lt _ (Nat.pos_of_ne_zero hn))⟩
theorem qEi {α:Type}:∀ (n:Nat) (xs:List α) (s:Shared) (Q:List α->Shared->Prop),xs.length=n->(∀ ys d,ys.Perm xs->Q ys { s with drawn:=d })->wpAny M A (drawOrder n xs) Q E s
 | 0,xs,s,Q,hl,h=>by
  have e:xs=[]:=List.length_eq_zero_iff.mp hl
  subst e
  exact wpAny_pure (h [] s.drawn (List.Perm.refl _))
 | n+1,[],s,Q,hl,h=>by simp at hl
 | n+1,y :: ys,s,Q,hl,h=>by
  show wpAny M A (choose .order (y :: ys).length >>= _) Q E s
  refine wpAny_bind (wp_choose (by simp) fun i d hi=>?_)
  have e:(y :: ys)[i]?=some (y :: ys)[i]:=List.getElem?_eq_getElem hi
  rw [e]
  dsimp only
  have p:=qEd (y :: ys) i _ e
  refine wpAny_bind (qEi n ((y :: ys).eraseIdx i) _ _ ?_ fun zs d2 pz=>wpAny_pure (h _ d2 ((pz.cons _).trans p)))
  have:=p.length_eq
  simp only [List.length_cons] at this hl ⊢
  omega
end
theorem pick_go {α:Type} (next:Nat->Nat):∀ (n k:Nat) (left:List α) (out:Array α),left.length=n->(pickOrder.go next n k left out).toList.Perm (out.toList++left)
 | 0,k,left,out,hl=>by
  have e:left=[]:=List.length_eq_zero_iff.mp hl
  subst e
  rw [pickOrder.go,List.append_nil]
 | n+1,k,left,out,hl=>by
  rw [pickOrder.go]
  have hi:next k % left.length<left.length:=Nat.mod_lt _ (by omega)
  have e:left[next k % left.length]?=some left[next k % left.length]:=List.getElem?_eq_getElem hi
  rw [e]
  dsimp only
  have p:=qEd left _ _ e
  have l:=p.length_eq
  simp only [List.length_cons] at l
  refine (pick_go next n (k+1) _ _ (by omega)).trans ?_
  rw [Array.toList_push,List.append_assoc]
  exact List.Perm.append_left _ p
theorem pick_perm {α:Type} (next:Nat->Nat) (xs:Array α):(pickOrder next xs).toList.Perm xs.toList:=by
 have q:=pick_go next xs.size 0 xs.toList #[] (by simp)
 simpa [pickOrder] using q
section
variable {P:Program} {w:World} {A:Around} {E:Value->Shared->Prop} {s:Shared} {a:Addr} {es:Array (Int×Value)} {ep:Nat} {t:SetTable}
theorem wp_setDrawn {Q:Bool->Shared->Prop} (ho:s.heap.get? a=some { cls:=.type "set",dict:=none,data:=.set es ep t,slots:=#[] }) (hf:t.fits es.size=true) (h:Q (!w.params.followText "set-order" && (!t.plain && decide (es.size > 1))) s):wpAny (model P w) A (setDrawn a) Q E s:=by
 unfold setDrawn
 refine wpAny_bind (wpAny_setState_of ho rfl hf ?_)
 unfold setsByText
 exact wpAny_bind (wpAny_bind (wpAny_askSetting (wpAny_pure (wpAny_pure h))))
theorem wp_setNextT {slot i:Nat} {Q:Option (Value×Nat)->Shared->Prop} (ho:s.heap.get? a=some { cls:=.type "set",dict:=none,data:=.set es ep t,slots:=#[] }) (hf:t.fits es.size=true) (hb:w.params.followText "set-order" = true)
  (h:Q (((pickOrder (w.params.setOrder a ep) es)[i]?).map fun e=>(e.2,slot)) s):wpAny (model P w) A (setNext a slot i ep) Q E s:=by
 unfold setNext
 refine wpAny_bind (wpAny_setState_of ho rfl hf ?_)
 unfold setsByText
 refine wpAny_bind (wpAny_bind (wpAny_askSetting (wpAny_pure ?_)))
 show wpAny _ _ (if (w.params.followText "set-order")=true then _ else _) _ _ _
 rw [if_pos hb]
 rw [if_neg (by simp)]
 unfold setWalk
 refine wpAny_bind (wpAny_bind (wpAny_setState_of ho rfl hf ?_))
 unfold setsByText
 refine wpAny_bind (wpAny_bind (wpAny_askSetting (wpAny_pure ?_)))
 show wpAny _ _ (if (w.params.followText "set-order")=true then _ else _) _ _ _
 rw [if_pos hb]
 exact wpAny_bind (wpAny_askSetting (wpAny_pure (wpAny_pure h)))
theorem wp_setNext1 {slot i:Nat} {Q:Option (Value×Nat)->Shared->Prop} (ho:s.heap.get? a=some { cls:=.type "set",dict:=none,data:=.set es ep t,slots:=#[] }) (hf:t.fits es.size=true) (hb:w.params.followText "set-order" = false) (h1:es.size<=1) (hl:t.led=true)
  (h:Q (match es[SetTable.below t.place slot]?,t.place[SetTable.below t.place slot]? with | some (_,x),some j=>some (x,j+1) | _,_=>none) s):wpAny (model P w) A (setNext a slot i ep) Q E s:=by
 unfold setNext
 refine wpAny_bind (wpAny_setState_of ho rfl hf ?_)
 unfold setsByText
 refine wpAny_bind (wpAny_bind (wpAny_askSetting (wpAny_pure ?_)))
 show wpAny _ _ (if (w.params.followText "set-order")=true then _ else _) _ _ _
 rw [if_neg (by rw [hb];exact Bool.false_ne_true)]
 show wpAny _ _ (if (!t.plain && decide (es.size > 1))=true then _ else _) _ _ _
 rw [if_neg (by rw [Bool.and_eq_true];rintro ⟨_,z⟩;have:=of_decide_eq_true z;omega)]
 refine wpAny_bind ?_
 show wpAny _ _ (if (!t.led && !es.isEmpty)=true then _ else _) _ _ _
 rw [if_neg (by rw [hl];simp)]
 exact wpAny_pure (wpAny_pure h)
end
end L2
namespace L2
open PySem PySem.Spec PyProof.Rows
abbrev sIt (a:Addr) (f0:Value) (i n ep:Nat):Obj:={ cls:=.type "set_iterator",dict:=none,data:=.fields #[f0,rawInt i,.ref a,rawInt n,rawInt ep],slots:=#[] }
abbrev sOb (es:Array (Int×Value)) (ep:Nat) (t:SetTable):Obj:={ cls:=.type "set",dict:=none,data:=.set es ep t,slots:=#[] }
section
variable {P:Program} {w:World} {A:Around} {E:Value->Shared->Prop} {s:Shared} {a I:Addr} {es:Array (Int×Value)} {ep:Nat} {t:SetTable}
theorem sit_stop {T:Obj} {Q:Fin->Shared->Prop} {f0:Value} {i n:Nat} {pre:Sem Unit} (hh:A.handled=none) (hI:s.heap.get? I=some (sIt a f0 i n ep))
  (hp:∀ {Q':Unit->Shared->Prop},(∀ h1,Heap.SameBut I s.heap h1->(∃ g0,h1.get? I=some (sIt a g0 i n ep))->Q' () { s with heap:=h1 })->wpAny (model P w) A pre Q' E s)
  (hE:∀ h' e,Heap.ExtBut I s.heap h'->(∃ o,h'.get? e=some o/\o.cls = .type "StopIteration")->E (.ref e) { s with heap:=h' }) :
  wpAny (model P w) A (do pre;setField (.ref I) 2 .none;raiseNew (← newExc (.type "StopIteration") [])) Q E s:=by
 refine wpAny_bind (hp fun h1 b1 hg=>?_)
 obtain ⟨g0,hI1⟩:=hg
 refine wpAny_bind (wpAny_setField_rec hI1 (by simp) fun h2 hI2 b2=>?_)
 show wpAny _ _ (newExc (.type "StopIteration") [] >>= fun e=>raiseNew e) _ _ _
 refine wpAny_bind ?_
 simp only [newExc,newTuple]
 refine wpAny_bind (wpAny_newObj_type ?_ (by size_fits))
 refine wpAny_bind (m:=firstArgMember _ _) (wpAny_of_eq (a:=Value.none) (by first | rfl | (simp only [firstArgMember];rfl)) ?_)
 refine wpAny_newObj_type ?_ (by size_fits)
 simp only [raiseNew]
 refine wpAny_bind (wpAny_handled ?_)
 rw [hh]
 exact wpAny_bind (wpAny_pure (wpAny_throw (hE _ _ (((b1.trans b2).extBut.push _).push _) ⟨_,Heap.get?_push_size _ rfl,rfl⟩)))
end
section
variable {P:Program} {w:World} {a I:Addr} {es:Array (Int×Value)} {ep:Nat} {t:SetTable}
theorem walk_setI (hne:a≠I) (hf:t.fits es.size=true) (order:List Value) (sl:Nat->Nat)
  (nx:∀ (A:Around) (E:Value->Shared->Prop) (s:Shared) (Q:Option (Value×Nat)->Shared->Prop) (i:Nat),i<=order.length->s.heap.get? a=some (sOb es ep t)->Q ((order[i]?).map fun x=>(x,sl (i+1))) s->wpAny (model P w) A (setNext a (sl i) i ep) Q E s) :
  ∀ A:Around,A.handled=none->Walks P w A I [I,a] [I] order.length (fun i v=>order[i]?=some v) (fun i h=>h.get? I=some (sIt a (rawInt (sl i)) i es.size ep)/\h.get? a=some (sOb es ep t)):=fun A hh=>{
 sub:=fun b hb=>by simp at hb ⊢;exact .inl hb
 frame:=fun i h h' st k=>⟨k I (by simp) _ st.1,k a (by simp) _ st.2⟩
 item:=fun i s Q E hi st hQ=>by
  obtain ⟨hI,ho⟩:=st
  have hT:s.TypeIs (.ref I) "set_iterator":=⟨_,hI,rfl⟩
  unfold pyNext
  refine wpAny_bind (wpAny_attempt (wpAny_callSpecial?_slot (name:=Str.ofString "__next__") hT FS.slot_sin (wpAny_call_entry FS.slot_sin hT FS.entry_sin ?_ (FS.args_sin _))))
  unfold Builtin.«set_iterator.__next__»
  refine wpAny_bind (wpAny_pure (wpAny_bind (wpAny_fieldsOf hI rfl ?_)))
  show wpAny _ _ (setEntries a >>= _) _ _ _
  refine wpAny_bind (wpAny_setEntries_of ho rfl hf ?_)
  rw [if_neg (by simp)]
  show wpAny _ _ (setNext a (sl i) i ep >>= _) _ _ _
  refine wpAny_bind (nx _ _ s _ i (Nat.le_of_lt hi) ho ?_)
  rw [List.getElem?_eq_getElem hi]
  show wpAny _ _ (setField (.ref I) 0 (rawInt (sl (i+1))) >>= _) _ _ _
  refine wpAny_bind (wpAny_setField_rec hI (by simp) fun h1 hI1 b1=>wpAny_bind (wpAny_setField_rec hI1 (by simp) fun h2 hI2 b2=>?_))
  refine wpAny_pure ⟨_,rfl,wpAny_pure (hQ _ h2 s.toks (List.getElem?_eq_getElem hi) ⟨hI2,?_⟩ fun b o hb e=>?_)⟩
  ·exact b2.extBut _ _ hne (b1.extBut _ _ hne ho)
  ·have nb:b≠I:=by simpa using hb
   exact b2.extBut _ _ nb (b1.extBut _ _ nb e)
 done:=fun s Q E st hQ=>by
  obtain ⟨hI,ho⟩:=st
  have hT:s.TypeIs (.ref I) "set_iterator":=⟨_,hI,rfl⟩
  unfold pyNext
  refine wpAny_bind (wpAny_attempt (wpAny_callSpecial?_slot (name:=Str.ofString "__next__") hT FS.slot_sin (wpAny_call_entry FS.slot_sin hT FS.entry_sin ?_ (FS.args_sin _))))
  unfold Builtin.«set_iterator.__next__»
  refine wpAny_bind (wpAny_pure (wpAny_bind (wpAny_fieldsOf hI rfl ?_)))
  show wpAny _ _ (setEntries a >>= _) _ _ _
  refine wpAny_bind (wpAny_setEntries_of ho rfl hf ?_)
  rw [if_neg (by simp)]
  show wpAny _ _ (setNext a (sl order.length) order.length ep >>= _) _ _ _
  refine wpAny_bind (nx _ _ s _ order.length (Nat.le_refl _) ho ?_)
  rw [List.getElem?_eq_none (Nat.le_refl _)]
  refine sit_stop (pre:=pure ()) (T:=sOb es ep t) (by exact hh) hI (fun q=>wpAny_pure (q _ (Heap.SameBut.refl ..) ⟨_,hI⟩)) fun h' e k he=>?_
  obtain ⟨oe,h1,h2⟩:=he
  refine wpAny_bind (wpAny_isInstance (T:="StopIteration") (b:=true) ⟨oe,h1,h2⟩ isSubtype_stop (wpAny_pure (hQ _ s.toks fun b o hb e=>k _ _ (by simpa using hb) e)))
 self:=fun i s Q E st hQ=>by
  have hT:s.TypeIs (.ref I) "set_iterator":=⟨_,st.1,rfl⟩
  refine wpAny_pyIter_slot hT FS.slot_sii (wpAny_call_entry FS.slot_sii hT FS.entry_sii ?_ (FS.args_sii _))
  exact wpAny_pure ⟨_,rfl,"set_iterator",_,hT,FS.slot_sin.lookup,hQ⟩ }
end
end L2
namespace L2
open PySem PySem.Spec PyProof.Rows
abbrev tOb (xs:Array Value):Obj:={ cls:=.type "tuple",data:=.seq xs }
section
variable {P:Program} {w:World} {a I T:Addr} {es:Array (Int×Value)} {ep:Nat} {t:SetTable}
theorem walk_setD (hne:a≠I) (hT0:T≠I) (hf:t.fits es.size=true) (ps:List Nat) (order:List Value) (hl:order.length=ps.length) (hp:∀ (i p:Nat),ps[i]?=some p->∃ k x,es[p]?=some (k,x)/\order[i]?=some x) :
  ∀ A:Around,A.handled=none->Walks P w A I [I,a,T] [I] order.length (fun i v=>order[i]?=some v) (fun i h=>h.get? I=some (sIt a (.ref T) i es.size ep)/\h.get? a=some (sOb es ep t)/\h.get? T=some (tOb (ps.map fun (p:Nat)=>rawInt p).toArray)):=fun A hh=>{
 sub:=fun b hb=>by simp at hb ⊢;exact .inl hb
 frame:=fun i h h' st k=>⟨k I (by simp) _ st.1,k a (by simp) _ st.2.1,k T (by simp) _ st.2.2⟩
 item:=fun i s Q E hi st hQ=>by
  obtain ⟨hI,ho,hTt⟩:=st
  have hT:s.TypeIs (.ref I) "set_iterator":=⟨_,hI,rfl⟩
  unfold pyNext
  refine wpAny_bind (wpAny_attempt (wpAny_callSpecial?_slot (name:=Str.ofString "__next__") hT FS.slot_sin (wpAny_call_entry FS.slot_sin hT FS.entry_sin ?_ (FS.args_sin _))))
  unfold Builtin.«set_iterator.__next__»
  refine wpAny_bind (wpAny_pure (wpAny_bind (wpAny_fieldsOf hI rfl ?_)))
  show wpAny _ _ (setEntries a >>= _) _ _ _
  refine wpAny_bind (wpAny_setEntries_of ho rfl hf ?_)
  rw [if_neg (by simp)]
  show wpAny _ _ (seqItems? (.ref T) >>= _) _ _ _
  refine wpAny_bind (wpAny_seqItems hTt rfl ?_)
  have hip:i<ps.length:=by rw [<-hl];exact hi
  obtain ⟨k,x,h1,h2⟩:=hp i _ (List.getElem?_eq_getElem hip)
  have e1:((ps.map fun (p:Nat)=>rawInt p).toArray)[i]?=some (rawInt ((ps[i]:Nat):Int)):=by simp [hip]
  show wpAny _ _ (match ((ps.map fun (p:Nat)=>rawInt p).toArray)[((i:Int)).toNat]? with | some (.int place _)=>_ | some _=>_ | none=>_) _ _ _
  rw [Int.toNat_natCast,e1]
  show wpAny _ _ (setNextDrawn a ps[i] ep >>= _) _ _ _
  unfold setNextDrawn
  refine wpAny_bind (wpAny_bind (wpAny_setState_of ho rfl hf ?_))
  dsimp only
  rw [if_neg (by simp),h1]
  refine wpAny_pure (wpAny_bind (wpAny_setField_rec hI (by simp) fun h3 hI3 b3=>?_))
  refine wpAny_pure ⟨_,rfl,wpAny_pure (hQ _ h3 s.toks h2 ⟨hI3,b3.extBut _ _ hne ho,b3.extBut _ _ hT0 hTt⟩ fun b o hb e=>b3.extBut _ _ (by simpa using hb) e)⟩
 done:=fun s Q E st hQ=>by
  obtain ⟨hI,ho,hTt⟩:=st
  have hT:s.TypeIs (.ref I) "set_iterator":=⟨_,hI,rfl⟩
  unfold pyNext
  refine wpAny_bind (wpAny_attempt (wpAny_callSpecial?_slot (name:=Str.ofString "__next__") hT FS.slot_sin (wpAny_call_entry FS.slot_sin hT FS.entry_sin ?_ (FS.args_sin _))))
  unfold Builtin.«set_iterator.__next__»
  refine wpAny_bind (wpAny_pure (wpAny_bind (wpAny_fieldsOf hI rfl ?_)))
  show wpAny _ _ (setEntries a >>= _) _ _ _
  refine wpAny_bind (wpAny_setEntries_of ho rfl hf ?_)
  rw [if_neg (by simp)]
  show wpAny _ _ (seqItems? (.ref T) >>= _) _ _ _
  refine wpAny_bind (wpAny_seqItems hTt rfl ?_)
  have e1:((ps.map fun (p:Nat)=>rawInt p).toArray)[order.length]?=none:=by simp [hl]
  show wpAny _ _ (match ((ps.map fun (p:Nat)=>rawInt p).toArray)[((order.length:Int)).toNat]? with | some (.int place _)=>_ | some _=>_ | none=>_) _ _ _
  rw [Int.toNat_natCast,e1]
  refine sit_stop (pre:=setField (.ref I) 0 (rawInt 0)) (T:=sOb es ep t) (by exact hh) hI (fun q=>wpAny_setField_rec hI (by simp) fun h1 hI1 b1=>q _ b1 ⟨_,hI1⟩) fun h' e k he=>?_
  obtain ⟨oe,h1,h2⟩:=he
  refine wpAny_bind (wpAny_isInstance (T:="StopIteration") (b:=true) ⟨oe,h1,h2⟩ isSubtype_stop (wpAny_pure (hQ _ s.toks fun b o hb e=>k _ _ (by simpa using hb) e)))
 self:=fun i s Q E st hQ=>by
  have hT:s.TypeIs (.ref I) "set_iterator":=⟨_,st.1,rfl⟩
  refine wpAny_pyIter_slot hT FS.slot_sii (wpAny_call_entry FS.slot_sii hT FS.entry_sii ?_ (FS.args_sii _))
  exact wpAny_pure ⟨_,rfl,"set_iterator",_,hT,FS.slot_sin.lookup,hQ⟩ }
end
theorem below_lt {p j:Nat} (h:j<=p):SetTable.below #[p] j=0:=by
 unfold SetTable.below
 show SetTable.below.go #[p] j 1 0 1=0
 unfold SetTable.below.go
 have e:¬(#[p]:Array Nat).getD ((0+1) / 2) j<j:=by show ¬p<j;omega
 rw [if_pos (by decide)]
 dsimp only
 rw [if_neg e]
 rfl
theorem below_ge {p j:Nat} (h:p<j):SetTable.below #[p] j=1:=by
 unfold SetTable.below
 show SetTable.below.go #[p] j 1 0 1=1
 unfold SetTable.below.go
 have e:(#[p]:Array Nat).getD ((0+1) / 2) j<j:=by show p<j;omega
 rw [if_pos (by decide)]
 dsimp only
 rw [if_pos e]
 rfl
theorem below_nil (j:Nat):SetTable.below #[] j=0:=rfl
section
variable {P:Program} {w:World} {A:Around} {E:Value->Shared->Prop} {s:Shared} {a:Addr} {ss:List Str}
theorem iter_setT {Q:Value->Shared->Prop} (hS:qBv P w s.heap a ss)
  (h:∀ (I:Addr) (fp:List Addr) (vs:List Value) (ss1:List Str) (St:Nat->Heap->Prop) (h1:Heap) (d:Drawn),StrsAre vs ss1->ss1.Perm ss->(∀ b o,s.heap.get? b=some o->h1.get? b=some o)->(∀ A:Around,A.handled=none->Walks P w A I fp [I] vs.length (fun i v=>vs[i]?=some v) St) ->
   St 0 h1->I∈fp->(∀ b∈fp,b<h1.objs.size/\(b=a\/s.heap.objs.size<=b))->s.heap.objs.size<=I->s.heap.objs.size<=h1.objs.size->Q (.ref I) { s with heap:=h1,drawn:=d }):wpAny (model P w) A (pyIter (.ref a)) Q E s:=by
 obtain ⟨es,ep,t,ho,e1,e2,e3,e4,e5,e6⟩:=hS
 have hT:s.TypeIs (.ref a) "set":=⟨_,ho,rfl⟩
 have ha:a<s.heap.objs.size:=Heap.lt_size ho
 have hp4:t.place.size=es.size:=by
  unfold SetTable.fits at e4
  rw [Bool.and_eq_true] at e4
  exact eq_of_beq e4.1
 refine wpAny_pyIter_slot hT PySem.F.slot_set_iter (wpAny_call_entry PySem.F.slot_set_iter hT FS.entry_set_iter' ?_ (PySem.F.args_set_iter_1 _))
 unfold Builtin.«frozenset.__iter__» Builtin.Frozenset.slot0
 refine wpAny_bind (wpAny_bind (wpAny_pure (wpAny_pure ?_)))
 unfold Builtin.Frozenset.sizeOf
 refine wpAny_bind (wpAny_bind (wpAny_setEntries_of ho rfl e4 (wpAny_pure ?_)))
 refine wpAny_bind (wp_setDrawn ho e4 ?_)
 dsimp only
 cases hb:w.params.followText "set-order" with
 | true =>
  rw [if_neg (by simp)]
  refine wpAny_bind (wpAny_pure (wpAny_bind (wpAny_setEpoch_of ho rfl e4 ?_)))
  show wpAny _ _ (newFields "set_iterator" _ >>= _) _ _ _
  refine wpAny_bind (wpAny_newObj_type (wpAny_pure ⟨_,rfl,"set_iterator",_,⟨_,Heap.get?_push_size _ rfl,rfl⟩,FS.slot_sin.lookup,?_⟩) (by show 5<=_;decide))
  have p:=pick_perm (w.params.setOrder a ep) es
  obtain ⟨ss1,q1,q2⟩:=qD6 e2 p
  refine h s.heap.objs.size [s.heap.objs.size,a] _ ss1 _ _ s.drawn q1 q2 (fun b o e=>Heap.get?_push_of_some _ e) (walk_setI (ep:=ep) (es:=es) (t:=t) (Nat.ne_of_lt ha) e4 _ (fun _=>0) ?_) ⟨Heap.get?_push_size _ rfl,Heap.get?_push_of_some _ ho⟩ (by simp) ?_ (Nat.le_refl _) (by rw [Heap.size_push];exact Nat.le_succ _)
  ·intro A' E' s' Q' i hi ho' hq
   refine wp_setNextT ho' e4 hb ?_
   rw [List.getElem?_map,Array.getElem?_toList,Option.map_map] at hq
   exact hq
  ·intro b hbm
   rw [Heap.size_push]
   simp at hbm
   rcases hbm with rfl | rfl
   ·exact ⟨Nat.lt_succ_self _,.inr (Nat.le_refl _)⟩
   ·exact ⟨Nat.lt_succ_of_lt ha,.inl rfl⟩
 | false =>
  have led:t.led=true:=by rw [e5,hb];rfl
  by_cases hz:es.size > 1
  ·have pl:t.plain=false:=e6 (by omega)
   rw [if_pos (by rw [pl,decide_eq_true hz];rfl)]
   refine wpAny_bind (qEi es.size (List.range es.size) s _ (by simp) fun ps d pp=>?_)
   refine wpAny_bind (wpAny_newTuple (s:={ s with drawn:=d }) ?_ (by rw [List.length_map,pp.length_eq,List.length_range];exact fits_of_scanBound e3))
   have ho1:(s.heap.push (tOb (ps.map fun (p:Nat)=>rawInt p).toArray)).get? a=some (sOb es ep t):=Heap.get?_push_of_some _ ho
   refine wpAny_bind (wpAny_setEpoch_of (s:={ s with heap:=s.heap.push (tOb (ps.map fun (p:Nat)=>rawInt p).toArray),drawn:=d }) ho1 rfl e4 ?_)
   show wpAny _ _ (newFields "set_iterator" _ >>= _) _ _ _
   refine wpAny_bind (wpAny_newObj_type (wpAny_pure ⟨_,rfl,"set_iterator",_,⟨_,Heap.get?_push_size _ rfl,rfl⟩,FS.slot_sin.lookup,?_⟩) (by show 5<=_;decide))
   have hlt:∀ p∈ps,p<es.size:=fun p hm=>List.mem_range.mp (pp.mem_iff.mp hm)
   have ep1:(ps.filterMap fun p=>es[p]?).Perm es.toList:=by
    have q:=pp.filterMap fun p=>es[p]?
    rw [filterMap_getElem?_range] at q
    exact q
   have hfm:∀ l:List Nat,(∀ p∈l,p<es.size)->(l.filterMap fun p=>es[p]?).length=l.length/\∀ (i p:Nat),l[i]?=some p->∃ k x,es[p]?=some (k,x)/\((l.filterMap fun p=>es[p]?).map (·.2))[i]?=some x:=by
    intro l
    induction l with
    | nil=>intro _;exact ⟨rfl,fun i p z=>by simp at z⟩
    | cons c l ih =>
     intro hm
     obtain ⟨i1,i2⟩:=ih fun p hp=>hm p (List.mem_cons_of_mem _ hp)
     have hcl:c<es.size:=hm c List.mem_cons_self
     have hc:es[c]?=some es[c]:=Array.getElem?_eq_getElem hcl
     rw [List.filterMap_cons,hc]
     refine ⟨by simp [i1],fun i p z=>?_⟩
     cases i with
     | zero =>
      have e:c=p:=by simpa using z
      subst e
      exact ⟨_,_,hc,by simp⟩
     | succ i =>
      obtain ⟨k,x,a1,a2⟩:=i2 i p (by simpa using z)
      exact ⟨k,x,a1,by simpa using a2⟩
   obtain ⟨f1,f2⟩:=hfm ps hlt
   obtain ⟨ss1,q1,q2⟩:=qD6 e2 ep1
   have sz1:(s.heap.push (tOb (ps.map fun (p:Nat)=>rawInt p).toArray)).objs.size=s.heap.objs.size+1:=Heap.size_push ..
   refine h (s.heap.push (tOb (ps.map fun (p:Nat)=>rawInt p).toArray)).objs.size [(s.heap.push (tOb (ps.map fun (p:Nat)=>rawInt p).toArray)).objs.size,a,s.heap.objs.size] _ ss1 _ _ d q1 q2 (fun b o e=>Heap.get?_push_of_some _ (Heap.get?_push_of_some _ e))
    (walk_setD (ep:=ep) (es:=es) (t:=t) (T:=s.heap.objs.size) ?_ ?_ e4 ps _ (by rw [List.length_map,f1]) f2) ⟨Heap.get?_push_size _ rfl,Heap.get?_push_of_some _ ho1,Heap.get?_push_of_some _ (Heap.get?_push_size _ rfl)⟩ (by simp) ?_ ?_ ?_
   ·rw [sz1];exact Nat.ne_of_lt (Nat.lt_succ_of_lt ha)
   ·rw [sz1];exact Nat.ne_of_lt (Nat.lt_succ_self _)
   ·intro b hbm
    rw [Heap.size_push,sz1]
    rw [sz1] at hbm
    simp at hbm
    rcases hbm with rfl | rfl | rfl
    ·exact ⟨Nat.lt_succ_self _,.inr (Nat.le_succ _)⟩
    ·exact ⟨Nat.lt_succ_of_lt (Nat.lt_succ_of_lt ha),.inl rfl⟩
    ·exact ⟨Nat.lt_succ_of_lt (Nat.lt_succ_self _),.inr (Nat.le_refl _)⟩
   ·rw [sz1];exact Nat.le_succ _
   ·rw [Heap.size_push,sz1];exact Nat.le_succ_of_le (Nat.le_succ _)
  ·rw [if_neg (by rw [decide_eq_false hz];simp)]
   refine wpAny_bind (wpAny_pure (wpAny_bind (wpAny_setEpoch_of ho rfl e4 ?_)))
   show wpAny _ _ (newFields "set_iterator" _ >>= _) _ _ _
   refine wpAny_bind (wpAny_newObj_type (wpAny_pure ⟨_,rfl,"set_iterator",_,⟨_,Heap.get?_push_size _ rfl,rfl⟩,FS.slot_sin.lookup,?_⟩) (by show 5<=_;decide))
   refine h s.heap.objs.size [s.heap.objs.size,a] _ ss _ _ s.drawn e2 (List.Perm.refl _) (fun b o e=>Heap.get?_push_of_some _ e) (walk_setI (ep:=ep) (es:=es) (t:=t) (Nat.ne_of_lt ha) e4 _ (fun i=>if i=0 then 0 else t.place.getD 0 0+1) ?_) ⟨Heap.get?_push_size _ rfl,Heap.get?_push_of_some _ ho⟩ (by simp) ?_ (Nat.le_refl _) (by rw [Heap.size_push];exact Nat.le_succ _)
   ·intro A' E' s' Q' i hi ho' hq
    refine wp_setNext1 ho' e4 hb (by omega) led ?_
    rw [List.length_map,Array.length_toList] at hi
    rcases Nat.lt_or_ge es.size 1 with z0 | z1
    ·have e0:es=#[]:=Array.eq_empty_of_size_eq_zero (by omega)
     have p0:t.place=#[]:=Array.eq_empty_of_size_eq_zero (by omega)
     subst e0
     rw [p0] at hq ⊢
     rw [below_nil]
     simpa using hq
    ·have z:es.size=1:=by omega
     obtain ⟨x,e0⟩:∃ x,es=#[x]:=by
      have:=Array.size_eq_one_iff.mp z
      exact this
     obtain ⟨p,p0⟩:∃ p,t.place=#[p]:=Array.size_eq_one_iff.mp (by omega)
     subst e0
     rw [p0] at hq ⊢
     obtain ⟨k,x⟩:=x
     by_cases i0:i=0
     ·subst i0
      rw [if_pos rfl,below_lt (Nat.zero_le _)]
      simpa using hq
     ·have i1:i=1:=by simp at hi;omega
      subst i1
      rw [if_neg (by decide)]
      show Q' (match (#[(k,x)]:Array (Int×Value))[SetTable.below #[p] (p+1)]?,(#[p]:Array Nat)[SetTable.below #[p] (p+1)]? with | some (_,x),some j=>some (x,j+1) | _,_=>none) s'
      rw [below_ge (Nat.lt_succ_self _)]
      simpa using hq
   ·intro b hbm
    rw [Heap.size_push]
    simp at hbm
    rcases hbm with rfl | rfl
    ·exact ⟨Nat.lt_succ_self _,.inr (Nat.le_refl _)⟩
    ·exact ⟨Nat.lt_succ_of_lt ha,.inl rfl⟩
end
end L2
namespace L2
open PySem PySem.Spec PyProof.Rows
section
variable {X:Cx} {pins:List (Addr×Obj)} {σ:St} {H:Hp} {s:Shared} {h':Heap}
theorem Inv.turnedT {t':Nat} {d':Drawn} {ch:List Addr} {a:Addr} {o:HO} (I:Inv X pins σ H s) (k:∀ b u,b∉ch->s.heap.get? b=some u->h'.get? b=some u) (f:∀ b∈ch,FpOk X pins H b) (hp:s.heap.objs.size<=a) (new:qC3 X.prog X.w (upd H a o) h' a o) :
  Inv X pins σ (upd H a o) { s with heap:=h',toks:=t',drawn:=d' }:=by
 have nit:∀ b u,H b=some u->b∉ch:=fun b u e z=>by rw [(f b z).1] at e;cases e
 have hn:H a=none:=I.hok.fresh hp
 refine I.step (g':=s.gens) (d':=d') (ch:=ch) (fun b hb=>?_) (fun b u _ _ hc e _=>k b u hc e) (fun b u _ _ hc e _=>⟨u.slots,k b u hc e⟩) (fun b u _ e n=>?_) (fun b u hc e=>⟨u,k b u hc e⟩) (fun b xs q=>by rw [qAm (qAl q hn)];exact q) (fun b u v q=>by rw [qAm (qAl q hn)];exact q)
  (fun b ps q=>⟨#[],by rw [qAm (qAl q hn),q];simp⟩) (fun m hm=>?_) (fun b u e=>?_) I.bare
 ·obtain ⟨_,f1,_,f3,f4,f5⟩:=f b hb
  exact ⟨f3,f1,f4,f5⟩
 ·rw [qAm (Nat.ne_of_lt (Nat.lt_of_lt_of_le (Heap.lt_size e) hp))];exact n
 ·obtain ⟨ob,es,ep,ho,r⟩:=hm
  exact ⟨ob,es,ep,k _ ob (fun z=>(f _ z).2.1 rfl) ho,r⟩
 ·by_cases hb:b=a
  ·subst hb;rw [upd_same] at e;cases e;exact new
  ·rw [qAm hb] at e
   refine (I.hok b u e).stay (fun c v hc q=>k c v ?_ q) (fun c q=>by rw [qAm (qAl q hn)];exact q) fun c xs q=>by rw [qAm (qAl q hn)];exact q
   rcases hc with z | z
   ·rw [z];exact nit b u e
   ·exact nit c _ z
end
section
variable {P:Program} {w:World} {A:Around} {E:Value->Shared->Prop} {s:Shared} {a:Addr} {ss:List Str}
theorem collect_setT {Q:List Value->Shared->Prop} (hh:A.handled=none) (hS:qBv P w s.heap a ss)
  (h:∀ (vs:List Value) (ss1:List Str) (h1:Heap) (tk:Nat) (d:Drawn),StrsAre vs ss1->ss1.Perm ss->(∀ b o,s.heap.get? b=some o->h1.get? b=some o)->s.heap.objs.size<=h1.objs.size->Q vs { s with heap:=h1,toks:=tk,drawn:=d }):wpAny (model P w) A (collect (.ref a)) Q E s:=by
 unfold collect
 refine wpAny_bind (wpAny_runValue (codeAny_builtin PySem.F.entry_proto_collect ?_))
 rw [Around.under_plainId PySem.F.plain_proto_collect _]
 show wpAny _ A.in1 (newList [] >>= fun l=>again (.builtin "list.__iadd__" ⟨[l,.ref a],[]⟩)) _ _ _
 refine wpAny_bind (wpAny_newObj_type ?_)
 refine wpAny_pure ⟨plainId_quiet PySem.F.plain_list_iadd _,codeAny_builtin PySem.F.entry_list_iadd ?_⟩
 rw [Around.under_plainId PySem.F.plain_list_iadd _]
 have hS1:qBv P w (s.heap.push (seqObj "list" #[] 0)) a ss:=hS.at fun o e=>Heap.get?_push_of_some _ e
 have hL1:(s.heap.push (seqObj "list" #[] 0)).get? s.heap.objs.size=some (seqObj "list" #[] 0):=Heap.get?_push_size _ rfl
 have hT:∀ s':Shared,qBv P w s'.heap a ss->s'.TypeIs (.ref a) "set":=fun s' z=>by
  obtain ⟨es,ep,t,ho,_⟩:=z
  exact ⟨_,ho,rfl⟩
 have ha:a<s.heap.objs.size:=by
  obtain ⟨es,ep,t,ho,_⟩:=hS
  exact Heap.lt_size ho
 have hz:ss.length<scanBound:=by
  obtain ⟨es,ep,t,_,_,e2,e3,_⟩:=hS
  rw [<-e2.strs,List.length_map,List.length_map,Array.length_toList]
  exact e3
 have hne:Builtin.List.listSameRef (.ref s.heap.objs.size) (.ref a)=false:=by
  show (s.heap.objs.size == a)=false
  exact beq_eq_false_iff_ne.mpr (Nat.ne_of_gt ha)
 show wpAny _ A.in1 (Builtin.List.listExtendWith (.ref s.heap.objs.size) (.ref a) (.ref s.heap.objs.size)) _ _ { s with heap:=s.heap.push (seqObj "list" #[] 0) }
 unfold Builtin.List.listExtendWith
 refine wpAny_bind (wpAny_typeOf (hT _ hS1) ?_)
 rw [if_neg (by rw [hne];decide)]
 refine wpAny_bind (iter_setT hS1 fun I fp vs ss1 St h1 d q1 q2 q3 W st hI hfp hge hsz=>?_)
 have hS2:qBv P w h1 a ss:=hS1.at fun o e=>q3 _ _ e
 have hL2:h1.get? s.heap.objs.size=some (seqObj "list" #[] 0):=q3 _ _ hL1
 refine wpAny_bind (wpAny_holding ?_)
 unfold Builtin.List.listLengthHint
 refine wpAny_bind (wpAny_specialOf (hT { s with heap:=h1,drawn:=d } hS2) PySem.F.slot_set_len.lookup ?_)
 dsimp only
 rw [show splitId "set.__len__" = some ("set","__len__") from by decide +kernel]
 dsimp only
 refine wpAny_bind (wpAny_isInstance (b:=true) (hT { s with heap:=h1,drawn:=d } hS2) sub_set_self ?_)
 rw [if_neg (by decide),if_pos (by decide +kernel)]
 refine wpAny_bind (wpAny_typeOf (hT { s with heap:=h1,drawn:=d } hS2) (wpAny_pure ?_))
 rw [if_pos (by decide +kernel)]
 refine wpAny_bind (wpAny_rule ?_)
 unfold Builtin.List.listTouch
 have hL3:=get?_update_seq hL2 (·.push .none)
 have hL4:=get?_update_seq hL3 (·.pop)
 refine wpAny_bind (wpAny_bind (listUpdate_at (s:={ s with heap:=h1,drawn:=d }) hL2 rfl (listUpdate_at (s:={ s with heap:=h1.update s.heap.objs.size (Obj.mapSeq (·.push .none)),drawn:=d }) hL3 rfl ?_)))
 have nS:s.heap.objs.size∉fp:=fun z=>by
  rcases (hfp _ z).2 with e | e
  ·exact absurd e (Nat.ne_of_gt ha)
  ·rw [size_push'] at e
   exact absurd e (Nat.not_succ_le_self _)
 have upd2:∀ b o,b≠s.heap.objs.size->h1.get? b=some o->((h1.update s.heap.objs.size (Obj.mapSeq (·.push .none))).update s.heap.objs.size (Obj.mapSeq (·.pop))).get? b=some o:=fun b o hb e=>by
  rw [Heap.get?_update_ne _ _ _ _ hb,Heap.get?_update_ne _ _ _ _ hb];exact e
 have hv:vs.length<=sizeLine:=by
  have e1:=q2.length_eq
  have e2:vs.length=ss1.length:=by rw [<-q1.strs,List.length_map]
  rw [e2,e1]
  exact fits_of_scanBound hz
 have st3:=(W A.in1.in1.in1 (by exact hh)).frame 0 _ ((h1.update s.heap.objs.size (Obj.mapSeq (·.push .none))).update s.heap.objs.size (Obj.mapSeq (·.pop))) st fun b hb o e=>upd2 b o (fun z=>nS (z▸hb)) e
 refine wpAny_pure ⟨plainId_quiet PySem.F.plain_extend_loop _,codeAny_extend_loopS ((W _ (by exact hh)).toS) hv _ nS _ vs.length 0 _ _ _ rfl (Nat.zero_le _) st3 hL4 (ItemsOf.nil _) fun s' acc' c' hm hS' hacc=>?_⟩
 show wpAny _ A (load s.heap.objs.size >>= _) _ _ s'
 refine wpAny_bind (wpAny_load hS' ?_)
 have eacc:acc'.toList=vs:=by
  refine List.ext_getElem? fun i=>?_
  by_cases hi:i<vs.length
  ·have hi':i<acc'.size:=by rw [hacc.1];exact hi
   rw [Array.getElem?_toList,Array.getElem?_eq_getElem hi']
   exact (hacc.2 i _ (Array.getElem?_eq_getElem hi')).symm
  ·rw [Array.getElem?_toList,Array.getElem?_eq_none (by rw [hacc.1];omega),List.getElem?_eq_none (by omega)]
 show wpAny _ A (pure acc'.toList) _ _ s'
 rw [eacc]
 obtain ⟨h5,g5,d5,tk5,os5⟩:=s'
 cases (show g5=s.gens from hm.gens)
 cases (show d5=d from hm.drawn)
 cases (show os5=s.os from hm.os)
 have keep:∀ b o,h1.get? b=some o->b≠s.heap.objs.size->b≠I->h5.get? b=some o:=fun b o e n1 n2=>hm.heap b o (by simp only [List.mem_cons,List.not_mem_nil,or_false,not_or];exact ⟨n1,n2⟩) (upd2 b o n1 e)
 refine wpAny_pure (h vs ss1 h5 tk5 d q1 q2 (fun b o e=>?_) ?_)
 ·have lt:=Heap.lt_size e
  refine keep b o (q3 b o (Heap.get?_push_of_some _ e)) (Nat.ne_of_lt lt) (Nat.ne_of_lt (Nat.lt_of_lt_of_le lt ?_))
  rw [size_push'] at hge
  exact Nat.le_of_succ_le hge
 ·exact Nat.le_of_lt (Heap.lt_size hS')
end
def SetS (P:Program) (w:World) (a:Addr) (ss:List Str):HO:=.ext fun h=>qBv P w h a ss
section
variable {X:Cx}
theorem call_setS (hc:X.calm=true):qCw X (.type "set") (fun xs H Q=>∃ (p:Addr) (ss0:List Str),xs=[.ref p]/\SqL X.K H p (ss0.map V.str)/\ss0.length<1000/\∀ (r:Addr) (ss:List Str),H r=none->ss.Nodup->ss.length<=ss0.length->(∀ x,x∈ss↔x∈ss0)->Q (.ref r) (upd H r (SetS X.prog X.w r ss))):=by
 intro pins s σ H xs us Q I r h
 obtain ⟨p,ss0,rfl,hq,hl,q⟩:=h
 obtain ⟨u,rfl,rx⟩:=qCx r
 cases rx
 obtain ⟨its,rv,pl,hz⟩:=I.list hq
 have hlen:=rv.length
 rw [List.length_map] at hlen
 refine call_setT (I.ok.hd hc) pl.isList (by simpa using qDf rv) (by have:scanBound=4096:=rfl;simp;omega) fun h' tk ss hS hO hk=>?_
 obtain ⟨o1,o2,o3⟩:=hO
 rw [List.size_toArray,<-hlen] at o2 o3
 refine ⟨.ref s.heap.objs.size,_,I.laid (t':=tk) (a:=s.heap.objs.size) (o:=SetS X.prog X.w s.heap.objs.size ss) (fun b o e=>hk b o (Heap.lt_size e) e) (Nat.le_refl _) ⟨hS,?_,fun h1 h2 z k=>z.at k⟩,rfl,q _ ss (I.hok.fresh (Nat.le_refl _)) o1 o2 fun x=>?_⟩
 ·obtain ⟨es,ep,t,ho,_⟩:=hS
  exact ⟨_,ho⟩
 ·rw [o3 x,List.mem_iff_getElem?]
  constructor
  ·rintro ⟨j,hj,rfl⟩
   exact ⟨j,by show ss0[j]?=some (ss0.getD j default);rw [List.getD_eq_getElem?_getD,List.getElem?_eq_getElem hj];rfl⟩
  ·rintro ⟨j,hj⟩
   exact ⟨j,(List.getElem?_eq_some_iff.mp hj).1,by show ss0.getD j default=x;rw [List.getD_eq_getElem?_getD,hj];rfl⟩
theorem qGa (hc:X.calm=true):qCw X (.builtin "sorted") (fun xs H Q=>∃ (p:Addr) (ss:List Str),xs=[.ref p]/\H p=some (SetS X.prog X.w p ss)/\ss.length<64/\∀ (r:Addr) (ss':List Str),H r=none->ss'.Perm ss->sortedS ss'=true->Q (.ref r) (upd H r (.lst (ss'.map V.str)))):=by
 intro pins s σ H xs us Q I r h
 obtain ⟨p,ss,rfl,hp,h64,q⟩:=h
 obtain ⟨u,rfl,rx⟩:=qCx r
 cases rx
 have hS:qBv X.prog X.w s.heap p ss:=(I.hok p _ hp).1
 refine Calls.call_function_entry kind_sorted plain_sorted entry_sorted (args_sorted1 _) ?_
 unfold Builtin.«sorted»
 refine wpAny_bind (m:=checkCount "sorted" 1 1 _) (wpAny_pure (wpAny_bind (collect_setT (I.ok.hd hc) hS fun vs ss1 h1 tk d a1 a2 a3 a4=>?_)))
 have hvl:vs.length=ss1.length:=by rw [<-a1.strs,List.length_map]
 have hl64:vs.length<64:=by rw [hvl,a2.length_eq];exact h64
 refine wpAny_bind (wpAny_newList ?_ (by have:sizeLine > 64:=(by decide);omega))
 have hoL:(h1.push (seqObj "list" vs.toArray 0)).get? h1.objs.size=some (seqObj "list" vs.toArray 0):=Heap.get?_push_size _ rfl
 refine wpAny_bind (wpAny_holding (wpAny_call_entry slot_list_sort ⟨_,hoL,rfl⟩ entry_list_sort (list_sort_treeK strKind_oneLt hoL a1.keysOf (fun v1 v2 rest e=>keyKind_strs (by rw [<-e];exact a1)) hl64 fun st' b1 b2=>⟨_,rfl,?_⟩) (args_list_sort _)))
 obtain ⟨ss',c1,c2,c3⟩:=sorted_out_str a1 b1 b2
 refine wpAny_pure ⟨_,rfl,?_⟩
 have nz:H h1.objs.size=none:=I.hok.fresh a4
 obtain ⟨e,he⟩:=sortedHeap_at (out:=(arrOf st').map (·.2)) hoL
 refine ⟨.ref h1.objs.size,_,I.turnedT (t':=tk) (d':=d) (ch:=[]) (a:=h1.objs.size) (o:=.lst (ss'.map V.str)) (fun b o _ eb=>?_) (fun b z=>nomatch z) a4 ?_,rfl,q _ ss' nz (c2.trans a2) c3⟩
 ·have e1:=a3 b o eb
  have lt:=Heap.lt_size e1
  rw [sortedHeap_old (Nat.ne_of_lt lt) (by rw [size_push'];exact Nat.lt_succ_of_lt lt)]
  exact Heap.get?_push_of_some _ e1
 ·refine ⟨?_,((arrOf st').map (·.2)).toList,e,qGu c1,he⟩
  rw [List.length_map,c2.length_eq,a2.length_eq]
  exact Nat.le_of_lt (qAk (by omega))
end
end L2
namespace L2
open PySem PySem.Spec PyProof.Rows
section
variable {X:Cx} {pins:List (Addr×Obj)} {σ:St} {H:Hp} {s:Shared} {h':Heap}
theorem Inv.turnedL {t':Nat} {ch:List Addr} (I:Inv X pins σ H s) (k:∀ b u,b∉ch->s.heap.get? b=some u->h'.get? b=some u) (f:∀ b∈ch,FpOk X pins H b):Inv X pins σ H { s with heap:=h',toks:=t' }:=by
 have nit:∀ b u,H b=some u->b∉ch:=fun b u e z=>by rw [(f b z).1] at e;cases e
 refine I.step (g':=s.gens) (d':=s.drawn) (ch:=ch) (fun b hb=>?_) (fun b u _ _ hc e _=>k b u hc e) (fun b u _ _ hc e _=>⟨u.slots,k b u hc e⟩) (fun b u _ e n=>n) (fun b u hc e=>⟨u,k b u hc e⟩) (fun b xs q=>q) (fun b u v q=>q) (fun b ps q=>⟨#[],by rw [q];simp⟩) (fun m hm=>?_) (fun b u e=>?_) I.bare
 ·obtain ⟨_,f1,_,f3,f4,f5⟩:=f b hb
  exact ⟨f3,f1,f4,f5⟩
 ·obtain ⟨ob,es,ep,ho,r⟩:=hm
  exact ⟨ob,es,ep,k _ ob (fun z=>(f _ z).2.1 rfl) ho,r⟩
 ·refine (I.hok b u e).stay (fun c v hc q=>k c v ?_ q) (fun c q=>q) fun c xs q=>q
  rcases hc with z | z
  ·rw [z];exact nit b u e
  ·exact nit c _ z
end
def Itp (n:Nat) (Ls:Hp->Prop) (xv:Nat->List V):It:=⟨fun i H=>Ls H/\i<n,fun i H x H'=>∃ T,H T=none/\H'=upd H T (.tup (xv i))/\x = .ref T,fun i H=>Ls H/\i=n⟩
theorem qGe {P:Program} {w:World} {K:PySem.W.Frag} {elts:List Expr} {ct:Nat} {pos:Pos} (it:Addr) (fp fpW wr:List Addr) (n:Nat) (Ls:Hp->Prop) (xv:Nat->List V) (tn:Nat->Heap->Prop)
  (hit:it∈fp) (hwr:∀ b∈wr,b∈fp) (hobj:∀ i h,tn i h->∀ b∈fp,∃ o,h.get? b=some o/\∀ v,o.data≠.cell v) (hkeep:∀ i h h',tn i h->(∀ b∈fp,∀ o,h.get? b=some o->h'.get? b=some o)->tn i h')
  (hx:∀ i,(xv i).length<=sizeLine)
  (W:∀ (X:Cx),X.prog=P->X.w=w->X.K=K->X.calm=true->∀ (pins:List (Addr×Obj)) (s:Shared) (σ:L2.St) (H:Hp),Inv X pins σ H s->Ls H->∃ (Pt:Nat->Array Value->Prop) (St:Nat->Heap->Prop) (Mid:Nat->Addr->Heap->Prop),WalksT P w X.A it fpW wr n Pt St Mid/\(∀ i,tn i s.heap->St i s.heap)/\(∀ i h,St i h->tn i h) /\
   (∀ i vals,Pt i vals->qBc (xv i) vals.toList))
  (hself:∀ (A:Around) (i:Nat) (s:Shared) (Q:Value->Shared->Prop) (E:Value->Shared->Prop),tn i s.heap->Q (.ref it) s->wpAny (model P w) A (pyIter (.ref it)) Q E s):Turn P w K (.Tuple elts ct pos) (Itp n Ls xv) fp it tn where
 mem:=hit
 obj:=hobj
 keep:=hkeep
 item:=by
  intro X hP hw hK hc i pins s σ H E I hf st hg
  obtain ⟨hL,hi⟩:=hg
  obtain ⟨Pt,St,Mid,Wt,w1,w2,w3⟩:=W X hP hw hK hc pins s σ H I hL
  subst hP hw hK
  refine Wt.item i s _ _ hi (w1 i st) fun T vals h1 tk pv hT ht mid k1=>?_
  have hTw:T∉wr:=Wt.apart i T h1 mid
  refine ⟨_,rfl,Wt.go elts ct pos i T _ _ _ mid fun h2 st2 k2=>?_⟩
  have ht2:IsTup h2 T (vals.toList).toArray:=by
   obtain ⟨o,a1,a2,nn,a3⟩:=ht
   exact ⟨o,k2 _ _ hTw a1,a2,nn,by simpa using a3⟩
  refine ⟨.ref T,upd H T (.tup (xv i)),I.turnedT (t':=tk) (d':=s.drawn) (ch:=wr) (fun b u hb e=>k2 b u hb (k1 b u hb e)) (fun b hb=>hf b (hwr b hb)) hT ⟨hx i,vals.toList,w3 i vals pv,ht2⟩,rfl,⟨T,I.hok.fresh hT,rfl,rfl⟩,w2 _ _ st2,fun b hb=>?_⟩
  have e:b≠T:=by
   obtain ⟨o,ho,_⟩:=hobj i _ st b hb
   exact Nat.ne_of_lt (Nat.lt_of_lt_of_le (Heap.lt_size ho) hT)
  rw [qAm e]
  exact (hf b hb).1
 done:=by
  intro X hP hw hK hc i pins s σ H E I hf st hg
  obtain ⟨hL,hi⟩:=hg
  obtain ⟨Pt,St,Mid,Wt,w1,w2,w3⟩:=W X hP hw hK hc pins s σ H I hL
  subst hP hw hK hi
  exact Wt.done s _ _ (w1 _ st) fun h1 tk k1=>⟨rfl,I.turnedL (ch:=wr) (fun b u hb e=>k1 b u hb e) fun b hb=>hf b (hwr b hb)⟩
 self:=hself
theorem zip_apart (n a b:Nat) (h1:a<n) (h2:b<n):ZipApart (n+4) (n+2) (n+3) n (n+1) a b:=by
 constructor <;> (show @Ne Nat _ _;omega)
section
variable {X:Cx}
def iZip (K:PySem.W.Frag) (ta:TA):TI:=fun σ H R=>ta σ H fun vs H1=>∃ (a b:Addr) (xs ys:List V),vs=[.ref a,.ref b]/\SqL K H1 a xs/\SqL K H1 b ys/\R (Itp (min xs.length ys.length) (fun H=>SqL K H a xs/\SqL K H b ys) (fun i=>[xs.getD i .non,ys.getD i .non])) H1
theorem boot_zip:bootBuiltins "zip" = some (.type "zip"):=by decide +kernel
theorem pi_zip {a b:Expr} {ta:TA} {p pos tpos:Pos} {elts:List Expr} {ct:Nat} (hg:Gl X "zip") (hm:X.mg "zip" = none) (ha:PA X [a,b] ta) (hs:starEach [a,b] X.env=[(false,eval a X.env),(false,eval b X.env)]:=by rfl) (hs2:starEach [b] X.env=[(false,eval b X.env)]:=by rfl) :
  PI X (.Tuple elts ct tpos) (.Call (.Name "zip" p) [a,b] [] pos) (iZip X.K ta):=by
 intro pins s σ H R I h
 refine Call_ (qFu I hg hm boot_zip (PyProof.Rows.callWith_type1 (thn (ha pos pins s σ H _ I h) fun us s1 ⟨vs,H1,I1,r1,q1⟩=>?_) (by rw [hs,hs2]) (by rw [hs2];rfl)))
 obtain ⟨l1,l2,xs,ys,e,hx,hy,q⟩:=q1
 subst e
 obtain ⟨u1,u2,rfl,r1,r2⟩:=vals2 r1
 cases r1
 cases r2
 obtain ⟨it1,rv1,pl1,hz1⟩:=I1.list hx
 obtain ⟨it2,rv2,pl2,hz2⟩:=I1.list hy
 have n1:=rv1.length
 have n2:=rv2.length
 have b1:l1<s1.heap.objs.size:=by obtain ⟨o,n,e,_⟩:=pl1;exact Heap.lt_size e
 have b2:l2<s1.heap.objs.size:=by obtain ⟨o,n,e,_⟩:=pl2;exact Heap.lt_size e
 refine call_zip_2 pl1.isList pl2.isList fun h1 z1 z2 z3 z4 z5 z6 z7=>?_
 refine wpAny_pyIter_zip z1 ?_
 have D:=zip_apart s1.heap.objs.size l1 l2 b1 b2
 have hfp:∀ b∈[s1.heap.objs.size+4,s1.heap.objs.size+2,s1.heap.objs.size+3,s1.heap.objs.size,s1.heap.objs.size+1],s1.heap.objs.size<=b:=fun b hb=>by
  simp only [List.mem_cons,List.not_mem_nil,or_false] at hb
  rcases hb with rfl | rfl | rfl | rfl | rfl
  ·exact Nat.le_add_right _ _
  ·exact Nat.le_add_right _ _
  ·exact Nat.le_add_right _ _
  ·exact Nat.le_refl _
  ·exact Nat.le_add_right _ _
 refine ⟨s1.heap.objs.size+4,[s1.heap.objs.size+4,s1.heap.objs.size+2,s1.heap.objs.size+3,s1.heap.objs.size,s1.heap.objs.size+1],
  fun i h=>IsZip h (s1.heap.objs.size+4) (s1.heap.objs.size+2) (s1.heap.objs.size+3) .none/\IsPair h (s1.heap.objs.size+2) (.ref s1.heap.objs.size) (.ref (s1.heap.objs.size+1))/\(∃ a b,IsPair h (s1.heap.objs.size+3) a b)/\h.IsListIter s1.heap.objs.size l1 i/\h.IsListIter (s1.heap.objs.size+1) l2 i,
  _,H1,rfl,I1.kept (t':=s1.toks) z7,
  qGe (s1.heap.objs.size+4) _ [s1.heap.objs.size+4,s1.heap.objs.size+2,s1.heap.objs.size+3,s1.heap.objs.size,s1.heap.objs.size+1,l1,l2] [s1.heap.objs.size+4,s1.heap.objs.size+3,s1.heap.objs.size,s1.heap.objs.size+1] _ _ _ _ (by simp) (fun b hb=>?_) (fun i h st b hb=>?_) (fun i h h' st k=>?_) (fun i=>by show 2<=sizeLine;decide) ?_ (fun A i s' Q E st hQ=>wpAny_pyIter_zip st.1 hQ),
  ⟨z1,z2,⟨_,_,z3⟩,z4,z5⟩,fun b hb=>I1.fpOk (hfp b hb) (I1.hok.fresh (hfp b hb)),q⟩
 ·simp only [List.mem_cons,List.not_mem_nil,or_false] at hb ⊢
  rcases hb with h | h | h | h
  ·exact .inl h
  ·exact .inr (.inr (.inl h))
  ·exact .inr (.inr (.inr (.inl h)))
  ·exact .inr (.inr (.inr (.inr h)))
 ·obtain ⟨a1,a2,⟨c,d,a3⟩,⟨o4,a4,c4,d4⟩,⟨o5,a5,c5,d5⟩⟩:=st
  simp only [List.mem_cons,List.not_mem_nil,or_false] at hb
  rcases hb with rfl | rfl | rfl | rfl | rfl
  ·exact ⟨_,a1,fun v z=>by cases z⟩
  ·exact ⟨_,a2,fun v z=>by cases z⟩
  ·exact ⟨_,a3,fun v z=>by cases z⟩
  ·exact ⟨_,a4,fun v z=>by rw [d4] at z;cases z⟩
  ·exact ⟨_,a5,fun v z=>by rw [d5] at z;cases z⟩
 ·obtain ⟨a1,a2,⟨c,d,a3⟩,a4,a5⟩:=st
  exact ⟨k _ (by simp) _ a1,k _ (by simp) _ a2,⟨c,d,k _ (by simp) _ a3⟩,a4.at fun o e=>k _ (by simp) o e,a5.at fun o e=>k _ (by simp) o e⟩
 ·intro X' hP hw hK hc pins' s' σ' H' I' hL
  obtain ⟨hx',hy'⟩:=hL
  rw [<-hK] at hx' hy'
  obtain ⟨jt1,sv1,ql1,_⟩:=I'.list hx'
  obtain ⟨jt2,sv2,ql2,_⟩:=I'.list hy'
  have m1:=sv1.length
  have m2:=sv2.length
  have Wz:=WalksT.zip2 (prog:=X.prog) (w:=X.w) (I'.ok.hd hc) _ _ _ _ _ l1 l2 D jt1.toArray jt2.toArray
  rw [show min jt1.toArray.size jt2.toArray.size=min xs.length ys.length by show min jt1.length jt2.length=_;rw [m1,m2]] at Wz
  refine ⟨_,_,_,Wz,fun i st=>?_,fun i h st=>?_,fun i vals pv=>?_⟩
  ·obtain ⟨a1,a2,a3,a4,a5⟩:=st
   exact ⟨a1,a2,a3,a4,a5,ql1.isList,ql2.isList⟩
  ·obtain ⟨a1,a2,a3,a4,a5,_⟩:=st
   exact ⟨a1,a2,a3,a4,a5⟩
  ·obtain ⟨x,y,e1,e2,rfl⟩:=pv
   have e1:jt1[i]?=some x:=by simpa using e1
   have e2:jt2[i]?=some y:=by simpa using e2
   have c1:i<xs.length:=by rw [m1];exact (List.getElem?_eq_some_iff.mp e1).1
   have c2:i<ys.length:=by rw [m2];exact (List.getElem?_eq_some_iff.mp e2).1
   obtain ⟨u,d1,d2⟩:=sv1.get (List.getElem?_eq_getElem c1)
   obtain ⟨v,f1,f2⟩:=sv2.get (List.getElem?_eq_getElem c2)
   rw [e1] at d1
   rw [e2] at f1
   cases d1
   cases f1
   show qBc [xs.getD i .non,ys.getD i .non] [x,y]
   rw [List.getD_eq_getElem?_getD,List.getElem?_eq_getElem c1,List.getD_eq_getElem?_getD,List.getElem?_eq_getElem c2]
   exact .cons d2 (.cons f2 .nil)
end
section
variable {σ0:St} {g:TG} {tt:TT} {te:TE} {Q:List V->Hp->Prop} {H1:Hp}
theorem qE5 {n:Nat} {Ls:Hp->Prop} {xv:Nat->List V} (Pv:Nat->List V->Hp->Prop) (h0:Pv 0 [] H1) (hl:∀ i ys H,i<=n->Pv i ys H->Ls H)
  (hs:∀ i ys H T,i<n->Pv i ys H->H T=none->g (.ref T) σ0 (upd H T (.tup (xv i))) fun σ2 H2=>Sle σ0 σ2/\tt σ2 H2 fun b H3=>if b=true then te σ2 H3 (fun v H4=>ys.length<sizeLine/\Nxt n i Pv (ys++[v]) H4) else Nxt n i Pv ys H3)
  (hd:∀ ys H,Pv n ys H->Q ys H):qDo (Itp n Ls xv) σ0 g tt te Q H1:=by
 refine ⟨fun i m ys H=>m=n - i/\i<=n/\Pv i ys H,⟨n,by simp,Nat.zero_le _,h0⟩,?_⟩
 rintro i m ys H ⟨rfl,hi,p⟩
 have q:=hl i ys H hi p
 by_cases hlt:i<n
 ·refine .inr ⟨⟨q,hlt⟩,fun x H' y=>?_⟩
  obtain ⟨T,e1,e2,e3⟩:=y
  subst e2 e3
  exact hs i ys H T hlt p e1
 ·have e:i=n:=by omega
  subst e
  exact .inl ⟨⟨q,rfl⟩,hd ys H p⟩
end
end L2
namespace L2
open PySem PySem.Spec PyProof.Rows
def compShape (tpos:Pos) (it:Value) (target:Expr) (env:Env) (ifs:List Expr) (body:Sem Unit) (k:Sem Fin):Sem Fin:=do
 standAt tpos
 match ← pyNext it with
 | none=>pure (.done .next)
 | some v =>
  letOwnedTupleGo target it v
  assign target env v
  let mut ok:=true
  for c in ifs do
   if ok then ok ← isTrue c env (eval c env)
  if ok then
   body
  k
section
variable {AS:Type}
abbrev TB (AS:Type):=AS->St->Hp->(AS->St->Hp->Prop)->Prop
end
end L2
namespace L2
open PySem PySem.Spec PyProof.Rows
end L2
namespace L2
open PySem PySem.Spec PyProof.Rows
structure GC (P:Program) (w:World) {AS:Type} (e target iter:Expr) (ifs:List Expr) (scope:Scope) (tpos:Pos) (newAcc:Sem Value) (body:Addr->Env->Sem Unit) (o0:Obj) (a0:AS) (AO:AS->Obj->Prop) (HOf:Addr->AS->HO):Prop where
 new:∀ (A:Around) (s:Shared) (Q:Value->Shared->Prop) (E:Value->Shared->Prop),Q (.ref s.heap.objs.size) { s with heap:=s.heap.push o0 }->wpAny (model P w) A newAcc Q E s
 nf:o0.isFreed=false
 nc:∀ a o,AO a o->∀ v,o.data≠.cell v
 hA0:AO a0 o0
 hHO:∀ (H':Hp) (h:Heap) (acc:Addr) (a:AS) (o:Obj),sysModules<acc->AO a o->h.get? acc=some o->qC3 P w H' h acc (HOf acc a)
 cl:∃ gs,clausesOf e=⟨target,iter,ifs,0⟩ :: gs
 dnS:∀ (it acc:Value) (env:Env) (A:Around) (Q:PySem.Fin->Shared->Prop) (E:Value->Shared->Prop) (s:Shared),wpAny (model P w) A ((compStart e 0 it acc env).onRaise (fun x=>do noteFrame x env;standAt theWindowsPlace)) Q E s->wpAny (model P w) (A.under (.compStart e 0 it acc env)) ((model P w).den (.compStart e 0 it acc env)) Q E s
 dnL:∀ (it acc:Value) (env:Env) (A:Around) (Q:PySem.Fin->Shared->Prop) (E:Value->Shared->Prop) (s:Shared),wpAny (model P w) A ((compTurn e 0 it acc env).onRaise (fun x=>do noteFrame x env;theTreesLotGoes x)) Q E s->wpAny (model P w) (A.under (.compLoop e 0 it acc env)) ((model P w).den (.compLoop e 0 it acc env)) Q E s
 q:∀ it acc env,(Code.compLoop e 0 it acc env).quiet=true
 sh:∀ (it acc:Addr) (env:Env),compTurn e 0 (.ref it) (.ref acc) env=compShape tpos (.ref it) target env ifs (body acc env) (again (.compLoop e 0 (.ref it) (.ref acc) env))
end L2
namespace L2
open PySem PySem.Spec PyProof.Rows
end L2
namespace L2
open PySem PySem.Spec PyProof.Rows PySem.W
abbrev Rng (n:Nat):Array Nat:=List.toArray (List.range n)
def Gd (n:Nat) (p:Array Nat):Prop:=p.Perm (Rng n)
theorem Gd.lt {n:Nat} {p:Array Nat} (h:Gd n p) (h0:0<n) (i:Nat):p.getD i 0<n:=by
 by_cases hi:i<p.size
 ·have e:p.getD i 0=p[i]:=by simp [Array.getD,hi]
  rw [e]
  have m:p[i]∈p.toList:=by simp
  have m2:=(Array.perm_iff_toList_perm.mp h).mem_iff.mp m
  simpa using m2
 ·have e:p.getD i 0=0:=by simp [Array.getD,hi]
  rw [e];exact h0
theorem Gd.rev {n:Nat} {p:Array Nat} (h:Gd n p) (i j:Nat):Gd n (kas_rev p i j):=(mirror_perm _ _ _ _).trans h
theorem Gd.bub {n:Nat} {p:Array Nat} (h:Gd n p) (i j:Nat):Gd n (bubble p i j):=(bubble_perm _ _ _).trans h
section
variable {n:Nat} {cmp:Nat->Nat->(Bool->Shared->Prop)->Shared->Prop} {s:Shared} (hask:∀ i j C,i<n->j<n->(∀ b,C b s)->cmp i j C s) (h0:0<n)
include hask h0
end
def TupS (h:Heap) (v:Value) (t:List Str):Prop:=∃ a its,v = .ref a/\IsTup h a its/\StrsAre its.toList t/\t≠[]
section
variable {P:Program} {w:World} {A:Around} {E:Value->Shared->Prop} {s:Shared}
theorem qE7 {h h':Heap} {a:Addr} (k:∀ b o,b≠a->h.get? b=some o->h'.get? b=some o):∀ {vs:List Value} {ts:List (List Str)},Paired (TupS h) vs ts->(∀ v∈vs,v≠.ref a)->∃ fs:List Value,KatTups h' vs fs/\fs.length=vs.length/\∀ f∈fs,∃ x t,f=Value.str x t
 | _,_,.nil,_=>⟨[],trivial,rfl,fun f hf=>by cases hf⟩
 | _,_,@Paired.cons _ _ _ v t l1 l2 hh tt,hn=>by
  obtain ⟨fs,q1,q2,q3⟩:=qE7 k tt fun u hu=>hn u (List.mem_cons_of_mem _ hu)
  obtain ⟨b,its,rfl,⟨o,g,c,n,d⟩,st,ne⟩:=hh
  have nb:b≠a:=fun z=>hn _ List.mem_cons_self (by rw [z])
  cases t with
  | nil=>exact absurd rfl ne
  | cons x r =>
   have e:=st.strs
   cases hi:its.toList with
   | nil=>rw [hi] at e;cases e
   | cons f fr =>
    have hf:its[0]?=some f:=by rw [<-Array.getElem?_toList,hi];rfl
    refine ⟨f :: fs,.cons (k b o nb g) c d hf q1,by simp [q2],fun g' hg'=>?_⟩
    rcases List.mem_cons.mp hg' with z | z
    ·subst z
     exact st.all _ (by rw [hi];exact List.mem_cons_self)
    ·exact q3 g' z
end
end L2
namespace L2
open PySem PySem.Spec PyProof.Rows PySem.W
section
variable {X:Cx}
theorem refs_of:∀ {as:List Addr} {us:List Value},qBc (as.map V.ref) us->us=as.map Value.ref
 | [],_,r=>by cases r;rfl
 | a :: as,_,r=>by
  cases r with
  | cons h t=>cases h;rw [refs_of t];rfl
theorem qE3:∀ as:List Addr,qBc (as.map V.ref) (as.map Value.ref)
 | []=>.nil
 | a :: as=>.cons rfl (qE3 as)
theorem tups_mk {pins:List (Addr×Obj)} {s:Shared} {σ:St} {H:Hp} {h':Heap} (I:Inv X pins σ H s) (k:∀ b o,s.heap.get? b=some o->h'.get? b=some o):∀ {as:List Addr} {ts:List (List Str)},Paired (fun a t=>SqT X.K H a (t.map V.str)/\t≠[]) as ts->Paired (TupS h') (as.map Value.ref) ts
 | _,_,.nil=>.nil
 | _,_,.cons h t=>by
  obtain ⟨h1,h2⟩:=h
  obtain ⟨its,rv,⟨o,g,c,n,d⟩,_⟩:=I.tuple h1
  exact .cons ⟨_,its.toArray,rfl,⟨o,k _ _ g,c,n,d⟩,by simpa using qDf rv,h2⟩ (tups_mk I k t)
theorem tups_lt {pins:List (Addr×Obj)} {s:Shared} {σ:St} {H:Hp} (I:Inv X pins σ H s):∀ {as:List Addr} {ts:List (List Str)},Paired (fun a t=>SqT X.K H a (t.map V.str)/\t≠[]) as ts->∀ b∈as,b<s.heap.objs.size
 | _,_,.nil,b,hb=>by cases hb
 | _,_,.cons h t,b,hb=>by
  rcases List.mem_cons.mp hb with z | z
  ·subst z
   obtain ⟨its,rv,⟨o,g,_⟩,_⟩:=I.tuple h.1
   exact Heap.lt_size g
  ·exact tups_lt I t b z
end
end L2
namespace L2
open PySem PySem.Spec PyProof.Rows PySem.W
section
variable {X:Cx}
theorem call_range1':qCw X (.type "range") (fun xs H Q=>∃ j:Int,xs=[.int j]/\0<=j/\j<=1000/\∀ r,H r=none->Q (.ref r) (upd H r (.rng 0 j))):=by
 intro pins s σ H xs us Q I r h
 obtain ⟨j,rfl,h0,h1,q⟩:=h
 obtain ⟨u,rfl,t,rfl⟩:=qCx r
 refine call_range_1 ?_
 exact ⟨.ref s.heap.objs.size,_,I.laid (a:=s.heap.objs.size) (o:=.rng 0 j) (fun b o e=>Heap.get?_push_of_some _ e) (Nat.le_refl _) ⟨_,_,_,Heap.get?_push_size _ rfl⟩,rfl,q _ (I.hok.fresh (Nat.le_refl _))⟩
theorem ints_vals:∀ {its:List Value} {n:Nat} (k:Nat),its.length=n->(∀ i v,its[i]?=some v->∃ t,v=Value.int ((k+i:Nat):Int) t)->qBc ((List.range' k n).map fun (i:Nat)=>V.int (i:Int)) its
 | [],n,k,hl,_=>by
  have e:n=0:=hl.symm
  subst e;exact .nil
 | v :: r,n,k,hl,h=>by
  obtain ⟨m,rfl⟩:∃ m,n=m+1:=⟨n - 1,by simp at hl;omega⟩
  rw [List.range'_succ,List.map_cons]
  refine .cons ?_ (ints_vals (k+1) (by simpa using hl) fun i v hv=>?_)
  ·obtain ⟨t,e⟩:=h 0 v rfl
   exact ⟨t,by rw [e,Nat.add_zero]⟩
  ·obtain ⟨t,e⟩:=h (i+1) v (by simpa using hv)
   exact ⟨t,by rw [e,show k+(i+1)=k+1+i by omega]⟩
theorem call_list_rng (hc:X.calm=true):qCw X (.type "list") (fun xs H Q=>∃ (r:Addr) (j:Int),xs=[.ref r]/\H r=some (.rng 0 j)/\0<=j/\j<=1000/\∀ l,H l=none->Q (.ref l) (upd H l (.lst ((List.range j.toNat).map fun (i:Nat)=>V.int (i:Int))))):=by
 intro pins s σ H xs us Q I r h
 obtain ⟨p,j,rfl,hp,h0,h1,q⟩:=h
 obtain ⟨u,rfl,rx⟩:=qCx r
 cases rx
 obtain ⟨t,u,v,e⟩:=I.hok p _ hp
 refine call_list_range (n:=j.toNat) (a:=0) (b:=j) (c:=1) (I.ok.hd hc) e (small_one (by decide) (by decide) (by omega) (by omega)) (by rw [rangeSize_one];split <;> omega) (by omega) fun h' tk acc' c' hk hS hacc=>?_
 refine ⟨.ref s.heap.objs.size,_,I.laid (t':=tk) (a:=s.heap.objs.size) (o:=.lst ((List.range j.toNat).map fun (i:Nat)=>V.int (i:Int))) (fun b o e=>hk b o e) (Nat.le_refl _) ⟨?_,acc'.toList,c',?_,by rw [Array.toArray_toList];exact hS⟩,rfl,q _ (I.hok.fresh (Nat.le_refl _))⟩
 ·rw [List.length_map,List.length_range]
  exact Nat.le_of_lt (qAk (by omega))
 ·rw [List.range_eq_range']
  refine ints_vals 0 (by rw [Array.length_toList];exact hacc.1) fun i v hv=>?_
  obtain ⟨t,e⟩:=hacc.2 i v (by rw [<-Array.getElem?_toList];exact hv)
  exact ⟨t,by rw [e];congr 1;omega⟩
end
end L2
namespace L2
open PySem PySem.Spec PyProof.Rows PySem.W
structure Ordr (lt:Nat->Nat->Bool):Prop where
 asym:∀ a b,lt a b=true->lt b a=false
 tr:∀ a b c,lt b a=false->lt c b=false->lt c a=false
theorem Ordr.irr {lt:Nat->Nat->Bool} (o:Ordr lt) (a:Nat):lt a a=false:=by
 cases h:lt a a with
 | false=>rfl
 | true=>exact (o.asym a a h).symm.trans h▸rfl
def SPk (lt:Nat->Nat->Bool) (p:Array Nat) (k:Nat):Prop:=∀ i j,i<j->j<k->lt (p.getD j 0) (p.getD i 0)=false
def DPk (lt:Nat->Nat->Bool) (p:Array Nat) (k:Nat):Prop:=∀ i j,i<j->j<k->lt (p.getD i 0) (p.getD j 0)=false
def ERk (lt:Nat->Nat->Bool) (p:Array Nat) (a b:Nat):Prop:=∀ i j,a<=i->i<b->a<=j->j<b->lt (p.getD i 0) (p.getD j 0)=false
theorem Gd.size {n:Nat} {p:Array Nat} (h:Gd n p):p.size=n:=by
 have:=Array.Perm.size_eq h
 simpa using this
theorem qGl {p:Array Nat} {i j:Nat} (hj:j<=p.size) (k:Nat):(kas_rev p i j).getD k 0=if i<=k/\k<j then p.getD (i+j - 1 - k) 0 else p.getD k 0:=by
 unfold kas_rev
 rw [Array.getD_eq_getD_getElem?,getElem?_mirror_all hj]
 split <;> rw [<-Array.getD_eq_getD_getElem?]
theorem bub_at {p:Array Nat} {k l:Nat} (hk:k<p.size) (hl:l<=k) (i:Nat):(bubble p k (k - l)).getD i 0=if i=l then p.getD k 0 else if l<i/\i<=k then p.getD (i - 1) 0 else p.getD i 0:=by
 rw [Array.getD_eq_getD_getElem?,getElem?_bubble hk _ (by omega)]
 have e:k - (k - l)=l:=by omega
 rw [e]
 by_cases e1:i=l
 ·rw [if_pos e1,if_pos e1,<-Array.getD_eq_getD_getElem?]
 ·rw [if_neg e1,if_neg e1]
  by_cases e2:l<i/\i<=k
  ·rw [if_pos e2,if_pos e2,<-Array.getD_eq_getD_getElem?]
  ·rw [if_neg e2,if_neg e2,<-Array.getD_eq_getD_getElem?]
section
variable {lt:Nat->Nat->Bool} (o:Ordr lt)
include o
theorem SPk.snoc {p:Array Nat} {k:Nat} (h:SPk lt p k) (h1:1<=k) (hk:lt (p.getD k 0) (p.getD (k - 1) 0)=false):SPk lt p (k+1):=fun i j hij hj=>by
 by_cases e:j=k
 ·subst e
  by_cases e2:i=j - 1
  ·subst e2;exact hk
  ·exact o.tr _ _ _ (h i (j - 1) (by omega) (by omega)) hk
 ·exact h i j hij (by omega)
theorem DPk.snoc {p:Array Nat} {k:Nat} (h:DPk lt p k) (h1:1<=k) (hk:lt (p.getD (k - 1) 0) (p.getD k 0)=false):DPk lt p (k+1):=fun i j hij hj=>by
 by_cases e:j=k
 ·subst e
  by_cases e2:i=j - 1
  ·subst e2;exact hk
  ·exact o.tr _ _ _ hk (h i (j - 1) (by omega) (by omega))
 ·exact h i j hij (by omega)
omit o in
theorem DPk.rev {p:Array Nat} {a b k:Nat} (h:DPk lt p k) (hb:b<=p.size) (hbk:b<=k) (e:ERk lt p a b):DPk lt (kas_rev p a b) k:=fun i j hij hj=>by
 rw [qGl hb,qGl hb]
 split
 ·split
  ·exact e _ _ (by omega) (by omega) (by omega) (by omega)
  ·exact h _ _ (by omega) (by omega)
 ·split
  ·exact h _ _ (by omega) (by omega)
  ·exact h _ _ (by omega) (by omega)
omit o in
theorem DPk.turn {p:Array Nat} {k:Nat} (h:DPk lt p k) (hk:k<=p.size):SPk lt (kas_rev p 0 k) k:=fun i j hij hj=>by
 rw [qGl hk,qGl hk,if_pos (by omega),if_pos (by omega)]
 exact h _ _ (by omega) (by omega)
variable {n:Nat} {cmp:Nat->Nat->(Bool->Shared->Prop)->Shared->Prop} {s:Shared} (hask:∀ i j C,i<n->j<n->C (lt i j) s->cmp i j C s) (h0:0<n)
include hask h0
theorem sk_asc {p:Array Nat} (g:Gd n p) {Q:Nat->Shared->Prop} (N:Nat) (hq:∀ m,SPk lt p m->1<=m->m<=N->(m<N->lt (p.getD m 0) (p.getD (m - 1) 0)=true)->Q m s):∀ f m,1<=m->m+f=N->SPk lt p m->(kas_asc p f m).kasWp cmp Q s
 | 0,m,h1,hN,sp=>hq m sp h1 (by omega) (fun z=>by omega)
 | f+1,m,h1,hN,sp=>by
  refine hask _ _ _ (g.lt h0 _) (g.lt h0 _) ?_
  dsimp only
  split
  ·rename_i c
   exact hq m sp h1 (by omega) fun _=>c
  ·rename_i c
   exact sk_asc g N hq f (m+1) (by omega) (by omega) (sp.snoc o h1 (by simpa using c))
theorem sk_desc {Q:Array Nat×Nat×Nat->Shared->Prop} (N:Nat) (hN:N<=n) (hq:∀ p m q,Gd n p->1<=m->q+1<=m->m<=N->DPk lt p m->ERk lt p (m - (q+1)) m->Q (p,m,q) s):∀ f p m q,Gd n p->1<=m->q+1<=m->m+f=N->DPk lt p m->ERk lt p (m - (q+1)) m->(kas_desc f p m q).kasWp cmp Q s
 | 0,p,m,q,g,h1,h2,h3,dp,er=>hq p m q g h1 h2 (by omega) dp er
 | f+1,p,m,q,g,h1,h2,h3,dp,er=>by
  have sz:=g.size
  refine hask _ _ _ (g.lt h0 _) (g.lt h0 _) ?_
  dsimp only
  split
  ·rename_i c
   have dp':=dp.snoc o h1 (o.asym _ _ c)
   have one:∀ p':Array Nat,ERk lt p' (m+1 - (0+1)) (m+1):=fun p' i j hi hi' hj hj'=>by
    have e1:i=m:=by omega
    have e2:j=m:=by omega
    subst e1 e2
    exact o.irr _
   split
   ·exact sk_desc N hN hq f _ (m+1) 0 (g.rev _ _) (by omega) (by omega) (by omega) (dp'.rev (by omega) (by omega) er) (one _)
   ·exact sk_desc N hN hq f p (m+1) 0 g (by omega) (by omega) (by omega) dp' (one _)
  ·rename_i c
   refine hask _ _ _ (g.lt h0 _) (g.lt h0 _) ?_
   dsimp only
   split
   ·exact hq p m q g h1 h2 (by omega) dp er
   ·rename_i d
    have c':lt (p.getD m 0) (p.getD (m - 1) 0)=false:=by simpa using c
    have d':lt (p.getD (m - 1) 0) (p.getD m 0)=false:=by simpa using d
    refine sk_desc N hN hq f p (m+1) (q+1) g (by omega) (by omega) (by omega) (dp.snoc o h1 d') fun i j hi hi' hj hj'=>?_
    by_cases ei:i=m
    ·subst ei
     by_cases ej:j=i
     ·subst ej;exact o.irr _
     ·exact o.tr _ _ _ (er (i - 1) j (by omega) (by omega) (by omega) (by omega)) c'
    ·by_cases ej:j=m
     ·subst ej
      exact o.tr _ _ _ d' (er i (j - 1) (by omega) (by omega) (by omega) (by omega))
     ·exact er i j (by omega) (by omega) (by omega) (by omega)
theorem sk_tail3 {p:Array Nat} (g:Gd n p) {Q:Nat×Array Nat->Shared->Prop} (N:Nat) (hN:N<=n) (hq:∀ m p,Gd n p->SPk lt p m->1<=m->m<=N->Q (m,p) s) (m:Nat) (h1:1<=m) (h2:m<=N) (dp:DPk lt p m):(kas_tail3 m N p).kasWp cmp Q s:=by
 unfold kas_tail3
 rw [KasT.kasWp_bind]
 have sz:=g.size
 exact sk_asc o hask h0 (g.rev _ _) N (fun m' sp a b _=>hq m' _ (g.rev _ _) sp a b) _ _ h1 (by omega) (dp.turn (by omega))
theorem qFd {p:Array Nat} (g:Gd n p) {Q:Nat×Array Nat->Shared->Prop} (N:Nat) (hN:N<=n) (hq:∀ m p,Gd n p->SPk lt p m->1<=m->m<=N->Q (m,p) s) (m:Nat) (h2:m+1<=N) (dp:DPk lt p (m+1)):(kas_descPart m N p).kasWp cmp Q s:=by
 unfold kas_descPart
 rw [KasT.kasWp_bind]
 refine sk_desc o hask h0 N hN (fun p' m' q g' a b c dp' er=>?_) _ _ _ _ g (by omega) (by omega) (by omega) dp fun i j hi hi' hj hj'=>?_
 ·have sz:=g'.size
  dsimp only
  split
  ·exact sk_tail3 o hask h0 (g'.rev _ _) N hN hq _ a c (dp'.rev (by omega) (Nat.le_refl _) er)
  ·exact sk_tail3 o hask h0 g' N hN hq _ a c dp'
 ·have e1:i=m:=by omega
  have e2:j=m:=by omega
  subst e1 e2
  exact o.irr _
theorem sk_count {p:Array Nat} (g:Gd n p) {Q:Nat×Array Nat->Shared->Prop} (hq:∀ m p,Gd n p->SPk lt p m->1<=m->m<=n->Q (m,p) s):(kas_count n p).kasWp cmp Q s:=by
 unfold kas_count
 rw [KasT.kasWp_bind]
 have sz:=g.size
 refine sk_asc o hask h0 g n (fun m sp m1 mn st=>?_) _ _ (Nat.le_refl _) (by omega) (fun i j hij hj=>by omega)
 split
 ·exact hq _ _ g sp m1 mn
 ·rename_i c
  have c':m≠n:=by simpa using c
  have lt1:=st (by omega)
  have ge1:=o.asym _ _ lt1
  split
  ·refine hask _ _ _ (g.lt h0 _) (g.lt h0 _) ?_
   dsimp only
   split
   ·exact hq _ _ g sp m1 mn
   ·rename_i d
    have d':lt (p.getD 0 0) (p.getD (m - 1) 0)=false:=by simpa using d
    have lo:∀ i,i<m->lt (p.getD (m - 1) 0) (p.getD i 0)=false:=fun i hi=>by
     by_cases e:i=m - 1
     ·subst e;exact o.irr _
     ·exact sp i (m - 1) (by omega) (by omega)
    have hi0:∀ j,j<m->lt (p.getD j 0) (p.getD 0 0)=false:=fun j hj=>by
     by_cases e:j=0
     ·subst e;exact o.irr _
     ·exact sp 0 j (by omega) hj
    have er:ERk lt p 0 m:=fun i j _ hi _ hj=>o.tr _ _ _ (o.tr _ _ _ (lo j hj) d') (hi0 i hi)
    refine qFd o hask h0 (g.rev _ _) n (Nat.le_refl _) hq m (by omega) fun i j hij hj=>?_
    rw [qGl (by omega),qGl (by omega)]
    by_cases ej:j=m
    ·subst ej
     rw [if_pos (by omega),if_neg (by omega)]
     exact o.tr _ _ _ ge1 (er _ _ (by omega) (by omega) (by omega) (by omega))
    ·rw [if_pos (by omega),if_pos (by omega)]
     exact er _ _ (by omega) (by omega) (by omega) (by omega)
  ·have e:m=1:=by omega
   subst e
   refine qFd o hask h0 g n (Nat.le_refl _) hq 1 (by omega) fun i j hij hj=>?_
   have e1:i=0:=by omega
   have e2:j=1:=by omega
   subst e1 e2
   exact ge1
theorem sk_place {p:Array Nat} (g:Gd n p) {Q:Nat->Shared->Prop} (k:Nat) (sp:SPk lt p k) (hq:∀ l,l<=k->(∀ i,i<l->lt (p.getD k 0) (p.getD i 0)=false)->(∀ i,l<=i->i<k->lt (p.getD i 0) (p.getD k 0)=false)->Q l s) :
  ∀ f l r,l<=r->r<=k->r - l<=f->(∀ i,i<l->lt (p.getD k 0) (p.getD i 0)=false)->(∀ i,r<=i->i<k->lt (p.getD i 0) (p.getD k 0)=false)->(kas_place p k f l r).kasWp cmp Q s
 | 0,l,r,h1,h2,h3,a,b=>hq l (by omega) a fun i hi hk=>b i (by omega) hk
 | f+1,l,r,h1,h2,h3,a,b=>by
  unfold kas_place
  split
  ·exact hq l (by omega) a fun i hi hk=>b i (by omega) hk
  ·refine hask _ _ _ (g.lt h0 _) (g.lt h0 _) ?_
   dsimp only
   split
   ·rename_i c
    have c':=o.asym _ _ c
    refine sk_place g k sp hq f l ((l+r) / 2) (by omega) (by omega) (by omega) a fun i hi hk=>?_
    by_cases e:i=(l+r) / 2
    ·subst e;exact c'
    ·exact o.tr _ _ _ c' (sp _ _ (by omega) hk)
   ·rename_i c
    have c':lt (p.getD k 0) (p.getD ((l+r) / 2) 0)=false:=by simpa using c
    refine sk_place g k sp hq f ((l+r) / 2+1) r (by omega) h2 (by omega) (fun i hi=>?_) b
    by_cases e:i=(l+r) / 2
    ·subst e;exact c'
    ·exact o.tr _ _ _ (sp i ((l+r) / 2) (by omega) (by omega)) c'
theorem sk_bin {Q:Array Nat->Shared->Prop} (hq:∀ p,Gd n p->SPk lt p n->Q p s):∀ f p k,Gd n p->k+f=n->SPk lt p k->(kas_bin f p k).kasWp cmp Q s
 | 0,p,k,g,h1,sp=>hq p g (by rw [<-h1];exact sp)
 | f+1,p,k,g,h1,sp=>by
  unfold kas_bin
  rw [KasT.kasWp_bind]
  have sz:=g.size
  refine sk_place o hask h0 g k sp (fun l hl a b=>sk_bin hq f _ _ (g.bub _ _) (by omega) fun i j hij hj=>?_) k 0 k (by omega) (Nat.le_refl _) (by omega) (fun i hi=>by omega) (fun i hi hk=>by omega)
  rw [bub_at (by omega) hl,bub_at (by omega) hl]
  by_cases ej:j=l
  ·rw [if_pos ej,if_neg (by omega),if_neg (by omega)]
   exact a i (by omega)
  ·rw [if_neg ej]
   by_cases ej2:l<j/\j<=k
   ·rw [if_pos ej2]
    by_cases ei:i=l
    ·rw [if_pos ei]
     exact b (j - 1) (by omega) (by omega)
    ·rw [if_neg ei]
     split
     ·exact sp _ _ (by omega) (by omega)
     ·exact sp _ _ (by omega) (by omega)
   ·rw [if_neg ej2,if_neg (by omega),if_neg (by omega)]
    exact sp _ _ hij (by omega)
theorem sk_sort {Q:Array Nat->Shared->Prop} (hq:∀ p,Gd n p->SPk lt p n->Q p s):(kas_sort n).kasWp cmp Q s:=by
 unfold kas_sort
 rw [KasT.kasWp_bind]
 refine sk_count o hask h0 (Array.Perm.refl _) (fun m p g sp m1 mn=>?_)
 dsimp only
 have e:max m 1=m:=by omega
 rw [e]
 split
 ·exact sk_bin o hask h0 hq _ _ _ g (by omega) sp
 ·have e2:m=n:=by omega
  subst e2
  exact hq _ g sp
end
end L2
namespace L2
open PySem PySem.Spec PyProof.Rows PySem.W
theorem txTri:∀ a b:List Nat,a<b\/a=b\/b<a
 | [],[]=>.inr (.inl rfl)
 | [],_ :: _=>.inl (List.nil_lt_cons _ _)
 | _ :: _,[]=>.inr (.inr (List.nil_lt_cons _ _))
 | x :: a,y :: b=>by
  rcases Nat.lt_trichotomy x y with h | h | h
  ·exact .inl (List.cons_lt_cons_iff.mpr (.inl h))
  ·subst h
   rcases txTri a b with h | h | h
   ·exact .inl (List.cons_lt_cons_iff.mpr (.inr ⟨rfl,h⟩))
   ·exact .inr (.inl (by rw [h]))
   ·exact .inr (.inr (List.cons_lt_cons_iff.mpr (.inr ⟨rfl,h⟩)))
  ·exact .inr (.inr (List.cons_lt_cons_iff.mpr (.inl h)))
theorem txExt {x y:Str} (h:x.cps.toList=y.cps.toList):x=y:=by
 cases x;cases y
 simp only [Str.mk.injEq]
 exact Array.toList_inj.mp h
def sLtB (x y:Str):Bool:=decide (x.cps.toList<y.cps.toList)
theorem sLtB_irr (x:Str):sLtB x x=false:=decide_eq_false (List.lt_irrefl _)
theorem qGi {x y z:Str} (h:sLtB x y=true) (h':sLtB y z=true):sLtB x z=true:=decide_eq_true (List.lt_trans (of_decide_eq_true h) (of_decide_eq_true h'))
theorem sLtB_tri (x y:Str):sLtB x y=true\/x=y\/sLtB y x=true:=by
 rcases txTri x.cps.toList y.cps.toList with h | h | h
 ·exact .inl (decide_eq_true h)
 ·exact .inr (.inl (txExt h))
 ·exact .inr (.inr (decide_eq_true h))
def ltL:List Str->List Str->Bool
 | [],[]=>false
 | [],_ :: _=>true
 | _ :: _,[]=>false
 | x :: r,y :: t=>if x=y then ltL r t else sLtB x y
theorem ltL_irr:∀ a:List Str,ltL a a=false
 | []=>rfl
 | x :: r=>by unfold ltL;rw [if_pos rfl];exact ltL_irr r
theorem ltL_tri:∀ a b:List Str,ltL a b=true\/a=b\/ltL b a=true
 | [],[]=>.inr (.inl rfl)
 | [],_ :: _=>.inl rfl
 | _ :: _,[]=>.inr (.inr rfl)
 | x :: r,y :: t=>by
  unfold ltL
  by_cases e:x=y
  ·subst e
   rw [if_pos rfl,if_pos rfl]
   rcases ltL_tri r t with h | h | h
   ·exact .inl h
   ·exact .inr (.inl (by rw [h]))
   ·exact .inr (.inr h)
  ·rw [if_neg e,if_neg (fun z=>e z.symm)]
   rcases sLtB_tri x y with h | h | h
   ·exact .inl h
   ·exact absurd h e
   ·exact .inr (.inr h)
theorem qD0:∀ a b c:List Str,ltL a b=true->ltL b c=true->ltL a c=true
 | [],_,[],h,h'=>by
  rename_i b
  cases b with
  | nil=>exact h
  | cons _ _=>cases h'
 | [],_,_ :: _,_,_=>rfl
 | _ :: _,[],_,h,_=>by cases h
 | _ :: _,_ :: _,[],_,h'=>by cases h'
 | x :: r,y :: t,z :: u,h,h'=>by
  unfold ltL at h h' ⊢
  by_cases e1:x=y
  ·subst e1
   rw [if_pos rfl] at h
   by_cases e2:x=z
   ·subst e2
    rw [if_pos rfl] at h' ⊢
    exact qD0 r t u h h'
   ·rw [if_neg e2] at h' ⊢
    exact h'
  ·rw [if_neg e1] at h
   by_cases e2:y=z
   ·subst e2
    rw [if_neg e1]
    exact h
   ·rw [if_neg e2] at h'
    have q:=qGi h h'
    have e3:¬x=z:=fun e=>by rw [e,sLtB_irr] at q;cases q
    rw [if_neg e3]
    exact q
theorem ltL_asym (a b:List Str) (h:ltL a b=true):ltL b a=false:=by
 cases q:ltL b a with
 | false=>rfl
 | true=>have:=qD0 a b a h q;rw [ltL_irr] at this;cases this
def ltI (ts:List (List Str)) (i j:Nat):Bool:=ltL (ts.getD i []) (ts.getD j [])
theorem ltI_ord (ts:List (List Str)):Ordr (ltI ts):=⟨fun a b h=>ltL_asym _ _ h,fun a b c h h'=>by
 have h1:ltL (ts.getD b []) (ts.getD a [])=false:=h
 have h2:ltL (ts.getD c []) (ts.getD b [])=false:=h'
 show ltL (ts.getD c []) (ts.getD a [])=false
 rcases ltL_tri (ts.getD a []) (ts.getD b []) with q | q | q
 ·rcases ltL_tri (ts.getD b []) (ts.getD c []) with r | r | r
  ·exact ltL_asym _ _ (qD0 _ _ _ q r)
  ·rw [<-r];exact h1
  ·rw [h2] at r;cases r
 ·rw [q];exact h2
 ·rw [h1] at q;cases q⟩
theorem qGx (vs:List Value):(List.range vs.length).map (fun i=>vs.getD i Value.none)=vs:=by
 refine List.ext_getElem? fun i=>?_
 by_cases hi:i<vs.length
 ·rw [List.getElem?_map,List.getElem?_range hi,List.getElem?_eq_getElem hi]
  show some (vs.getD i Value.none)=_
  rw [List.getD_eq_getElem?_getD,List.getElem?_eq_getElem hi];rfl
 ·rw [List.getElem?_eq_none (by simp;omega),List.getElem?_eq_none (by omega)]
theorem katlex_ex {P:Program} {w:World} {A:Around} {s:Shared} {b fin:Bool} {Q:Bool->Shared->Prop}:∀ {vs us:List Value} {x y:List Str} (i:Nat),StrsAre vs x->StrsAre us y->Q (ltL x y) s->fin=decide (x.length<y.length)->KatLex P w A b fin Q (vs.zip us) i s
 | _,_,_,_,i,.nil,.nil,hQ,hf=>by rw [hf];exact hQ
 | _,_,_,_,i,.nil,.cons _ _ _,hQ,hf=>by rw [hf];exact hQ
 | _,_,_,_,i,.cons _ _ _,.nil,hQ,hf=>by rw [hf];exact hQ
 | _,_,_,_,i,.cons p t r,.cons q u r',hQ,hf=>by
  refine kat_cons (wpAny_eqBool_str (kat_go (fun e=>kat_yes (katlex_ex (i+1) r r' ?_ ?_)) fun e=>kat_no ?_))
  ·have e':=of_decide_eq_true e
   unfold ltL at hQ
   rw [if_pos e'] at hQ
   exact hQ
  ·rw [hf]
   simp
  ·have e':=of_decide_eq_false e
   unfold ltL at hQ
   rw [if_neg e'] at hQ
   cases hb:(b && i == 0) with
   | true=>exact strKind_oneLt P w A _ s _ _ _ _ rfl rfl hQ
   | false=>exact kat_one _ _ (lt_str hQ)
section
variable {P:Program} {w:World} {A:Around} {E:Value->Shared->Prop} {s:Shared}
theorem tups_atO {h h':Heap} {a:Addr} (k:∀ b o,b≠a->h.get? b=some o->h'.get? b=some o):∀ {vs:List Value} {ts:List (List Str)} {i:Nat},Paired (TupS h) vs ts->(∀ v∈vs,v≠.ref a)->i<vs.length->∃ (b:Addr) (its:Array Value),IsTup h' b its/\vs.getD i Value.none = .ref b/\StrsAre its.toList (ts.getD i [])
 | _,_,i,.nil,_,hi=>absurd hi (Nat.not_lt_zero _)
 | _,_,0,@Paired.cons _ _ _ v t l1 l2 hh tt,hn,_=>by
  obtain ⟨b,its,rfl,⟨o,g,c,n,d⟩,st,ne⟩:=hh
  have nb:b≠a:=fun z=>hn _ List.mem_cons_self (by rw [z])
  exact ⟨b,its,⟨o,k b o nb g,c,n,d⟩,rfl,st⟩
 | _,_,i+1,@Paired.cons _ _ _ v t l1 l2 hh tt,hn,hi=>tups_atO (i:=i) k tt (fun u hu=>hn u (List.mem_cons_of_mem _ hu)) (by simpa using hi)
theorem sort_tupsO {a:Addr} {vs:List Value} {ts:List (List Str)} {n:Nat} {R:PySem.Fin->Shared->Prop} (ho:s.heap.get? a=some (seqObj "list" vs.toArray n)) (ht:Paired (TupS s.heap) vs ts) (h64:vs.length<64) (hna:∀ v∈vs,v≠.ref a)
  (h:∀ (out:List Value) (p:Array Nat),out.Perm vs->Gd vs.length p->SPk (ltI ts) p vs.length->out=p.toList.map (fun i=>vs.getD i Value.none)->R (.done (.ret .none)) { s with heap:=sortedHeap s.heap a vs out.toArray }):wpAny (model P w) A (Builtin.«list.sort» ⟨[.ref a],[]⟩) R E s:=by
 rw [list_sort_plain]
 have ha:a<s.heap.objs.size:=Heap.lt_size ho
 refine wpAny_bind (listItems_at ho rfl (wpAny_bind (listUpdate_at ho rfl ?_ (by rw [List.size_toArray,sizeLine_eq];omega) (Nat.zero_le _))))
 obtain ⟨e1,ho1⟩:∃ e1,(s.heap.update a (Obj.mapSeq fun _=>#[])).get? a=some (seqObj "list" #[] e1):=⟨_,get?_update_seq ho (fun _=>#[])⟩
 refine wpAny_bind (seqEpoch_at ho1 rfl (wpAny_bind (wpAny_newTuple ?_ (by show vs.length<=_;rw [sizeLine_eq];omega))))
 refine wpAny_bind (wpAny_newList ?_ (Nat.zero_le _))
 refine wpAny_holding ?_
 have ho6:(((s.heap.update a (Obj.mapSeq fun _=>#[])).push (seqObj "tuple" vs.toArray 0)).push (seqObj "list" #[] 0)).get? a=some (seqObj "list" #[] e1):=Heap.get?_push_of_some _ (Heap.get?_push_of_some _ ho1)
 have keep:∀ b o,b≠a->s.heap.get? b=some o->(((s.heap.update a (Obj.mapSeq fun _=>#[])).push (seqObj "tuple" vs.toArray 0)).push (seqObj "list" #[] 0)).get? b=some o:=fun b o hb e=>by
  refine Heap.get?_push_of_some _ (Heap.get?_push_of_some _ ?_)
  rw [Heap.get?_update_ne _ _ _ _ hb];exact e
 show wpAny (model P w) A _ R E { s with heap:=((s.heap.update a (Obj.mapSeq fun _=>#[])).push (seqObj "tuple" vs.toArray 0)).push (seqObj "list" #[] 0) }
 dsimp only
 have fin:∀ (st':SortSt) (out:List Value),(arrOf st').map (·.2)=out.toArray->failedOf st'=none->out.Perm vs->(∃ p,Gd vs.length p/\SPk (ltI ts) p vs.length/\out=p.toList.map (fun i=>vs.getD i Value.none))->wpAny (model P w) A (do
   let touched:=(← seqEpoch a) != e1
   Builtin.List.listUpdate (.ref a) fun _=>(arrOf st').map (·.2)
   if let some e:=failedOf st' then rule "list.sort.comparison-raised";throw e
   if touched then rule "list.sort.modified";raiseError "ValueError" "list modified during sort"
   ret .none) R E { s with heap:=((s.heap.update a (Obj.mapSeq fun _=>#[])).push (seqObj "tuple" vs.toArray 0)).push (seqObj "list" #[] 0) }:=by
  intro st' out e hf hp ⟨p,hg,hsp,ep⟩
  refine wpAny_bind (seqEpoch_at ho6 rfl ?_)
  refine wpAny_bind (listUpdate_at ho6 rfl ?_ (Nat.zero_le _) (by rw [e,List.size_toArray,hp.length_eq,sizeLine_eq];omega))
  rw [hf]
  simp only [bne_self_eq_false,Bool.false_eq_true,if_false]
  rw [e]
  exact wpAny_pure (h out p hp hg hsp ep)
 by_cases h2:vs.toArray.size<2
 ·rw [if_pos h2,if_pos h2]
  refine wpAny_bind (wpAny_pure ?_)
  rw [StateT.run_pure]
  refine wpAny_bind (wpAny_pure (fin _ vs ?_ rfl (List.Perm.refl _) ⟨Rng vs.length,Array.Perm.refl _,fun i j hij hj=>absurd hj (by rw [List.size_toArray] at h2;omega),(qGx vs).symm⟩))
  show (vs.toArray.zip vs.toArray).map (·.2)=vs.toArray
  apply Array.toList_inj.mp
  rw [Array.toList_map,Array.toList_zip]
  exact List.map_snd_zip (Nat.le_refl _)
 ·rw [if_neg h2,if_neg h2]
  have hl2:2<=vs.length:=by rw [List.size_toArray] at h2;omega
  obtain ⟨fs,kt,fl,fa⟩:=qE7 (a:=a) keep ht hna
  refine wpAny_bind (kat_kind (T:=.type "str") kt (by omega) (fun v hv=>?_) (by decide) ?_)
  ·obtain ⟨x,t,rfl⟩:=fa v hv
   exact .now
  refine wpAny_bind (wpAny_mono (kat_run (ks:=vs) (Q:=fun st' s'=>s'={ s with heap:=((s.heap.update a (Obj.mapSeq fun _=>#[])).push (seqObj "tuple" vs.toArray 0)).push (seqObj "list" #[] 0) }/\∃ out:List Value,(arrOf st').map (·.2)=out.toArray/\failedOf st'=none/\out.Perm vs/\∃ p,Gd vs.length p/\SPk (ltI ts) p vs.length/\out=p.toList.map (fun i=>vs.getD i Value.none)) (G:=fun p s'=>s'={ s with heap:=((s.heap.update a (Obj.mapSeq fun _=>#[])).push (seqObj "tuple" vs.toArray 0)).push (seqObj "list" #[] 0) }/\Gd vs.length p/\SPk (ltI ts) p vs.length) rfl hl2 h64 (fun p st' s' a1 a2 a3 a4=>?_) ?_) ?_ fun _ _ e=>e)
  ·obtain ⟨rfl,g,sp⟩:=a4
   refine ⟨rfl,_,kat_snds rfl a2,a3,?_,p,g,sp,rfl⟩
   have q:=(Array.perm_iff_toList_perm.mp g).map fun i=>vs.getD i Value.none
   exact q.trans (List.Perm.of_eq (qGx vs))
  ·refine sk_sort (ltI_ord ts) (fun i j C hi hj hC=>?_) (by omega) fun p g sp=>⟨rfl,g,sp⟩
   obtain ⟨x1,y1,z1,v1,w1⟩:=tups_atO keep ht hna hi
   obtain ⟨x2,y2,z2,v2,w2⟩:=tups_atO keep ht hna hj
   show wpAny _ _ (keyLt' _ (vs.getD i Value.none) (vs.getD j Value.none)) C _ _
   rw [v1,v2]
   obtain ⟨o1,g1,c1,n1,d1⟩:=z1
   obtain ⟨o2,g2,c2,n2,d2⟩:=z2
   have l1:y1.size=(ts.getD i []).length:=by rw [<-w1.strs];simp
   have l2:y2.size=(ts.getD j []).length:=by rw [<-w2.strs];simp
   exact kat_lt g1 d1 g2 d2 (katlex_ex 0 w1 w2 hC (by rw [l1,l2]))
  ·rintro ⟨⟨⟩,st'⟩ s' ⟨rfl,out,q1,q2,q3,q4⟩
   exact fin st' out q1 q2 q3 q4
end
end L2
namespace L2
open PySem PySem.Spec PyProof.Rows PySem.W
theorem gd_mem {n:Nat} {o:Array Nat} (g:Gd n o) {i:Nat} (hi:i∈o.toList):i<n:=by
 have:=(Array.perm_iff_toList_perm.mp g).mem_iff.mp hi
 simpa using this
theorem gd_len {n:Nat} {o:Array Nat} (g:Gd n o):o.toList.length=n:=by
 have:=g.size
 simpa using this
theorem outs_refs {as:List Addr} {l:List Nat} (h:∀ i∈l,i<as.length):l.map (fun i=>(as.map Value.ref).getD i Value.none)=(l.map fun i=>as.getD i 0).map Value.ref:=by
 rw [List.map_map]
 refine List.map_congr_left fun i hi=>?_
 have:=h i hi
 show (as.map Value.ref).getD i Value.none=Value.ref (as.getD i 0)
 rw [List.getD_eq_getElem?_getD,List.getD_eq_getElem?_getD,List.getElem?_map,List.getElem?_eq_getElem this];rfl
section
variable {X:Cx}
theorem call_sortedTO:qCw X (.builtin "sorted") (fun xs H Q=>∃ (p:Addr) (as:List Addr) (ts:List (List Str)),xs=[.ref p]/\SqL X.K H p (as.map V.ref)/\Paired (fun a t=>SqT X.K H a (t.map V.str)/\t≠[]) as ts/\as.length<64/\∀ (r:Addr) (o:Array Nat),H r=none->Gd as.length o->SPk (ltI ts) o as.length->Q (.ref r) (upd H r (.lst ((o.toList.map fun i=>as.getD i 0).map V.ref)))):=by
 intro pins s σ H xs us Q I r h
 obtain ⟨p,as,ts,rfl,hq,ht,h64,q⟩:=h
 obtain ⟨u,rfl,rx⟩:=qCx r
 cases rx
 obtain ⟨its,rv,pl,hz⟩:=I.list hq
 have ei:=refs_of rv
 subst ei
 refine Calls.call_function_entry kind_sorted plain_sorted entry_sorted (args_sorted1 _) ?_
 unfold Builtin.«sorted»
 refine wpAny_bind (m:=checkCount "sorted" 1 1 _) (wpAny_pure (wpAny_bind (collect_list pl.isList ?_ (by rw [List.length_map,sizeLine_eq];omega))))
 refine wpAny_bind (wpAny_newList ?_ (by rw [List.length_map,sizeLine_eq];omega))
 have hsz:((s.heap.push (seqObj "list" #[] 0)).update s.heap.objs.size (Obj.mapSeq (·++(as.map Value.ref).toArray))).objs.size=s.heap.objs.size+1:=by rw [Heap.size_update,size_push']
 have hoL:(((s.heap.push (seqObj "list" #[] 0)).update s.heap.objs.size (Obj.mapSeq (·++(as.map Value.ref).toArray))).push (seqObj "list" (as.map Value.ref).toArray 0)).get? (s.heap.objs.size+1)=some (seqObj "list" (as.map Value.ref).toArray 0):=by
  rw [<-hsz];exact Heap.get?_push_size _ rfl
 have keep:∀ b o,s.heap.get? b=some o->(((s.heap.push (seqObj "list" #[] 0)).update s.heap.objs.size (Obj.mapSeq (·++(as.map Value.ref).toArray))).push (seqObj "list" (as.map Value.ref).toArray 0)).get? b=some o:=fun b o e=>by
  have hlt:b<s.heap.objs.size:=Heap.lt_size e
  rw [Heap.get?_push_ne _ _ _ (by rw [hsz];exact Nat.ne_of_lt (Nat.lt_succ_of_lt hlt)),Heap.get?_update_ne _ _ _ _ (Nat.ne_of_lt hlt),Heap.get?_push_ne _ _ _ (Nat.ne_of_lt hlt)]
  exact e
 show wpAny _ _ _ _ _ { s with heap:=((s.heap.push (seqObj "list" #[] 0)).update s.heap.objs.size (Obj.mapSeq (·++(as.map Value.ref).toArray))).push (seqObj "list" (as.map Value.ref).toArray 0) }
 rw [hsz]
 have tp:=tups_mk (h':=((s.heap.push (seqObj "list" #[] 0)).update s.heap.objs.size (Obj.mapSeq (·++(as.map Value.ref).toArray))).push (seqObj "list" (as.map Value.ref).toArray 0)) I keep ht
 refine wpAny_bind (wpAny_holding (wpAny_call_entry slot_list_sort ⟨_,hoL,rfl⟩ entry_list_sort (sort_tupsO hoL tp (by rw [List.length_map];exact h64) (fun v hv z=>?_) fun out o hp hg hsp eo=>⟨_,rfl,?_⟩) (args_list_sort _)))
 ·obtain ⟨b,hb,e⟩:=List.mem_map.mp hv
  rw [<-e] at z
  injection z with z
  have lt:=tups_lt I ht b hb
  exact absurd lt (by rw [z];exact Nat.not_lt_of_le (Nat.le_succ _))
 rw [List.length_map] at hg hsp
 rw [outs_refs fun i hi=>gd_mem hg hi] at eo
 subst eo
 have nz:H (s.heap.objs.size+1)=none:=I.hok.fresh (Nat.le_succ _)
 obtain ⟨e,he⟩:=sortedAll_at s.heap (as.map Value.ref) ((o.toList.map fun i=>as.getD i 0).map Value.ref).toArray
 refine wpAny_pure ⟨_,rfl,.ref (s.heap.objs.size+1),_,I.laid (t':=s.toks) (a:=s.heap.objs.size+1) (o:=.lst ((o.toList.map fun i=>as.getD i 0).map V.ref)) (h':=sortedAll s.heap (as.map Value.ref) ((o.toList.map fun i=>as.getD i 0).map Value.ref).toArray) (fun b o eb=>sortedAll_old eb) (Nat.le_succ _) ⟨?_,(o.toList.map fun i=>as.getD i 0).map Value.ref,e,qE3 _,he⟩,rfl,q _ o nz hg hsp⟩
 rw [List.length_map,List.length_map,gd_len hg]
 exact Nat.le_of_lt (qAk (by omega))
end
end L2
namespace L2
open PySem PySem.Spec PyProof.Rows PySem.W
open AutoSeq1 (wpAny_loadPart')
open MeetsSeq MeetsSeq2 MeetsSeq3 SeqRoads2
theorem strs_at {vs:List Value} {x:List Str} (h:StrsAre vs x):∀ {i:Nat},i<vs.length->∃ t,vs[i]?=some (.str (x.getD i "") t):=by
 induction h with
 | nil=>intro i hi;exact absurd hi (Nat.not_lt_zero _)
 | cons p t r ih =>
  intro i hi
  cases i with
  | zero=>exact ⟨t,rfl⟩
  | succ i=>simpa using ih (i:=i) (by simpa using hi)
theorem drop_at {x:List Str} {i:Nat} (h:i<x.length):x.drop i=x.getD i "" :: x.drop (i+1):=by
 rw [List.drop_eq_getElem_cons h,List.getD_eq_getElem?_getD,List.getElem?_eq_getElem h];rfl
theorem lt_loopS (l b:Addr) (items items2:Array Value) (n n2:Nat) (dd dd2:Option Addr) (sl sl2:Array (Option Value)) (x y:List Str) (hx:StrsAre items.toList x) (hy:StrsAre items2.toList y):∀ (k i:Nat),items.size - i=k->i<=items.size->i<=items2.size ->
  Meets (Builtin.«list.__eq__.loop» ⟨[.ref l,.ref b,rawInt i,rawInt 0],[]⟩)
   (fun A R s=>(s.heap.get? l=some { cls:=.type "list",dict:=dd,data:=.seq items n,slots:=sl }/\s.heap.get? b=some { cls:=.type "list",dict:=dd2,data:=.seq items2 n2,slots:=sl2 })/\R (.ok (.ret (.bool (ltL (x.drop i) (y.drop i))))) s):=by
 have lx:items.size=x.length:=by rw [<-hx.strs];simp
 have ly:items2.size=y.length:=by rw [<-hy.strs];simp
 intro k
 induction k with
 | zero =>
  intro i hk h1 h2 prog w A R s h
  obtain ⟨hp,g,d,tk,os⟩:=s
  obtain ⟨⟨hl,hb⟩,h⟩:=h
  have e1:i=items.size:=by omega
  have q1:items[((i:Nat):Int).toNat]?=none:=by simp;omega
  wp_walk using wpAny_loadPart' hl,wpAny_loadPart' hb
  rw [q1]
  wp_walk using wpAny_loadPart' hl,wpAny_loadPart' hb
  have dx:x.drop i=[]:=by simp;omega
  rw [dx] at h
  show R (.ok (.ret (.bool (decide (items.size<items2.size))))) _
  cases hd:y.drop i with
  | nil =>
   rw [hd] at h
   have:y.length<=i:=by simpa using hd
   rw [decide_eq_false (by omega)]
   exact h
  | cons a r =>
   rw [hd] at h
   have:i<y.length:=by
    have:=congrArg List.length hd
    rw [List.length_drop,List.length_cons] at this
    omega
   rw [decide_eq_true (by omega)]
   exact h
 | succ k ih =>
  intro i hk h1 h2 prog w A R s h
  obtain ⟨hp,g,d,tk,os⟩:=s
  obtain ⟨⟨hl,hb⟩,h⟩:=h
  have hlt:i<items.size:=by omega
  obtain ⟨t1,q1⟩:=strs_at hx (i:=i) (by simpa using hlt)
  rw [Array.getElem?_toList] at q1
  have q1':items[((i:Nat):Int).toNat]?=some (.str (x.getD i "") t1):=q1
  have dx:=drop_at (x:=x) (i:=i) (by omega)
  wp_walk using wpAny_loadPart' hl,wpAny_loadPart' hb
  rw [q1']
  by_cases hlt2:i<items2.size
  ·obtain ⟨t2,q2⟩:=strs_at hy (i:=i) (by simpa using hlt2)
   rw [Array.getElem?_toList] at q2
   have q2':items2[((i:Nat):Int).toNat]?=some (.str (y.getD i "") t2):=q2
   have dy:=drop_at (x:=y) (i:=i) (by omega)
   have hc:((i:Int)+1)=((i+1:Nat):Int):=by push_cast;rfl
   rw [dx,dy] at h
   unfold ltL at h
   rw [q2']
   refine wpAny_bind (wpAny_eqBool_str ?_)
   by_cases e:x.getD i "" = y.getD i ""
   ·rw [if_pos e] at h
    rw [decide_eq_true e]
    wp_walk
    rw [hc]
    exact ⟨plainId_quiet plain_eq_loop _,codeAny_builtin entry_eq_loop (by
     rw [Around.under_plainId plain_eq_loop _]
     exact ih (i+1) (by omega) (by omega) (by omega) prog w A R _ ⟨⟨hl,hb⟩,h⟩)⟩
   ·rw [if_neg e] at h
    rw [decide_eq_false e]
    wp_walk using wpAny_loadPart' hl,wpAny_loadPart' hb
    rw [q1',q2']
    refine wpAny_bind (richCompare_gives (op:=.Lt) (typeIs_str _ _ _) (typeIs_str _ _ _) F.slot_str_lt F.entry_str_lt (F.args_str_lt_2 _ _) (gives_str_lt _ _ _ _) (fun e=>nomatch e) ?_)
    exact wpAny_pure h
  ·have q2':items2[((i:Nat):Int).toNat]?=none:=by simp;omega
   rw [q2']
   wp_walk using wpAny_loadPart' hl,wpAny_loadPart' hb
   have dy:y.drop i=[]:=by simp;omega
   rw [dx,dy] at h
   show R (.ok (.ret (.bool (decide (items.size<items2.size))))) _
   rw [decide_eq_false (by omega)]
   exact h
theorem list_ltS (l b:Addr) (items items2:Array Value) (n n2:Nat) (dd dd2:Option Addr) (sl sl2:Array (Option Value)) (x y:List Str) (hx:StrsAre items.toList x) (hy:StrsAre items2.toList y) :
  Meets (Builtin.«list.__lt__» ⟨[.ref l,.ref b],[]⟩)
   (fun A R s=>(s.heap.get? l=some { cls:=.type "list",dict:=dd,data:=.seq items n,slots:=sl }/\s.heap.get? b=some { cls:=.type "list",dict:=dd2,data:=.seq items2 n2,slots:=sl2 })/\R (.ok (.ret (.bool (ltL x y)))) s):=by
 intro prog w A R s h
 obtain ⟨hp,g,d,tk,os⟩:=s
 obtain ⟨⟨hl,hb⟩,h⟩:=h
 have f3:=AutoSeq1.sub_list_list
 wp_walk using wpAny_loadPart' hl,wpAny_loadPart' hb
 exact ⟨plainId_quiet plain_eq_loop _,codeAny_builtin entry_eq_loop (by
  rw [Around.under_plainId plain_eq_loop _]
  exact lt_loopS l b items items2 n n2 dd dd2 sl sl2 x y hx hy _ 0 rfl (Nat.zero_le _) (Nat.zero_le _) prog w A R _ ⟨⟨hl,hb⟩,h⟩)⟩
end L2
namespace L2
open PySem PySem.Spec PyProof.Rows PySem.W
end L2
namespace L2
open PySem PySem.Spec PyProof.Rows
end L2
namespace L2
open PySem PySem.Spec PyProof.Rows PySem.W
abbrev Srt (a:List (List Str)):Prop:=a.Pairwise fun x y=>ltL y x=false
theorem getD_rangeL (ts:List (List Str)):(List.range ts.length).map (fun i=>ts.getD i [])=ts:=by
 refine List.ext_getElem? fun i=>?_
 by_cases hi:i<ts.length
 ·rw [List.getElem?_map,List.getElem?_range hi,List.getElem?_eq_getElem hi]
  show some (ts.getD i [])=_
  rw [List.getD_eq_getElem?_getD,List.getElem?_eq_getElem hi];rfl
 ·rw [List.getElem?_eq_none (by simp;omega),List.getElem?_eq_none (by omega)]
theorem order_rows {ts:List (List Str)} {o:Array Nat} (g:Gd ts.length o) (sp:SPk (ltI ts) o ts.length):Srt (o.toList.map fun i=>ts.getD i [])/\(o.toList.map fun i=>ts.getD i []).Perm ts:=by
 have sz:=g.size
 refine ⟨?_,?_⟩
 ·rw [Srt,List.pairwise_iff_getElem]
  intro i j hi hj hij
  rw [List.length_map] at hi hj
  have h:=sp i j hij (by simpa [sz] using hj)
  rw [List.getElem_map,List.getElem_map]
  have e:∀ k (hk:k<o.toList.length),o.getD k 0=o.toList[k]:=fun k hk=>by
   have hk':k<o.size:=by simpa using hk
   simp [Array.getD,hk']
  rw [e i hi,e j hj] at h
  exact h
 ·have q:=(Array.perm_iff_toList_perm.mp g).map fun i=>ts.getD i []
  exact q.trans (List.Perm.of_eq (getD_rangeL ts))
end L2
namespace L2
open PySem PySem.Spec PyProof.Rows
theorem qBx {X:Cx} {target iter elt:Expr} {ifs:List Expr} {scope sc:Scope} {pos:Pos} {N N':List Str} {sub:List (Option Nat)} {wi:TI} {g:TG} {tt:TT} {te:TE} (hN:X.N=N) (hsc:X.env.scope=sc)
  (O:CmpOk N sc N' scope sub) (hc:X.calm=true) (hi:PI X target iter wi)
  (B:∀ C s H fp,PG (qDa X scope N' C s H fp) target g/\PTs (qDa X scope N' C s H fp) ifs tt/\PE (qDa X scope N' C s H fp) elt te)
  (hs:∀ x,foldedSetIterable iter X.env x=pure x:=by intro _;rfl):PE X (.ListComp elt [⟨target,iter,ifs,0⟩] scope pos) (tComp sub wi g tt te) :=
 pe_comp hc (by rw [hN,hsc];exact O) hi B hs
theorem ps_lc {X:Cx} {target iter elt:Expr} {ifs:List Expr} {scope sc:Scope} {pos:Pos} {N N':List Str} {sub:List (Option Nat)} {wi:TI} {g:TG} {tt:TT} {te:TE} {i:Nat} {y:Str} {py spos:Pos} (hN:X.N=N) (hsc:X.env.scope=sc)
  (O:CmpOk N sc N' scope sub) (hc:X.calm=true) (hi:PI X target iter wi)
  (B:∀ C s H fp,PG (qDa X scope N' C s H fp) target g/\PTs (qDa X scope N' C s H fp) ifs tt/\PE (qDa X scope N' C s H fp) elt te)
  (nd:X.N.Nodup) (hy:X.N[i]?=some y) (hx:Loc X.env.scope y)
  (hsw:swapsWith (.ListComp elt [⟨target,iter,ifs,0⟩] scope pos) (some (.Name y py)) spos.line X.env=pure true:=by rfl)
  (hs:∀ x,foldedSetIterable iter X.env x=pure x:=by intro _;rfl) (hf:X.fn y=true\/X.env.scope.names.lookup y=some .local:=by first | exact .inl rfl | exact .inr rfl | assumption) :
  PS X (.Assign [.Name y py] (.ListComp elt [⟨target,iter,ifs,0⟩] scope pos) spos) (tAsg (tComp sub wi g tt te) (gName i)) :=
 ps_comp hc (by rw [hN,hsc];exact O) hi B nd hy hx hsw hs hf
end L2
namespace My
open PySem L2
def top (i:Nat):Stmt:=PySem.Challenge.pw_roundsalone_k17_whole_taken_and_crossed.main.body.getD i (.Pass ⟨0,0,0,0⟩)
abbrev sMask:Stmt:=top 4
abbrev qFg:Stmt:=top 5
abbrev sLess:Stmt:=top 6
abbrev sRedu:Stmt:=top 7
abbrev sSums:Stmt:=top 8
abbrev sLead:Stmt:=top 9
abbrev sCrM:Stmt:=top 10
abbrev sLack:Stmt:=top 11
abbrev sTabF:Stmt:=top 12
abbrev qFf:Stmt:=top 14
abbrev sStps:Stmt:=top 15
abbrev sAlk:Stmt:=top 16
abbrev qGj:Stmt:=top 17
abbrev sLeft:Stmt:=top 19
abbrev qGh:Stmt:=top 20
abbrev sShr:Stmt:=top 21
abbrev qEm:Stmt:=top 23
abbrev sRMas:Stmt:=top 24
abbrev qDq:Stmt:=top 25
abbrev qGg:Stmt:=top 26
abbrev sRank:Stmt:=top 27
abbrev sCell:Stmt:=top 29
abbrev sBig:Stmt:=top 30
abbrev qFh:Stmt:=top 31
abbrev sEnds:Stmt:=top 32
abbrev sNet:Stmt:=top 33
abbrev sLRed:Stmt:=top 34
abbrev qEl:Stmt:=top 35
abbrev sLCro:Stmt:=top 36
abbrev qF9:Stmt:=top 37
abbrev sLMor:Stmt:=top 38
abbrev sLRow:Stmt:=top 39
abbrev sLFre:Stmt:=top 40
abbrev sLSto:Stmt:=top 41
abbrev sLTab:Stmt:=top 42
abbrev sLCop:Stmt:=top 43
abbrev sLaw:Stmt:=top 44
def Ext (H H':Hp):Prop:=∀ b o,H b=some o->H' b=some o
theorem Ext.refl (H:Hp):Ext H H:=fun _ _ h=>h
theorem Ext.trans {H H1 H2:Hp} (a:Ext H H1) (b:Ext H1 H2):Ext H H2:=fun c o h=>b c o (a c o h)
theorem Ext.new {H:Hp} {p:Addr} (h:H p=none) (o:HO):Ext H (upd H p o):=fun b u q=>by rw [qAm (qAl q h)];exact q
theorem Ext.none {H H':Hp} (e:Ext H H') {p:Addr} (h:H' p=none):H p=none:=by
 cases q:H p with
 | none=>rfl
 | some o=>rw [e p o q] at h;cases h
theorem Ext.sqL {K:PySem.W.Frag} {H H':Hp} {a:Addr} {xs:List V} (e:Ext H H') (h:SqL K H a xs):SqL K H' a xs:=by
 rcases h with (h | ⟨o,h⟩) | h
 ·exact .inl (.inl (e _ _ h))
 ·exact .inl (.inr ⟨o,e _ _ h⟩)
 ·exact .inr h
def spCell (K:PySem.W.Frag):Sp:=fun vs H Q _=>∃ (a:Addr) (ns:List Int) (k:Int),vs=[.ref a,.int k]/\SqL K H a (ns.map V.int)/\0<=k/\∀ v,Q (.int v) H
section
variable {P:Program} {w:World} {K:PySem.W.Frag} {mg:Str->Option Value} {base:Heap} {f f1:Addr} {fd fd1:FuncData}
theorem scCell:FnScope ["_law_script","_law_k"] ["_law_script","_law_k"] (qAc sCell):=⟨rfl,rfl,rfl,by decide +kernel,rfl,by decide +kernel,by decide +kernel⟩
theorem ok_cell (F:Fun K "_law_cell_at" "_law_cell_at" sCell f fd) (ml:mg "len" = none):FnOk P w K mg base CX0 1 f fd ["_law_script","_law_k"] (spCell K):=by
 refine F.ok scCell (fun vs H Q E h=>?_) (fun cdv A outer s H vs Q E hr h=>?_)
 ·obtain ⟨a,ns,k,rfl,_⟩:=h
  rfl
 obtain ⟨a,ns,k,rfl,hS,h0,q⟩:=h
 refine ⟨_,qAb (qB6 (qAo qFs (pv 1) (qAs qAv rfl ml PySem.boot_len (qAa (pv 0) qAd)) (qAx _)) (qAf (qAw (qBg qCc (pv 0) (pv 1) (fun _ _=>rfl)))) qA8) (qAf (qAw qAe)),?_⟩
 refine ⟨_,rfl,_,rfl,a,_,rfl,.inl hS,_,_,rfl,rfl,_,rfl,?_⟩
 refine qCg (fun c=>?_) (fun c=>q 0)
 have c':k<(((ns.map V.int).length:Nat):Int):=of_decide_eq_true c
 rw [List.length_map] at c'
 have hk:k.toNat<ns.length:=by omega
 have hv:atI (ns.map V.int) ((k.toNat:Nat):Int)=some (.int ns[k.toNat]):=qAy (by rw [List.getElem?_map,List.getElem?_eq_getElem hk] <;> rfl)
 rw [Int.toNat_of_nonneg h0] at hv
 exact ⟨_,rfl,_,rfl,a,_,_,_,rfl,rfl,hS,hv,q _⟩
end
end My
namespace My
open PySem L2
theorem boot_abs':bootBuiltins "abs" = some (.builtin "abs"):=by decide +kernel
theorem boot_range':bootBuiltins "range" = some (.type "range"):=by decide +kernel
theorem boot_any':bootBuiltins "any" = some (.builtin "any"):=by decide +kernel
end My
namespace My
open PySem L2
section
variable {σ0:St} {g:TG} {tt:TT} {te:TE} {Q:List V->Hp->Prop} {H1:Hp}
theorem turns_pure {K:PySem.W.Frag} {a:Addr} {xs:List V} (f:V->Option V) (hS:SqL K H1 a xs) (hz:xs.length<=sizeLine)
  (hs:∀ x∈xs,∀ C:Option V->Hp->Prop,C (f x) H1->g x σ0 H1 fun σ2 H2=>Sle σ0 σ2/\tt σ2 H2 fun b H3=>if b=true then te σ2 H3 (fun v H4=>C (some v) H4) else C none H3)
  (hd:Q (xs.filterMap f) H1):qDo (Itl K a) σ0 g tt te Q H1:=by
 refine qAu (xs:=xs) (fun i ys H=>H=H1/\ys=(xs.take i).filterMap f) ⟨rfl,by simp⟩ (fun i ys H _ h=>by rw [h.1];exact hS) ?_ ?_
 ·rintro i x ys H hx ⟨rfl,rfl⟩
  have hi:i<xs.length:=(List.getElem?_eq_some_iff.mp hx).1
  have hm:x∈xs:=List.mem_of_getElem? hx
  have tk:(xs.take (i+1)).filterMap f=(xs.take i).filterMap f++(f x).toList:=by
   rw [List.take_add_one,hx,List.filterMap_append]
   cases e:f x <;> simp [e]
  have hl:((xs.take i).filterMap f).length<sizeLine:=by
   have h1:=List.length_filterMap_le f (xs.take i)
   rw [List.length_take] at h1
   omega
  refine hs x hm (fun o H4=>match o with | some v=>((xs.take i).filterMap f).length<sizeLine/\Nxt xs.length i _ ((xs.take i).filterMap f++[v]) H4 | none=>Nxt xs.length i _ ((xs.take i).filterMap f) H4) ?_
  cases e:f x with
  | none=>exact nxt hi ⟨rfl,by rw [tk,e];simp⟩
  | some v=>exact ⟨hl,nxt hi ⟨rfl,by rw [tk,e];simp⟩⟩
 ·rintro ys H ⟨rfl,rfl⟩
  rw [List.take_of_length_le (Nat.le_refl _)]
  exact hd
end
theorem qDu (n:Str):∀ other:List Str,inV (.str n) (other.map V.str)=decide (n∈other)
 | []=>by simp [inV]
 | x :: r=>by
  have ih:=qDu n r
  unfold inV at ih ⊢
  rw [List.map_cons,List.any_cons,ih]
  show (x == n || decide (n∈r))=_
  by_cases e:n=x
  ·subst e;simp
  ·have e':¬x=n:=fun z=>e z.symm
   simp [e,e']
theorem flat_strs:∀ other:List Str,(other.map V.str).all flatV=true:=fun other=>by
 rw [List.all_eq_true]
 intro x hx
 obtain ⟨y,_,rfl⟩:=List.mem_map.mp hx
 rfl
def LsS (H:Hp) (a:Addr) (ss:List Str):Prop:=H a=some (.lst (ss.map V.str))
end My
namespace My
open PySem L2
abbrev sg:Str:="abcdefghijklmnopqrstuvwxyz0123456789"
def sgC (n:Nat):Nat:=sg.cps.toList.getD n 0
theorem sg_len:sg.cps.toList.length=36:=by decide +kernel
theorem sg_nd:sg.cps.toList.Nodup:=by decide +kernel
theorem sg_small:∀ c∈sg.cps.toList,c<128:=by decide +kernel
theorem sg_at {i:Int} (h0:0<=i) (h1:i<36):atI sg.cps.toList i=some (sgC i.toNat):=by
 have hk:i.toNat<sg.cps.toList.length:=by rw [sg_len];omega
 have:=qAy (xs:=sg.cps.toList) (j:=i.toNat) (v:=sgC i.toNat) (by
  unfold sgC
  rw [List.getD_eq_getElem?_getD,List.getElem?_eq_getElem hk];rfl)
 rw [Int.toNat_of_nonneg h0] at this
 exact this
theorem sgC_inj {i j:Nat} (hi:i<36) (hj:j<36) (e:sgC i=sgC j):i=j:=by
 have hi':i<sg.cps.toList.length:=by rw [sg_len];exact hi
 have hj':j<sg.cps.toList.length:=by rw [sg_len];exact hj
 unfold sgC at e
 rw [List.getD_eq_getElem?_getD,List.getD_eq_getElem?_getD,List.getElem?_eq_getElem hi',List.getElem?_eq_getElem hj'] at e
 exact (List.getElem_inj sg_nd).mp e
theorem sgC_small {i:Nat} (hi:i<36):sgC i<128:=by
 have hi':i<sg.cps.toList.length:=by rw [sg_len];exact hi
 unfold sgC
 rw [List.getD_eq_getElem?_getD,List.getElem?_eq_getElem hi']
 exact sg_small _ (List.getElem_mem hi')
def Sm (x:Str):Prop:=∀ c∈x.cps.toList,c<128
theorem Sm.ok {x:Str} (h:Sm x):PyData.strOk x=true:=by
 unfold PyData.strOk
 rw [Array.all_eq_true_iff_forall_mem]
 intro c hc
 have:=h c (by simpa using hc)
 exact decide_eq_true (by omega)
theorem Sm.app {x y:Str} (h:Sm x) (h':Sm y):Sm (x++y):=fun c hc=>by
 rw [Str.cps_append,Array.toList_append,List.mem_append] at hc
 exact hc.elim (h c) (h' c)
theorem Sm.one {c:Nat} (h:c<128):Sm ⟨#[c]⟩:=fun d hd=>by
 have:d=c:=by simpa using hd
 omega
theorem Sm.nil:Sm "":=fun c hc=>by
 have:c∈([]:List Nat):=hc
 cases this
theorem Sm.slice {x:Str} (h:Sm x) (l u:Option Int):Sm (Txt.slice x l u):=fun c hc=>by
 unfold Txt.slice at hc
 split at hc
 ·exact h c hc
 ·simp only [List.mem_filterMap] at hc
  obtain ⟨i,_,hi⟩:=hc
  exact h c (by simpa using Array.mem_of_getElem? hi)
end My
namespace My
open PySem L2
def qEn (r:List Str):PyData:=.list (r.map .str)
def rowsD (F:List (List Str)):PyData:=.list (F.map qEn)
theorem eqv_strs:∀ a b:List Str,PyData.eqvAll (a.map .str) (b.map .str)=decide (a=b)
 | [],[]=>rfl
 | [],_ :: _=>rfl
 | _ :: _,[]=>rfl
 | x :: a,y :: b=>by
  show (x == y && PyData.eqvAll (a.map .str) (b.map .str))=_
  rw [eqv_strs a b]
  by_cases e:x=y
  ·subst e;simp
  ·simp [e]
theorem eqv_row (a b:List Str):PyData.eqv (qEn a) (qEn b)=decide (a=b):=eqv_strs a b
def SOk (r:List Str):Prop:=∀ x∈r,PyData.strOk x=true
theorem lay_strs:∀ {r:List Str},SOk r->PyData.canLayAll0 (r.map .str)=true/\PyData.depthAll (r.map .str)=0
 | [],_=>⟨rfl,rfl⟩
 | x :: r,h=>by
  obtain ⟨h1,h2⟩:=lay_strs (r:=r) fun y hy=>h y (List.mem_cons_of_mem _ hy)
  refine ⟨?_,?_⟩
  ·show (PyData.strOk x && PyData.canLayAll0 (r.map .str))=true
   rw [h1,h x List.mem_cons_self];rfl
  ·show max 0 (PyData.depthAll (r.map .str))=0
   rw [h2];rfl
theorem qDg {r:List Str} (h:SOk r):SeqAt.shaped (qEn r)=true:=by
 obtain ⟨h3,h4⟩:=lay_strs h
 show (PyData.canLayAll0 (r.map .str) && decide (PyData.depthAll (r.map .str)+1<=64))=true
 rw [h3,h4];rfl
theorem dr_strs {K:PySem.W.Frag} {H:Hp}:∀ r:List Str,DRs K H (r.map V.str) (r.map .str)
 | []=>.nil
 | x :: r=>.cons (.str x) (dr_strs r)
theorem dr_row {K:PySem.W.Frag} {H:Hp} {a:Addr} {r:List Str} (h:LsS H a r):DR K H (.ref a) (qEn r):=.lst (SqL.of h) (dr_strs r)
end My
namespace My
open PySem L2
theorem room64 {k:Nat} {A:Around} (hr:Room k A):A.units+64<cLine:=by have:=hr.un;omega
theorem qBu:bootBuiltins "list" = some (.type "list"):=by decide +kernel
theorem qB8:bootBuiltins "sorted" = some (.builtin "sorted"):=by decide +kernel
theorem boot_set':bootBuiltins "set" = some (.type "set"):=by decide +kernel
theorem boot_tuple':bootBuiltins "tuple" = some (.type "tuple"):=by decide +kernel
end My
namespace L2
open PySem PySem.Spec PyProof.Rows
def tCut (Pm:St->Hp->Prop) (t:TS):TS:=fun D σ H=>t { D with nx:=Pm } σ H/\∀ σ' H',Pm σ' H'->D.nx σ' H'
theorem qGn {X:Cx} {st:Stmt} {t:TS} (Pm:St->Hp->Prop) (h:PS X st t):PS X st (tCut Pm t):=by
 intro pins s σ H D I hw
 refine thn (h pins s σ H { D with nx:=Pm } I hw.1) fun fl s' q=>?_
 cases fl with
 | next=>obtain ⟨σ',H',I',q⟩:=q;exact ⟨σ',H',I',hw.2 σ' H' q⟩
 | brk=>exact q
 | cont=>exact q
 | ret u=>exact q
end L2
namespace My
open PySem L2
theorem snoc_ind {α:Type} {P:List α->Prop} (h0:P []) (hs:∀ l t,P l->P (l++[t])) (l:List α):P l:=by
 have:∀ r:List α,P r.reverse:=fun r=>by
  induction r with
  | nil=>exact h0
  | cons a r ih=>rw [List.reverse_cons];exact hs _ _ ih
 have q:=this l.reverse
 rwa [List.reverse_reverse] at q
abbrev Tr:=Str×Str×Str
abbrev lab (f:Str->Str) (t:Tr):Str->Str:=fun p=>if f p=f t.2.2 then f t.2.1 else f p
def homF (net:List Tr):Str->Str:=net.foldl lab id
def isPt (net:List Tr) (x:Str):Prop:=∃ t∈net,x=t.2.1\/x=t.2.2
def wStep (kept:List Tr) (t:Tr):List Tr:=if homF kept t.2.1=homF kept t.2.2 then kept else kept++[t]
def woodF (net:List Tr):List Tr:=net.foldl wStep []
end My
namespace My
open PySem L2
abbrev Rise (l:List Str):Prop:=l.Pairwise fun a b=>sLtB a b=true
end My
namespace My
open PySem L2
abbrev trV (t:Tr):List V:=[.str t.1,.str t.2.1,.str t.2.2]
def NetAt (H:Hp) (p:Addr) (net:List Tr):Prop:=∃ as:List Addr,H p=some (.lst (as.map V.ref))/\Paired (fun a t=>H a=some (.tup (trV t))) as net
theorem qBf {α β:Type} {R:α->β->Prop}:∀ {as:List α} {bs:List β} {i:Nat} {a:α},Paired R as bs->as[i]?=some a->∃ b,bs[i]?=some b/\R a b
 | _,_,_,_,.nil,e=>by simp at e
 | _,_,0,_,.cons h _,e=>by simp at e;subst e;exact ⟨_,rfl,h⟩
 | _,_,i+1,_,.cons _ t,e=>by
  obtain ⟨b,h1,h2⟩:=qBf (i:=i) t (by simpa using e)
  exact ⟨b,by simpa using h1,h2⟩
theorem net_get {H:Hp} {as:List Addr} {net:List Tr} {i:Nat} {x:V} (h:Paired (fun a t=>H a=some (.tup (trV t))) as net) (e:(as.map V.ref)[i]?=some x):∃ a t,x = .ref a/\net[i]?=some t/\H a=some (.tup (trV t)):=by
 rw [List.getElem?_map] at e
 cases ha:as[i]? with
 | none=>rw [ha] at e;cases e
 | some a =>
  rw [ha] at e
  obtain ⟨t,h1,h2⟩:=qBf h ha
  exact ⟨a,t,(Option.some.inj e).symm,h1,h2⟩
theorem qAn {α:Type} {l:List α} {i:Nat} {t:α} (h:l[i]?=some t):l.take (i+1)=l.take i++[t]:=by rw [List.take_add_one,h];rfl
theorem qA7 {α:Type} {l:List α} {i:Nat} {t:α} (h:l[i]?=some t):i<l.length:=(List.getElem?_eq_some_iff.mp h).1
theorem rise_go:∀ (l:List Str) (p:Str),PyProof.Rows.risingS p l=true->(p :: l).Nodup->Rise (p :: l)
 | [],p,_,_=>List.pairwise_singleton _ _
 | x :: r,p,h,nd=>by
  have h':(!PySem.Spec.ltCps x.cps.toList p.cps.toList && PyProof.Rows.risingS x r)=true:=h
  rw [Bool.and_eq_true] at h'
  have nd':=List.nodup_cons.mp nd
  have ih:=rise_go r x h'.2 nd'.2
  have px:sLtB p x=true:=by
   have z:=h'.1
   rw [PyProof.Rows.ltCps_eq] at z
   rcases sLtB_tri p x with t | t | t
   ·exact t
   ·exact absurd t (fun e=>nd'.1 (by rw [e];exact List.mem_cons_self))
   ·rw [decide_eq_true (of_decide_eq_true t)] at z;cases z
  refine List.pairwise_cons.mpr ⟨fun y hy=>?_,ih⟩
  rcases List.mem_cons.mp hy with e | hy
  ·rw [e];exact px
  ·exact qGi px ((List.pairwise_cons.mp ih).1 y hy)
theorem rise_of {l:List Str} (h:PyProof.Rows.sortedS l=true) (nd:l.Nodup):Rise l:=by
 cases l with
 | nil=>exact List.Pairwise.nil
 | cons x r=>exact rise_go r x h nd
def PtsOk (net:List Tr) (ps:List Str):Prop:=ps.Nodup/\∀ x,x∈ps↔isPt net x
end My
namespace My
open PySem L2
theorem Ext.over {H H':Hp} {d:Addr} (e:Ext H H') (h:H d=Option.none) (o:HO):Ext H (upd H' d o):=fun b u q=>by rw [qAm (qAl q h)];exact e b u q
def hD (ps:List Str) (f:Str->Str):List (Key×V):=ps.map fun p=>(Sum.inr p,V.str (f p))
end My
namespace My
open PySem L2
def qCo (H:Hp) (p:Addr) (F:List (List Str)):Prop:=∃ as:List Addr,H p=some (.lst (as.map V.ref))/\Paired (LsS H) as F
theorem qCo.ext {H H':Hp} {p:Addr} {F:List (List Str)} (h:qCo H p F) (e:Ext H H'):qCo H' p F:=by
 obtain ⟨as,h1,h2⟩:=h
 exact ⟨as,e _ _ h1,Paired.mapP h2 fun a r z=>e _ _ z⟩
def RowsY (H0 H:Hp) (fo:Addr) (F:List (List Str)):Prop:=∃ as:List Addr,H fo=some (.lst (as.map V.ref))/\Paired (fun a r=>LsS H a r/\H0 a=none/\a≠fo) as F
theorem RowsY.rows {H0 H:Hp} {p:Addr} {F:List (List Str)} (h:RowsY H0 H p F):qCo H p F:=by
 obtain ⟨as,h1,h2⟩:=h
 exact ⟨as,h1,Paired.mapP h2 fun a r z=>z.1⟩
theorem getD_rangeA (as:List Addr):(List.range as.length).map (fun i=>as.getD i 0)=as:=by
 refine List.ext_getElem? fun i=>?_
 by_cases hi:i<as.length
 ·rw [List.getElem?_map,List.getElem?_range hi,List.getElem?_eq_getElem hi]
  show some (as.getD i 0)=_
  rw [List.getD_eq_getElem?_getD,List.getElem?_eq_getElem hi];rfl
 ·rw [List.getElem?_eq_none (by simp;omega),List.getElem?_eq_none (by omega)]
theorem pick_perm {as:List Addr} {o:Array Nat} (g:Gd as.length o):(o.toList.map fun i=>as.getD i 0).Perm as :=
 ((Array.perm_iff_toList_perm.mp g).map fun i=>as.getD i 0).trans (List.Perm.of_eq (getD_rangeA as))
end My
namespace My
open PySem L2
def spBig (K:PySem.W.Frag):Sp:=fun vs H Q _=>∃ (a:Addr) (ns:List Int) (k:Int),vs=[.ref a,.int k]/\SqL K H a (ns.map V.int)/\0<=k/\k<=100/\∀ v,Q (.int v) H
def Tx (ss:List Str):Prop:=∀ s∈ss,Sm s
def spNames:Sp:=fun vs H Q _=>∃ (b n:Int),vs=[.int b,.int n]/\0<=n/\n<=100/\∀ (r:Addr) (ss:List Str) (H':Hp),Ext H H'->H r=none->LsS H' r ss->ss.length=n.toNat->Tx ss->(n<=36->ss.Nodup)->Q (.ref r) H'
def nmF (pre post:Str) (f:Int) (k:Nat):Str:=pre++⟨#[sgC ((f+7*(0+(k:Int))) % 36).toNat]⟩++post
theorem nmF_inj {pre post:Str} {f:Int} {i j:Nat} (hi:i<36) (hj:j<36) (e:nmF pre post f i=nmF pre post f j):i=j:=by
 have e1:=congrArg (fun s:Str=>s.cps.toList) e
 unfold nmF at e1
 simp only [Str.cps_append,Array.toList_append] at e1
 have e2:=List.append_cancel_left (List.append_cancel_right e1)
 have a0:=Int.emod_nonneg (f+7*(0+(i:Int))) (show (36:Int)≠0 by decide)
 have a1:=Int.emod_lt_of_pos (f+7*(0+(i:Int))) (show (0:Int)<36 by decide)
 have b0:=Int.emod_nonneg (f+7*(0+(j:Int))) (show (36:Int)≠0 by decide)
 have b1:=Int.emod_lt_of_pos (f+7*(0+(j:Int))) (show (0:Int)<36 by decide)
 have e3:sgC ((f+7*(0+(i:Int))) % 36).toNat=sgC ((f+7*(0+(j:Int))) % 36).toNat:=by simpa using e2
 have e4:=sgC_inj (by omega) (by omega) e3
 omega
theorem nd_range {g:Nat->Str}:∀ {n:Nat},(∀ i j,i<n->j<n->g i=g j->i=j)->((List.range n).map g).Nodup
 | 0,_=>List.nodup_nil
 | n+1,h=>by
  rw [List.range_succ,List.map_append,List.nodup_append]
  refine ⟨nd_range fun i j hi hj=>h i j (by omega) (by omega),by simp,fun a ha b hb=>?_⟩
  obtain ⟨i,hi,rfl⟩:=List.mem_map.mp ha
  rw [List.map_singleton,List.mem_singleton] at hb
  subst hb
  rw [List.mem_range] at hi
  intro z
  have:=h i n (by omega) (by omega) z
  omega
section
variable {P:Program} {w:World} {K:PySem.W.Frag} {mg:Str->Option Value} {base:Heap} {f f1 f2:Addr} {fd fd1 fd2:FuncData}
abbrev bgN:List Str:=["_law_script","_law_k","_law_x","_law_total","_law_j"]
theorem scBig:FnScope bgN ["_law_script","_law_k"] (qAc sBig):=⟨rfl,rfl,rfl,by decide +kernel,rfl,by decide +kernel,by decide +kernel⟩
theorem ok_big (F:Fun K "_law_big" "_law_big" sBig f fd) (G:FnOk P w K mg base CX0 1 f1 fd1 ["_law_script","_law_k"] (spCell K)) (bG:qA1 K fd1 ["_law_script","_law_k"] []) (kG:PySem.W.keepIn K (.ref f1)=true) (mG:mg "_law_cell_at" = some (.ref f1)) (mr:mg "range" = none) (ma:mg "abs" = none) :
  FnOk P w K mg base CX0 2 f fd ["_law_script","_law_k"] (spBig K):=by
 refine F.ok scBig (fun vs H Q E h=>?_) (fun cdv A outer s H vs Q E hr h=>?_)
 ·obtain ⟨a,ns,k,rfl,_⟩:=h
  rfl
 obtain ⟨a,ns,k,rfl,hS,h0,h1,q⟩:=h
 refine ⟨_,qAb (qB6 (qAo op_ge (qAs call_abs rfl ma boot_abs' (qAa (qAg G hr rfl mG kG bG .nil qAt (qAa (pv 0) (qAa (pv 1) qAd))) qAd)) (qAh op_pow qAe qAe) (qAx _))
   (qAf (qAw (qAh qDk (qAs call_abs rfl ma boot_abs' (qAa (qAg G hr rfl mG kG bG .nil qAt (qAa (pv 0) (qAa (pv 1) qAd))) qAd)) (qAh op_pow qAe qAe)))) qA8)
  (qAb (qAj (i:=2) scBig.nd rfl (Or.inl rfl) (qAh qBk (qAh qBk (qAh qBk (qAh qBe (qAg G hr rfl mG kG bG .nil qAt (qAa (pv 0) (qAa qAe qAd))) qAe) (qAh qDl qAe (pv 1))) (qAh qDl qAe (qAg G hr rfl mG kG bG .nil qAt (qAa (pv 0) (qAa (pv 1) qAd))))) qAe))
  (qAb (qAj (i:=2) scBig.nd rfl (Or.inl rfl) (qAh qBk (qAh qBe (pv 2) qAe) qAe))
  (qAb (qAj (i:=3) scBig.nd rfl (Or.inl rfl) qAe)
  (qAb (qBi PassesOwn.never rfl (qBj rfl mr (qAa qAe qAd)) (qAi (i:=4) scBig.nd rfl (Or.inl rfl))
   (qAb (qAj (i:=2) scBig.nd rfl (Or.inl rfl) (qAh qBe (qAh qBk (qAh qBk (qAh qBk (qAh qDl (pv 2) qAe) (qAh qA4 (pv 2) qAe)) (qAh qDl (qAh qDl qAe (pv 4)) (pv 4))) (pv 1)) qAe))
   (qAf (qAj (i:=3) scBig.nd rfl (Or.inl rfl) (qAh qBk (qAh qDl (pv 3) qAe) (qAh qBe (qAh qDl (pv 2) qAe) qAe))))))
  (qAf (qAw (pv 3))))))),?_⟩
 refine ⟨_,rfl,_,rfl,a,ns,k,rfl,hS,h0,fun v=>⟨v,rfl,?_⟩⟩
 refine ⟨_,_,rfl,rfl,⟨by decide,by decide,by decide⟩,_,_,rfl,rfl,_,rfl,?_⟩
 refine qCg (fun c=>?_) (fun c=>?_)
 ·refine ⟨_,rfl,_,rfl,a,ns,k,rfl,hS,h0,fun v=>⟨v,rfl,?_⟩⟩
  exact ⟨_,_,rfl,rfl,⟨by decide,by decide,by decide⟩,_,_,rfl,rfl,q _⟩
 refine ⟨_,rfl,a,ns,0,rfl,hS,by decide,fun v1=>?_⟩
 refine ⟨_,_,rfl,rfl,(by show (0:Int)<_;decide),_,rfl,_,_,rfl,rfl,.inl ⟨by decide,by decide⟩,_,_,rfl,rfl,?_⟩
 refine ⟨_,rfl,_,rfl,a,ns,k,rfl,hS,h0,fun v2=>?_⟩
 refine ⟨_,_,rfl,rfl,.inl ⟨by decide,by decide⟩,_,_,rfl,rfl,_,_,rfl,rfl,?_⟩
 refine ⟨_,rfl,_,_,rfl,rfl,(by show (0:Int)<_;decide),_,_,rfl,rfl,?_⟩
 refine ⟨8,rfl,by decide,by decide,qB1 (lo:=0) (n:=8) (fun i σ H'=>H'=H/\∃ (x t:Int) (z:Option V),σ=[some (.ref a),some (.int k),some (.int x),some (.int t),z]) ⟨rfl,_,0,none,rfl⟩ ?_ ?_⟩
 ·rintro i σ H' hi ⟨rfl,x,t,z,rfl⟩
  refine ⟨_,rfl,_,_,rfl,rfl,.inr ⟨by decide,by decide⟩,_,rfl,_,_,rfl,rfl,⟨by decide,by decide⟩,_,_,rfl,rfl,?_⟩
  refine ⟨_,rfl,_,_,rfl,rfl,.inl ⟨by decide,by decide⟩,_,rfl,_,_,rfl,rfl,.inr ⟨by omega,by omega⟩,_,_,rfl,rfl,?_⟩
  refine ⟨_,rfl,_,_,rfl,rfl,_,_,rfl,rfl,(by show (0:Int)<_;decide),?_⟩
  refine ⟨_,rfl,_,_,rfl,rfl,.inr ⟨by decide,by decide⟩,_,rfl,_,_,rfl,rfl,.inr ⟨by decide,by decide⟩,_,_,rfl,rfl,(by show (0:Int)<_;decide),_,_,rfl,rfl,?_⟩
  exact ⟨rfl,_,_,_,rfl⟩
 ·rintro σ H' ⟨rfl,x,t,z,rfl⟩
  exact ⟨_,rfl,q _⟩
abbrev naN:List Str:=["_law_big_here","_law_many","_law_signs","_law_word","_law_k","_law_spot","_law_first","_law_head","_law_tail"]
theorem qCp:FnScope naN ["_law_big_here","_law_many"] (qAc qFh):=⟨rfl,rfl,rfl,by decide +kernel,rfl,by decide +kernel,by decide +kernel⟩
theorem ok_names (F:Fun K "_law_names" "_law_names" qFh f fd) (mr:mg "range" = none) (ml:mg "len" = none):FnOk P w K mg base CX0 1 f fd ["_law_big_here","_law_many"] spNames:=by
 refine F.ok qCp (fun vs H Q E h=>?_) (fun cdv A outer s H vs Q E hr h=>?_)
 ·obtain ⟨b,n,rfl,_⟩:=h
  rfl
 obtain ⟨b,n,rfl,n0,n1,q⟩:=h
 refine ⟨_,qAb (qAj (i:=2) qCp.nd rfl (Or.inr rfl) pe_str)
  (qAb (qAj (i:=3) qCp.nd rfl (Or.inl rfl) pe_str)
  (qAb (qBi PassesOwn.never rfl (qBj rfl mr (qAa (qAh qBk qAe (qAh qBe (pv 0) qAe)) qAd)) (qAi (i:=4) qCp.nd rfl (Or.inl rfl))
   (qAb (qAj (i:=3) qCp.nd rfl (Or.inl rfl) (qAh qEb (pv 3) (qBg ix_str (pv 2) (qAh qBe (qAh qA4 (pv 0) qAe) qAe) (fun _ _=>rfl))))
   (qAf (qAj (i:=0) qCp.nd rfl (Or.inl rfl) (qAh qA4 (pv 0) qAe)))))
  (qAb (qAj (i:=5) qCp.nd rfl (Or.inl rfl) (qAh qBe (qAh qA4 (pv 0) qAe) (qAs call_len_str rfl ml PySem.boot_len (qAa (pv 3) qAd))))
  (qAb (qAj (i:=6) qCp.nd rfl (Or.inr rfl) (qAh qBe (qAh qA4 (pv 0) qAe) qAe))
  (qAb (qGo (qCm (qAa (qCy sl_str (pv 3) qDs (qDr (pv 5))) (qAa (qCy sl_str (pv 3) (qDr (qAh qBk (pv 5) qAe)) qDs) qAd))) (qC5 rfl (qAz (qAi (i:=7) qCp.nd rfl (Or.inr rfl)) (qAz (qAi (i:=8) qCp.nd rfl (Or.inr rfl)) qCb))))
  (qAf (qAw (qBx (N:=naN) (sc:=qAc qFh) (N':=["_law_k","_law_head","_law_signs","_law_first","_law_tail"]) (sub:=[none,some 7,some 2,some 6,some 8]) rfl rfl (CmpOk.of (by decide +kernel)) rfl (qBj rfl mr (qAa (pv 1) qAd))
   (fun C s H fp=>⟨qAi (i:=0) (by show (["_law_k","_law_head","_law_signs","_law_first","_law_tail"]:List Str).Nodup;decide) rfl (Or.inl rfl),qBb,
    qAh qEb (qAh qEb (pv 1) (qBg ix_str (pv 2) (qAh qBe (qAh qBk (pv 3) (qAh qDl qAe (pv 0))) qAe) (fun _ _=>rfl))) (pv 4)⟩))))))))),?_⟩
 have b6:=Int.emod_nonneg b (show (6:Int)≠0 by decide)
 have b6':=Int.emod_lt_of_pos b (show (0:Int)<6 by decide)
 refine ⟨_,rfl,_,_,rfl,rfl,(by show (0:Int)<_;decide),_,_,rfl,rfl,1+b % 6,rfl,by omega,by omega,?_⟩
 refine qB1 (lo:=0) (n:=(1+b % 6).toNat) (fun i σ H'=>H'=H/\∃ (b':Int) (word:Str) (x:Option V),σ=[some (.int b'),some (.int n),some (.str sg),some (.str word),x,none,none,none,none]/\word.length=i/\Sm word) ⟨rfl,b,"",none,rfl,rfl,Sm.nil⟩ ?_ ?_
 ·rintro i σ H' hi ⟨rfl,b',word,x,rfl,hw,sm⟩
  have c1:=Int.emod_nonneg (b' / 6) (show (36:Int)≠0 by decide)
  have c2:=Int.emod_lt_of_pos (b' / 6) (show (0:Int)<36 by decide)
  refine ⟨_,rfl,_,rfl,_,rfl,_,_,rfl,rfl,⟨by decide,by decide⟩,_,_,rfl,rfl,(by show (0:Int)<_;decide),sg,_,sgC (b' / 6 % 36).toNat,rfl,rfl,by decide +kernel,sg_at c1 c2,word,⟨#[sgC (b' / 6 % 36).toNat]⟩,rfl,rfl,?_,?_⟩
  ·show word.length+1<=sizeLine
   exact Nat.le_of_lt (qAk (by omega))
  ·refine ⟨_,rfl,_,_,rfl,rfl,⟨by decide,by decide⟩,?_⟩
   refine ⟨rfl,_,_,_,rfl,?_,sm.app (Sm.one (sgC_small (by omega)))⟩
   rw [Str.length_append]
   show word.length+1=i+1
   omega
 ·rintro σ H' ⟨rfl,b',word,x,rfl,hw,sm⟩
  have wl:word.length<=sizeLine:=Nat.le_of_lt (qAk (by omega))
  have fa:=Int.emod_nonneg (b' / 216) (show (36:Int)≠0 by decide)
  have fb:=Int.emod_lt_of_pos (b' / 216) (show (0:Int)<36 by decide)
  refine ⟨_,rfl,_,_,rfl,rfl,⟨by decide,by decide⟩,_,rfl,word,rfl,wl,_,_,rfl,rfl,(by show (0:Int)<_;omega),?_⟩
  refine ⟨_,rfl,_,_,rfl,rfl,⟨by decide,by decide⟩,_,_,rfl,rfl,(by show (0:Int)<_;decide),?_⟩
  obtain ⟨spot,hsp⟩:∃ spot,b' / 6 % ((word.length:Nat):Int)=spot:=⟨_,rfl⟩
  refine ⟨_,rfl,_,rfl,_,rfl,word,rfl,wl,_,rfl,_,rfl,_,_,rfl,rfl,_,rfl,word,rfl,wl,(by show 2<=sizeLine;decide),fun T hT=>⟨T,_,rfl,SqT.of upd_same,rfl,_,_,rfl,_,_,rfl,rfl,?_⟩⟩
  have l1:=Txt.slice_le word none (some spot)
  have l2:=Txt.slice_le word (some (spot+1)) none
  have s1:=sm.slice none (some spot)
  have s2:=sm.slice (some (spot+1)) none
  have X1:=Ext.new hT (.tup [V.str (Txt.slice word none (some spot)),V.str (Txt.slice word (some (spot+1)) none)])
  refine ⟨_,rfl,n,rfl,by omega,by omega,?_⟩
  refine qE6 (lo:=0) (n:=n.toNat) (fun i ys H2=>H2=upd H' T (.tup [V.str (Txt.slice word none (some spot)),V.str (Txt.slice word (some (spot+1)) none)])/\∃ ss:List Str,ys=ss.map V.str/\ss.length=i/\Tx ss/\ss=(List.range i).map (nmF (Txt.slice word none (some spot)) (Txt.slice word (some (spot+1)) none) (b' / 216 % 36))) ⟨by rw [hsp],[],rfl,rfl,(fun s hs=>by cases hs),rfl⟩ ?_ ?_
  ·rintro i ys H2 hi ⟨rfl,ss,rfl,ls,tx,eq⟩
   have ea:=Int.emod_nonneg (b' / 216 % 36+7*(0+(i:Int))) (show (36:Int)≠0 by decide)
   have eb:=Int.emod_lt_of_pos (b' / 216 % 36+7*(0+(i:Int))) (show (0:Int)<36 by decide)
   rw [hsp]
   refine ⟨Sle.set _ (Sle.refl _) (fun u z=>by cases z),iteT (B:=False) ⟨_,rfl,_,rfl,_,rfl,_,rfl,_,_,rfl,rfl,.inl ⟨by decide,by decide⟩,_,_,rfl,rfl,_,_,rfl,rfl,(by show (0:Int)<_;decide),sg,_,sgC ((b' / 216 % 36+7*(0+(i:Int))) % 36).toNat,rfl,rfl,by decide +kernel,sg_at ea eb,_,_,rfl,rfl,?_,_,rfl,_,_,rfl,rfl,?_,?_,nxt hi ⟨rfl,ss++[Txt.slice word none (some spot)++⟨#[sgC ((b' / 216 % 36+7*(0+(i:Int))) % 36).toNat]⟩++Txt.slice word (some (spot+1)) none],?_,?_,?_,?_⟩⟩⟩
   ·show _+1<=sizeLine
    exact Nat.le_of_lt (qAk (by omega))
   ·rw [Str.length_append]
    show _+1+_<=sizeLine
    exact Nat.le_of_lt (qAk (by omega))
   ·rw [List.length_map]
    exact qAk (by omega)
   ·rw [List.map_append];rfl
   ·rw [List.length_append,ls];rfl
   ·intro s hs
    rcases List.mem_append.mp hs with z | z
    ·exact tx s z
    ·rw [List.mem_singleton] at z
     subst z
     exact (s1.app (Sm.one (sgC_small (by omega)))).app s2
   ·rw [eq,List.range_succ,List.map_append];rfl
  ·rintro ys H2 ⟨rfl,ss,rfl,ls,tx,eq⟩ r hr'
   exact q r ss _ (X1.trans (Ext.new hr' _)) (X1.none hr') upd_same ls tx (fun n36=>by rw [eq];exact nd_range fun i j hi hj=>nmF_inj (by omega) (by omega))
end
end My
namespace My
open PySem L2
abbrev enV (e:Int×Int):List V:=[.int e.1,.int e.2]
def qDd (H:Hp) (p:Addr) (es:List (Int×Int)):Prop:=∃ as:List Addr,H p=some (.lst (as.map V.ref))/\Paired (fun a e=>H a=some (.tup (enV e))) as es
theorem qDd.ext {H H':Hp} {p:Addr} {es:List (Int×Int)} (h:qDd H p es) (e:Ext H H'):qDd H' p es:=by
 obtain ⟨as,h1,h2⟩:=h
 exact ⟨as,e _ _ h1,Paired.mapP h2 fun a t z=>e _ _ z⟩
theorem qDd.snoc {H H':Hp} {k a:Addr} {as:List Addr} {net:List (Int×Int)} {t:Int×Int} (hk:H k=some (.lst (as.map V.ref))) (pr:Paired (fun a t=>H a=some (.tup (enV t))) as net) (e:Ext H H') (ha:H' a=some (.tup (enV t))):qDd (upd H' k (.lst (as.map V.ref++[V.ref a]))) k (net++[t]):=by
 have hk':=e _ _ hk
 have ne:∀ {b:Addr} {xs:List V},H' b=some (.tup xs)->b≠k:=fun h z=>by rw [z,hk'] at h;cases h
 refine ⟨as++[a],by rw [upd_same,List.map_append];rfl,?_⟩
 refine Paired.snoc (Paired.mapP pr fun b u z=>?_) ?_
 ·have z':=e _ _ z
  rw [qAm (ne z')];exact z'
 ·rw [qAm (ne ha)];exact ha
theorem at_int {hs:List Int} {i:Int} (h0:0<=i) (h1:i<(hs.length:Int)):∃ v,atI (hs.map V.int) i=some (.int v):=by
 have hk:i.toNat<hs.length:=by omega
 have hv:atI (hs.map V.int) ((i.toNat:Nat):Int)=some (.int hs[i.toNat]):=qAy (by rw [List.getElem?_map,List.getElem?_eq_getElem hk] <;> rfl)
 rw [Int.toNat_of_nonneg h0] at hv
 exact ⟨_,hv⟩
def InSp (sp:Int) (e:Int×Int):Prop:=(0<=e.1/\e.1<sp)/\0<=e.2/\e.2<sp
def spEnds:Sp:=fun vs H Q _=>∃ (b n sp:Int),vs=[.int b,.int n,.int sp]/\0<=n/\n<=12/\0<sp/\sp<=10/\∀ r es H',Ext H H'->H r=none->qDd H' r es->es.length<=n.toNat->(∀ e∈es,InSp sp e)->Q (.ref r) H'
section
variable {P:Program} {w:World} {K:PySem.W.Frag} {mg:Str->Option Value} {base:Heap} {f f1 f2:Addr} {fd fd1 fd2:FuncData}
abbrev eN:List Str:=["_law_big_here","_law_many","_law_spread","_law_heaps","_law_found","_law_high","_law_k","_law_one","_law_other","_law_gone"]
theorem qC8:FnScope eN ["_law_big_here","_law_many","_law_spread"] (qAc sEnds):=⟨rfl,rfl,rfl,by decide +kernel,rfl,by decide +kernel,by decide +kernel⟩
structure EI (H:Hp) (sp n:Int) (i:Nat) (σ:St) (H':Hp) (b' h:Int) (hp fo:Addr) (hs:List Int) (es:List (Int×Int)):Prop where
 st:∃ x6 x7 x8 x9:Option V,σ=[some (.int b'),some (.int n),some (.int sp),some (.ref hp),some (.ref fo),some (.int h),x6,x7,x8,x9]
 ext:Ext H H'
 fo0:H fo=none
 ne:hp≠fo
 hsA:H' hp=some (.lst (hs.map V.int))
 hsl:(hs.length:Int)=sp
 esA:qDd H' fo es
 esl:es.length<=i
 esi:∀ e∈es,InSp sp e
theorem ok_ends (F:Fun K "_law_ends" "_law_ends" sEnds f fd) (mr:mg "range" = none) (ml:mg "len" = none) (mL:mg "list" = none):FnOk P w K mg base CX0 1 f fd ["_law_big_here","_law_many","_law_spread"] spEnds:=by
 refine F.ok qC8 (fun vs H Q E h=>?_) (fun cdv A outer s H vs Q E hr h=>?_)
 ·obtain ⟨b,n,sp,rfl,_⟩:=h
  rfl
 obtain ⟨b,n,sp,rfl,n0,n1,p0,p1,q⟩:=h
 refine ⟨_,qAb (qAj (i:=3) qC8.nd rfl (Or.inr rfl) (qBd (call_list_rng rfl) rfl mL qBu (qAa (qBd call_range1' rfl mr boot_range' (qAa (pv 2) qAd)) qAd)))
  (qAb (qAj (i:=4) qC8.nd rfl (Or.inl rfl) (qBa qAd))
  (qAb (qAj (i:=5) qC8.nd rfl (Or.inl rfl) qAe)
  (qAb (qBi PassesOwn.never rfl (qBj rfl mr (qAa (pv 1) qAd)) (qAi (i:=6) qC8.nd rfl (Or.inl rfl))
   (qAb (qGo (qCm (qAa (qAh qBe (pv 0) (pv 2)) (qAa (qAh qBe (qAh qA4 (pv 0) (pv 2)) (pv 2)) qAd))) (qC5 rfl (qAz (qAi (i:=7) qC8.nd rfl (Or.inr rfl)) (qAz (qAi (i:=8) qC8.nd rfl (Or.inl rfl)) qCb))))
   (qAb (qAj (i:=0) qC8.nd rfl (Or.inl rfl) (qAh qA4 (qAh qA4 (pv 0) (pv 2)) (pv 2)))
   (qAf (qB6 (PW.pt (pw_and (qAo qDt (qBg qCc (pv 3) (pv 7) (fun _ _=>rfl)) (qBg qCc (pv 3) (pv 8) (fun _ _=>rfl)) (qAx _)) (qFo (qAo qFs (qAh qDk (qAs qAv rfl ml PySem.boot_len (qAa (pv 4) qAd)) (pv 5)) qAe (qAx _)))))
    (qAf (qCl (qD9 PySem.F.plainAttrs_list PySem.F.slot_list_append PySem.F.type_list_append qBp (pv 4) (qAa (qCm (qAa (pv 7) (qAa (pv 8) qAd))) qAd))))
    (qAf (qB6 (PW.pt (pw_and (qAo qFr (qBg qCc (pv 3) (pv 7) (fun _ _=>rfl)) (qBg qCc (pv 3) (pv 8) (fun _ _=>rfl)) (qAx _)) (qFo (qAo qFs (pv 5) qAe (qAx _)))))
     (qAb (qCl (qD9 PySem.F.plainAttrs_list PySem.F.slot_list_append PySem.F.type_list_append qBp (pv 4) (qAa (qCm (qAa (pv 7) (qAa (pv 8) qAd))) qAd)))
     (qAb (ps_aug (i:=5) qC8.nd rfl (Or.inl rfl) qAe ip_add)
     (qAb (qAj (i:=9) qC8.nd rfl (Or.inr rfl) (qBg qCc (pv 3) (pv 8) (fun _ _=>rfl)))
     (qAf (qAj (i:=3) qC8.nd rfl (Or.inr rfl) (qBx (N:=eN) (sc:=qAc sEnds) (N':=["_law_heap","_law_heaps","_law_one","_law_gone"]) (sub:=[none,some 3,some 7,some 9]) rfl rfl (CmpOk.of (by decide +kernel)) rfl (qAr (pv 3))
      (fun C s H fp=>⟨qAi (i:=0) (by show (["_law_heap","_law_heaps","_law_one","_law_gone"]:List Str).Nodup;decide) rfl (Or.inl rfl),qBb,pe_ifExp (qAo qDt (pv 0) (pv 3) (qAx _)) (qBg (show IxR _ (rIxL K) from qCc) (pv 1) (pv 2) (fun _ _=>rfl)) (pv 0)⟩)))))))
     qA8)))))))
  (qAf (qAw (pv 4)))))),?_⟩
 refine ⟨_,rfl,sp,rfl,by omega,by omega,fun rg hrg=>⟨rg,sp,rfl,upd_same,by omega,by omega,fun hp hhp=>?_⟩⟩
 have X1:=Ext.new hrg (.rng 0 sp)
 have X2:=X1.trans (Ext.new hhp (.lst ((List.range sp.toNat).map fun (i:Nat)=>V.int (i:Int))))
 refine ⟨Nat.zero_le _,fun fo hfo=>?_⟩
 have f0:=X2.none hfo
 refine ⟨_,rfl,n,rfl,by omega,by omega,qB1 (lo:=0) (n:=n.toNat) (fun i σ H'=>∃ b' h hp fo hs es,EI H sp n i σ H' b' h hp fo hs es)
  ⟨b,0,hp,fo,(List.range sp.toNat).map fun (i:Nat)=>(i:Int),[],⟨_,_,_,_,rfl⟩,X2.trans (Ext.new hfo _),f0,fun e=>(by rw [<-e,upd_same] at hfo;cases hfo),?_,?_,⟨[],upd_same,.nil⟩,Nat.le_refl _,fun e he=>by cases he⟩ ?_ ?_⟩
 ·rw [qAm (fun e=>by rw [<-e,upd_same] at hfo;cases hfo),upd_same,List.map_map];rfl
 ·rw [List.length_map,List.length_range];omega
 ·rintro i σ H' hi ⟨b',h,hp,fo,hs,es,⟨x6,x7,x8,x9,rfl⟩,ext,fo0,ne,hsA,hsl,esA,esl,esi⟩
  have sp0:(0:Int)<sp:=p0
  have o0:=Int.emod_nonneg b' (show sp≠0 by omega)
  have o1:=Int.emod_lt_of_pos b' p0
  have t0:=Int.emod_nonneg (b' / sp) (show sp≠0 by omega)
  have t1:=Int.emod_lt_of_pos (b' / sp) p0
  have cd:CDiv (b' / sp) sp:=⟨p0,by omega⟩
  have cd':CDiv b' sp:=⟨p0,by omega⟩
  refine ⟨_,rfl,_,rfl,_,_,rfl,rfl,p0,_,rfl,_,rfl,_,_,rfl,rfl,cd',_,rfl,_,_,rfl,rfl,p0,(by show 2<=sizeLine;decide),fun T hT=>⟨T,_,rfl,SqT.of upd_same,rfl,_,_,rfl,_,_,rfl,rfl,?_⟩⟩
  have X3:=Ext.new hT (.tup [V.int (b' % sp),V.int (b' / sp % sp)])
  refine ⟨_,rfl,_,rfl,_,_,rfl,rfl,cd',_,rfl,_,_,rfl,rfl,cd,?_⟩
  obtain ⟨v1,a1⟩:=at_int (hs:=hs) o0 (by omega)
  obtain ⟨v2,a2⟩:=at_int (hs:=hs) t0 (by omega)
  have hs3:=X3 _ _ hsA
  have es3:=esA.ext X3
  obtain ⟨as,ea1,ea2⟩:=id esA
  have la:as.length=es.length:=ea2.length
  have inn:InSp sp ((b' % sp),(b' / sp % sp)):=⟨⟨o0,o1⟩,t0,t1⟩
  refine ⟨_,rfl,_,rfl,hp,_,_,_,rfl,rfl,SqL.of hs3,a1,_,rfl,_,rfl,hp,_,_,_,rfl,rfl,SqL.of hs3,a2,rfl,_,rfl,?_⟩
  refine qCg (fun c=>?_) (fun c=>?_)
  ·refine ⟨_,rfl,fo,_,rfl,.inl (SqL.of (X3 _ _ ea1)),_,rfl,_,_,rfl,rfl,_,_,rfl,rfl,_,rfl,?_⟩
   refine qCg (fun c2=>?_) (fun c2=>?_)
   ·refine ⟨_,rfl,.inl ⟨rfl,_,SqL.of (X3 _ _ ea1)⟩,_,rfl,_,rfl,(by show 2<=sizeLine;decide),fun T2 hT2=>?_⟩
    have X4:=X3.trans (Ext.new hT2 (.tup (enV ((b' % sp),(b' / sp % sp)))))
    refine ⟨fo,_,_,rfl,rfl,X4 _ _ ea1,by rw [List.length_map];exact qAk (by omega),?_⟩
    refine ⟨_,_,hp,fo,hs,es++[((b' % sp),(b' / sp % sp))],⟨_,_,_,_,rfl⟩,(ext.trans X4).over fo0 _,fo0,ne,by rw [qAm ne];exact X4 _ _ hsA,hsl,qDd.snoc ea1 ea2 X4 upd_same,by rw [List.length_append];exact Nat.succ_le_succ esl,fun e he=>?_⟩
    rcases List.mem_append.mp he with z | z
    ·exact esi e z
    ·rw [List.mem_singleton] at z;subst z;exact inn
   ·refine ⟨_,rfl,_,rfl,hp,_,_,_,rfl,rfl,SqL.of hs3,a1,_,rfl,_,rfl,hp,_,_,_,rfl,rfl,SqL.of hs3,a2,rfl,_,rfl,?_⟩
    refine qCg (fun c3=>?_) (fun c3=>?_)
    ·have e1:v1=v2:=by simpa using c
     have e2:¬v1=v2:=by simpa using c3
     exact absurd e1 e2
    ·refine iteF ?_
     exact ⟨_,_,hp,fo,hs,es,⟨_,_,_,_,rfl⟩,ext.trans X3,fo0,ne,hs3,hsl,es3,by omega,esi⟩
  ·refine iteF ?_
   refine ⟨_,rfl,_,rfl,hp,_,_,_,rfl,rfl,SqL.of hs3,a1,_,rfl,_,rfl,hp,_,_,_,rfl,rfl,SqL.of hs3,a2,rfl,_,rfl,?_⟩
   refine qCg (fun c3=>?_) (fun c3=>?_)
   ·refine ⟨_,rfl,_,_,rfl,rfl,_,rfl,?_⟩
    refine qCg (fun c2=>?_) (fun c2=>?_)
    ·refine ⟨_,rfl,.inl ⟨rfl,_,SqL.of (X3 _ _ ea1)⟩,_,rfl,_,rfl,(by show 2<=sizeLine;decide),fun T2 hT2=>?_⟩
     have X4:=X3.trans (Ext.new hT2 (.tup (enV ((b' % sp),(b' / sp % sp)))))
     refine ⟨fo,_,_,rfl,rfl,X4 _ _ ea1,by rw [List.length_map];exact qAk (by omega),?_⟩
     have hs4:upd (upd (upd H' T (.tup [V.int (b' % sp),V.int (b' / sp % sp)])) T2 (.tup (enV ((b' % sp),(b' / sp % sp))))) fo (.lst (as.map V.ref++[V.ref T2])) hp=some (.lst (hs.map V.int)):=by rw [qAm ne];exact X4 _ _ hsA
     have en4:=qDd.snoc (t:=((b' % sp),(b' / sp % sp))) ea1 ea2 X4 upd_same
     have X5:=(ext.trans X4).over fo0 (.lst (as.map V.ref++[V.ref T2]))
     refine ⟨_,rfl,_,_,rfl,rfl,?_⟩
     refine ⟨_,rfl,_,rfl,hp,_,_,_,rfl,rfl,SqL.of hs4,a2,?_⟩
     refine ⟨_,rfl,hp,rfl,⟨_,SqL.of hs4⟩,?_⟩
     refine turns_pure (fun v=>some (if v = .int v2 then .int v1 else v)) (SqL.of hs4) (by rw [List.length_map];exact Nat.le_of_lt (qAk (by omega))) (fun x hx C hC=>?_) (fun r hr'=>?_)
     ·obtain ⟨y,_,rfl⟩:=List.mem_map.mp hx
      refine ⟨Sle.set _ (Sle.refl _) (fun u z=>by cases z),iteT (B:=False) ?_⟩
      refine ⟨_,rfl,_,rfl,rfl,_,rfl,?_⟩
      refine qCg (fun c5=>?_) (fun c5=>?_)
      ·have e5:y=v2:=by simpa using c5
       subst e5
       refine ⟨_,rfl,_,rfl,hp,_,_,_,rfl,rfl,SqL.of hs4,a1,?_⟩
       rw [if_pos rfl] at hC
       exact hC
      ·have e5:¬y=v2:=by simpa using c5
       rw [if_neg (fun z=>e5 (V.int.inj z))] at hC
       exact ⟨_,rfl,hC⟩
     ·have rf:r≠fo:=fun e=>by rw [e,upd_same] at hr';cases hr'
      have em:(hs.map V.int).filterMap (fun v=>some (if v = .int v2 then .int v1 else v))=(hs.map fun y=>if y=v2 then v1 else y).map V.int:=by
       rw [List.filterMap_eq_map',List.map_map,List.map_map]
       refine List.map_congr_left fun y _=>?_
       show (if V.int y=V.int v2 then V.int v1 else V.int y)=V.int (if y=v2 then v1 else y)
       by_cases z:y=v2
       ·subst z;rw [if_pos rfl,if_pos rfl]
       ·rw [if_neg (fun e=>z (V.int.inj e)),if_neg z]
      rw [em]
      refine ⟨_,_,r,fo,_,es++[((b' % sp),(b' / sp % sp))],⟨_,_,_,_,rfl⟩,X5.trans (Ext.new hr' _),fo0,rf,upd_same,by rw [List.length_map];exact hsl,en4.ext (Ext.new hr' _),by rw [List.length_append];exact Nat.succ_le_succ esl,fun e he=>?_⟩
      rcases List.mem_append.mp he with z | z
      ·exact esi e z
      ·rw [List.mem_singleton] at z;subst z;exact inn
    ·exact ⟨_,_,hp,fo,hs,es,⟨_,_,_,_,rfl⟩,ext.trans X3,fo0,ne,hs3,hsl,es3,by omega,esi⟩
   ·refine iteF ?_
    exact ⟨_,_,hp,fo,hs,es,⟨_,_,_,_,rfl⟩,ext.trans X3,fo0,ne,hs3,hsl,es3,by omega,esi⟩
 ·rintro σ H' ⟨b',h,hp,fo,hs,es,⟨x6,x7,x8,x9,rfl⟩,ext,fo0,ne,hsA,hsl,esA,esl,esi⟩
  exact ⟨_,rfl,q fo es H' ext fo0 esA esl esi⟩
end
end My
namespace L2
open PySem PySem.Spec PyProof.Rows
theorem for_pairs {n:Nat} {Ls:Hp->Prop} {xv:Nat->List V} {g:TG} {tb:TS} {D:Ends} {σ:St} {H:Hp} (Pv:Nat->St->Hp->Prop) (h0:Pv 0 σ H) (hl:∀ i σ H,i<=n->Pv i σ H->Ls H)
  (hs:∀ i σ H T,i<n->Pv i σ H->H T=none->g (.ref T) σ (upd H T (.tup (xv i))) fun σ2 H2=>tb { D with nx:=Pv (i+1),ct:=Pv (i+1),bk:=D.nx } σ2 H2) (hd:∀ σ H,Pv n σ H->D.nx σ H) :
  ∃ W:Nat->Nat->St->Hp->Prop,(∃ m,W 0 m σ H)/\∀ i m σ H,W i m σ H ->
   ((Itp n Ls xv).stop i H/\D.nx σ H)\/((Itp n Ls xv).go i H/\∃ N:St->Hp->Prop,(∀ σ' H',N σ' H'->∃ m',m'<m/\W (i+1) m' σ' H')/\∀ x H',(Itp n Ls xv).yld i H x H'->g x σ H' fun σ2 H2=>tb { D with nx:=N,ct:=N,bk:=D.nx } σ2 H2):=by
 refine ⟨fun i m σ H=>m=n - i/\i<=n/\Pv i σ H,⟨n,by simp,Nat.zero_le _,h0⟩,?_⟩
 rintro i m σ H ⟨rfl,hi,p⟩
 have q:=hl i σ H hi p
 by_cases hlt:i<n
 ·refine .inr ⟨⟨q,hlt⟩,Pv (i+1),fun σ' H' p'=>⟨n - (i+1),by omega,rfl,hlt,p'⟩,fun x H' y=>?_⟩
  obtain ⟨T,e1,e2,e3⟩:=y
  subst e2 e3
  exact hs i σ H T hlt p e1
 ·have e:i=n:=by omega
  subst e
  exact .inl ⟨⟨q,rfl⟩,hd σ H p⟩
end L2
namespace My
open PySem L2
theorem at_intM {hs:List Int} {i:Int} (h0:0<=i) (h1:i<(hs.length:Int)):∃ v∈hs,atI (hs.map V.int) i=some (.int v):=by
 have hk:i.toNat<hs.length:=by omega
 have hv:atI (hs.map V.int) ((i.toNat:Nat):Int)=some (.int hs[i.toNat]):=qAy (by rw [List.getElem?_map,List.getElem?_eq_getElem hk] <;> rfl)
 rw [Int.toNat_of_nonneg h0] at hv
 exact ⟨_,List.getElem_mem hk,hv⟩
theorem at_strM {hs:List Str} {i:Int} (h0:0<=i) (h1:i<(hs.length:Int)):∃ v∈hs,atI (hs.map V.str) i=some (.str v):=by
 have hk:i.toNat<hs.length:=by omega
 have hv:atI (hs.map V.str) ((i.toNat:Nat):Int)=some (.str hs[i.toNat]):=qAy (by rw [List.getElem?_map,List.getElem?_eq_getElem hk] <;> rfl)
 rw [Int.toNat_of_nonneg h0] at hv
 exact ⟨_,List.getElem_mem hk,hv⟩
theorem paired_mem {α β:Type} {R:α->β->Prop}:∀ {as:List α} {bs:List β},Paired R as bs->∀ a∈as,∃ b∈bs,R a b
 | _,_,.nil,a,h=>by cases h
 | _,_,.cons h t,a,ha=>by
  rcases List.mem_cons.mp ha with rfl | z
  ·exact ⟨_,List.mem_cons_self,h⟩
  ·obtain ⟨b,hb,hr⟩:=paired_mem t a z
   exact ⟨b,List.mem_cons_of_mem _ hb,hr⟩
theorem qGr {α β γ:Type} {R:α->β->Prop} {S:α->γ->Prop} (g:β->γ) (h:∀ a b,R a b->S a (g b)):∀ {as:List α} {bs:List β},Paired R as bs->Paired S as (bs.map g)
 | _,_,.nil=>.nil
 | _,_,.cons x t=>.cons (h _ _ x) (qGr g h t)
theorem NetAt.snoc {H H':Hp} {k a:Addr} {as:List Addr} {net:List Tr} {t:Tr} (hk:H k=some (.lst (as.map V.ref))) (pr:Paired (fun a t=>H a=some (.tup (trV t))) as net) (e:Ext H H') (ha:H' a=some (.tup (trV t))):NetAt (upd H' k (.lst (as.map V.ref++[V.ref a]))) k (net++[t]):=by
 have hk':=e _ _ hk
 have ne:∀ {b:Addr} {xs:List V},H' b=some (.tup xs)->b≠k:=fun h z=>by rw [z,hk'] at h;cases h
 refine ⟨as++[a],by rw [upd_same,List.map_append];rfl,?_⟩
 refine Paired.snoc (Paired.mapP pr fun b u z=>?_) ?_
 ·have z':=e _ _ z
  rw [qAm (ne z')];exact z'
 ·rw [qAm (ne ha)];exact ha
def rowT (t:Tr):List Str:=[t.1,t.2.1,t.2.2]
def t0:Tr:=("","","")
theorem rowT_at:∀ {net:List Tr} {i:Nat},i<net.length->rowT (net.getD i t0)=(net.map rowT).getD i []
 | [],_,h=>absurd h (Nat.not_lt_zero _)
 | t :: r,0,_=>rfl
 | t :: r,i+1,h=>by simpa using rowT_at (net:=r) (i:=i) (by simpa using h)
theorem net_pick {H:Hp}:∀ {as:List Addr} {net:List Tr} {i:Nat},Paired (fun a t=>H a=some (.tup (trV t))) as net->i<as.length->H (as.getD i 0)=some (.tup (trV (net.getD i t0)))
 | _,_,i,.nil,hi=>absurd hi (Nat.not_lt_zero _)
 | _,_,0,.cons h _,_=>h
 | _,_,i+1,.cons _ t,hi=>by simpa using net_pick (i:=i) t (by simpa using hi)
theorem net_picks {H:Hp} {as:List Addr} {net:List Tr} (pr:Paired (fun a t=>H a=some (.tup (trV t))) as net):∀ {l:List Nat},(∀ i∈l,i<as.length)->Paired (fun a t=>H a=some (.tup (trV t))) (l.map fun i=>as.getD i 0) (l.map fun i=>net.getD i t0)
 | [],_=>.nil
 | i :: l,h=>.cons (net_pick pr (h i List.mem_cons_self)) (net_picks pr fun j hj=>h j (List.mem_cons_of_mem _ hj))
theorem qGk {net:List Tr}:∀ {l:List Nat},(∀ i∈l,i<net.length)->(l.map fun i=>net.getD i t0).map rowT=l.map fun i=>(net.map rowT).getD i []
 | [],_=>rfl
 | i :: l,h=>by
  rw [List.map_cons,List.map_cons,List.map_cons,qGk fun j hj=>h j (List.mem_cons_of_mem _ hj),rowT_at (h i List.mem_cons_self)]
theorem rowT_inj {t u:Tr} (e:rowT t=rowT u):t=u:=by
 obtain ⟨a,b,c⟩:=t
 obtain ⟨a',b',c'⟩:=u
 unfold rowT at e
 simp at e
 obtain ⟨e1,e2,e3⟩:=e
 subst e1 e2 e3;rfl
theorem map_names (net:List Tr):(net.map rowT).map (fun r=>r.getD 0 "")=net.map (·.1):=by
 rw [List.map_map];rfl
theorem rise_srt:∀ {net:List Tr},Srt (net.map rowT)->(net.map (·.1)).Nodup->Rise (net.map (·.1))
 | [],_,_=>List.Pairwise.nil
 | t :: r,h,nd=>by
  rw [List.map_cons] at h nd
  obtain ⟨h1,h2⟩:=List.pairwise_cons.mp h
  obtain ⟨n1,n2⟩:=List.nodup_cons.mp nd
  rw [List.map_cons]
  refine List.pairwise_cons.mpr ⟨fun x hx=>?_,rise_srt h2 n2⟩
  obtain ⟨u,hu,rfl⟩:=List.mem_map.mp hx
  have q:=h1 (rowT u) (List.mem_map_of_mem hu)
  have ne:¬u.1=t.1:=fun z=>n1 (z▸List.mem_map_of_mem hu)
  unfold rowT ltL at q
  rw [if_neg ne] at q
  rcases sLtB_tri t.1 u.1 with z | z | z
  ·exact z
  ·exact absurd z.symm ne
  ·rw [z] at q;cases q
def TxT (t:Tr):Prop:=Sm t.1/\Sm t.2.1/\Sm t.2.2
def TxN (net:List Tr):Prop:=∀ t∈net,TxT t
def spNet (K:PySem.W.Frag):Sp:=fun vs H Q _=>∃ (a:Addr) (ns:List Int),vs=[.ref a,.int 1]/\SqL K H a (ns.map V.int)/\∀ r net H',Ext H H'->H r=none->NetAt H' r net->net.length<=12->TxN net->Rise (net.map (·.1))->Q (.ref r) H'
section
variable {P:Program} {w:World} {K:PySem.W.Frag} {mg:Str->Option Value} {base:Heap} {f f1 f2 f3:Addr} {fd fd1 fd2 fd3:FuncData}
abbrev neN:List Str:=["_law_script","_law_at","_law_head","_law_ends_here","_law_ties","_law_knots","_law_net_here","_law_tie","_law_two"]
theorem scNet:FnScope neN ["_law_script","_law_at"] (qAc sNet):=⟨rfl,rfl,rfl,by decide +kernel,rfl,by decide +kernel,by decide +kernel⟩
abbrev spr:List Int:=[4,5,3,6,5,9,2,10]
theorem ok_net (F:Fun K "_law_net" "_law_net" sNet f fd)
  (G1:FnOk P w K mg base CX0 2 f1 fd1 ["_law_script","_law_k"] (spBig K)) (bG1:qA1 K fd1 ["_law_script","_law_k"] []) (kG1:PySem.W.keepIn K (.ref f1)=true) (mG1:mg "_law_big" = some (.ref f1))
  (G2:FnOk P w K mg base CX0 1 f2 fd2 ["_law_big_here","_law_many","_law_spread"] spEnds) (bG2:qA1 K fd2 ["_law_big_here","_law_many","_law_spread"] []) (kG2:PySem.W.keepIn K (.ref f2)=true) (mG2:mg "_law_ends" = some (.ref f2))
  (G3:FnOk P w K mg base CX0 1 f3 fd3 ["_law_big_here","_law_many"] spNames) (bG3:qA1 K fd3 ["_law_big_here","_law_many"] []) (kG3:PySem.W.keepIn K (.ref f3)=true) (mG3:mg "_law_names" = some (.ref f3))
  (ml:mg "len" = none) (mz:mg "zip" = none) (mtu:mg "tuple" = none) (mso:mg "sorted" = none):FnOk P w K mg base CX0 3 f fd ["_law_script","_law_at"] (spNet K):=by
 refine F.ok scNet (fun vs H Q E h=>?_) (fun cdv A outer s H vs Q E hr h=>?_)
 ·obtain ⟨a,ns,rfl,_⟩:=h
  rfl
 obtain ⟨a,ns,rfl,hS,q⟩:=h
 have hr1:=hr.mono (j:=1) (by decide)
 refine ⟨_,qAb (qAj (i:=2) scNet.nd rfl (Or.inl rfl) (qAg G1 hr rfl mG1 kG1 bG1 .nil qAt (qAa (pv 0) (qAa (pv 1) qAd))))
  (qAb (qAj (i:=3) scNet.nd rfl (Or.inl rfl) (qAg G2 hr1 rfl mG2 kG2 bG2 .nil qAt (qAa (qAg G1 hr rfl mG1 kG1 bG1 .nil qAt (qAa (pv 0) (qAa (qAh qBk (pv 1) qAe) qAd))) (qAa (qAh qBe (qAh qA4 (pv 2) qAe) qAe) (qAa
    (qBg qCc (qBa (qAa qAe (qAa qAe (qAa qAe (qAa qAe (qAa qAe (qAa qAe (qAa qAe (qAa qAe qAd))))))))) (qAh qBe (pv 2) qAe) (fun _ _=>rfl)) qAd)))))
  (qAb (qAj (i:=4) scNet.nd rfl (Or.inl rfl) (qAg G3 hr1 rfl mG3 kG3 bG3 .nil qAt (qAa (qAh qA4 (pv 2) qAe) (qAa (qAs qAv rfl ml PySem.boot_len (qAa (pv 3) qAd)) qAd))))
  (qAb (qAj (i:=5) scNet.nd rfl (Or.inl rfl) (qAg G3 hr1 rfl mG3 kG3 bG3 .nil qAt (qAa (qAg G1 hr rfl mG1 kG1 bG1 .nil qAt (qAa (pv 0) (qAa (qAh qBk (pv 1) qAe) qAd))) (qAa qAe qAd))))
  (qAb (qAj (i:=6) scNet.nd rfl (Or.inl rfl) (qBa qAd))
  (qAb (qBi PassesOwn.never rfl (pi_zip rfl mz (qAa (pv 4) (qAa (pv 3) qAd))) (qC5 rfl (qAz (qAi (i:=7) scNet.nd rfl (Or.inl rfl)) (qAz (qAi (i:=8) scNet.nd rfl (Or.inl rfl)) qCb)))
   (qAf (qCl (qD9 PySem.F.plainAttrs_list PySem.F.slot_list_append PySem.F.type_list_append qBp (pv 6) (qAa
    (qAh op_catT (qCm (qAa (pv 7) qAd)) (qBd call_tuple_of rfl mtu boot_tuple' (qAa (qAs qEp rfl mso qB8 (qAa
     (qBa (qAa (qBg qCc (pv 5) (qBg qBl (pv 8) qAe (fun _ _=>rfl)) (fun _ _=>rfl)) (qAa (qBg qCc (pv 5) (qBg qBl (pv 8) qAe (fun _ _=>rfl)) (fun _ _=>rfl)) qAd))) qAd)) qAd))) qAd)))))
  (qAf (qAw (qAs call_sortedTO rfl mso qB8 (qAa (pv 6) qAd))))))))),?_⟩
 refine ⟨_,rfl,_,rfl,a,ns,1,rfl,hS,by decide,by decide,fun hd=>?_⟩
 have d1:=Int.emod_nonneg (hd / 8) (show (13:Int)≠0 by decide)
 have d2:=Int.emod_lt_of_pos (hd / 8) (show (0:Int)<13 by decide)
 have d3:=Int.emod_nonneg hd (show (8:Int)≠0 by decide)
 have d4:=Int.emod_lt_of_pos hd (show (0:Int)<8 by decide)
 refine ⟨_,rfl,_,rfl,_,_,rfl,rfl,a,ns,_,rfl,hS,by decide,by decide,fun v1=>?_⟩
 refine ⟨_,rfl,_,_,rfl,rfl,⟨by decide,by decide⟩,_,_,rfl,rfl,(by show (0:Int)<_;decide),(by show 8<=sizeLine;decide),fun L hL=>?_⟩
 have X1:=Ext.new hL (.lst (spr.map V.int))
 obtain ⟨sp,spm,spa⟩:=at_intM (hs:=spr) d3 (by show hd % 8<8;exact d4)
 have spb:0<sp/\sp<=10:=by
  have:∀ z∈spr,0<z/\z<=10:=by decide
  exact this sp spm
 refine ⟨_,rfl,_,_,rfl,rfl,(by show (0:Int)<_;decide),L,spr.map V.int,_,_,rfl,rfl,SqL.of upd_same,spa,?_⟩
 refine ⟨_,_,sp,rfl,d1,by omega,spb.1,spb.2,fun en es H2 e2 en0 hen esl esi=>?_⟩
 have E2:=X1.trans e2
 obtain ⟨bs,hb1,hb2⟩:=id hen
 have lb:bs.length=es.length:=hb2.length
 have esl':es.length<=12:=by omega
 refine ⟨_,rfl,_,_,rfl,rfl,⟨by decide,by decide⟩,_,rfl,en,_,rfl,.inl (SqL.of hb1),?_⟩
 refine ⟨_,_,rfl,by omega,by rw [List.length_map];omega,fun tl ts H3 e3 tl0 htl tsl tsx tnd=>?_⟩
 have E3:=E2.trans e3
 refine ⟨_,rfl,_,rfl,_,_,rfl,rfl,a,ns,_,rfl,E3.sqL hS,by decide,by decide,fun v2=>?_⟩
 refine ⟨_,10,rfl,by decide,by decide,fun kl kn H4 e4 kl0 hkl knl knx _=>?_⟩
 have E4:=E3.trans e4
 refine ⟨Nat.zero_le _,fun nl hnl=>?_⟩
 have nl0:=E4.none hnl
 have E5:=E4.trans (Ext.new hnl (.lst []))
 have tsl':ts.length=es.length:=by rw [tsl,List.length_map,lb];omega
 have mn:min (ts.map V.str).length (bs.map V.ref).length=es.length:=by rw [List.length_map,List.length_map,lb,tsl'];exact Nat.min_self _
 have htl5:=(Ext.new hnl (.lst [])) _ _ (e4 _ _ htl)
 have hen5:=(Ext.new hnl (.lst [])) _ _ (e4 _ _ (e3 _ _ hb1))
 refine ⟨_,rfl,_,rfl,tl,en,_,_,rfl,SqL.of htl5,SqL.of hen5,?_⟩
 refine for_pairs (fun i σ H6=>∃ (x7 x8:Option V) (net:List Tr),σ=[some (.ref a),some (.int 1),some (.int hd),some (.ref en),some (.ref tl),some (.ref kl),some (.ref nl),x7,x8]/\Ext H4 H6/\NetAt H6 nl net/\net.length=i/\TxN net/\net.map (·.1)=ts.take i)
  ⟨none,none,[],rfl,Ext.new hnl _,⟨[],upd_same,.nil⟩,rfl,(fun t ht=>by cases ht),rfl⟩ ?_ ?_ ?_
 ·rintro i σ H6 _ ⟨x7,x8,net,_,e6,_⟩
  exact ⟨SqL.of (e6 _ _ (e4 _ _ htl)),SqL.of (e6 _ _ (e4 _ _ (e3 _ _ hb1)))⟩
 ·rintro i σ H6 T hi ⟨x7,x8,net,rfl,e6,nt,nl',tx,nm⟩ hT
  rw [mn] at hi
  have hit:i<ts.length:=by omega
  have hib:i<bs.length:=by omega
  have g1:(ts.map V.str).getD i .non = .str ts[i]:=by rw [List.getD_eq_getElem?_getD,List.getElem?_map,List.getElem?_eq_getElem hit];rfl
  have g2:(bs.map V.ref).getD i .non = .ref bs[i]:=by rw [List.getD_eq_getElem?_getD,List.getElem?_map,List.getElem?_eq_getElem hib];rfl
  obtain ⟨e,he,hbe⟩:=qBf hb2 (List.getElem?_eq_getElem hib)
  obtain ⟨⟨i0,i1⟩,j0,j1⟩:=esi e (List.mem_of_getElem? he)
  obtain ⟨k1,k1m,k1a⟩:=at_strM (hs:=kn) i0 (by rw [knl];show e.1<10;omega)
  obtain ⟨k2,k2m,k2a⟩:=at_strM (hs:=kn) j0 (by rw [knl];show e.2<10;omega)
  obtain ⟨as,ea1,ea2⟩:=id nt
  have la:as.length=net.length:=ea2.length
  dsimp only
  rw [g1,g2]
  have Y1:=Ext.new hT (.tup [V.str ts[i],V.ref bs[i]])
  refine ⟨T,_,rfl,SqT.of upd_same,rfl,_,_,rfl,_,_,rfl,rfl,?_⟩
  refine ⟨_,rfl,.inl ⟨rfl,_,SqL.of (Y1 _ _ ea1)⟩,_,rfl,(by show 1<=sizeLine;decide),fun T1 hT1=>?_⟩
  have Y2:=Y1.trans (Ext.new hT1 (.tup [V.str ts[i]]))
  have hb6:=Y2 _ _ (e6 _ _ (e4 _ _ (e3 _ _ hbe)))
  have hk6:=Y2 _ _ (e6 _ _ hkl)
  refine ⟨_,rfl,_,rfl,bs[i],_,_,_,rfl,rfl,SqT.of hb6,(by exact qAy (j:=0) rfl),kl,_,_,_,rfl,rfl,SqL.of hk6,k1a,?_⟩
  refine ⟨_,rfl,_,rfl,bs[i],_,_,_,rfl,rfl,SqT.of hb6,(by exact qAy (j:=1) rfl),kl,_,_,_,rfl,rfl,SqL.of hk6,k2a,?_⟩
  refine ⟨(by show 2<=sizeLine;decide),fun L2 hL2=>⟨L2,[k1,k2],rfl,SqL.of upd_same,(by show 2<64;decide),fun S ss hS' perm srt=>?_⟩⟩
  have Y3:=Y2.trans (Ext.new hL2 (.lst [V.str k1,V.str k2]))
  have Y4:=Y3.trans (Ext.new hS' (.lst (ss.map V.str)))
  refine ⟨S,_,rfl,.inl ⟨SqL.of upd_same,fun T2 hT2=>?_⟩⟩
  have lss:ss.length=2:=perm.length_eq
  obtain ⟨x,y,rfl⟩:∃ x y,ss=[x,y]:=by
   match ss,lss with
   | [x,y],_=>exact ⟨x,y,rfl⟩
  have sx:Sm x:=by
   have:x∈[k1,k2]:=perm.mem_iff.mp (by simp)
   simp at this
   rcases this with rfl | rfl
   ·exact knx _ k1m
   ·exact knx _ k2m
  have sy:Sm y:=by
   have:y∈[k1,k2]:=perm.mem_iff.mp (by simp)
   simp at this
   rcases this with rfl | rfl
   ·exact knx _ k1m
   ·exact knx _ k2m
  have Y5:=Y4.trans (Ext.new hT2 (.tup ([x,y].map V.str)))
  have t1:upd (upd H6 T (.tup [V.str ts[i],V.ref bs[i]])) T1 (.tup [V.str ts[i]]) T1=some (.tup [V.str ts[i]]):=upd_same
  have t15:=Ext.new hT2 (.tup ([x,y].map V.str)) _ _ (Ext.new hS' (.lst ([x,y].map V.str)) _ _ (Ext.new hL2 (.lst [V.str k1,V.str k2]) _ _ t1))
  refine ⟨T1,T2,_,_,rfl,rfl,SqT.of t15,SqT.of upd_same,(by simp),(by show 3<=sizeLine;decide),(fun z=>by cases z),fun _ T3 hT3=>?_⟩
  have Y6:=Y5.trans (Ext.new hT3 (.tup (trV (ts[i],x,y))))
  refine ⟨nl,_,_,rfl,rfl,Y6 _ _ ea1,?_,?_⟩
  ·rw [List.length_map];exact qAk (by omega)
  ·refine ⟨_,_,net++[(ts[i],x,y)],rfl,(e6.trans Y6).over hnl _,NetAt.snoc ea1 ea2 Y6 upd_same,by rw [List.length_append,nl'];rfl,(fun t ht=>?_),by rw [List.map_append,nm,qAn (List.getElem?_eq_getElem hit)];rfl⟩
   rcases List.mem_append.mp ht with z | z
   ·exact tx t z
   ·rw [List.mem_singleton] at z
    subst z
    exact ⟨tsx _ (List.getElem_mem hit),sx,sy⟩
 ·rintro σ H6 ⟨x7,x8,net,rfl,e6,nt,nl',tx,nm⟩
  rw [mn] at nl' nm
  obtain ⟨as,ea1,ea2⟩:=id nt
  have la:as.length=net.length:=ea2.length
  refine ⟨_,rfl,nl,as,net.map rowT,rfl,SqL.of ea1,qGr _ (fun a t z=>⟨SqT.of z,by simp [rowT]⟩) ea2,by omega,fun r o hr' g sp=>?_⟩
  have E6:=E4.trans e6
  have gm:∀ i∈o.toList,i<as.length:=fun i hi=>gd_mem g hi
  have gm':∀ i∈o.toList,i<net.length:=fun i hi=>by have:=gm i hi;omega
  have gl:=gd_len g
  have lt:as.length=(net.map rowT).length:=by rw [List.length_map];exact la
  rw [lt] at g sp
  obtain ⟨s1,s2⟩:=order_rows g sp
  rw [<-qGk gm'] at s1 s2
  have nd:((o.toList.map fun i=>net.getD i t0).map (·.1)).Nodup:=by
   rw [<-map_names]
   refine (s2.map _).nodup_iff.mpr ?_
   rw [map_names,nm,<-tsl',List.take_of_length_le (Nat.le_refl _)]
   refine tnd ?_
   rw [List.length_map];omega
  refine q r (o.toList.map fun i=>net.getD i t0) _ (E6.trans (Ext.new hr' _)) (E6.none hr') ⟨_,upd_same,Paired.mapP (net_picks ea2 gm) fun a' t z=>Ext.new hr' _ _ _ z⟩ ?_ (fun t ht=>?_) (rise_srt s1 nd)
  ·rw [List.length_map,gl];omega
  ·have m:rowT t∈net.map rowT:=s2.mem_iff.mp (List.mem_map_of_mem ht)
   obtain ⟨u,hu,e⟩:=List.mem_map.mp m
   rw [<-rowT_inj e]
   exact tx u hu
end
end My
namespace My
open PySem L2
section
variable {K:PySem.W.Frag}
theorem turns_net {as:List Addr} {net:List Tr} {Q:List V->Hp->Prop} {H1:Hp} {σ0:St} {g:TG} {tt:TT} {te:TE} {p:Addr} (h:Tr->Str) (hp:H1 p=some (.lst (as.map V.ref))) (pr:Paired (fun a t=>H1 a=some (.tup (trV t))) as net) (ln:net.length<=12)
  (hs:∀ a t,H1 a=some (.tup (trV t))->∀ (C:V->Hp->Prop) (B:Hp->Prop),C (.str (h t)) H1->g (.ref a) σ0 H1 fun σ2 H2=>Sle σ0 σ2/\tt σ2 H2 fun b H3=>if b=true then te σ2 H3 C else B H3)
  (hd:Q ((net.map h).map V.str) H1):qDo (Itl K p) σ0 g tt te Q H1:=by
 have lA:as.length=net.length:=pr.length
 refine qAu (xs:=as.map V.ref) (fun j ys H2=>H2=H1/\ys=((net.take j).map h).map V.str) ⟨rfl,rfl⟩ (fun j ys H2 _ h=>by rw [h.1];exact SqL.of hp) ?_ ?_
 ·rintro j x ys H2 hx ⟨rfl,rfl⟩
  obtain ⟨a,t,rfl,ht,ha⟩:=net_get pr hx
  have hi:=qA7 ht
  have sz:(((net.take j).map h).map V.str).length<sizeLine:=by
   rw [List.length_map,List.length_map,List.length_take]
   exact qAk (by omega)
  exact hs a t ha _ _ ⟨sz,nxt (qA7 hx) ⟨rfl,by rw [qAn ht,List.map_append,List.map_append];rfl⟩⟩
 ·rintro ys H2 ⟨rfl,rfl⟩
  rw [List.length_map,lA,List.take_of_length_le (Nat.le_refl _)]
  exact hd
end
end My
namespace My
theorem qEr {x i:Nat} (h:x<2^i) {j:Nat} (hj:i<=j):x.testBit j=false :=
 Nat.testBit_lt_two_pow (Nat.lt_of_lt_of_le h (Nat.pow_le_pow_right (by decide) hj))
theorem tb_ge {x i:Nat} (h:x.testBit i=true):2^i<=x:=by
 rcases Nat.lt_or_ge x (2^i) with z | z
 ·rw [Nat.testBit_lt_two_pow z] at h;cases h
 ·exact z
theorem log2_of {x i:Nat} (h1:x.testBit i=true) (h2:x<2^(i+1)):x.log2=i:=by
 have g:=tb_ge h1
 have nz:x≠0:=fun z=>by subst z;simp at h1
 have a:=(Nat.log2_lt nz).mpr h2
 have b:=(Nat.le_log2 nz).mpr g
 omega
theorem tb_le {x i:Nat} (h:x.testBit i=true):i<=x.log2:=by
 have nz:x≠0:=fun z=>by subst z;simp at h
 exact (Nat.le_log2 nz).mpr (tb_ge h)
theorem tb_above {x i:Nat} (h:x.log2<i):x.testBit i=false:=qEr Nat.lt_log2_self h
theorem qEh {n:Nat} (h:n % 2=0):n^^^1=n+1:=by
 have d:(n^^^1) / 2=n / 2:=by rw [Nat.xor_div_two];simp
 have b:(n^^^1).testBit 0=true:=by rw [Nat.testBit_xor,Nat.testBit_zero,Nat.testBit_zero];simp [h]
 rw [Nat.testBit_zero] at b
 have b':=of_decide_eq_true b
 omega
theorem xor_one_odd {n:Nat} (h:n % 2=1):n^^^1=n - 1:=by
 have d:(n^^^1) / 2=n / 2:=by rw [Nat.xor_div_two];simp
 have b:(n^^^1).testBit 0=false:=by rw [Nat.testBit_xor,Nat.testBit_zero,Nat.testBit_zero];simp [h]
 rw [Nat.testBit_zero] at b
 have b':=of_decide_eq_false b
 omega
theorem shr_log2 {s:Nat} (hs:s≠0):s >>> s.log2=1:=by
 rw [Nat.shiftRight_eq_div_pow]
 have a:=Nat.log2_self_le hs
 have b:s<2^(s.log2+1):=Nat.lt_log2_self
 rw [Nat.pow_succ] at b
 have p:0<2^s.log2:=Nat.pow_pos (by decide)
 exact Nat.div_eq_of_lt_le (by omega) (by omega)
theorem qGc (x:Nat) {s:Nat} (hs:s≠0):x^^^s<x↔x.testBit s.log2=true:=by
 have e:(x^^^s) >>> s.log2=(x >>> s.log2)^^^1:=by rw [Nat.shiftRight_xor_distrib,shr_log2 hs]
 have tb:x.testBit s.log2=decide ((x >>> s.log2) % 2=1):=by rw [Nat.testBit_eq_decide_div_mod_eq,Nat.shiftRight_eq_div_pow]
 rw [tb]
 have lt:∀ {a b:Nat},a >>> s.log2<b >>> s.log2->a<b:=fun {a b} h=>by
  rw [Nat.shiftRight_eq_div_pow,Nat.shiftRight_eq_div_pow] at h
  rcases Nat.lt_or_ge a b with z | z
  ·exact z
  ·have:=Nat.div_le_div_right (c:=2^s.log2) z
   omega
 rcases Nat.mod_two_eq_zero_or_one (x >>> s.log2) with h | h
 ·rw [qEh h] at e
  have:x<x^^^s:=lt (by omega)
  constructor
  ·intro z;omega
  ·intro z;rw [h] at z;simp at z
 ·rw [xor_one_odd h] at e
  have:x^^^s<x:=lt (by rw [e];exact Nat.sub_one_lt fun z=>by rw [z] at h;cases h)
  exact ⟨fun _=>by simp [h],fun _=>this⟩
def rd1 (x s:Nat):Nat:=if x.testBit s.log2=true then x^^^s else x
theorem min_rd1 (x:Nat) {s:Nat} (hs:s≠0):(if x^^^s<x then x^^^s else x)=rd1 x s:=by
 unfold rd1
 by_cases h:x.testBit s.log2=true
 ·rw [if_pos h,if_pos ((qGc x hs).mpr h)]
 ·rw [if_neg h,if_neg (fun z=>h ((qGc x hs).mp z))]
theorem qCq (x s i:Nat):(rd1 x s).testBit i=(x.testBit i ^^ (x.testBit s.log2 && s.testBit i)):=by
 unfold rd1
 by_cases h:x.testBit s.log2=true
 ·rw [if_pos h,Nat.testBit_xor,h,Bool.true_and]
 ·rw [if_neg h]
  have:x.testBit s.log2=false:=by simpa using h
  rw [this];simp
theorem rd1_zero (s:Nat):rd1 0 s=0:=by unfold rd1;simp
theorem rd1_lin (x y s:Nat):rd1 (x^^^y) s=rd1 x s^^^rd1 y s:=by
 refine Nat.eq_of_testBit_eq fun i=>?_
 rw [qCq,Nat.testBit_xor,Nat.testBit_xor,Nat.testBit_xor,qCq,qCq]
 cases x.testBit i <;> cases y.testBit i <;> cases x.testBit s.log2 <;> cases y.testBit s.log2 <;> cases s.testBit i <;> rfl
def red1 (k:List Nat) (x:Nat):Nat:=k.foldl rd1 x
theorem qFm:∀ k:List Nat,red1 k 0=0
 | []=>rfl
 | s :: k=>by show red1 k (rd1 0 s)=0;rw [rd1_zero];exact qFm k
theorem red1_lin:∀ (k:List Nat) (x y:Nat),red1 k (x^^^y)=red1 k x^^^red1 k y
 | [],_,_=>rfl
 | s :: k,x,y=>by show red1 k (rd1 (x^^^y) s)=red1 k (rd1 x s)^^^red1 k (rd1 y s);rw [rd1_lin];exact red1_lin k _ _
structure RR (k:List Nat):Prop where
 nz:∀ s∈k,s≠0
 ap:k.Pairwise fun s t=>t.testBit s.log2=false/\s.testBit t.log2=false
theorem RR.nil:RR []:=⟨fun s h=>(by cases h),.nil⟩
theorem RR.tl {s:Nat} {k:List Nat} (h:RR (s :: k)):RR k:=⟨fun t ht=>h.nz t (List.mem_cons_of_mem _ ht),(List.pairwise_cons.mp h.ap).2⟩
theorem RR.hd {s:Nat} {k:List Nat} (h:RR (s :: k)):∀ t∈k,t.testBit s.log2=false/\s.testBit t.log2=false:=(List.pairwise_cons.mp h.ap).1
theorem RR.ne:∀ {k:List Nat},RR k->∀ {s t:Nat},s∈k->t∈k->s≠t->s.testBit t.log2=false
 | [],_,_,_,hs,_,_=>by cases hs
 | a :: k,h,s,t,hs,ht,e=>by
  rcases List.mem_cons.mp hs with rfl | zs
  ·rcases List.mem_cons.mp ht with rfl | zt
   ·exact absurd rfl e
   ·exact (h.hd t zt).2
  ·rcases List.mem_cons.mp ht with rfl | zt
   ·exact (h.hd s zs).1
   ·exact RR.ne h.tl zs zt e
theorem RR.self {k:List Nat} (h:RR k) {s:Nat} (hs:s∈k):s.testBit s.log2=true:=Nat.testBit_log2 (h.nz s hs)
theorem RR.nd {k:List Nat} (h:RR k):k.Nodup:=by
 have:∀ {k:List Nat},RR k->k.Nodup:=fun {k} h=>by
  induction k with
  | nil=>exact List.nodup_nil
  | cons s k ih =>
   refine List.nodup_cons.mpr ⟨fun z=>?_,ih h.tl⟩
   have:=(h.hd s z).1
   rw [h.self List.mem_cons_self] at this;cases this
 exact this h
theorem qDy:∀ {k:List Nat} {x i:Nat},RR k->(∀ s∈k,x.testBit s.log2=true->s.testBit i=false)->(red1 k x).testBit i=x.testBit i
 | [],_,_,_,_=>rfl
 | s :: k,x,i,h,hx=>by
  show (red1 k (rd1 x s)).testBit i=_
  have b1:(rd1 x s).testBit i=x.testBit i:=by
   rw [qCq]
   cases q:x.testBit s.log2 with
   | false=>simp
   | true=>rw [hx s List.mem_cons_self q];simp
  rw [qDy h.tl fun t ht hb=>?_,b1]
  refine hx t (List.mem_cons_of_mem _ ht) ?_
  rw [qCq,(h.hd t ht).2] at hb
  simpa using hb
theorem qFn:∀ {k:List Nat} {x:Nat},RR k->∀ s∈k,(red1 k x).testBit s.log2=false
 | [],_,_,_,hs=>by cases hs
 | a :: k,x,h,s,hs=>by
  show (red1 k (rd1 x a)).testBit s.log2=false
  rcases List.mem_cons.mp hs with rfl | z
  ·rw [qDy h.tl fun t ht _=>(h.hd t ht).1,qCq,h.self List.mem_cons_self]
   cases x.testBit s.log2 <;> rfl
  ·exact qFn h.tl s z
theorem red1_mem:∀ {k:List Nat},RR k->∀ s∈k,red1 k s=0
 | [],_,_,hs=>by cases hs
 | a :: k,h,s,hs=>by
  show red1 k (rd1 s a)=0
  rcases List.mem_cons.mp hs with rfl | z
  ·have:rd1 s s=0:=by unfold rd1;rw [if_pos (h.self List.mem_cons_self),Nat.xor_self]
   rw [this];exact qFm k
  ·have:rd1 s a=s:=by unfold rd1;rw [if_neg (by rw [(h.hd s z).1];decide)]
   rw [this];exact red1_mem h.tl s z
theorem red1_none {k:List Nat} (h:RR k) {x:Nat} (hx:∀ s∈k,x.testBit s.log2=false):red1 k x=x :=
 Nat.eq_of_testBit_eq fun i=>qDy h fun s hs z=>by rw [hx s hs] at z;cases z
inductive Spn (l:List Nat):Nat->Prop
 | zero:Spn l 0
 | add {x y:Nat}:x∈l->Spn l y->Spn l (x^^^y)
theorem Spn.mem {l:List Nat} {x:Nat} (h:x∈l):Spn l x:=by
 have:=Spn.add h Spn.zero
 rwa [Nat.xor_zero] at this
theorem Spn.xor {l:List Nat} {x y:Nat} (h:Spn l x) (h':Spn l y):Spn l (x^^^y):=by
 induction h with
 | zero=>rwa [Nat.zero_xor]
 | add m _ ih=>rw [Nat.xor_assoc];exact .add m ih
theorem Spn.mono {l l':List Nat} (h:∀ x∈l,Spn l' x) {y:Nat} (hy:Spn l y):Spn l' y:=by
 induction hy with
 | zero=>exact .zero
 | add m _ ih=>exact (h _ m).xor ih
theorem Spn.lt {l:List Nat} {m:Nat} (h:∀ x∈l,x<2^m) {y:Nat} (hy:Spn l y):y<2^m:=by
 induction hy with
 | zero=>exact Nat.pow_pos (by decide)
 | add hm _ ih=>exact Nat.xor_lt_two_pow (h _ hm) ih
theorem qBq (x y:Nat):(x^^^y)^^^y=x:=by rw [Nat.xor_assoc,Nat.xor_self,Nat.xor_zero]
theorem rd1_spn {k:List Nat} {x s:Nat} (hs:s∈k):Spn k (rd1 x s^^^x):=by
 unfold rd1
 split
 ·rw [Nat.xor_comm x s,qBq];exact .mem hs
 ·rw [Nat.xor_self];exact .zero
theorem red1_spn (k:List Nat):∀ (k':List Nat),(∀ s∈k',s∈k)->∀ x,Spn k (red1 k' x^^^x)
 | [],_,x=>by show Spn k (x^^^x);rw [Nat.xor_self];exact .zero
 | s :: k',h,x=>by
  have a:=red1_spn k k' (fun t ht=>h t (List.mem_cons_of_mem _ ht)) (rd1 x s)
  have b:=rd1_spn (x:=x) (h s List.mem_cons_self)
  have c:=a.xor b
  rw [<-Nat.xor_assoc,qBq] at c
  exact c
theorem spn_red1 {k:List Nat} (h:RR k) {y:Nat} (hy:Spn k y):red1 k y=0:=by
 induction hy with
 | zero=>exact qFm k
 | add m _ ih=>rw [red1_lin,red1_mem h _ m,ih];rfl
theorem spn_zero {k:List Nat} (h:RR k) {y:Nat} (hy:Spn k y) (hx:∀ s∈k,y.testBit s.log2=false):y=0:=(red1_none h hx).symm.trans (spn_red1 h hy)
theorem spn_lead {k:List Nat} (h:RR k) {y:Nat} (hy:Spn k y) (nz:y≠0):∃ s∈k,s.log2=y.log2:=by
 refine Classical.byContradiction fun no=>?_
 have e:(red1 k y).testBit y.log2=y.testBit y.log2:=qDy h fun s hs hb=>by
  have le:=tb_le hb
  have ne:s.log2≠y.log2:=fun z=>no ⟨s,hs,z⟩
  exact tb_above (by omega)
 rw [spn_red1 h hy,Nat.testBit_log2 nz] at e
 simp at e
theorem rr_uniq {a b:List Nat} (ha:RR a) (hb:RR b) (h:∀ y,Spn a y↔Spn b y):∀ s∈a,s∈b:=fun s hs=>by
 obtain ⟨t,ht,e⟩:=spn_lead hb ((h s).mp (.mem hs)) (ha.nz s hs)
 have d:s^^^t=0:=by
  refine spn_zero ha ((Spn.mem hs).xor ((h t).mpr (.mem ht))) fun u hu=>?_
  rw [Nat.testBit_xor]
  by_cases z:u=s
  ·subst z
   have h2:=hb.self ht
   rw [e] at h2
   rw [ha.self hs,h2];rfl
  ·have s1:=ha.ne hs hu (fun w=>z w.symm)
   obtain ⟨v,hv,ev⟩:=spn_lead hb ((h u).mp (.mem hu)) (ha.nz u hu)
   have us:=ha.ne hu hs z
   have vt:t≠v:=fun w=>by
    have h3:=ha.self hu
    rw [<-ev,<-w,e] at h3
    rw [h3] at us;cases us
   have t1:=hb.ne ht hv vt
   rw [ev] at t1
   rw [s1,t1];rfl
 have:s=t:=by
  have q:=qBq s t
  rw [d,Nat.zero_xor] at q
  exact q.symm
 rw [this];exact ht
def redS (k:List Nat) (x:Nat):List Nat:=if red1 k x=0 then k else k.map (fun s=>rd1 s (red1 k x))++[red1 k x]
def red (xs:List Nat):List Nat:=xs.foldl redS []
theorem qDx (xs:List Nat) (x:Nat):red (xs++[x])=redS (red xs) x:=by unfold red;rw [List.foldl_append];rfl
theorem rd1_log2 {s f:Nat} (hs:s≠0) (hf:f≠0) (h:f.testBit s.log2=false):(rd1 s f).log2=s.log2/\rd1 s f≠0:=by
 have ss:=Nat.testBit_log2 hs
 have bit:(rd1 s f).testBit s.log2=true:=by rw [qCq,ss,h];simp
 refine ⟨log2_of bit ?_,fun z=>by rw [z] at bit;simp at bit⟩
 unfold rd1
 split
 ·rename_i q
  have le:=tb_le q
  exact Nat.xor_lt_two_pow Nat.lt_log2_self (Nat.lt_of_lt_of_le Nat.lt_log2_self (Nat.pow_le_pow_right (by decide) (by omega)))
 ·exact Nat.lt_log2_self
theorem RR.step {k:List Nat} (h:RR k) (x:Nat):RR (redS k x):=by
 unfold redS
 by_cases z:red1 k x=0
 ·rw [if_pos z];exact h
 rw [if_neg z]
 have ld:=fun s hs=>qFn (x:=x) h s hs
 generalize red1 k x=f at z ld
 have l2:∀ s∈k,(rd1 s f).log2=s.log2/\rd1 s f≠0:=fun s hs=>rd1_log2 (h.nz s hs) z (ld s hs)
 have ff:=Nat.testBit_log2 z
 refine ⟨fun s hs=>?_,?_⟩
 ·rcases List.mem_append.mp hs with w | w
  ·obtain ⟨u,hu,rfl⟩:=List.mem_map.mp w
   exact (l2 u hu).2
  ·rw [List.mem_singleton] at w;rw [w];exact z
 ·rw [List.pairwise_append]
  refine ⟨?_,List.pairwise_singleton _ _,fun a ha b hb=>?_⟩
  ·rw [List.pairwise_map]
   refine List.Pairwise.imp_of_mem (fun {a b} ha hb r=>?_) h.ap
   rw [(l2 a ha).1,(l2 b hb).1,qCq,qCq,r.1,r.2,ld a ha,ld b hb]
   simp
  ·rw [List.mem_singleton] at hb
   obtain ⟨u,hu,rfl⟩:=List.mem_map.mp ha
   subst hb
   refine ⟨by rw [(l2 u hu).1];exact ld u hu,?_⟩
   rw [qCq,ff]
   cases u.testBit b.log2 <;> rfl
theorem redS_spn {k:List Nat} (x y:Nat):Spn (redS k x) y↔Spn (k++[x]) y:=by
 have rx:=red1_spn k k (fun _ h=>h) x
 unfold redS
 have inl:∀ {z},Spn k z->Spn (k++[x]) z:=fun {z} hz=>hz.mono fun u hu=>.mem (List.mem_append_left _ hu)
 have xm:Spn (k++[x]) x:=.mem (by simp)
 by_cases z:red1 k x=0
 ·rw [if_pos z]
  rw [z,Nat.zero_xor] at rx
  refine ⟨inl,fun h=>h.mono fun u hu=>?_⟩
  rcases List.mem_append.mp hu with w | w
  ·exact .mem w
  ·rw [List.mem_singleton] at w;rw [w];exact rx
 rw [if_neg z]
 have fm:Spn (k++[x]) (red1 k x):=by
  have:=(inl rx).xor xm
  rwa [qBq] at this
 revert rx fm
 generalize red1 k x=f
 intro rx fm
 have ff:Spn (k.map (fun s=>rd1 s f)++[f]) f:=.mem (by simp)
 have sk:∀ s∈k,Spn (k.map (fun s=>rd1 s f)++[f]) s:=fun s hs=>by
  have a:Spn (k.map (fun s=>rd1 s f)++[f]) (rd1 s f):=.mem (List.mem_append_left _ (List.mem_map_of_mem (f:=fun s=>rd1 s f) hs))
  by_cases q:s.testBit f.log2=true
  ·have b:=a.xor ff
   rw [show rd1 s f=s^^^f from if_pos q,qBq] at b
   exact b
  ·rw [show rd1 s f=s from if_neg q] at a
   exact a
 constructor
 ·intro h
  refine h.mono fun u hu=>?_
  rcases List.mem_append.mp hu with w | w
  ·obtain ⟨s,hs,rfl⟩:=List.mem_map.mp w
   unfold rd1
   split
   ·exact (inl (.mem hs)).xor fm
   ·exact inl (.mem hs)
  ·rw [List.mem_singleton] at w;rw [w];exact fm
 ·intro h
  refine h.mono fun u hu=>?_
  rcases List.mem_append.mp hu with w | w
  ·exact sk u w
  ·rw [List.mem_singleton] at w
   subst w
   have b:=ff.xor (rx.mono sk)
   rw [<-Nat.xor_assoc,Nat.xor_self,Nat.zero_xor] at b
   exact b
theorem qFb {P:List Nat->Prop} (h0:P []) (hs:∀ l t,P l->P (l++[t])) (l:List Nat):P l:=by
 have:∀ r:List Nat,P r.reverse:=fun r=>by
  induction r with
  | nil=>exact h0
  | cons a r ih=>rw [List.reverse_cons];exact hs _ _ ih
 have q:=this l.reverse
 rwa [List.reverse_reverse] at q
theorem qC4 (xs:List Nat):RR (red xs):=qFb (P:=fun xs=>RR (red xs)) RR.nil (fun l t ih=>by rw [qDx];exact ih.step t) xs
theorem qCa (xs:List Nat):∀ y,Spn (red xs) y↔Spn xs y:=by
 refine qFb (P:=fun xs=>∀ y,Spn (red xs) y↔Spn xs y) (fun y=>Iff.rfl) (fun l t ih y=>?_) xs
 rw [qDx,redS_spn]
 constructor
 ·exact fun h=>h.mono fun u hu=>by
   rcases List.mem_append.mp hu with w | w
   ·exact ((ih u).mp (.mem w)).mono fun v hv=>.mem (List.mem_append_left _ hv)
   ·exact .mem (List.mem_append_right _ w)
 ·exact fun h=>h.mono fun u hu=>by
   rcases List.mem_append.mp hu with w | w
   ·exact ((ih u).mpr (.mem w)).mono fun v hv=>.mem (List.mem_append_left _ hv)
   ·exact .mem (List.mem_append_right _ w)
theorem red_lt {xs:List Nat} {m:Nat} (h:∀ x∈xs,x<2^m):∀ s∈red xs,s<2^m:=fun s hs=>Spn.lt h ((qCa xs s).mp (.mem hs))
def Fsh (xs:List Nat):Prop:=∀ i x,xs[i]?=some x->∃ j,x.testBit j=true/\∀ y∈xs.take i,y.testBit j=false
theorem spn_bit {l:List Nat} {j:Nat} (h:∀ x∈l,x.testBit j=false) {y:Nat} (hy:Spn l y):y.testBit j=false:=by
 induction hy with
 | zero=>simp
 | add m _ ih=>rw [Nat.testBit_xor,h _ m,ih];rfl
end My
namespace My
def xsum:Nat->(Nat->Bool)->Bool
 | 0,_=>false
 | m+1,f=>xsum m f ^^ f m
theorem qBt {f g:Nat->Bool}:∀ {m:Nat},(∀ j,j<m->f j=g j)->xsum m f=xsum m g
 | 0,_=>rfl
 | m+1,h=>by unfold xsum;rw [qBt fun j hj=>h j (by omega),h m (by omega)]
theorem xsum_xor (f g:Nat->Bool):∀ m:Nat,xsum m (fun j=>f j ^^ g j)=(xsum m f ^^ xsum m g)
 | 0=>rfl
 | m+1=>by
  unfold xsum
  rw [xsum_xor f g m]
  show ((xsum m f ^^ xsum m g) ^^ (f m ^^ g m))=_
  cases xsum m f <;> cases xsum m g <;> cases f m <;> cases g m <;> rfl
theorem qD2:∀ m:Nat,xsum m (fun _=>false)=false
 | 0=>rfl
 | m+1=>by unfold xsum;rw [qD2 m];rfl
theorem xsum_one {f:Nat->Bool} {l:Nat}:∀ {m:Nat},(∀ j,j<m->j≠l->f j=false)->xsum m f=(decide (l<m) && f l)
 | 0,_=>by simp [xsum]
 | m+1,h=>by
  unfold xsum
  rw [xsum_one (m:=m) fun j hj=>h j (by omega)]
  by_cases e:l=m
  ·subst e;simp
  ·have n:=h m (by omega) (fun z=>e z.symm)
   rw [n]
   have:decide (l<m)=decide (l<m+1):=by
    by_cases q:l<m
    ·rw [decide_eq_true q,decide_eq_true (by omega)]
    ·rw [decide_eq_false q,decide_eq_false (by omega)]
   rw [this];simp
def dot (m x y:Nat):Bool:=xsum m fun j=>x.testBit j && y.testBit j
theorem qE0 (m x x' y:Nat):dot m (x^^^x') y=(dot m x y ^^ dot m x' y):=by
 unfold dot
 rw [<-xsum_xor]
 refine qBt fun j _=>?_
 rw [Nat.testBit_xor]
 cases x.testBit j <;> cases x'.testBit j <;> cases y.testBit j <;> rfl
theorem dot_right (m x y y':Nat):dot m x (y^^^y')=(dot m x y ^^ dot m x y'):=by
 unfold dot
 rw [<-xsum_xor]
 refine qBt fun j _=>?_
 rw [Nat.testBit_xor]
 cases x.testBit j <;> cases y.testBit j <;> cases y'.testBit j <;> rfl
theorem dot_zero (m y:Nat):dot m 0 y=false:=by
 unfold dot
 rw [qBt (g:=fun _=>false) fun j _=>by simp,qD2]
theorem dot_zero' (m y:Nat):dot m y 0=false:=by
 unfold dot
 rw [qBt (g:=fun _=>false) fun j _=>by simp,qD2]
theorem dot_pow {m p y:Nat} (hp:p<m):dot m (2^p) y=y.testBit p:=by
 unfold dot
 rw [xsum_one (l:=p) fun j _ ne=>by rw [Nat.testBit_two_pow,decide_eq_false (fun z=>ne z.symm)];rfl]
 rw [Nat.testBit_two_pow]
 simp [hp]
theorem dot_only {m x s l:Nat} (hl:l<m) (hs:s.testBit l=true) (h:∀ j,j<m->j≠l->(x.testBit j && s.testBit j)=false):dot m x s=x.testBit l:=by
 unfold dot
 rw [xsum_one (l:=l) h,decide_eq_true hl,hs]
 simp
theorem spn_dot {l:List Nat} {m y:Nat} (h:∀ s∈l,dot m y s=false) {z:Nat} (hz:Spn l z):dot m y z=false:=by
 induction hz with
 | zero=>exact dot_zero' m y
 | add hm _ ih=>rw [dot_right,h _ hm,ih];rfl
theorem spn_dotL {l:List Nat} {m s:Nat} (h:∀ x∈l,dot m x s=false) {z:Nat} (hz:Spn l z):dot m z s=false:=by
 induction hz with
 | zero=>exact dot_zero m s
 | add hm _ ih=>rw [qE0,h _ hm,ih];rfl
theorem qF6:∀ (l x:Nat),x.testBit l=false->2^l+x=2^l^^^x
 | 0,x,h=>by
  have e:x % 2=0:=by
   rw [Nat.testBit_zero] at h
   have:=of_decide_eq_false h
   omega
  show 1+x=1^^^x
  rw [Nat.xor_comm,qEh e,Nat.add_comm]
 | l+1,x,h=>by
  rw [Nat.testBit_succ] at h
  have ih:=qF6 l (x / 2) h
  have d:(2^(l+1)^^^x) / 2=2^l+x / 2:=by
   rw [Nat.xor_div_two,ih,Nat.pow_succ,Nat.mul_div_cancel _ (by decide)]
  have b:(2^(l+1)^^^x).testBit 0=x.testBit 0:=by rw [Nat.testBit_xor,Nat.testBit_two_pow];simp
  rw [Nat.testBit_zero,Nat.testBit_zero] at b
  have b':(2^(l+1)^^^x) % 2=1↔x % 2=1:=by simpa using b
  have p:=Nat.pow_succ (n:=2) (m:=l)
  rcases Nat.mod_two_eq_zero_or_one x with q | q
  ·have:¬(2^(l+1)^^^x) % 2=1:=fun z=>by have:=b'.mp z;omega
   omega
  ·have:=b'.mpr q
   omega
theorem sum_pow:∀ (L:List Nat),L.Nodup->∀ j,((L.map fun l=>2^l).sum).testBit j=decide (j∈L)
 | [],_,j=>by simp
 | l :: L,nd,j=>by
  obtain ⟨n1,n2⟩:=List.nodup_cons.mp nd
  have ih:=sum_pow L n2
  rw [List.map_cons,List.sum_cons,qF6 l _ (by rw [ih l,decide_eq_false n1]),Nat.testBit_xor,ih j,Nat.testBit_two_pow]
  by_cases e:l=j
  ·subst e;simp [n1]
  ·have e':¬j=l:=fun z=>e z.symm
   simp [e,e']
def crM (S:List Nat) (p:Nat):Nat:=2^p+((S.filter fun s:Nat=>s.testBit p).map fun s:Nat=>2^s.log2).sum
def isLd (S:List Nat) (p:Nat):Prop:=∃ s∈S,s.log2=p
instance (S:List Nat):DecidablePred (isLd S):=fun p=>inferInstanceAs (Decidable (∃ s∈S,s.log2=p))
theorem ld_nd:∀ {S:List Nat},RR S->(S.map Nat.log2).Nodup
 | [],_=>List.nodup_nil
 | s :: S,h=>by
  rw [List.map_cons]
  refine List.nodup_cons.mpr ⟨fun z=>?_,ld_nd h.tl⟩
  obtain ⟨t,ht,e⟩:=List.mem_map.mp z
  have a:=(h.hd t ht).1
  rw [<-e,h.self (List.mem_cons_of_mem _ ht)] at a
  cases a
theorem qD1 {S:List Nat} (h:RR S) (p j:Nat):(((S.filter fun s:Nat=>s.testBit p).map fun s:Nat=>2^s.log2).sum).testBit j=decide (∃ s∈S,s.testBit p=true/\s.log2=j):=by
 have e:((S.filter fun s:Nat=>s.testBit p).map fun s:Nat=>2^s.log2)=((S.filter fun s:Nat=>s.testBit p).map Nat.log2).map fun l=>2^l:=by rw [List.map_map];rfl
 rw [e,sum_pow _ ((ld_nd h).sublist (List.filter_sublist.map _))]
 refine decide_eq_decide.mpr ?_
 rw [List.mem_map]
 constructor
 ·rintro ⟨s,hs,rfl⟩
  exact ⟨s,(List.mem_filter.mp hs).1,(List.mem_filter.mp hs).2,rfl⟩
 ·rintro ⟨s,hs,h1,rfl⟩
  exact ⟨s,List.mem_filter.mpr ⟨hs,h1⟩,rfl⟩
theorem leads_bit {S:List Nat} (h:RR S) (j:Nat):((S.map fun s:Nat=>2^s.log2).sum).testBit j=decide (isLd S j):=by
 have e:(S.map fun s:Nat=>2^s.log2)=(S.map Nat.log2).map fun l=>2^l:=by rw [List.map_map];rfl
 rw [e,sum_pow _ (ld_nd h)]
 refine decide_eq_decide.mpr ?_
 rw [List.mem_map]
 exact Iff.rfl
theorem crM_bit {S:List Nat} (h:RR S) {p:Nat} (np:¬isLd S p) (j:Nat):(crM S p).testBit j=(decide (p=j) ^^ decide (∃ s∈S,s.testBit p=true/\s.log2=j)):=by
 unfold crM
 rw [qF6 _ _ (by rw [qD1 h];exact decide_eq_false fun ⟨s,hs,_,e⟩=>np ⟨s,hs,e⟩),Nat.testBit_xor,Nat.testBit_two_pow,qD1 h]
theorem crM_lt {S:List Nat} {m:Nat} (h:RR S) (hm:∀ s∈S,s<2^m) {p:Nat} (hp:p<m) (np:¬isLd S p):crM S p<2^m:=by
 refine Nat.lt_pow_two_of_testBit _ fun i hi=>?_
 rw [crM_bit h np,decide_eq_false (by omega:¬p=i),decide_eq_false]
 ·rfl
 ·rintro ⟨s,hs,_,e⟩
  have:=h.self hs
  rw [e,qEr (hm s hs) hi] at this
  cases this
theorem crM_dot {S:List Nat} {m:Nat} (h:RR S) (hm:∀ s∈S,s<2^m) {p:Nat} (hp:p<m) (np:¬isLd S p):∀ s∈S,dot m (crM S p) s=false:=fun s hs=>by
 have e:crM S p=2^p^^^((S.filter fun s:Nat=>s.testBit p).map fun s:Nat=>2^s.log2).sum:=by
  unfold crM
  exact qF6 _ _ (by rw [qD1 h];exact decide_eq_false fun ⟨s,hs,_,e⟩=>np ⟨s,hs,e⟩)
 have ls:s.log2<m:=by
  have:=h.self hs
  rcases Nat.lt_or_ge s.log2 m with z | z
  ·exact z
  ·rw [qEr (hm s hs) z] at this;cases this
 rw [e,qE0,dot_pow hp,dot_only (l:=s.log2) ls (h.self hs) fun j hj ne=>?_,qD1 h]
 ·have:decide (∃ t∈S,t.testBit p=true/\t.log2=s.log2)=s.testBit p:=by
   cases q:s.testBit p with
   | true=>exact decide_eq_true ⟨s,hs,q,rfl⟩
   | false =>
    refine decide_eq_false ?_
    rintro ⟨t,ht,h1,h2⟩
    by_cases z:t=s
    ·subst z;rw [q] at h1;cases h1
    ·have a:=h.ne hs ht (fun w=>z w.symm)
     rw [h2,h.self hs] at a;cases a
  rw [this]
  cases s.testBit p <;> rfl
 ·rw [qD1 h]
  by_cases q:∃ t∈S,t.testBit p=true/\t.log2=j
  ·obtain ⟨t,ht,h1,h2⟩:=q
   have z:s≠t:=fun w=>ne (by rw [w,h2])
   have a:=h.ne hs ht z
   rw [h2] at a
   rw [a];simp
  ·rw [decide_eq_false q];rfl
def crAll (S:List Nat) (m:Nat):List Nat:=((List.range m).filter fun p=>!decide (isLd S p)).map (crM S)
def xl (L:List Nat):Nat:=L.foldr (·^^^·) 0
theorem xl_spn {l L:List Nat} (h:∀ x∈L,x∈l):Spn l (xl L):=by
 induction L with
 | nil=>exact .zero
 | cons a L ih=>exact .add (h a List.mem_cons_self) (ih fun x hx=>h x (List.mem_cons_of_mem _ hx))
theorem xl_cr {S:List Nat} (h:RR S):∀ (L:List Nat),L.Nodup->(∀ p∈L,¬isLd S p)->∀ j,¬isLd S j->(xl (L.map (crM S))).testBit j=decide (j∈L)
 | [],_,_,j,_=>by simp [xl]
 | p :: L,nd,np,j,nj=>by
  obtain ⟨n1,n2⟩:=List.nodup_cons.mp nd
  show (crM S p^^^xl (L.map (crM S))).testBit j=_
  rw [Nat.testBit_xor,xl_cr h L n2 (fun q hq=>np q (List.mem_cons_of_mem _ hq)) j nj,crM_bit h (np p List.mem_cons_self),decide_eq_false (p:=∃ s∈S,s.testBit p=true/\s.log2=j) fun ⟨s,hs,_,e⟩=>nj ⟨s,hs,e⟩]
  by_cases e:p=j
  ·subst e;simp [n1]
  ·have e':¬j=p:=fun z=>e z.symm
   simp [e,e']
theorem cr_spn {S:List Nat} {m:Nat} (h:RR S) (hm:∀ s∈S,s<2^m) (y:Nat):Spn (crAll S m) y↔y<2^m/\∀ s∈S,dot m y s=false:=by
 have mem:∀ x,x∈crAll S m↔∃ p,p<m/\¬isLd S p/\crM S p=x:=fun x=>by
  unfold crAll
  rw [List.mem_map]
  constructor
  ·rintro ⟨p,hp,rfl⟩
   obtain ⟨h1,h2⟩:=List.mem_filter.mp hp
   exact ⟨p,List.mem_range.mp h1,by simpa using h2,rfl⟩
  ·rintro ⟨p,h1,h2,rfl⟩
   exact ⟨p,List.mem_filter.mpr ⟨List.mem_range.mpr h1,by simpa using h2⟩,rfl⟩
 constructor
 ·intro hy
  refine ⟨Spn.lt (fun x hx=>?_) hy,fun s hs=>spn_dotL (fun x hx=>?_) hy⟩
  ·obtain ⟨p,h1,h2,rfl⟩:=(mem x).mp hx
   exact crM_lt h hm h1 h2
  ·obtain ⟨p,h1,h2,rfl⟩:=(mem x).mp hx
   exact crM_dot h hm h1 h2 s hs
 ·rintro ⟨hy,hd⟩
  have hL:∀ p∈(List.range m).filter (fun p=>!decide (isLd S p) && y.testBit p),p<m/\¬isLd S p/\y.testBit p=true:=fun p hp=>by
   obtain ⟨h1,h2⟩:=List.mem_filter.mp hp
   rw [Bool.and_eq_true] at h2
   exact ⟨List.mem_range.mp h1,by simpa using h2.1,h2.2⟩
  have nd:((List.range m).filter (fun p=>!decide (isLd S p) && y.testBit p)).Nodup:=List.nodup_range.sublist List.filter_sublist
  have cov:∀ j,j<m->¬isLd S j->(j∈(List.range m).filter (fun p=>!decide (isLd S p) && y.testBit p)↔y.testBit j=true):=fun j hj nj=>by
   rw [List.mem_filter,List.mem_range]
   simp [hj,nj]
  generalize (List.range m).filter (fun p=>!decide (isLd S p) && y.testBit p)=L at hL nd cov
  have sp:Spn (crAll S m) (xl (L.map (crM S))):=xl_spn fun x hx=>by
   obtain ⟨p,hp,rfl⟩:=List.mem_map.mp hx
   exact (mem _).mpr ⟨p,(hL p hp).1,(hL p hp).2.1,rfl⟩
  have lt1:xl (L.map (crM S))<2^m:=Spn.lt (fun x hx=>by
   obtain ⟨p,h1,h2,rfl⟩:=(mem x).mp hx
   exact crM_lt h hm h1 h2) sp
  have dz:∀ s∈S,dot m (y^^^xl (L.map (crM S))) s=false:=fun s hs=>by
   rw [qE0,hd s hs,spn_dotL (fun x hx=>?_) sp]
   ·rfl
   ·obtain ⟨p,h1,h2,rfl⟩:=(mem x).mp hx
    exact crM_dot h hm h1 h2 s hs
  have non:∀ j,¬isLd S j->(y^^^xl (L.map (crM S))).testBit j=false:=fun j nj=>by
   rw [Nat.testBit_xor,xl_cr h L nd (fun p hp=>(hL p hp).2.1) j nj]
   by_cases hj:j<m
   ·cases q:y.testBit j with
    | true=>rw [decide_eq_true ((cov j hj nj).mpr q)];rfl
    | false=>rw [decide_eq_false fun z=>by rw [(cov j hj nj).mp z] at q;cases q];rfl
   ·rw [qEr hy (by omega),decide_eq_false fun z=>hj (hL j z).1];rfl
  have z0:y^^^xl (L.map (crM S))=0:=by
   refine Nat.eq_of_testBit_eq fun j=>?_
   rw [Nat.zero_testBit]
   by_cases q:isLd S j
   ·obtain ⟨s,hs,rfl⟩:=q
    have ls:s.log2<m:=by
     have:=h.self hs
     rcases Nat.lt_or_ge s.log2 m with z | z
     ·exact z
     ·rw [qEr (hm s hs) z] at this;cases this
    rw [<-dot_only (m:=m) (s:=s) ls (h.self hs) fun j hj ne=>?_]
    ·exact dz s hs
    ·by_cases q:isLd S j
     ·obtain ⟨t,ht,rfl⟩:=q
      rw [h.ne hs ht (fun w=>ne (by rw [w]))];simp
     ·rw [non j q];rfl
   ·exact non j q
  have:y=xl (L.map (crM S)):=by
   have q:=qBq y (xl (L.map (crM S)))
   rw [z0,Nat.zero_xor] at q
   exact q.symm
  rw [this];exact sp
end My
namespace My
open PySem
theorem add_xor:∀ (n a b:Nat),a<n->a+b=(a^^^b)+2*(a&&&b)
 | 0,_,_,h=>absurd h (Nat.not_lt_zero _)
 | n+1,a,b,h=>by
  by_cases a0:a=0
  ·subst a0;simp
  have ih:=add_xor n (a / 2) (b / 2) (by omega)
  have d1:(a^^^b) / 2=a / 2^^^b / 2:=Nat.xor_div_two
  have d2:(a&&&b) / 2=a / 2&&&b / 2:=Nat.and_div_two
  have b1:(a^^^b).testBit 0=(a.testBit 0 ^^ b.testBit 0):=Nat.testBit_xor ..
  have b2:(a&&&b).testBit 0=(a.testBit 0 && b.testBit 0):=Nat.testBit_and ..
  rw [Nat.testBit_zero,Nat.testBit_zero,Nat.testBit_zero] at b1 b2
  rw [<-d1,<-d2] at ih
  generalize a^^^b=X at b1 ih ⊢
  generalize a&&&b=Y at b2 ih ⊢
  rcases Nat.mod_two_eq_zero_or_one a with p | p <;> rcases Nat.mod_two_eq_zero_or_one b with q | q <;> rw [p,q] at b1 b2 <;> simp at b1 b2 <;> omega
theorem qB3 (a b:Nat):Builtin.bitAnd (a:Int) (b:Int)=((a&&&b:Nat):Int):=by
 unfold Builtin.bitAnd
 rw [decide_eq_true (Int.natCast_nonneg a),decide_eq_true (Int.natCast_nonneg b)]
 simp
theorem qCh (a b:Nat):Builtin.bitXor (a:Int) (b:Int)=((a^^^b:Nat):Int):=by
 have e:=add_xor (a+1) a b (Nat.lt_succ_self a)
 have h:Builtin.bitXor (a:Int) (b:Int)=(a:Int)+b - 2*Builtin.bitAnd a b:=by
  have x:∀ x y:Int,Builtin.bitNot (Builtin.bitNot x)=x:=fun x y=>by unfold Builtin.bitNot;omega
  unfold Builtin.bitXor Builtin.bitOr
  have na:¬(0:Int)<=Builtin.bitNot (a:Int):=by unfold Builtin.bitNot;omega
  have nb:¬(0:Int)<=Builtin.bitNot (b:Int):=by unfold Builtin.bitNot;omega
  have o:Builtin.bitAnd (Builtin.bitNot (a:Int)) (Builtin.bitNot (b:Int))=Builtin.bitNot ((a ||| b:Nat):Int):=by
   unfold Builtin.bitAnd
   rw [decide_eq_false na,decide_eq_false nb]
   show Builtin.bitNot _=_
   rw [x a 0,x b 0];simp
  rw [o,x _ 0,qB3]
  have e2:(a ||| b)+(a&&&b)=a+b:=by
   have:=add_or (a+1) a b (Nat.lt_succ_self a)
   omega
  omega
 rw [h,qB3]
 omega
where
 add_or:∀ (n a b:Nat),a<n->(a ||| b)+(a&&&b)=a+b
 | 0,_,_,h=>absurd h (Nat.not_lt_zero _)
 | n+1,a,b,h=>by
  by_cases a0:a=0
  ·subst a0;simp
  have ih:=add_or n (a / 2) (b / 2) (by omega)
  have d1:(a ||| b) / 2=a / 2 ||| b / 2:=Nat.or_div_two
  have d2:(a&&&b) / 2=a / 2&&&b / 2:=Nat.and_div_two
  have b1:(a ||| b).testBit 0=(a.testBit 0 || b.testBit 0):=Nat.testBit_or ..
  have b2:(a&&&b).testBit 0=(a.testBit 0 && b.testBit 0):=Nat.testBit_and ..
  rw [Nat.testBit_zero,Nat.testBit_zero,Nat.testBit_zero] at b1 b2
  rw [<-d1,<-d2] at ih
  generalize a ||| b=X at b1 ih ⊢
  generalize a&&&b=Y at b2 ih ⊢
  rcases Nat.mod_two_eq_zero_or_one a with p | p <;> rcases Nat.mod_two_eq_zero_or_one b with q | q <;> rw [p,q] at b1 b2 <;> simp at b1 b2 <;> omega
theorem low_ex:∀ (n f:Nat),f<n->f≠0->∃ i,f.testBit i=true/\∀ j,j<i->f.testBit j=false
 | 0,_,h,_=>absurd h (Nat.not_lt_zero _)
 | n+1,f,h,nz=>by
  rcases Nat.mod_two_eq_zero_or_one f with p | p
  ·obtain ⟨i,h1,h2⟩:=low_ex n (f / 2) (by omega) (by omega)
   refine ⟨i+1,by rw [Nat.testBit_succ];exact h1,fun j hj=>?_⟩
   cases j with
   | zero=>rw [Nat.testBit_zero,p];rfl
   | succ j=>rw [Nat.testBit_succ];exact h2 j (by omega)
  ·exact ⟨0,by rw [Nat.testBit_zero,p];rfl,fun j hj=>absurd hj (Nat.not_lt_zero _)⟩
noncomputable def lo (f:Nat):Nat:=Classical.epsilon fun i=>f.testBit i=true/\∀ j,j<i->f.testBit j=false
theorem lo_spec {f:Nat} (h:f≠0):f.testBit (lo f)=true/\∀ j,j<lo f->f.testBit j=false :=
 Classical.epsilon_spec (low_ex (f+1) f (Nat.lt_succ_self _) h)
theorem pred_bit:∀ (i f:Nat),f.testBit i=true->(∀ j,j<i->f.testBit j=false)->∀ j,(f - 1).testBit j=(decide (j<i) || (decide (i<j) && f.testBit j))
 | 0,f,h1,_,j=>by
  rw [Nat.testBit_zero] at h1
  have p:=of_decide_eq_true h1
  cases j with
  | zero=>rw [Nat.testBit_zero];simp;omega
  | succ j=>rw [Nat.testBit_succ,Nat.testBit_succ,show (f - 1) / 2=f / 2 by omega];simp
 | i+1,f,h1,h2,j=>by
  have z:=h2 0 (by omega)
  rw [Nat.testBit_zero] at z
  have p:=of_decide_eq_false z
  rw [Nat.testBit_succ] at h1
  have nz:f / 2≠0:=fun w=>by rw [w] at h1;simp at h1
  cases j with
  | zero=>rw [Nat.testBit_zero];simp;omega
  | succ j =>
   rw [Nat.testBit_succ,Nat.testBit_succ,show (f - 1) / 2=f / 2 - 1 by omega,pred_bit i (f / 2) h1 (fun k hk=>by have:=h2 (k+1) (by omega);rwa [Nat.testBit_succ] at this) j]
   simp
theorem low_test (e:Nat) {f:Nat} (nz:f≠0):Builtin.bitAnd (Builtin.bitAnd (e:Int) (f:Int)) (-(f:Int))≠0↔e.testBit (lo f)=true:=by
 obtain ⟨h1,h2⟩:=lo_spec nz
 rw [qB3]
 have ev:Builtin.bitAnd (((e&&&f:Nat)):Int) (-(f:Int))=((e&&&f:Nat):Int) - (((e&&&f)&&&(f - 1):Nat):Int):=by
  unfold Builtin.bitAnd
  rw [decide_eq_true (Int.natCast_nonneg _),decide_eq_false (by omega:¬(0:Int)<=-(f:Int))]
  show ((e&&&f:Nat):Int) - (((((e&&&f:Nat):Int).toNat)&&&(Builtin.bitNot (-(f:Int))).toNat:Nat):Int)=_
  rw [show (Builtin.bitNot (-(f:Int))).toNat=f - 1 by unfold Builtin.bitNot;omega,Int.toNat_natCast]
 rw [ev]
 have pb:=pred_bit (lo f) f h1 h2
 constructor
 ·intro ne
  cases q:e.testBit (lo f) with
  | true=>rfl
  | false =>
   refine absurd ?_ ne
   have:(e&&&f)&&&(f - 1)=e&&&f:=by
    refine Nat.eq_of_testBit_eq fun j=>?_
    rw [Nat.testBit_and,Nat.testBit_and,pb j]
    rcases Nat.lt_trichotomy j (lo f) with z | z | z
    ·rw [h2 j z];simp
    ·subst z;rw [q];simp
    ·simp [z]
     exact fun _ h=>.inr h
   rw [this];omega
 ·intro q ne
  have this:(e&&&f)&&&(f - 1)=e&&&f:=by omega
  have b:=congrArg (fun x:Nat=>x.testBit (lo f)) this
  simp only [Nat.testBit_and,pb,q,h1] at b
  simp at b
theorem low_bit {f:Nat} (nz:f≠0):Builtin.bitAnd (f:Int) (-(f:Int))=((2^lo f:Nat):Int):=by
 obtain ⟨h1,h2⟩:=lo_spec nz
 have ev:Builtin.bitAnd (f:Int) (-(f:Int))=(f:Int) - ((f&&&(f - 1):Nat):Int):=by
  unfold Builtin.bitAnd
  rw [decide_eq_true (Int.natCast_nonneg _),decide_eq_false (by omega:¬(0:Int)<=-(f:Int))]
  show (f:Int) - ((((f:Int).toNat)&&&(Builtin.bitNot (-(f:Int))).toNat:Nat):Int)=_
  rw [show (Builtin.bitNot (-(f:Int))).toNat=f - 1 by unfold Builtin.bitNot;omega,Int.toNat_natCast]
 rw [ev]
 have pb:=pred_bit (lo f) f h1 h2
 have e:f=2^lo f+(f&&&(f - 1)):=by
  rw [qF6 _ _ (by rw [Nat.testBit_and,pb];simp)]
  refine Nat.eq_of_testBit_eq fun j=>?_
  rw [Nat.testBit_xor,Nat.testBit_two_pow,Nat.testBit_and,pb j]
  rcases Nat.lt_trichotomy j (lo f) with z | z | z
  ·have:¬lo f=j:=by omega
   rw [h2 j z];simp [this]
  ·subst z;rw [h1];simp
  ·have n1:¬lo f=j:=by omega
   simp [z,n1]
   exact fun h=>.inr h
 omega
theorem qF5 (x p:Nat):x&&&2^p≠0↔x.testBit p=true:=by
 constructor
 ·intro ne
  cases q:x.testBit p with
  | true=>rfl
  | false =>
   refine absurd (Nat.eq_of_testBit_eq fun j=>?_) ne
   rw [Nat.testBit_and,Nat.testBit_two_pow,Nat.zero_testBit]
   by_cases e:p=j
   ·subst e;rw [q];rfl
   ·simp [e]
 ·intro q z
  have:=congrArg (fun x:Nat=>x.testBit p) z
  simp [Nat.testBit_and,q] at this
def rv (m x:Nat):Nat:=((((List.range m).filter fun i=>x.testBit i).map fun i=>m - 1 - i).map fun l=>2^l).sum
theorem qCk (m x j:Nat):(rv m x).testBit j=(decide (j<m) && x.testBit (m - 1 - j)):=by
 have nd:(((List.range m).filter fun i=>x.testBit i).map fun i=>m - 1 - i).Nodup:=by
  have h:((List.range m).filter fun i=>x.testBit i).Pairwise fun a b=>m - 1 - a≠m - 1 - b:=by
   have:(List.range m).Pairwise fun a b=>a≠b:=List.nodup_range
   refine List.Pairwise.imp_of_mem (fun {a b} ha hb ne=>?_) (this.sublist List.filter_sublist)
   have a1:=List.mem_range.mp (List.mem_filter.mp ha).1
   have b1:=List.mem_range.mp (List.mem_filter.mp hb).1
   omega
  rw [List.Nodup,List.pairwise_map]
  exact h
 unfold rv
 rw [sum_pow _ nd]
 by_cases hj:j<m
 ·rw [decide_eq_true hj,Bool.true_and]
  cases q:x.testBit (m - 1 - j) with
  | true=>exact decide_eq_true (List.mem_map.mpr ⟨m - 1 - j,List.mem_filter.mpr ⟨List.mem_range.mpr (by omega),q⟩,by omega⟩)
  | false =>
   refine decide_eq_false fun z=>?_
   obtain ⟨i,hi,e⟩:=List.mem_map.mp z
   obtain ⟨h1,h2⟩:=List.mem_filter.mp hi
   have:=List.mem_range.mp h1
   rw [show m - 1 - j=i by omega,h2] at q;cases q
 ·rw [decide_eq_false hj,Bool.false_and]
  refine decide_eq_false fun z=>?_
  obtain ⟨i,hi,e⟩:=List.mem_map.mp z
  have:=List.mem_range.mp (List.mem_filter.mp hi).1
  omega
theorem rv_lt (m x:Nat):rv m x<2^m:=Nat.lt_pow_two_of_testBit _ fun i hi=>by rw [qCk,decide_eq_false (by omega)];rfl
theorem rv_xor (m x y:Nat):rv m (x^^^y)=rv m x^^^rv m y:=Nat.eq_of_testBit_eq fun j=>by
 rw [Nat.testBit_xor,qCk,qCk,qCk,Nat.testBit_xor]
 cases decide (j<m) <;> simp
theorem rv_rv {m x:Nat} (h:x<2^m):rv m (rv m x)=x:=Nat.eq_of_testBit_eq fun j=>by
 rw [qCk,qCk]
 by_cases hj:j<m
 ·rw [decide_eq_true hj,decide_eq_true (by omega),show m - 1 - (m - 1 - j)=j by omega];rfl
 ·rw [decide_eq_false hj,qEr h (Nat.le_of_not_lt hj)];rfl
theorem rv_zero (m:Nat):rv m 0=0:=Nat.eq_of_testBit_eq fun j=>by rw [qCk];simp
theorem rv_ne {m x:Nat} (h:x<2^m) (nz:x≠0):rv m x≠0:=fun z=>nz (by rw [<-rv_rv h,z,rv_zero])
theorem lo_lt {m x:Nat} (h:x<2^m) (nz:x≠0):lo x<m:=by
 rcases Nat.lt_or_ge (lo x) m with z | z
 ·exact z
 ·have:=(lo_spec nz).1
  rw [qEr h z] at this;cases this
theorem rv_log2 {m x:Nat} (h:x<2^m) (nz:x≠0):(rv m x).log2=m - 1 - lo x:=by
 obtain ⟨h1,h2⟩:=lo_spec nz
 have l:=lo_lt h nz
 refine log2_of ?_ (Nat.lt_pow_two_of_testBit _ fun i hi=>?_)
 ·rw [qCk,decide_eq_true (by omega),show m - 1 - (m - 1 - lo x)=lo x by omega,h1];rfl
 ·rw [qCk]
  by_cases q:i<m
  ·rw [h2 (m - 1 - i) (by omega)];simp
  ·rw [decide_eq_false q];rfl
noncomputable def rdL (x s:Nat):Nat:=if x.testBit (lo s)=true then x^^^s else x
theorem rv_rdL {m x s:Nat} (hs:s<2^m) (nz:s≠0):rv m (rdL x s)=rd1 (rv m x) (rv m s):=by
 have l:=lo_lt hs nz
 unfold rdL rd1
 have b:(rv m x).testBit (rv m s).log2=x.testBit (lo s):=by
  rw [rv_log2 hs nz,qCk,decide_eq_true (by omega),show m - 1 - (m - 1 - lo s)=lo s by omega];rfl
 rw [b]
 split
 ·exact rv_xor m x s
 ·rfl
theorem rdL_lt {m x s:Nat} (hx:x<2^m) (hs:s<2^m):rdL x s<2^m:=by
 unfold rdL
 split
 ·exact Nat.xor_lt_two_pow hx hs
 ·exact hx
noncomputable def redL1 (k:List Nat) (x:Nat):Nat:=k.foldl rdL x
def Gm (m:Nat) (k:List Nat):Prop:=∀ s∈k,s<2^m/\s≠0
theorem redL1_rv {m:Nat}:∀ {k:List Nat} {x:Nat},Gm m k->x<2^m->redL1 k x<2^m/\rv m (redL1 k x)=red1 (k.map (rv m)) (rv m x)
 | [],x,_,hx=>⟨hx,rfl⟩
 | s :: k,x,h,hx=>by
  obtain ⟨h1,h2⟩:=h s List.mem_cons_self
  have ih:=redL1_rv (x:=rdL x s) (fun t ht=>h t (List.mem_cons_of_mem _ ht)) (rdL_lt hx h1)
  refine ⟨ih.1,?_⟩
  show rv m (redL1 k (rdL x s))=red1 (k.map (rv m)) (rd1 (rv m x) (rv m s))
  rw [ih.2,rv_rdL h1 h2]
noncomputable def redLS (k:List Nat) (x:Nat):List Nat:=if redL1 k x=0 then k else k.map (fun s=>rdL s (redL1 k x))++[redL1 k x]
noncomputable def redL (xs:List Nat):List Nat:=xs.foldl redLS []
theorem qFl (xs:List Nat) (x:Nat):redL (xs++[x])=redLS (redL xs) x:=by unfold redL;rw [List.foldl_append];rfl
theorem redL_rv {m:Nat} (xs:List Nat):(∀ x∈xs,x<2^m)->Gm m (redL xs)/\(redL xs).map (rv m)=red (xs.map (rv m)):=by
 refine qFb (P:=fun xs=>(∀ x∈xs,x<2^m)->Gm m (redL xs)/\(redL xs).map (rv m)=red (xs.map (rv m))) (fun _=>⟨fun s hs=>(by cases hs),rfl⟩) (fun l t ih h=>?_) xs
 obtain ⟨g,e⟩:=ih fun x hx=>h x (List.mem_append_left _ hx)
 have ht:=h t (by simp)
 obtain ⟨l1,l2⟩:=redL1_rv g ht
 have sp:∀ s∈redL l,rv m s≠0:=fun s hs=>rv_ne (g s hs).1 (g s hs).2
 rw [List.map_append,List.map_singleton,qDx,qFl,<-e]
 unfold redLS redS
 rw [<-l2]
 by_cases z:redL1 (redL l) t=0
 ·rw [if_pos z,z,rv_zero,if_pos rfl]
  exact ⟨g,rfl⟩
 ·have z':=rv_ne l1 z
  rw [if_neg z,if_neg z']
  have rr:=qC4 (l.map (rv m))
  rw [<-e] at rr
  refine ⟨fun s hs=>?_,?_⟩
  ·rcases List.mem_append.mp hs with w | w
   ·obtain ⟨u,hu,rfl⟩:=List.mem_map.mp w
    refine ⟨rdL_lt (g u hu).1 l1,fun q=>?_⟩
    have q2:=rv_rdL (x:=u) l1 z
    rw [q,rv_zero] at q2
    have ld:=qFn (x:=rv m t) rr (rv m u) (List.mem_map_of_mem hu)
    rw [<-l2] at ld
    exact (rd1_log2 (sp u hu) z' ld).2 q2.symm
   ·rw [List.mem_singleton] at w;rw [w];exact ⟨l1,z⟩
  ·rw [List.map_append,List.map_singleton,List.map_map,List.map_map]
   congr 1
   refine List.map_congr_left fun s hs=>?_
   exact rv_rdL l1 z
end My
namespace My
open PySem
def bd (V:Nat->Nat):Nat->Nat->Nat
 | 0,_=>0
 | m+1,y=>bd V m y^^^(if y.testBit m=true then V m else 0)
noncomputable def el1 (v f:Nat×Nat):Nat×Nat:=if v.1.testBit (lo f.1)=true then (v.1^^^f.1,v.2^^^f.2) else v
noncomputable def el (k:List (Nat×Nat)) (v:Nat×Nat):Nat×Nat:=k.foldl el1 v
abbrev Ech (k:List (Nat×Nat)):Prop:=k.Pairwise fun a b=>b.1.testBit (lo a.1)=false
structure EIv (V:Nat->Nat) (m j:Nat) (K:List (Nat×Nat)) (F:List Nat):Prop where
 k1:∀ f∈K,f.1≠0/\f.1=bd V m f.2
 kl:∀ f∈K,f.2<2^j
 k2:Ech K
 f1:∀ y∈F,y<2^j/\bd V m y=0
 cov:∀ y,y<2^j->Spn (F++K.map (·.2)) y
 len:F.length+K.length=j
 fsh:Fsh F
end My
namespace L2
open PySem PySem.Spec PyProof.Rows
section
variable {X:Cx}
theorem ints_of {ns:List Int}:∀ {us:List Value},qBc (ns.map V.int) us->∃ xs:List (Int×Tok),us=xs.map (fun p=>Value.int p.1 p.2)/\xs.map (·.1)=ns:=by
 induction ns with
 | nil=>intro us r;cases r;exact ⟨[],rfl,rfl⟩
 | cons a l ih =>
  intro us r
  cases r with
  | cons r rr =>
   obtain ⟨t,rfl⟩:=r
   obtain ⟨xs,rfl,rfl⟩:=ih rr
   exact ⟨(a,t) :: xs,rfl,rfl⟩
theorem qDb (hc:X.calm=true):qCw X (.builtin "sum") (fun xs H Q=>∃ (p:Addr) (ns:List Int),xs=[.ref p]/\SqL X.K H p (ns.map V.int)/\Q (.int ns.sum) H):=by
 intro pins s σ H xs us Q I r h
 obtain ⟨p,ns,rfl,hq,q⟩:=h
 obtain ⟨u,rfl,rx⟩:=qCx r
 cases rx
 obtain ⟨its,rv,pl,hz⟩:=I.list hq
 obtain ⟨ys,rfl,rfl⟩:=ints_of rv
 have e:(ys.map (fun p=>Value.int p.1 p.2)).toArray=intItems ys.toArray:=by unfold intItems;simp
 have pl':=pl.isList
 rw [e] at pl'
 refine sum_intListG (I.ok.hd hc) pl' fun h' tk t' hk=>⟨.int _,H,I.kept (t':=tk) hk,⟨t',rfl⟩,?_⟩
 rw [preSum_eq,List.take_of_length_le (by simp)]
 exact q
theorem qFz {ns:List Int}:∀ {us:List Value},qBc (ns.map V.int) us->IntsAre us ns:=by
 induction ns with
 | nil=>intro us r;cases r;exact .nil
 | cons a l ih =>
  intro us r
  cases r with
  | cons r rr =>
   obtain ⟨t,rfl⟩:=r
   exact .cons a t (ih rr)
theorem of_intsAre {ns:List Int}:∀ {us:List Value},IntsAre us ns->qBc (ns.map V.int) us:=by
 induction ns with
 | nil=>intro us r;cases r;exact .nil
 | cons a l ih =>
  intro us r
  cases r with
  | cons _ _ r=>exact .cons ⟨_,rfl⟩ (ih r)
def tSortRev (K:PySem.W.Frag) (t:TA):TE:=fun σ H Q=>t σ H fun vs H1=>∃ (p:Addr) (ns:List Int),vs=[.ref p]/\SqL K H1 p (ns.map V.int)/\ns.length<64/\∀ (r:Addr) (ns':List Int),H1 r=none->ns'.Perm ns->Ordered true ns'->Q (.ref r) (upd H1 r (.lst (ns'.map V.int)))
theorem pe_sortRev {e:Expr} {t:TA} {p pos kp cp:Pos} {j:Nat} (hg:Gl X "sorted") (hm:X.mg "sorted" = none) (ha:PA X [e] t)
  (he:backTo pos (starEach [e] X.env)=(false,eval e X.env) :: backTo pos (starEach [] X.env):=by rfl)
  (hplain:(backTo pos (starEach [e] X.env)).any (·.1)=false:=by rfl):PE X (.Call (.Name "sorted" p) [e] [⟨some "reverse",.Constant (.bool true) j cp,kp⟩] pos) (tSortRev X.K t):=by
 intro pins s σ H Q I h
 refine wpAny_Call_Name_kw (qFu I hg hm (by decide +kernel:bootBuiltins "sorted" = some (.builtin "sorted")) ?_ (by decide) (by decide))
 refine PyProof.Rows.callWith_kw (thn (ha pos pins s σ H _ I h) fun us s1 ⟨vs,H1,I1,r1,q1⟩=>?_) he hplain
 obtain ⟨a,ns,rfl,hq,h64,q⟩:=q1
 obtain ⟨u,rfl,rx⟩:=qCx r1
 cases rx
 refine PyProof.Rows.kws_cons (Constant_bool (PyProof.Rows.kws_nil ?_))
 obtain ⟨its,rv,pl,hz⟩:=I1.list hq
 have hl:=rv.length
 rw [List.length_map] at hl
 refine sorted_ints_rev (b:=true) pl.isList (qFz rv) (by omega) fun out ns' h1 h2 h3=>?_
 obtain ⟨e,he⟩:=sortedAll_at s1.heap its out
 have nz:H1 (s1.heap.objs.size+1)=none:=I1.hok.fresh (Nat.le_succ _)
 refine ⟨.ref (s1.heap.objs.size+1),_,I1.laid (t':=s1.toks) (a:=s1.heap.objs.size+1) (o:=.lst (ns'.map V.int)) (fun b o eb=>sortedAll_old eb) (Nat.le_succ _) ?_,rfl,q _ ns' nz h2 h3⟩
 refine ⟨?_,out.toList,e,of_intsAre h1,by simpa using he⟩
 rw [List.length_map,h2.length_eq]
 exact Nat.le_of_lt (qAk (by omega))
def rBits:V->List V->Hp->VK->Prop:=fun x vs H Q=>∃ i:Int,x = .int i/\vs=[]/\Q (.int (Builtin.Int.intBits i:Nat)) H
theorem mt_bits:MtR X "int.bit_length" rBits:=by
 intro pins s σ H x vs v us Q I rx rv h
 obtain ⟨i,rfl,rfl,q⟩:=h
 obtain ⟨t,rfl⟩:=rx
 have hus:=rv.zero
 subst hus
 exact call_int_bit_length ⟨.int _,H,I.tok _,⟨_,rfl⟩,q⟩
def rIndex (K:PySem.W.Frag):V->List V->Hp->VK->Prop:=fun x vs H Q=>∃ (l:Addr) (ss:List Str) (z:Str) (j:Nat),x = .ref l/\vs=[.str z]/\H l=some (.lst (ss.map V.str))/\ss[j]?=some z/\(∀ k,k<j->ss[k]?≠some z)/\j<1000/\Q (.int (j:Nat)) H
theorem mt_index:MtR X "list.index" (rIndex X.K):=by
 intro pins s σ H x vs v us Q I rx rv h
 obtain ⟨l,ss,z,j,rfl,rfl,hH,hj,hno,hsm,q⟩:=h
 cases rx
 obtain ⟨u,rfl,ru⟩:=rv.one
 obtain ⟨t,rfl⟩:=ru
 obtain ⟨zz,its,n,r,hl,e⟩:=I.lstM hH
 have at_:∀ k (hk:k<its.length),∃ y t',ss[k]?=some y/\its[k]=Value.str y t':=fun k hk=>by
  have hk':k<ss.length:=by rw [List.length_map] at hl;omega
  obtain ⟨w,hw,rw'⟩:=r.get (i:=k) (x:=V.str ss[k]) (by rw [List.getElem?_map,List.getElem?_eq_getElem hk'];rfl)
  obtain ⟨t',rfl⟩:=rw'
  rw [List.getElem?_eq_getElem hk] at hw
  exact ⟨ss[k],t',List.getElem?_eq_getElem hk',Option.some.inj hw⟩
 have jl:j<its.length:=by
  have:=(List.getElem?_eq_some_iff.mp hj).1
  rw [List.length_map] at hl;omega
 refine call_meets F.slot_list_index ⟨_,e,rfl⟩ F.entry_list_index (F.args_list_index_2 _ _)
  (MeetsSeq.list_index l its.toArray n (.str z t) (fun y=>match y with | .str y _=>y == z | _=>false) (fun y hy=>?_) j (by rw [List.size_toArray];exact jl) (by omega) ?_ (fun m hm hmj=>?_)) ⟨e,⟨.int _,H,I.tok _,⟨_,rfl⟩,q⟩⟩
 ·have hy':y∈its:=by simpa using hy
  obtain ⟨k,hk,rfl⟩:=List.getElem_of_mem hy'
  obtain ⟨y,t',_,e2⟩:=at_ k hk
  rw [e2]
  exact eqGives_str y z t' t
 ·obtain ⟨y,t',h1,e2⟩:=at_ j jl
  have:its.toArray[j]=Value.str y t':=by simpa using e2
  rw [this]
  rw [hj] at h1
  cases h1
  exact beq_self_eq_true _
 ·have hm':m<its.length:=by simpa using hm
  obtain ⟨y,t',h1,e2⟩:=at_ m hm'
  have:its.toArray[m]=Value.str y t':=by simpa using e2
  rw [this]
  show (y == z)=false
  rw [beq_eq_false_iff_ne]
  intro w
  exact hno m hmj (by rw [h1,w])
end
end L2
namespace L2
open PySem PySem.Spec PyProof.Rows
section
variable {X:Cx}
def iEnum (K:PySem.W.Frag) (ta:TA):TI:=fun σ H R=>ta σ H fun vs H1=>∃ (a:Addr) (xs:List V),vs=[.ref a]/\SqL K H1 a xs/\R (Itp xs.length (fun H=>SqL K H a xs) (fun i=>[.int (i:Nat),xs.getD i .non])) H1
theorem boot_enum:bootBuiltins "enumerate" = some (.type "enumerate"):=by decide +kernel
theorem pi_enum {a:Expr} {ta:TA} {p pos tpos:Pos} {elts:List Expr} {ct:Nat} (hg:Gl X "enumerate") (hm:X.mg "enumerate" = none) (ha:PA X [a] ta) (hs:starEach [a] X.env=[(false,eval a X.env)]:=by rfl) :
  PI X (.Tuple elts ct tpos) (.Call (.Name "enumerate" p) [a] [] pos) (iEnum X.K ta):=by
 intro pins s σ H R I h
 refine Call_ (qFu I hg hm boot_enum (PyProof.Rows.callWith_type1 (thn (ha pos pins s σ H _ I h) fun us s1 ⟨vs,H1,I1,r1,q1⟩=>?_) (by rw [hs];rfl) (by rfl)))
 obtain ⟨l,xs,e,hx,q⟩:=q1
 subst e
 obtain ⟨u,rfl,rx⟩:=qCx r1
 cases rx
 obtain ⟨it1,rv1,pl1,hz1⟩:=I1.list hx
 have b1:l<s1.heap.objs.size:=by obtain ⟨o,n,e,_⟩:=pl1;exact Heap.lt_size e
 refine call_enumerate_list pl1.isList fun h1 z1 z2 z3 z7=>?_
 refine wpAny_pyIter_enum z1 ?_
 have hfp:∀ b∈[s1.heap.objs.size+1,s1.heap.objs.size],s1.heap.objs.size<=b:=fun b hb=>by
  simp only [List.mem_cons,List.not_mem_nil,or_false] at hb
  rcases hb with rfl | rfl
  ·exact Nat.le_add_right _ _
  ·exact Nat.le_refl _
 refine ⟨s1.heap.objs.size+1,[s1.heap.objs.size+1,s1.heap.objs.size],
  fun i h=>(∃ old,IsEnum h (s1.heap.objs.size+1) s1.heap.objs.size i old)/\h.IsListIter s1.heap.objs.size l i,
  _,H1,rfl,I1.kept (t':=s1.toks) z7,
  qGe (s1.heap.objs.size+1) _ [s1.heap.objs.size+1,s1.heap.objs.size,l] [s1.heap.objs.size+1,s1.heap.objs.size] _ _ _ _ (by simp) (fun b hb=>hb) (fun i h st b hb=>?_) (fun i h h' st k=>?_) (fun i=>by show 2<=sizeLine;decide) ?_ (fun A i s' Q E st hQ=>by
   obtain ⟨⟨old,he⟩,_⟩:=st
   exact wpAny_pyIter_enum he hQ),
  ⟨⟨_,z1⟩,z2⟩,fun b hb=>I1.fpOk (hfp b hb) (I1.hok.fresh (hfp b hb)),q⟩
 ·obtain ⟨⟨old,a1⟩,⟨o4,a4,c4,d4⟩⟩:=st
  simp only [List.mem_cons,List.not_mem_nil,or_false] at hb
  rcases hb with rfl | rfl
  ·exact ⟨_,a1,fun v z=>by cases z⟩
  ·exact ⟨_,a4,fun v z=>by rw [d4] at z;cases z⟩
 ·obtain ⟨⟨old,a1⟩,a4⟩:=st
  exact ⟨⟨old,k _ (by simp) _ a1⟩,a4.at fun o e=>k _ (by simp) o e⟩
 ·intro X' hP hw hK hc pins' s' σ' H' I' hL
  rw [<-hK] at hL
  obtain ⟨jt1,sv1,ql1,_⟩:=I'.list hL
  have m1:=sv1.length
  have ne1:l≠s1.heap.objs.size:=Nat.ne_of_lt b1
  have Wz:=WalksT.enumerateD (A:=X'.A) (Draws.list (prog:=X.prog) (w:=X.w) (A:=X'.A.in1) (I'.ok.hd hc) s1.heap.objs.size l ne1 jt1.toArray) (s1.heap.objs.size+1) (Nat.succ_ne_self _) (fun z=>by
   simp only [List.mem_cons,List.not_mem_nil,or_false] at z
   rcases z with z | z
   ·exact Nat.succ_ne_self _ z
   ·exact absurd b1 (by rw [<-z];exact Nat.not_lt_of_le (Nat.le_succ _))) (by simp)
  rw [show jt1.toArray.size=xs.length by show jt1.length=_;rw [m1]] at Wz
  refine ⟨_,_,_,Wz,fun i st=>?_,fun i h st=>?_,fun i vals pv=>?_⟩
  ·exact ⟨st.1,st.2,ql1.isList⟩
  ·exact ⟨st.1,st.2.1⟩
  ·obtain ⟨t,x,e1,rfl⟩:=pv
   have e1:jt1[i]?=some x:=by simpa using e1
   have c1:i<xs.length:=by rw [m1];exact (List.getElem?_eq_some_iff.mp e1).1
   obtain ⟨u,d1,d2⟩:=sv1.get (List.getElem?_eq_getElem c1)
   rw [e1] at d1
   cases d1
   show qBc [.int (i:Nat),xs.getD i .non] [.int i t,x]
   rw [List.getD_eq_getElem?_getD,List.getElem?_eq_getElem c1]
   exact .cons ⟨t,rfl⟩ (.cons d2 .nil)
end
end L2
namespace My
open PySem L2
abbrev iV (n:Nat):V:=.int (n:Int)
def LsN (H:Hp) (a:Addr) (ms:List Nat):Prop:=H a=some (.lst (ms.map iV))
theorem qF3:bootBuiltins "min" = some (.builtin "min"):=by decide +kernel
theorem qDc:bootBuiltins "sum" = some (.builtin "sum"):=by decide +kernel
theorem qD7 {as:List Str} {i:Nat} {x:V} (e:(as.map V.str)[i]?=some x):∃ a,x = .str a/\as[i]?=some a:=by
 rw [List.getElem?_map] at e
 cases ha:as[i]? with
 | none=>rw [ha] at e;cases e
 | some a=>rw [ha] at e;exact ⟨a,(Option.some.inj e).symm,rfl⟩
theorem qFk {as:List Addr} {i:Nat} {x:V} (e:(as.map V.ref)[i]?=some x):∃ a,x = .ref a/\as[i]?=some a:=by
 rw [List.getElem?_map] at e
 cases ha:as[i]? with
 | none=>rw [ha] at e;cases e
 | some a=>rw [ha] at e;exact ⟨a,(Option.some.inj e).symm,rfl⟩
theorem qBz {ms:List Nat} {i:Nat} {x:V} (e:(ms.map iV)[i]?=some x):∃ n,x=iV n/\ms[i]?=some n:=by
 rw [List.getElem?_map] at e
 cases ha:ms[i]? with
 | none=>rw [ha] at e;cases e
 | some a=>rw [ha] at e;exact ⟨a,(Option.some.inj e).symm,rfl⟩
theorem qC0 (ms:List Nat):ms.map iV=(ms.map fun n:Nat=>(n:Int)).map V.int:=by rw [List.map_map];rfl
def qA2 (names row:List Str):Nat:=names.foldl (fun m n=>2*m+(if n∈row then 1 else 0)) 0
theorem qEc (names row:List Str) (n:Str):qA2 (names++[n]) row=2*qA2 names row+(if n∈row then 1 else 0):=by unfold qA2;rw [List.foldl_append];rfl
theorem qCu (row:List Str) (names:List Str):∀ j,(qA2 names row).testBit j=(decide (j<names.length) && decide (∃ n,names[names.length - 1 - j]?=some n/\n∈row)):=by
 refine snoc_ind (P:=fun names=>∀ j,(qA2 names row).testBit j=(decide (j<names.length) && decide (∃ n,names[names.length - 1 - j]?=some n/\n∈row))) (fun j=>by simp [qA2]) (fun l n ih j=>?_) names
 rw [qEc,List.length_append]
 show _=(decide (j<l.length+1) && decide (∃ m,(l++[n])[l.length+1 - 1 - j]?=some m/\m∈row))
 cases j with
 | zero =>
  rw [Nat.testBit_zero,decide_eq_true (by omega:0<l.length+1),Bool.true_and]
  refine decide_eq_decide.mpr ?_
  rw [show l.length+1 - 1 - 0=l.length by omega,List.getElem?_append_right (Nat.le_refl _)]
  simp
  by_cases h:n∈row
  ·simp [h]
  ·simp [h]
 | succ j =>
  rw [Nat.testBit_succ,show (2*qA2 l row+(if n∈row then 1 else 0)) / 2=qA2 l row by split <;> omega,ih j]
  by_cases hj:j<l.length
  ·rw [decide_eq_true hj,decide_eq_true (by omega:j+1<l.length+1),show l.length+1 - 1 - (j+1)=l.length - 1 - j by omega,List.getElem?_append_left (by omega)]
  ·rw [decide_eq_false hj,decide_eq_false (by omega:¬j+1<l.length+1)];rfl
theorem maskF_lt (names row:List Str):qA2 names row<2^names.length:=Nat.lt_pow_two_of_testBit _ fun i hi=>by rw [qCu,decide_eq_false (by omega)];rfl
def spMask:Sp:=fun vs H Q _=>∃ (pn pr:Addr) (names row:List Str),vs=[.ref pn,.ref pr]/\LsS H pn names/\LsS H pr row/\Q (iV (qA2 names row)) H
def qBw (names:List Str) (x:Nat):List Str:=(List.range names.length).filterMap fun i=>if x.testBit (names.length - 1 - i)=true then names[i]? else none
def qFa:Sp:=fun vs H Q _=>∃ (pn:Addr) (names:List Str) (x:Nat),vs=[.ref pn,iV x]/\LsS H pn names/\names.length<=12/\∀ r H',Ext H H'->H r=none->LsS H' r (qBw names x)->Q (.ref r) H'
theorem shr_one (x k:Nat):Builtin.bitAnd ((x:Int) / 2^k) 1=if x.testBit k=true then 1 else 0:=by
 have e:(x:Int) / 2^k=((x / 2^k:Nat):Int):=by rw [Int.natCast_ediv,Int.natCast_pow];rfl
 have e1:(1:Int)=((1:Nat):Int):=rfl
 rw [e]
 show Builtin.bitAnd _ ((1:Nat):Int)=_
 rw [qB3,Nat.and_one_is_mod,Nat.testBit_eq_decide_div_mod_eq]
 rcases Nat.mod_two_eq_zero_or_one (x / 2^k) with h | h <;> rw [h] <;> rfl
def spLess:Sp:=fun vs H Q _=>∃ (x:Nat) (p:Addr) (k:List Nat),vs=[iV x,.ref p]/\LsN H p k/\(∀ s∈k,s≠0)/\Q (iV (red1 k x)) H
theorem min_int (x:Nat) {s:Nat} (hs:s≠0):(if Builtin.bitXor (x:Int) (s:Int)<(x:Int) then Builtin.bitXor (x:Int) (s:Int) else (x:Int))=((rd1 x s:Nat):Int):=by
 rw [qCh,<-min_rd1 x hs]
 by_cases h:x^^^s<x
 ·rw [if_pos h,if_pos (by omega)]
 ·rw [if_neg h,if_neg (by omega)]
def spRedu:Sp:=fun vs H Q _=>∃ (p:Addr) (ms:List Nat),vs=[.ref p]/\LsN H p ms/\ms.length<=24/\∀ (r:Addr) (M:List Nat) (H':Hp),Ext H H'->H r=none->LsN H' r M->M.Perm (red ms)->M.Pairwise (fun a b=>b<=a)->Q (.ref r) H'
def spLead:Sp:=fun vs H Q _=>∃ x:Nat,vs=[iV x]/\x≠0/\x<2^24/\Q (iV (2^x.log2)) H
theorem redS_len (k:List Nat) (x:Nat):(redS k x).length<=k.length+1:=by
 unfold redS
 split
 ·omega
 ·rw [List.length_append,List.length_map];exact Nat.le_refl _
theorem qGm (xs:List Nat):(red xs).length<=xs.length:=by
 refine qFb (P:=fun xs=>(red xs).length<=xs.length) (Nat.le_refl _) (fun l t ih=>?_) xs
 rw [qDx,List.length_append]
 have:=redS_len (red l) t
 show _<=l.length+1
 omega
section
variable {P:Program} {w:World} {K:PySem.W.Frag} {mg:Str->Option Value} {base:Heap} {f f1 f2:Addr} {fd fd1 fd2:FuncData}
abbrev maN:List Str:=["names","row","mask","name"]
theorem scMask:FnScope maN ["names","row"] (qAc sMask):=⟨rfl,rfl,rfl,by decide +kernel,rfl,by decide +kernel,by decide +kernel⟩
theorem ok_mask (F:Fun K "mask_of" "mask_of" sMask f fd):FnOk P w K mg base CX0 1 f fd ["names","row"] spMask:=by
 refine F.ok scMask (fun vs H Q E h=>?_) (fun cdv A outer s H vs Q E hr h=>?_)
 ·obtain ⟨pn,pr,names,row,rfl,_⟩:=h
  rfl
 obtain ⟨pn,pr,names,row,rfl,hn,hw,q⟩:=h
 refine ⟨_,qAb (qAj (i:=2) scMask.nd rfl (Or.inl rfl) qAe)
  (qAb (qBi PassesOwn.never rfl (qAr (pv 0)) (qAi (i:=3) scMask.nd rfl (Or.inl rfl))
   (qAf (qAj (i:=2) scMask.nd rfl (Or.inl rfl) (qAh qBk (qAh qDl qAe (pv 2)) (pe_ifExp (qAo op_in_seq (pv 3) (pv 1) (by with_unfolding_all rfl)) qAe qAe)))))
  (qAf (qAw (pv 2)))),?_⟩
 refine ⟨_,rfl,pn,rfl,⟨_,SqL.of hn⟩,?_⟩
 refine qBs (xs:=names.map V.str) (fun i σ H'=>H'=H/\∃ x3:Option V,σ=[some (.ref pn),some (.ref pr),some (iV (qA2 (names.take i) row)),x3]) ⟨rfl,none,rfl⟩ (fun i σ H' _ h=>by rw [h.1];exact SqL.of hn) ?_ ?_
 ·rintro i x σ H' hx ⟨rfl,x3,rfl⟩
  obtain ⟨y,rfl,hy⟩:=qD7 hx
  refine ⟨_,rfl,_,_,rfl,rfl,.inl ⟨by decide,by decide⟩,_,rfl,_,rfl,pr,_,rfl,.inl (SqL.of hw),rfl,flat_strs _,_,rfl,?_⟩
  rw [if_neg (by decide),qDu]
  refine qCg (fun c=>?_) (fun c=>?_)
  ·have c':y∈row:=by simpa using c
   refine ⟨_,_,rfl,rfl,rfl,some (.str y),?_⟩
   rw [show iV (qA2 (names.take (i+1)) row)=V.int (2*((qA2 (names.take i) row:Nat):Int)+1) by rw [qAn hy,qEc,if_pos c'];rfl]
   rfl
  ·have c':¬y∈row:=by simpa using c
   refine ⟨_,_,rfl,rfl,rfl,some (.str y),?_⟩
   rw [show iV (qA2 (names.take (i+1)) row)=V.int (2*((qA2 (names.take i) row:Nat):Int)+0) by rw [qAn hy,qEc,if_neg c'];rfl]
   rfl
 ·rintro σ H' ⟨rfl,x3,rfl⟩
  rw [List.length_map,List.take_of_length_le (Nat.le_refl _)]
  exact ⟨_,rfl,q⟩
theorem scRowOf:FnScope ["names","mask","last"] ["names","mask"] (qAc qFg):=⟨rfl,rfl,rfl,by decide +kernel,rfl,by decide +kernel,by decide +kernel⟩
abbrev roN:List Str:=["at","name","mask","last"]
theorem ok_rowOf (F:Fun K "row_of" "row_of" qFg f fd) (ml:mg "len" = none) (me:mg "enumerate" = none):FnOk P w K mg base CX0 1 f fd ["names","mask"] qFa:=by
 refine F.ok scRowOf (fun vs H Q E h=>?_) (fun cdv A outer s H vs Q E hr h=>?_)
 ·obtain ⟨pn,names,x,rfl,_⟩:=h
  rfl
 obtain ⟨pn,names,x,rfl,hn,ln,q⟩:=h
 refine ⟨_,qAb (qAj (i:=2) scRowOf.nd rfl (Or.inr rfl) (qAh qDk (qAs qAv rfl ml PySem.boot_len (qAa (pv 0) qAd)) qAe))
  (qAf (qAw (qBx (N:=["names","mask","last"]) (sc:=qAc qFg) (N':=roN) (sub:=[none,none,some 1,some 2]) rfl rfl (CmpOk.of (by decide +kernel)) rfl (pi_enum rfl me (qAa (pv 0) qAd))
   (fun C s H fp=>⟨(show PG _ _ (gTup K 2 _) from qC5 rfl (qAz (qAi (i:=0) (by show roN.Nodup;decide) rfl (Or.inl rfl)) (qAz (qAi (i:=1) (by show roN.Nodup;decide) rfl (Or.inl rfl)) qCb))),
    qB5 (qAo qDt (qAh qBy (qAh qGt (pv 2) (qAh qDk (pv 3) (pv 0))) qAe) qAe (qAx _)),pv 1⟩)))),?_⟩
 refine ⟨_,rfl,pn,_,rfl,.inl (SqL.of hn),_,_,rfl,rfl,?_⟩
 refine ⟨_,rfl,pn,_,rfl,SqL.of hn,?_⟩
 rw [List.length_map]
 refine qE5 (fun i ys H'=>Ext H H'/\ys=((List.range i).filterMap fun i=>if x.testBit (names.length - 1 - i)=true then names[i]? else none).map V.str) ⟨Ext.refl _,rfl⟩ (fun i ys H' _ p=>SqL.of (p.1 _ _ hn)) ?_ ?_
 ·rintro i ys H' T hi ⟨e,rfl⟩ hT
  have gd:(names.map V.str).getD i .non = .str names[i]:=by rw [List.getD_eq_getElem?_getD,List.getElem?_map,List.getElem?_eq_getElem hi];rfl
  have e2:=e.trans (Ext.new hT (.tup [V.int (i:Nat),(names.map V.str).getD i .non]))
  refine ⟨T,_,rfl,SqT.of upd_same,rfl,_,_,rfl,_,_,rfl,rfl,?_⟩
  refine ⟨Sle.set _ (Sle.set _ (Sle.refl _) (fun u z=>by cases z)) (fun u z=>by cases z),?_⟩
  have k:(((names.length:Nat):Int) - 1 - (i:Nat))=((names.length - 1 - i:Nat):Int):=by omega
  refine ⟨_,rfl,_,rfl,_,rfl,_,_,rfl,rfl,_,_,rfl,rfl,(by show (0:Int)<=_;omega),_,_,rfl,rfl,rfl,_,rfl,?_⟩
  have fm:((List.range (i+1)).filterMap fun i=>if x.testBit (names.length - 1 - i)=true then names[i]? else none)=((List.range i).filterMap fun i=>if x.testBit (names.length - 1 - i)=true then names[i]? else none)++(if x.testBit (names.length - 1 - i)=true then [names[i]] else []):=by
   rw [List.range_succ,List.filterMap_append]
   congr 1
   by_cases b:x.testBit (names.length - 1 - i)=true
   ·simp [b,List.getElem?_eq_getElem hi]
   ·simp [b]
  have sz:=List.length_filterMap_le (fun i=>if x.testBit (names.length - 1 - i)=true then names[i]? else none) (List.range i)
  rw [List.length_range] at sz
  have key:(decide (V.int (Builtin.bitAnd ((x:Int) / 2^(((names.length:Nat):Int) - 1 - (i:Nat)).toNat) 1)=V.int 1)=true)↔x.testBit (names.length - 1 - i)=true:=by
   rw [decide_eq_true_iff,V.int.injEq,k,Int.toNat_natCast,shr_one]
   by_cases b:x.testBit (names.length - 1 - i)=true
   ·simp [b]
   ·simp [b]
  refine qCg (fun c=>?_) (fun c=>?_)
  ·have b:=key.mp c
   refine ⟨_,rfl,by rw [List.length_map];exact qAk (by omega),nxt hi ⟨e2,?_⟩⟩
   rw [fm,if_pos b,List.map_append,gd];rfl
  ·have b:¬x.testBit (names.length - 1 - i)=true:=fun z=>c (key.mpr z)
   refine nxt hi ⟨e2,?_⟩
   rw [fm,if_neg b,List.append_nil]
 ·rintro ys H' ⟨e,rfl⟩ r hr'
  exact q r _ (e.trans (Ext.new hr' _)) (e.none hr') upd_same
theorem scLess:FnScope ["mask","kept","step"] ["mask","kept"] (qAc sLess):=⟨rfl,rfl,rfl,by decide +kernel,rfl,by decide +kernel,by decide +kernel⟩
theorem ok_less (F:Fun K "lessened" "lessened" sLess f fd) (mmi:mg "min" = none):FnOk P w K mg base CX0 1 f fd ["mask","kept"] spLess:=by
 refine F.ok scLess (fun vs H Q E h=>?_) (fun cdv A outer s H vs Q E hr h=>?_)
 ·obtain ⟨x,p,k,rfl,_⟩:=h
  rfl
 obtain ⟨x,p,k,rfl,hk,nz,q⟩:=h
 refine ⟨_,qAb (qBi PassesOwn.never rfl (qAr (pv 1)) (qAi (i:=2) scLess.nd rfl (Or.inl rfl))
   (qAf (qAj (i:=0) scLess.nd rfl (Or.inl rfl) (qAs (qF2 rfl) rfl mmi qF3 (qAa (pv 0) (qAa (qAh qDj (pv 0) (pv 2)) qAd))))))
  (qAf (qAw (pv 0))),?_⟩
 refine ⟨_,rfl,p,rfl,⟨_,SqL.of hk⟩,?_⟩
 refine qBs (xs:=k.map iV) (fun i σ H'=>H'=H/\∃ x2:Option V,σ=[some (iV (red1 (k.take i) x)),some (.ref p),x2]) ⟨rfl,none,rfl⟩ (fun i σ H' _ h=>by rw [h.1];exact SqL.of hk) ?_ ?_
 ·rintro i v σ H' hx ⟨rfl,x2,rfl⟩
  obtain ⟨s,rfl,hs⟩:=qBz hx
  refine ⟨_,rfl,_,rfl,_,rfl,_,_,rfl,rfl,_,_,rfl,rfl,some (iV s),?_⟩
  rw [min_int _ (nz s (List.mem_of_getElem? hs)),show red1 (k.take (i+1)) x=rd1 (red1 (k.take i) x) s by rw [qAn hs];unfold red1;rw [List.foldl_append];rfl]
  rfl
 ·rintro σ H' ⟨rfl,x2,rfl⟩
  rw [List.length_map,List.take_of_length_le (Nat.le_refl _)]
  exact ⟨_,rfl,q⟩
theorem scRedu:FnScope ["masks","kept","mask","fresh"] ["masks"] (qAc sRedu):=⟨rfl,rfl,rfl,by decide +kernel,rfl,by decide +kernel,by decide +kernel⟩
theorem ok_redu (F:Fun K "reduced" "reduced" sRedu f fd) (G:FnOk P w K mg base CX0 1 f1 fd1 ["mask","kept"] spLess) (bG:qA1 K fd1 ["mask","kept"] []) (kG:PySem.W.keepIn K (.ref f1)=true) (mG:mg "lessened" = some (.ref f1)) (mmi:mg "min" = none) (mso:mg "sorted" = none):FnOk P w K mg base CX0 2 f fd ["masks"] spRedu:=by
 refine F.ok scRedu (fun vs H Q E h=>?_) (fun cdv A outer s H vs Q E hr h=>?_)
 ·obtain ⟨p,ms,rfl,_⟩:=h
  rfl
 obtain ⟨p,ms,rfl,hp,lm,q⟩:=h
 refine ⟨_,qAb (qAj (i:=1) scRedu.nd rfl (Or.inl rfl) (qBa qAd))
  (qAb (qBi PassesOwn.never rfl (qAr (pv 0)) (qAi (i:=2) scRedu.nd rfl (Or.inl rfl))
   (qAb (qAj (i:=3) scRedu.nd rfl (Or.inr rfl) (qAg G hr rfl mG kG bG .nil qAt (qAa (pv 2) (qAa (pv 1) qAd))))
   (qAf (qB6 (qAo qFr (pv 3) qAe (qAx _))
    (qAf (qAj (i:=1) scRedu.nd rfl (Or.inl rfl) (qAh qDm (qBx (N:=["masks","kept","mask","fresh"]) (sc:=qAc sRedu) (N':=["step","fresh"]) (sub:=[none,some 3]) rfl rfl (CmpOk.of (by decide +kernel)) rfl (qAr (pv 1))
     (fun C s H fp=>⟨qAi (i:=0) (by show (["step","fresh"]:List Str).Nodup;decide) rfl (Or.inl rfl),qBb,qAs (qF2 rfl) rfl mmi qF3 (qAa (pv 0) (qAa (qAh qDj (pv 0) (pv 1)) qAd))⟩)) (qBa (qAa (pv 3) qAd)))))
    qA8))))
  (qAf (qAw (pe_sortRev rfl mso (qAa (pv 1) qAd))))),?_⟩
 refine ⟨Nat.zero_le _,fun ke ke0=>?_⟩
 have X0:=Ext.new ke0 (.lst [])
 refine ⟨_,rfl,p,rfl,⟨_,SqL.of (X0 _ _ hp)⟩,?_⟩
 refine qBs (xs:=ms.map iV) (fun i σ H'=>∃ (ke:Addr) (x2 x3:Option V),σ=[some (.ref p),some (.ref ke),x2,x3]/\Ext H H'/\LsN H' ke (red (ms.take i))) ⟨ke,none,none,rfl,X0,upd_same⟩ (fun i σ H' _ h=>by obtain ⟨_,_,_,_,e,_⟩:=h;exact SqL.of (e _ _ hp)) ?_ ?_
 ·rintro i v σ H' hx ⟨ke,x2,x3,rfl,e,hk⟩
  obtain ⟨m,rfl,hm⟩:=qBz hx
  have hi:i<ms.length:=qA7 hm
  have rr:=qC4 (ms.take i)
  have lr:=qGm (ms.take i)
  rw [List.length_take] at lr
  refine ⟨_,rfl,_,rfl,m,ke,_,rfl,hk,rr.nz,?_⟩
  have sn:red (ms.take (i+1))=redS (red (ms.take i)) m:=by rw [qAn hm,qDx]
  refine ⟨_,rfl,rfl,_,rfl,?_⟩
  refine qCg (fun c=>?_) (fun c=>?_)
  ·have c':red1 (red (ms.take i)) m≠0:=fun z=>by rw [z] at c;simp at c
   refine ⟨_,rfl,ke,rfl,⟨_,SqL.of hk⟩,?_⟩
   refine qAu (xs:=(red (ms.take i)).map iV) (fun j ys H2=>H2=H'/\ys=(((red (ms.take i)).take j).map fun s=>rd1 s (red1 (red (ms.take i)) m)).map iV) ⟨rfl,rfl⟩ (fun j ys H2 _ h=>by rw [h.1];exact SqL.of hk) ?_ ?_
   ·rintro j x ys H2 hx2 ⟨rfl,rfl⟩
    obtain ⟨s,rfl,hs⟩:=qBz hx2
    have hj:=qA7 hs
    refine ⟨Sle.set _ (Sle.refl _) (fun u z=>by cases z),iteT (B:=False) ⟨_,rfl,_,rfl,_,rfl,_,_,rfl,rfl,_,_,rfl,?_,nxt (qA7 hx2) ⟨rfl,?_⟩⟩⟩
    ·rw [List.length_map,List.length_map,List.length_take];exact qAk (by omega)
    ·rw [min_int _ c',qAn hs,List.map_append,List.map_append];rfl
   ·rintro ys H2 ⟨rfl,rfl⟩ l hl
    rw [List.length_map,List.take_of_length_le (Nat.le_refl _)]
    have n1:=Ext.new hl (.lst (((red (ms.take i)).map fun s=>rd1 s (red1 (red (ms.take i)) m)).map iV))
    refine ⟨_,rfl,(by show 1<=sizeLine;decide),fun l2 hl2=>?_⟩
    have n2:=Ext.new hl2 (.lst [iV (red1 (red (ms.take i)) m)])
    refine ⟨l,l2,_,_,rfl,rfl,n2 _ _ upd_same,upd_same,?_,fun l3 hl3=>?_⟩
    ·rw [List.length_map,List.length_map]
     show _+1<=sizeLine
     exact Nat.le_of_lt (qAk (by omega))
    ·refine ⟨l3,_,_,rfl,((e.trans n1).trans n2).trans (Ext.new hl3 _),?_⟩
     rw [sn]
     unfold redS LsN
     rw [if_neg c',upd_same,List.map_append]
     rfl
  ·have c':red1 (red (ms.take i)) m=0:=by
    have:(red1 (red (ms.take i)) m:Int)=0:=by simpa using c
    omega
   refine ⟨ke,_,_,rfl,e,?_⟩
   rw [sn]
   unfold redS
   rw [if_pos c']
   exact hk
 ·rintro σ H' ⟨ke,x2,x3,rfl,e,hk⟩
  rw [List.length_map,List.take_of_length_le (Nat.le_refl _)] at hk
  have lr:=qGm ms
  refine ⟨_,rfl,ke,(red ms).map (fun n:Nat=>(n:Int)),rfl,by rw [<-qC0];exact SqL.of hk,by rw [List.length_map];omega,fun r ns hr' pm od=>?_⟩
  have od':ns.Pairwise fun a b=>a >= b:=od
  obtain ⟨M,rfl⟩:∃ M:List Nat,ns=M.map (fun n:Nat=>(n:Int)):=by
   refine ⟨ns.map Int.toNat,?_⟩
   rw [List.map_map]
   refine (List.map_id _).symm.trans (List.map_congr_left fun a ha=>?_)
   obtain ⟨n,_,rfl⟩:=List.mem_map.mp (pm.mem_iff.mp ha)
   simp
  have pm':M.Perm (red ms):=by
   have:=pm.map Int.toNat
   rw [List.map_map,List.map_map] at this
   have idn:(Int.toNat∘fun n:Nat=>(n:Int))=id:=by funext n;simp
   rw [idn,List.map_id,List.map_id] at this
   exact this
  refine q r M _ (e.trans (Ext.new hr' _)) (e.none hr') (by unfold LsN;rw [upd_same,qC0]) pm' ?_
  rw [List.pairwise_map] at od'
  exact List.Pairwise.imp (fun {a b} h=>by omega) od'
theorem scLead:FnScope ["mask"] ["mask"] (qAc sLead):=⟨rfl,rfl,rfl,by decide +kernel,rfl,by decide +kernel,by decide +kernel⟩
theorem ok_lead (F:Fun K "lead_of" "lead_of" sLead f fd):FnOk P w K mg base CX0 1 f fd ["mask"] spLead:=by
 refine F.ok scLead (fun vs H Q E h=>?_) (fun cdv A outer s H vs Q E hr h=>?_)
 ·obtain ⟨x,rfl,_⟩:=h
  rfl
 obtain ⟨x,rfl,nz,lt,q⟩:=h
 refine ⟨_,qAf (qAw (qAh qCt qAe (qAh qDk (pe_bm0 PySem.F.plainAttrs_int PySem.F.slot_int_bit_length PySem.F.type_int_bit_length mt_bits (pv 0)) qAe))),?_⟩
 have l24:x.log2<24:=(Nat.log2_lt nz).mpr lt
 have ib:Builtin.Int.intBits (x:Int)=x.log2+1:=by
  unfold Builtin.Int.intBits
  rw [if_neg (by simpa using nz)]
  simp
 refine ⟨_,rfl,rfl,x,rfl,rfl,_,_,rfl,rfl,_,_,rfl,rfl,?_⟩
 rw [ib]
 have e:((x.log2+1:Nat):Int) - 1=(x.log2:Nat):=by omega
 rw [e]
 refine ⟨⟨by omega,by omega,by decide⟩,?_⟩
 dsimp only
 rw [Int.toNat_natCast,Int.one_mul]
 have p2:((2:Int)^x.log2)=((2^x.log2:Nat):Int):=by rw [Int.natCast_pow];rfl
 rw [p2]
 exact q
end
end My
namespace My
open PySem L2
theorem RR.perm {a b:List Nat} (h:RR a) (p:b.Perm a):RR b:=⟨fun s hs=>h.nz s (p.mem_iff.mp hs),(p.pairwise_iff (fun {x y} z=>⟨z.2,z.1⟩)).mpr h.ap⟩
theorem qDe:∀ l:List Nat,(l.map fun n:Nat=>(n:Int)).sum=((l.sum:Nat):Int)
 | []=>rfl
 | a :: l=>by rw [List.map_cons,List.sum_cons,List.sum_cons,qDe l];omega
theorem qCj (p:Nat):(1:Int)*2^((p:Int)).toNat=((2^p:Nat):Int):=by
 rw [Int.toNat_natCast,Int.one_mul,Int.natCast_pow];rfl
def spCrM:Sp:=fun vs H Q _=>∃ (p:Addr) (S:List Nat) (m:Nat),vs=[.ref p,iV m]/\LsN H p S/\RR S/\(∀ s∈S,s<2^m)/\m<=12/\S.length<=24/\∀ r H',Ext H H'->H r=none->LsN H' r (crAll S m)->Q (.ref r) H'
def qCv (H:Hp) (T:Addr) (names:List Str) (rows:List (List Str)):Prop:=∃ a b,H T=some (.tup [.ref a,.ref b])/\LsS H a names/\qCo H b rows
def TabF (H0 H:Hp) (T:Addr) (names:List Str) (rows:List (List Str)):Prop:=∃ a b,H T=some (.tup [.ref a,.ref b])/\LsS H a names/\H0 a=none/\RowsY H0 H b rows/\H0 b=none
theorem qCv.ext {H H':Hp} {T:Addr} {names:List Str} {rows:List (List Str)} (h:qCv H T names rows) (e:Ext H H'):qCv H' T names rows:=by
 obtain ⟨a,b,h1,h2,h3⟩:=h
 exact ⟨a,b,e _ _ h1,e _ _ h2,h3.ext e⟩
theorem TabF.tin {H0 H:Hp} {T:Addr} {names:List Str} {rows:List (List Str)} (h:TabF H0 H T names rows):qCv H T names rows:=by
 obtain ⟨a,b,h1,h2,h3,h4,h5⟩:=h
 exact ⟨a,b,h1,h2,h4.rows⟩
theorem TabF.down {H0 H1 H:Hp} {T:Addr} {names:List Str} {rows:List (List Str)} (h:TabF H1 H T names rows) (e:Ext H0 H1):TabF H0 H T names rows:=by
 obtain ⟨a,b,h1,h2,h3,⟨as,h4,h6⟩,h5⟩:=h
 exact ⟨a,b,h1,h2,e.none h3,⟨as,h4,Paired.mapP h6 fun a r z=>⟨z.1,e.none z.2.1,z.2.2⟩⟩,e.none h5⟩
def spTabF:Sp:=fun vs H Q _=>∃ (pn pm:Addr) (names:List Str) (ms:List Nat),vs=[.ref pn,.ref pm]/\LsS H pn names/\names.length<=12/\LsN H pm ms/\ms.length<=24/\∀ (T:Addr) (M:List Nat) (H':Hp),Ext H H'->H T=none->TabF H H' T names (M.map (qBw names))->M.Perm (red ms)->M.Pairwise (fun a b=>b<=a)->Q (.ref T) H'
def qE9:Sp:=fun vs H Q _=>∃ (T:Addr) (names:List Str) (rows:List (List Str)),vs=[.ref T]/\qCv H T names rows/\rows.length<=24/\∀ (r:Addr) (M:List Nat) (H':Hp),Ext H H'->H r=none->LsN H' r M->M.Perm (red (rows.map (qA2 names)))->M.Pairwise (fun a b=>b<=a)->Q (.ref r) H'
def spCross:Sp:=fun vs H Q _=>∃ (T:Addr) (names:List Str) (rows:List (List Str)),vs=[.ref T]/\qCv H T names rows/\names.length<=12/\rows.length<=24/\∀ (T':Addr) (S M:List Nat) (H':Hp),Ext H H'->H T'=none->TabF H H' T' names (M.map (qBw names))->S.Perm (red (rows.map (qA2 names)))->M.Perm (red (crAll S names.length))->M.Pairwise (fun a b=>b<=a)->Q (.ref T') H'
def metF (net:List Tr) (x:Str):List Str:=(net.filter fun t=>decide (t.2.1=x) != decide (t.2.2=x)).map (·.1)
section
variable {P:Program} {w:World} {K:PySem.W.Frag} {mg:Str->Option Value} {base:Heap} {f f1 f2 f3 f4:Addr} {fd fd1 fd2 fd3 fd4:FuncData}
abbrev crN:List Str:=["steps","width","leads","told","place","bit"]
theorem scCrM:FnScope crN ["steps","width"] (qAc sCrM):=⟨rfl,rfl,rfl,by decide +kernel,rfl,by decide +kernel,by decide +kernel⟩
theorem ok_crM (F:Fun K "crossed_masks" "crossed_masks" sCrM f fd) (G:FnOk P w K mg base CX0 1 f1 fd1 ["mask"] spLead) (bG:qA1 K fd1 ["mask"] []) (kG:PySem.W.keepIn K (.ref f1)=true) (mG:mg "lead_of" = some (.ref f1)) (msu:mg "sum" = none) (mr:mg "range" = none):FnOk P w K mg base CX0 2 f fd ["steps","width"] spCrM:=by
 refine F.ok scCrM (fun vs H Q E h=>?_) (fun cdv A outer s H vs Q E hr h=>?_)
 ·obtain ⟨p,S,m,rfl,_⟩:=h
  rfl
 obtain ⟨p,S,m,rfl,hp,rr,lt,m12,lS,q⟩:=h
 refine ⟨_,qAb (qAj (i:=2) scCrM.nd rfl (Or.inl rfl) (qAs (qDb rfl) rfl msu qDc (qAa (qBx (N:=crN) (sc:=qAc sCrM) (N':=["step"]) (sub:=[none]) rfl rfl (CmpOk.of (by decide +kernel)) rfl (qAr (pv 0))
   (fun C s H fp=>⟨qAi (i:=0) (by show (["step"]:List Str).Nodup;decide) rfl (Or.inl rfl),qBb,qAg G hr rfl mG kG bG .nil qAt (qAa (pv 0) qAd)⟩)) qAd)))
  (qAb (qAj (i:=3) scCrM.nd rfl (Or.inl rfl) (qBa qAd))
  (qAb (qBi PassesOwn.never rfl (qBj rfl mr (qAa (pv 1) qAd)) (qAi (i:=4) scCrM.nd rfl (Or.inl rfl))
   (qAb (qAj (i:=5) scCrM.nd rfl (Or.inr rfl) (qAh qCt qAe (pv 4)))
   (qAf (qB6 (qAo qDt (qAh qBy (pv 2) (pv 5)) qAe (qAx _))
    (qAf (qCl (qD9 PySem.F.plainAttrs_list PySem.F.slot_list_append PySem.F.type_list_append qBp (pv 3) (qAa
     (qAh qBk (pv 5) (qAs (qDb rfl) rfl msu qDc (qAa (qBx (N:=crN) (sc:=qAc sCrM) (N':=["step","bit"]) (sub:=[none,some 5]) rfl rfl (CmpOk.of (by decide +kernel)) rfl (qAr (pv 0))
      (fun C s H fp=>⟨qAi (i:=0) (by show (["step","bit"]:List Str).Nodup;decide) rfl (Or.inl rfl),qB5 (qAo qFr (qAh qBy (pv 0) (pv 1)) qAe (qAx _)),qAg G hr rfl mG kG bG .nil qAt (qAa (pv 0) qAd)⟩)) qAd))) qAd))))
    qA8))))
  (qAf (qAw (pv 3))))),?_⟩
 have l24:∀ s∈S,s<2^24:=fun s hs=>Nat.lt_of_lt_of_le (lt s hs) (Nat.pow_le_pow_right (by decide) (by omega))
 refine ⟨_,rfl,p,rfl,⟨_,SqL.of hp⟩,?_⟩
 refine qAu (xs:=S.map iV) (fun j ys H2=>H2=H/\ys=((S.take j).map fun s:Nat=>2^s.log2).map iV) ⟨rfl,rfl⟩ (fun j ys H2 _ h=>by rw [h.1];exact SqL.of hp) ?_ ?_
 ·rintro j v ys H2 hx ⟨rfl,rfl⟩
  obtain ⟨s,rfl,hs⟩:=qBz hx
  have hj:=qA7 hs
  have sm:=List.mem_of_getElem? hs
  refine ⟨Sle.set _ (Sle.refl _) (fun u z=>by cases z),iteT (B:=False) ⟨_,rfl,s,rfl,rr.nz s sm,l24 s sm,?_,nxt (qA7 hx) ⟨rfl,?_⟩⟩⟩
  ·rw [List.length_map,List.length_map,List.length_take];exact qAk (by omega)
  ·rw [qAn hs,List.map_append,List.map_append];rfl
 rintro ys H2 ⟨rfl,rfl⟩ l1 hl1
 rw [List.length_map,List.take_of_length_le (Nat.le_refl _)]
 have n1:=Ext.new hl1 (.lst ((S.map fun s:Nat=>2^s.log2).map iV))
 refine ⟨l1,(S.map fun s:Nat=>2^s.log2).map (fun n:Nat=>(n:Int)),rfl,SqL.of (by rw [upd_same,qC0]),?_⟩
 rw [qDe]
 refine ⟨Nat.zero_le _,fun to to1=>?_⟩
 have to0:=n1.none to1
 have n2:=n1.trans (Ext.new to1 (.lst []))
 refine ⟨_,rfl,(m:Int),rfl,by omega,by omega,?_⟩
 refine qB1 (lo:=0) (n:=((m:Int)).toNat) (fun i σ H'=>∃ (x4 x5:Option V),σ=[some (.ref p),some (iV m),some (iV (S.map fun s:Nat=>2^s.log2).sum),some (.ref to),x4,x5]/\Ext H2 H'/\LsN H' to (((List.range i).filter fun p=>!decide (isLd S p)).map (crM S))) ⟨none,none,rfl,n2,upd_same⟩ ?_ ?_
 ·rintro i σ H' hi ⟨x4,x5,rfl,e,ht⟩
  have hi':i<m:=by omega
  refine ⟨_,rfl,_,_,rfl,rfl,⟨by omega,by omega,by decide⟩,?_⟩
  have bv:(fun i j:Int=>V.int (i*2^j.toNat)) 1 (0+(i:Int))=iV (2^i):=by
   show V.int (1*2^(0+(i:Int)).toNat)=_
   rw [show (0+(i:Int))=(i:Nat) by omega,qCj]
  rw [bv]
  have sn:((List.range (i+1)).filter fun p=>!decide (isLd S p)).map (crM S)=((List.range i).filter fun p=>!decide (isLd S p)).map (crM S)++(if isLd S i then [] else [crM S i]):=by
   rw [List.range_succ,List.filter_append,List.map_append]
   congr 1
   by_cases b:isLd S i
   ·simp [b]
   ·simp [b]
  have lb:=leads_bit rr i
  refine ⟨_,rfl,_,rfl,_,_,rfl,rfl,rfl,_,rfl,?_⟩
  refine qCg (fun c=>?_) (fun c=>?_)
  ·have nl:¬isLd S i:=fun z=>by
    rw [decide_eq_true z] at lb
    have ne:=(qF5 _ i).mpr lb
    have:Builtin.bitAnd (((S.map fun s:Nat=>2^s.log2).sum:Nat):Int) ((2^i:Nat):Int)=0:=by simpa using c
    rw [qB3] at this
    omega
   refine ⟨_,rfl,.inl ⟨rfl,_,SqL.of ht⟩,_,rfl,?_⟩
   refine ⟨_,rfl,p,rfl,⟨_,SqL.of (e _ _ hp)⟩,?_⟩
   refine qAu (xs:=S.map iV) (fun j ys H3=>H3=H'/\ys=(((S.take j).filter fun s:Nat=>s.testBit i).map fun s:Nat=>2^s.log2).map iV) ⟨rfl,rfl⟩ (fun j ys H3 _ h=>by rw [h.1];exact SqL.of (e _ _ hp)) ?_ ?_
   ·rintro j v ys H3 hx ⟨rfl,rfl⟩
    obtain ⟨s,rfl,hs⟩:=qBz hx
    have hj:=qA7 hs
    have sm:=List.mem_of_getElem? hs
    refine ⟨Sle.set _ (Sle.refl _) (fun u z=>by cases z),_,rfl,_,rfl,_,_,rfl,rfl,rfl,_,rfl,?_⟩
    have key:((!decide (V.int (Builtin.bitAnd (s:Int) ((2^i:Nat):Int))=V.int 0))=true)↔s.testBit i=true:=by
     rw [<-qF5 s i,qB3]
     simp
    refine qCg (fun c3=>?_) (fun c3=>?_)
    ·have b:=key.mp c3
     refine ⟨_,rfl,s,rfl,rr.nz s sm,l24 s sm,?_,nxt (qA7 hx) ⟨rfl,?_⟩⟩
     ·have:=List.length_filter_le (fun s:Nat=>s.testBit i) (S.take j)
      rw [List.length_take] at this
      rw [List.length_map,List.length_map];exact qAk (by omega)
     ·rw [qAn hs,List.filter_append,List.map_append,List.map_append]
      simp [b]
    ·have b:¬s.testBit i=true:=fun z=>c3 (key.mpr z)
     refine nxt (qA7 hx) ⟨rfl,?_⟩
     rw [qAn hs,List.filter_append]
     simp [b]
   ·rintro ys H3 ⟨rfl,rfl⟩ l2 hl2
    rw [List.length_map,List.take_of_length_le (Nat.le_refl _)]
    have n3:=Ext.new hl2 (.lst (((S.filter fun s:Nat=>s.testBit i).map fun s:Nat=>2^s.log2).map iV))
    refine ⟨l2,((S.filter fun s:Nat=>s.testBit i).map fun s:Nat=>2^s.log2).map (fun n:Nat=>(n:Int)),rfl,SqL.of (by rw [upd_same,qC0]),?_⟩
    rw [qDe]
    refine ⟨_,_,rfl,rfl,to,_,_,rfl,rfl,n3 _ _ ht,?_,?_⟩
    ·have:=List.length_filter_le (fun p=>!decide (isLd S p)) (List.range i)
     rw [List.length_range] at this
     rw [List.length_map,List.length_map];exact qAk (by omega)
    ·refine ⟨_,_,rfl,(e.trans n3).over to0 _,?_⟩
     rw [sn,if_neg nl]
     unfold LsN
     rw [upd_same,List.map_append]
     rfl
  ·have il:isLd S i:=Classical.byContradiction fun z=>by
    rw [decide_eq_false z] at lb
    refine c ?_
    have:(S.map fun s:Nat=>2^s.log2).sum&&&2^i=0:=Classical.byContradiction fun y=>by
     have:=(qF5 _ i).mp y
     rw [lb] at this;cases this
    show decide (V.int (Builtin.bitAnd (((S.map fun s:Nat=>2^s.log2).sum:Nat):Int) ((2^i:Nat):Int))=V.int 0)=true
    rw [qB3,this];rfl
   refine ⟨_,_,rfl,e,?_⟩
   rw [sn,if_pos il,List.append_nil]
   exact ht
 ·rintro σ H' ⟨x4,x5,rfl,e,ht⟩
  rw [Int.toNat_natCast] at ht
  exact ⟨_,rfl,q to _ e to0 ht⟩
theorem scTabF:FnScope ["names","masks"] ["names","masks"] (qAc sTabF):=⟨rfl,rfl,rfl,by decide +kernel,rfl,by decide +kernel,by decide +kernel⟩
theorem ok_tabF (F:Fun K "table_from" "table_from" sTabF f fd) (G1:FnOk P w K mg base CX0 1 f1 fd1 ["names","mask"] qFa) (bG1:qA1 K fd1 ["names","mask"] []) (kG1:PySem.W.keepIn K (.ref f1)=true) (mG1:mg "row_of" = some (.ref f1))
  (G2:FnOk P w K mg base CX0 2 f2 fd2 ["masks"] spRedu) (bG2:qA1 K fd2 ["masks"] []) (kG2:PySem.W.keepIn K (.ref f2)=true) (mG2:mg "reduced" = some (.ref f2)) (mL:mg "list" = none):FnOk P w K mg base CX0 3 f fd ["names","masks"] spTabF:=by
 refine F.ok scTabF (fun vs H Q E h=>?_) (fun cdv A outer s H vs Q E hr h=>?_)
 ·obtain ⟨pn,pm,names,ms,rfl,_⟩:=h
  rfl
 obtain ⟨pn,pm,names,ms,rfl,hn,ln,hm,lm,q⟩:=h
 have hr1:=hr.mono (j:=1) (by decide)
 refine ⟨_,qAf (qAw (qCm (qAa (qBd qBn rfl mL qBu (qAa (pv 0) qAd)) (qAa
  (qBx (N:=["names","masks"]) (sc:=qAc sTabF) (N':=["mask","names"]) (sub:=[none,some 0]) rfl rfl (CmpOk.of (by decide +kernel)) rfl (qAr (qAg G2 hr rfl mG2 kG2 bG2 .nil qAt (qAa (pv 1) qAd)))
   (fun C s H fp=>⟨qAi (i:=0) (by show (["mask","names"]:List Str).Nodup;decide) rfl (Or.inl rfl),qBb,qAg G1 hr1 rfl mG1 kG1 bG1 .nil qAt (qAa (pv 1) (qAa (pv 0) qAd))⟩)) qAd)))),?_⟩
 refine ⟨_,rfl,pn,_,rfl,.inl (SqL.of hn),fun l1 hl1=>?_⟩
 have n1:=Ext.new hl1 (.lst (names.map V.str))
 refine ⟨_,rfl,pm,ms,rfl,n1 _ _ hm,lm,fun r M H1 e1 r0 hM pM dM=>?_⟩
 have E1:=n1.trans e1
 have lM:M.length<=24:=by rw [pM.length_eq];exact Nat.le_trans (qGm ms) lm
 refine ⟨r,rfl,⟨_,SqL.of hM⟩,?_⟩
 refine qAu (xs:=M.map iV) (fun j ys H2=>Ext H1 H2/\∃ as,ys=as.map V.ref/\Paired (fun a r=>LsS H2 a r/\H a=none) as ((M.take j).map (qBw names))) ⟨Ext.refl _,[],rfl,.nil⟩ (fun j ys H2 _ h=>SqL.of (h.1 _ _ hM)) ?_ ?_
 ·rintro j v ys H2 hx ⟨e2,as,rfl,pr⟩
  obtain ⟨x,rfl,hx'⟩:=qBz hx
  have hj:=qA7 hx'
  have la:as.length=_:=pr.length
  rw [List.length_map,List.length_take] at la
  refine ⟨Sle.set _ (Sle.refl _) (fun u z=>by cases z),iteT (B:=False) ⟨_,rfl,_,rfl,pn,names,x,rfl,(E1.trans e2) _ _ hn,ln,fun r3 H3 e3 r30 h3=>⟨?_,nxt (qA7 hx) ⟨e2.trans e3,as++[r3],by rw [List.map_append];rfl,?_⟩⟩⟩⟩
  ·rw [List.length_map];exact qAk (by omega)
  ·rw [qAn hx',List.map_append]
   exact Paired.snoc (Paired.mapP pr fun a t z=>⟨e3 _ _ z.1,z.2⟩) ⟨h3,(E1.trans e2).none r30⟩
 ·rintro ys H2 ⟨e2,as,rfl,pr⟩ b hb
  rw [List.length_map,List.take_of_length_le (Nat.le_refl _)] at pr
  have E2:=E1.trans e2
  have Xb:=Ext.new hb (.lst (as.map V.ref))
  refine ⟨(by show 2<=sizeLine;decide),fun T hT=>?_⟩
  have XT:=Xb.trans (Ext.new hT (.tup [V.ref l1,V.ref b]))
  refine q T M _ (E2.trans XT) ((E2.trans Xb).none hT) ⟨l1,b,upd_same,XT _ _ (e2 _ _ (e1 _ _ upd_same)),hl1,⟨as,(Ext.new hT _) _ _ upd_same,Paired.mapP pr fun a t z=>⟨XT _ _ z.1,z.2,qAl z.1 hb⟩⟩,E2.none hb⟩ pM dM
theorem scStepM:FnScope ["table","names","rows"] ["table"] (qAc qFf):=⟨rfl,rfl,rfl,by decide +kernel,rfl,by decide +kernel,by decide +kernel⟩
theorem ok_stepM (F:Fun K "step_masks" "step_masks" qFf f fd) (G1:FnOk P w K mg base CX0 1 f1 fd1 ["names","row"] spMask) (bG1:qA1 K fd1 ["names","row"] []) (kG1:PySem.W.keepIn K (.ref f1)=true) (mG1:mg "mask_of" = some (.ref f1))
  (G2:FnOk P w K mg base CX0 2 f2 fd2 ["masks"] spRedu) (bG2:qA1 K fd2 ["masks"] []) (kG2:PySem.W.keepIn K (.ref f2)=true) (mG2:mg "reduced" = some (.ref f2)):FnOk P w K mg base CX0 3 f fd ["table"] qE9:=by
 refine F.ok scStepM (fun vs H Q E h=>?_) (fun cdv A outer s H vs Q E hr h=>?_)
 ·obtain ⟨T,names,rows,rfl,_⟩:=h
  rfl
 obtain ⟨T,names,rows,rfl,⟨a,b,hT,ha,⟨as,hb,pr⟩⟩,lr,q⟩:=h
 have hr1:=hr.mono (j:=1) (by decide)
 refine ⟨_,qAb (qGo (pv 0) (qC5 rfl (qAz (qAi (i:=1) scStepM.nd rfl (Or.inr rfl)) (qAz (qAi (i:=2) scStepM.nd rfl (Or.inl rfl)) qCb))))
  (qAf (qAw (qAg G2 hr rfl mG2 kG2 bG2 .nil qAt (qAa (qBx (N:=["table","names","rows"]) (sc:=qAc qFf) (N':=["row","names"]) (sub:=[none,some 1]) rfl rfl (CmpOk.of (by decide +kernel)) rfl (qAr (pv 2))
   (fun C s H fp=>⟨qAi (i:=0) (by show (["row","names"]:List Str).Nodup;decide) rfl (Or.inl rfl),qBb,qAg G1 hr1 rfl mG1 kG1 bG1 .nil qAt (qAa (pv 1) (qAa (pv 0) qAd))⟩)) qAd)))),?_⟩
 have la:as.length=rows.length:=pr.length
 refine ⟨_,rfl,T,_,rfl,SqT.of hT,rfl,_,_,rfl,_,_,rfl,rfl,?_⟩
 refine ⟨_,rfl,b,rfl,⟨_,SqL.of hb⟩,?_⟩
 refine qAu (xs:=as.map V.ref) (fun j ys H2=>H2=H/\ys=((rows.take j).map (qA2 names)).map iV) ⟨rfl,rfl⟩ (fun j ys H2 _ h=>by rw [h.1];exact SqL.of hb) ?_ ?_
 ·rintro j v ys H2 hx ⟨rfl,rfl⟩
  obtain ⟨c,rfl,hc⟩:=qFk hx
  obtain ⟨rw1,hrw,hc1⟩:=qBf pr hc
  have hj:=qA7 hrw
  refine ⟨Sle.set _ (Sle.refl _) (fun u z=>by cases z),iteT (B:=False) ⟨_,rfl,_,rfl,a,c,names,rw1,rfl,ha,hc1,?_,nxt (qA7 hx) ⟨rfl,?_⟩⟩⟩
  ·rw [List.length_map,List.length_map,List.length_take];exact qAk (by omega)
  ·rw [qAn hrw,List.map_append,List.map_append];rfl
 ·rintro ys H2 ⟨rfl,rfl⟩ l hl
  rw [List.length_map,la,List.take_of_length_le (Nat.le_refl _)]
  have n1:=Ext.new hl (.lst ((rows.map (qA2 names)).map iV))
  refine ⟨l,_,rfl,upd_same,by rw [List.length_map];exact lr,fun r M H1 e1 r0 hM pM dM=>?_⟩
  exact q r M H1 (n1.trans e1) (n1.none r0) hM pM dM
theorem scCross:FnScope ["table","names"] ["table"] (qAc qGj):=⟨rfl,rfl,rfl,by decide +kernel,rfl,by decide +kernel,by decide +kernel⟩
theorem ok_cross (F:Fun K "crossed" "crossed" qGj f fd) (G1:FnOk P w K mg base CX0 3 f1 fd1 ["names","masks"] spTabF) (bG1:qA1 K fd1 ["names","masks"] []) (kG1:PySem.W.keepIn K (.ref f1)=true) (mG1:mg "table_from" = some (.ref f1))
  (G2:FnOk P w K mg base CX0 2 f2 fd2 ["steps","width"] spCrM) (bG2:qA1 K fd2 ["steps","width"] []) (kG2:PySem.W.keepIn K (.ref f2)=true) (mG2:mg "crossed_masks" = some (.ref f2))
  (G3:FnOk P w K mg base CX0 3 f3 fd3 ["table"] qE9) (bG3:qA1 K fd3 ["table"] []) (kG3:PySem.W.keepIn K (.ref f3)=true) (mG3:mg "step_masks" = some (.ref f3)) (ml:mg "len" = none):FnOk P w K mg base CX0 4 f fd ["table"] spCross:=by
 refine F.ok scCross (fun vs H Q E h=>?_) (fun cdv A outer s H vs Q E hr h=>?_)
 ·obtain ⟨T,names,rows,rfl,_⟩:=h
  rfl
 obtain ⟨T,names,rows,rfl,ht,ln,lr,q⟩:=h
 have hr2:=hr.mono (j:=2) (by decide)
 refine ⟨_,qAb (qAj (i:=1) scCross.nd rfl (Or.inl rfl) (qBg qBl (pv 0) qAe (fun _ _=>rfl)))
  (qAf (qAw (qAg G1 hr rfl mG1 kG1 bG1 .nil qAt (qAa (pv 1) (qAa (qAg G2 hr2 rfl mG2 kG2 bG2 .nil qAt (qAa (qAg G3 hr rfl mG3 kG3 bG3 .nil qAt (qAa (pv 0) qAd)) (qAa (qAs qAv rfl ml PySem.boot_len (qAa (pv 1) qAd)) qAd))) qAd))))),?_⟩
 obtain ⟨a,b,hT,ha,hb⟩:=id ht
 refine ⟨_,rfl,T,_,_,_,rfl,rfl,SqT.of hT,(by exact qAy (j:=0) rfl),?_⟩
 refine ⟨_,rfl,_,rfl,T,names,rows,rfl,ht,lr,fun r S H1 e1 r0 hS pS dS=>?_⟩
 have rrS:RR S:=(qC4 _).perm pS
 have ltS:∀ s∈S,s<2^names.length:=fun s hs=>red_lt (fun x hx=>by
  obtain ⟨rw1,_,rfl⟩:=List.mem_map.mp hx
  exact maskF_lt names rw1) s (pS.mem_iff.mp hs)
 have lS:S.length<=24:=by
  have:=qGm (rows.map (qA2 names))
  rw [List.length_map] at this
  rw [pS.length_eq];omega
 refine ⟨_,rfl,a,_,rfl,.inl (SqL.of (e1 _ _ ha)),r,S,names.length,(by rw [List.length_map];rfl),hS,rrS,ltS,ln,lS,fun r2 H2 e2 r20 h2=>?_⟩
 have lc:(crAll S names.length).length<=24:=by
  unfold crAll
  rw [List.length_map]
  have:=List.length_filter_le (fun p=>!decide (isLd S p)) (List.range names.length)
  rw [List.length_range] at this
  omega
 have E2:=e1.trans e2
 refine ⟨a,r2,names,_,rfl,E2 _ _ ha,ln,h2,lc,fun T' M H3 e3 t0 tf pM dM=>?_⟩
 exact q T' S M H3 (E2.trans e3) (E2.none t0) (tf.down E2) pS pM dM
end
end My
namespace My
open PySem L2
def ixF (ps:List Str) (x:Str):Nat:=ps.findIdx fun y=>decide (y=x)
theorem ixF_at {ps:List Str} {x:Str} (h:x∈ps):ps[ixF ps x]?=some x/\(∀ k,k<ixF ps x->ps[k]?≠some x)/\ixF ps x<ps.length:=by
 have lt:ixF ps x<ps.length:=List.findIdx_lt_length_of_exists ⟨x,h,by simp⟩
 have at_:ps[ixF ps x]=x:=by
  have:=List.findIdx_getElem (w:=lt)
  exact of_decide_eq_true this
 refine ⟨by rw [List.getElem?_eq_getElem lt,at_],fun k hk e=>?_,lt⟩
 have:=List.not_of_lt_findIdx hk
 have kl:k<ps.length:=Nat.lt_trans hk lt
 rw [List.getElem?_eq_getElem kl] at e
 have e':=Option.some.inj e
 simp [e'] at this
def vT (ps:List Str) (t:Tr):Nat:=2^ixF ps t.2.1^^^2^ixF ps t.2.2
def vF (net:List Tr) (ps:List Str) (i:Nat):Nat:=match net[i]? with | some t=>vT ps t | none=>0
end My
namespace My
open PySem L2
theorem qBo {n:Nat} (h:n<=5000):n<sizeLine:=Nat.lt_of_le_of_lt h (by decide)
def spLRed:Sp:=fun vs H Q _=>∃ (p:Addr) (ms:List Nat) (m:Nat),vs=[.ref p]/\LsN H p ms/\ms.length<=5000/\(∀ x∈ms,x<2^m)/\∀ r H',Ext H H'->H r=none->LsN H' r (redL ms)->Q (.ref r) H'
theorem redL1_snoc (k:List Nat) (s x:Nat):redL1 (k++[s]) x=rdL (redL1 k x) s:=by unfold redL1;rw [List.foldl_append];rfl
theorem redL_le (xs:List Nat):(redL xs).length<=xs.length:=by
 refine qFb (P:=fun xs=>(redL xs).length<=xs.length) (Nat.le_refl _) (fun l t ih=>?_) xs
 rw [qFl,List.length_append]
 unfold redLS
 split
 ·exact Nat.le_trans ih (Nat.le_add_right _ _)
 ·rw [List.length_append,List.length_map];exact Nat.add_le_add_right ih _
def KeptAt (H:Hp) (p:Addr) (K:List (Nat×Nat)):Prop:=∃ as:List Addr,H p=some (.lst (as.map V.ref))/\Paired (fun a f=>H a=some (.tup [iV f.1,iV f.2])) as K
def spLEven:Sp:=fun vs H Q _=>∃ (p:Addr) (net:List Tr),vs=[.ref p]/\NetAt H p net/\net.length<=12/\∀ (r:Addr) (F:List Nat) (H':Hp),Ext H H'->H r=none->LsN H' r F->F.length<=12->Q (.ref r) H'
def rowL (names:List Str) (x:Nat):List Str:=(List.range names.length).filterMap fun i=>if x.testBit i=true then names[i]? else none
def spLRow:Sp:=fun vs H Q _=>∃ (pn:Addr) (names:List Str) (x:Nat),vs=[.ref pn,iV x]/\LsS H pn names/\names.length<=12/\∀ r H',Ext H H'->H r=none->LsS H' r (rowL names x)->Q (.ref r) H'
section
variable {P:Program} {w:World} {K:PySem.W.Frag} {mg:Str->Option Value} {base:Heap} {f f1 f2 f3 f4:Addr} {fd fd1 fd2 fd3 fd4:FuncData}
abbrev lrN:List Str:=["_law_numbers","_law_rows","_law_number","_law_row_here","_law_lead"]
abbrev lrC:List Str:=["_law_row_here","_law_number","_law_lead"]
theorem qFe:FnScope lrN ["_law_numbers"] (qAc sLRed):=⟨rfl,rfl,rfl,by decide +kernel,rfl,by decide +kernel,by decide +kernel⟩
theorem ok_lred (F:Fun K "_law_reduced" "_law_reduced" sLRed f fd):FnOk P w K mg base CX0 1 f fd ["_law_numbers"] spLRed:=by
 refine F.ok qFe (fun vs H Q E h=>?_) (fun cdv A outer s H vs Q E hr h=>?_)
 ·obtain ⟨p,ms,m,rfl,_⟩:=h
  rfl
 obtain ⟨p,ms,m,rfl,hp,lm,lt,q⟩:=h
 refine ⟨_,qAb (qAj (i:=1) qFe.nd rfl (Or.inl rfl) (qBa qAd))
  (qAb (qBi PassesOwn.never rfl (qAr (pv 0)) (qAi (i:=2) qFe.nd rfl (Or.inr rfl))
   (qAb (qBi PassesOwn.never rfl (qAr (pv 1)) (qAi (i:=3) qFe.nd rfl (Or.inl rfl))
    (qAf (qB6 (qAo qFr (qAh qBy (qAh qBy (pv 2) (pv 3)) (pe_un un_neg (pv 3))) qAe (qAx _)) (qAf (qAj (i:=2) qFe.nd rfl (Or.inr rfl) (qAh qDj (pv 2) (pv 3)))) qA8)))
   (qAf (qB6 (qAo qFr (pv 2) qAe (qAx _))
    (qAb (qAj (i:=4) qFe.nd rfl (Or.inr rfl) (qAh qBy (pv 2) (pe_un un_neg (pv 2))))
    (qAf (qAj (i:=1) qFe.nd rfl (Or.inl rfl) (qAh qDm (qBx (N:=lrN) (sc:=qAc sLRed) (N':=lrC) (sub:=[none,some 2,some 4]) rfl rfl (CmpOk.of (by decide +kernel)) rfl (qAr (pv 1))
     (fun C s H fp=>⟨qAi (i:=0) (by show lrC.Nodup;decide) rfl (Or.inl rfl),qBb,pe_ifExp (qAo qFr (qAh qBy (pv 0) (pv 2)) qAe (qAx _)) (qAh qDj (pv 0) (pv 1)) (pv 0)⟩)) (qBa (qAa (pv 2) qAd))))))
    qA8))))
  (qAf (qAw (pv 1)))),?_⟩
 refine ⟨Nat.zero_le _,fun ro ro0=>?_⟩
 have X0:=Ext.new ro0 (.lst [])
 refine ⟨_,rfl,p,rfl,⟨_,SqL.of (X0 _ _ hp)⟩,?_⟩
 refine qBs (xs:=ms.map iV) (fun i σ H'=>∃ (ro:Addr) (x2 x3 x4:Option V),σ=[some (.ref p),some (.ref ro),x2,x3,x4]/\Ext H H'/\H ro=none/\LsN H' ro (redL (ms.take i))) ⟨ro,none,none,none,rfl,X0,ro0,upd_same⟩ (fun i σ H' _ h=>by obtain ⟨_,_,_,_,_,e,_⟩:=h;exact SqL.of (e _ _ hp)) ?_ ?_
 ·rintro i v σ H' hx ⟨ro,x2,x3,x4,rfl,e,ro0,hk⟩
  obtain ⟨n,rfl,hn⟩:=qBz hx
  have hi:i<ms.length:=qA7 hn
  have nl:=lt n (List.mem_of_getElem? hn)
  obtain ⟨gm,_⟩:=redL_rv (m:=m) (ms.take i) fun x hx=>lt x (List.mem_of_mem_take hx)
  have lr:=redL_le (ms.take i)
  rw [List.length_take] at lr
  have sn:redL (ms.take (i+1))=redLS (redL (ms.take i)) n:=by rw [qAn hn,qFl]
  refine ⟨_,rfl,ro,rfl,⟨_,SqL.of hk⟩,?_⟩
  refine qBs (xs:=(redL (ms.take i)).map iV) (fun j σ H2=>H2=H'/\∃ x3:Option V,σ=[some (.ref p),some (.ref ro),some (iV (redL1 ((redL (ms.take i)).take j) n)),x3,x4]) ⟨rfl,x3,rfl⟩ (fun j σ H2 _ h=>by rw [h.1];exact SqL.of hk) ?_ ?_
  ·rintro j v σ H2 hx2 ⟨rfl,x3,rfl⟩
   obtain ⟨s,rfl,hs⟩:=qBz hx2
   have snz:=(gm s (List.mem_of_getElem? hs)).2
   have st:redL1 ((redL (ms.take i)).take (j+1)) n=rdL (redL1 ((redL (ms.take i)).take j) n) s:=by rw [qAn hs,redL1_snoc]
   refine ⟨_,rfl,_,rfl,_,_,rfl,rfl,_,rfl,_,rfl,_,_,rfl,rfl,rfl,_,rfl,?_⟩
   have lt2:=low_test (redL1 ((redL (ms.take i)).take j) n) snz
   have key:((!decide (V.int (Builtin.bitAnd (Builtin.bitAnd ((redL1 ((redL (ms.take i)).take j) n:Nat):Int) (s:Int)) (-(s:Int)))=V.int 0))=true)↔(redL1 ((redL (ms.take i)).take j) n).testBit (lo s)=true:=by
    rw [<-lt2];simp
   refine qCg (fun c=>?_) (fun c=>?_)
   ·refine ⟨_,rfl,_,rfl,_,_,rfl,rfl,rfl,some (iV s),?_⟩
    rw [st,show rdL (redL1 ((redL (ms.take i)).take j) n) s=redL1 ((redL (ms.take i)).take j) n^^^s from if_pos (key.mp c),show iV (redL1 ((redL (ms.take i)).take j) n^^^s)=V.int (Builtin.bitXor ((redL1 ((redL (ms.take i)).take j) n:Nat):Int) (s:Int)) by rw [qCh]]
    rfl
   ·refine ⟨rfl,some (iV s),?_⟩
    rw [st,show rdL (redL1 ((redL (ms.take i)).take j) n) s=redL1 ((redL (ms.take i)).take j) n from if_neg fun z=>c (key.mpr z)]
    rfl
  ·rintro σ H2 ⟨rfl,x3,rfl⟩
   rw [List.length_map,List.take_of_length_le (Nat.le_refl _)]
   refine ⟨_,rfl,rfl,_,rfl,?_⟩
   refine qCg (fun c=>?_) (fun c=>?_)
   ·have nz:redL1 (redL (ms.take i)) n≠0:=fun z=>by rw [z] at c;simp at c
    have lb:=low_bit nz
    refine ⟨_,rfl,_,rfl,_,rfl,_,_,rfl,rfl,?_⟩
    refine ⟨_,rfl,ro,rfl,⟨_,SqL.of hk⟩,?_⟩
    refine qAu (xs:=(redL (ms.take i)).map iV) (fun j ys H3=>H3=H2/\ys=(((redL (ms.take i)).take j).map fun s=>rdL s (redL1 (redL (ms.take i)) n)).map iV) ⟨rfl,rfl⟩ (fun j ys H3 _ h=>by rw [h.1];exact SqL.of hk) ?_ ?_
    ·rintro j v ys H3 hx3 ⟨rfl,rfl⟩
     obtain ⟨s,rfl,hs⟩:=qBz hx3
     have hj:=qA7 hs
     have sz:((((redL (ms.take i)).take j).map fun s=>rdL s (redL1 (redL (ms.take i)) n)).map iV).length<sizeLine:=by
      rw [List.length_map,List.length_map,List.length_take];exact qBo (by omega)
     have ap:=qF5 s (lo (redL1 (redL (ms.take i)) n))
     have key:((!decide (V.int (Builtin.bitAnd (s:Int) (Builtin.bitAnd ((redL1 (redL (ms.take i)) n:Nat):Int) (-((redL1 (redL (ms.take i)) n:Nat):Int))))=V.int 0))=true)↔s.testBit (lo (redL1 (redL (ms.take i)) n))=true:=by
      rw [lb,qB3,<-ap];simp
     refine ⟨Sle.set _ (Sle.refl _) (fun u z=>by cases z),iteT (B:=False) ?_⟩
     refine ⟨_,rfl,_,rfl,_,_,rfl,rfl,rfl,_,rfl,?_⟩
     refine qCg (fun c3=>?_) (fun c3=>?_)
     ·refine ⟨_,rfl,_,rfl,_,_,rfl,rfl,sz,nxt (qA7 hx3) ⟨rfl,?_⟩⟩
      rw [qAn hs,List.map_append,List.map_append,List.map_singleton,List.map_singleton,show rdL s (redL1 (redL (ms.take i)) n)=s^^^redL1 (redL (ms.take i)) n from if_pos (key.mp c3),show iV (s^^^redL1 (redL (ms.take i)) n)=V.int (Builtin.bitXor (s:Int) ((redL1 (redL (ms.take i)) n:Nat):Int)) by rw [qCh]]
     ·refine ⟨_,rfl,sz,nxt (qA7 hx3) ⟨rfl,?_⟩⟩
      rw [qAn hs,List.map_append,List.map_append,List.map_singleton,List.map_singleton,show rdL s (redL1 (redL (ms.take i)) n)=s from if_neg fun z=>c3 (key.mpr z)]
    ·rintro ys H3 ⟨rfl,rfl⟩ l1 hl1
     rw [List.length_map,List.take_of_length_le (Nat.le_refl _)]
     have n1:=Ext.new hl1 (.lst (((redL (ms.take i)).map fun s=>rdL s (redL1 (redL (ms.take i)) n)).map iV))
     refine ⟨_,rfl,(by show 1<=sizeLine;decide),fun l2 hl2=>?_⟩
     have n2:=Ext.new hl2 (.lst [iV (redL1 (redL (ms.take i)) n)])
     refine ⟨l1,l2,_,_,rfl,rfl,n2 _ _ upd_same,upd_same,?_,fun l3 hl3=>?_⟩
     ·rw [List.length_map,List.length_map]
      show _+1<=sizeLine
      exact Nat.le_of_lt (qBo (by omega))
     ·refine ⟨l3,_,_,_,rfl,((e.trans n1).trans n2).trans (Ext.new hl3 _),((e.trans n1).trans n2).none hl3,?_⟩
      rw [sn]
      unfold redLS LsN
      rw [if_neg nz,upd_same,List.map_append]
      rfl
   ·have z:redL1 (redL (ms.take i)) n=0:=by
     have:(redL1 (redL (ms.take i)) n:Int)=0:=by simpa using c
     omega
    refine ⟨ro,_,_,_,rfl,e,ro0,?_⟩
    rw [sn]
    unfold redLS
    rw [if_pos z]
    exact hk
 ·rintro σ H' ⟨ro,x2,x3,x4,rfl,e,ro0,hk⟩
  rw [List.length_map,List.take_of_length_le (Nat.le_refl _)] at hk
  exact ⟨_,rfl,q ro _ e ro0 hk⟩
theorem scLRow:FnScope ["_law_names_here","_law_number"] ["_law_names_here","_law_number"] (qAc sLRow):=⟨rfl,rfl,rfl,by decide +kernel,rfl,by decide +kernel,by decide +kernel⟩
abbrev lwN:List Str:=["_law_k","_law_name","_law_number"]
theorem ok_lrow (F:Fun K "_law_row" "_law_row" sLRow f fd) (me:mg "enumerate" = none):FnOk P w K mg base CX0 1 f fd ["_law_names_here","_law_number"] spLRow:=by
 refine F.ok scLRow (fun vs H Q E h=>?_) (fun cdv A outer s H vs Q E hr h=>?_)
 ·obtain ⟨pn,names,x,rfl,_⟩:=h
  rfl
 obtain ⟨pn,names,x,rfl,hn,ln,q⟩:=h
 refine ⟨_,qAf (qAw (qBx (N:=["_law_names_here","_law_number"]) (sc:=qAc sLRow) (N':=lwN) (sub:=[none,none,some 1]) rfl rfl (CmpOk.of (by decide +kernel)) rfl (pi_enum rfl me (qAa (pv 0) qAd))
   (fun C s H fp=>⟨(show PG _ _ (gTup K 2 _) from qC5 rfl (qAz (qAi (i:=0) (by show lwN.Nodup;decide) rfl (Or.inl rfl)) (qAz (qAi (i:=1) (by show lwN.Nodup;decide) rfl (Or.inl rfl)) qCb))),
    qB5 (qAo qDt (qAh qBy (qAh qGt (pv 2) (pv 0)) qAe) qAe (qAx _)),pv 1⟩))),?_⟩
 refine ⟨_,rfl,pn,_,rfl,SqL.of hn,?_⟩
 rw [List.length_map]
 refine qE5 (fun i ys H'=>Ext H H'/\ys=((List.range i).filterMap fun i=>if x.testBit i=true then names[i]? else none).map V.str) ⟨Ext.refl _,rfl⟩ (fun i ys H' _ p=>SqL.of (p.1 _ _ hn)) ?_ ?_
 ·rintro i ys H' T hi ⟨e,rfl⟩ hT
  have gd:(names.map V.str).getD i .non = .str names[i]:=by rw [List.getD_eq_getElem?_getD,List.getElem?_map,List.getElem?_eq_getElem hi];rfl
  have e2:=e.trans (Ext.new hT (.tup [V.int (i:Nat),(names.map V.str).getD i .non]))
  refine ⟨T,_,rfl,SqT.of upd_same,rfl,_,_,rfl,_,_,rfl,rfl,?_⟩
  refine ⟨Sle.set _ (Sle.set _ (Sle.refl _) (fun u z=>by cases z)) (fun u z=>by cases z),?_⟩
  refine ⟨_,rfl,_,rfl,_,_,rfl,rfl,(by show (0:Int)<=_;omega),_,_,rfl,rfl,rfl,_,rfl,?_⟩
  have fm:((List.range (i+1)).filterMap fun i=>if x.testBit i=true then names[i]? else none)=((List.range i).filterMap fun i=>if x.testBit i=true then names[i]? else none)++(if x.testBit i=true then [names[i]] else []):=by
   rw [List.range_succ,List.filterMap_append]
   congr 1
   by_cases b:x.testBit i=true
   ·simp [b,List.getElem?_eq_getElem hi]
   ·simp [b]
  have sz:=List.length_filterMap_le (fun i=>if x.testBit i=true then names[i]? else none) (List.range i)
  rw [List.length_range] at sz
  have key:(decide (V.int (Builtin.bitAnd ((x:Int) / 2^(((i:Nat):Int)).toNat) 1)=V.int 1)=true)↔x.testBit i=true:=by
   rw [decide_eq_true_iff,V.int.injEq,Int.toNat_natCast,shr_one]
   by_cases b:x.testBit i=true
   ·simp [b]
   ·simp [b]
  refine qCg (fun c=>?_) (fun c=>?_)
  ·have b:=key.mp c
   refine ⟨_,rfl,by rw [List.length_map];exact qBo (by omega),nxt hi ⟨e2,?_⟩⟩
   rw [fm,if_pos b,List.map_append,gd];rfl
  ·have b:¬x.testBit i=true:=fun z=>c (key.mpr z)
   refine nxt hi ⟨e2,?_⟩
   rw [fm,if_neg b,List.append_nil]
 ·rintro ys H' ⟨e,rfl⟩ r hr'
  exact q r _ (e.trans (Ext.new hr' _)) (e.none hr') upd_same
end
end My
namespace My
open PySem L2
theorem KeptAt.ext {H H':Hp} {p:Addr} {K:List (Nat×Nat)} (h:KeptAt H p K) (e:Ext H H'):KeptAt H' p K:=by
 obtain ⟨as,h1,h2⟩:=h
 exact ⟨as,e _ _ h1,Paired.mapP h2 fun a t z=>e _ _ z⟩
section
variable {P:Program} {w:World} {K:PySem.W.Frag} {mg:Str->Option Value} {base:Heap} {f f1 f2 f3 f4:Addr} {fd fd1 fd2 fd3 fd4:FuncData}
abbrev leN:List Str:=["_law_net_here","_law_knots","_law_kept","_law_found","_law_place","_law_tie","_law_ends_here","_law_mine","_law_far","_law_more"]
theorem qB9:FnScope leN ["_law_net_here"] (qAc qEl):=⟨rfl,rfl,rfl,by decide +kernel,rfl,by decide +kernel,by decide +kernel⟩
theorem ok_leven (F:Fun K "_law_even" "_law_even" qEl f fd) (mso:mg "sorted" = none) (mst:mg "set" = none) (me:mg "enumerate" = none):FnOk P w K mg base CX0 1 f fd ["_law_net_here"] spLEven:=by
 refine F.ok qB9 (fun vs H Q E h=>?_) (fun cdv A outer s H vs Q E hr h=>?_)
 ·obtain ⟨p,net,rfl,_⟩:=h
  rfl
 obtain ⟨p,net,rfl,⟨as,hp,pr⟩,hl,q⟩:=h
 refine ⟨_,qAb (qGn (fun σ H1=>∃ (kn:Addr) (ps:List Str),σ=[some (.ref p),some (.ref kn),none,none,none,none,none,none,none,none]/\Ext H H1/\LsS H1 kn ps/\PtsOk net ps/\ps.length<=24) (qAj (i:=1) qB9.nd rfl (Or.inl rfl) (qAs (qGa rfl) rfl mso qB8 (qAa (qBd (call_setS rfl) rfl mst boot_set' (qAa (qAh qDm
  (qBx (N:=leN) (sc:=qAc qEl) (N':=["_law_tie"]) (sub:=[none]) rfl rfl (CmpOk.of (by decide +kernel)) rfl (qAr (pv 0)) (fun C s H fp=>⟨qAi (i:=0) (by show (["_law_tie"]:List Str).Nodup;decide) rfl (Or.inl rfl),qBb,qBg (show IxR _ (rIxT K) from qBl) (pv 0) qAe (fun _ _=>rfl)⟩))
  (qBx (N:=leN) (sc:=qAc qEl) (N':=["_law_tie"]) (sub:=[none]) rfl rfl (CmpOk.of (by decide +kernel)) rfl (qAr (pv 0)) (fun C s H fp=>⟨qAi (i:=0) (by show (["_law_tie"]:List Str).Nodup;decide) rfl (Or.inl rfl),qBb,qBg (show IxR _ (rIxT K) from qBl) (pv 0) qAe (fun _ _=>rfl)⟩))) qAd)) qAd))))
  (qAb (qAj (i:=2) qB9.nd rfl (Or.inl rfl) (qBa qAd))
  (qAb (qAj (i:=3) qB9.nd rfl (Or.inl rfl) (qBa qAd))
  (qAb (qBi PassesOwn.never rfl (pi_enum rfl me (qAa (pv 0) qAd)) (qC5 rfl (qAz (qAi (i:=4) qB9.nd rfl (Or.inl rfl)) (qAz (qAi (i:=5) qB9.nd rfl (Or.inl rfl)) qCb)))
   (qAb (qAj (i:=6) qB9.nd rfl (Or.inl rfl) (qAh qDj (qAh qCt qAe (qD9 PySem.F.plainAttrs_list PySem.F.slot_list_index PySem.F.type_list_index mt_index (pv 1) (qAa (qBg qBl (pv 5) qAe (fun _ _=>rfl)) qAd))) (qAh qCt qAe (qD9 PySem.F.plainAttrs_list PySem.F.slot_list_index PySem.F.type_list_index mt_index (pv 1) (qAa (qBg qBl (pv 5) qAe (fun _ _=>rfl)) qAd)))))
   (qAb (qAj (i:=7) qB9.nd rfl (Or.inl rfl) (qAh qCt qAe (pv 4)))
   (qAb (qBi PassesOwn.never rfl (qAr (pv 2)) (qC5 rfl (qAz (qAi (i:=8) qB9.nd rfl (Or.inl rfl)) (qAz (qAi (i:=9) qB9.nd rfl (Or.inl rfl)) qCb)))
    (qAf (qB6 (qAo qFr (qAh qBy (qAh qBy (pv 6) (pv 8)) (pe_un un_neg (pv 8))) qAe (qAx _))
     (qAb (qAj (i:=6) qB9.nd rfl (Or.inl rfl) (qAh qDj (pv 6) (pv 8)))
     (qAf (qAj (i:=7) qB9.nd rfl (Or.inl rfl) (qAh qDj (pv 7) (pv 9))))) qA8)))
   (qAf (qB6 (qAo qDt (pv 6) qAe (qAx _))
    (qAf (qCl (qD9 PySem.F.plainAttrs_list PySem.F.slot_list_append PySem.F.type_list_append qBp (pv 3) (qAa (pv 7) qAd))))
    (qAf (qCl (qD9 PySem.F.plainAttrs_list PySem.F.slot_list_append PySem.F.type_list_append qBp (pv 2) (qAa (qCm (qAa (pv 6) (qAa (pv 7) qAd))) qAd))))))))))
  (qAf (qAw (pv 3)))))),?_⟩
 refine ⟨?_,?_⟩
 ·refine ⟨_,rfl,p,rfl,⟨_,SqL.of hp⟩,?_⟩
  refine turns_net (fun t=>t.2.1) hp pr hl (fun a t ha C B c=>⟨Sle.set _ (Sle.refl _) (fun u z=>by cases z),?_⟩) ?_
  ·exact iteT (B:=B H) ⟨_,rfl,a,_,_,_,rfl,rfl,SqT.of ha,(by exact qAy (j:=1) rfl),c⟩
  intro l1 hl1
  have n1:=Ext.new hl1 (.lst ((net.map fun t=>t.2.1).map V.str))
  refine ⟨_,rfl,p,rfl,⟨_,SqL.of (n1 _ _ hp)⟩,?_⟩
  refine turns_net (fun t=>t.2.2) (n1 _ _ hp) (Paired.mapP pr fun a t z=>n1 _ _ z) hl (fun a t ha C B c=>⟨Sle.set _ (Sle.refl _) (fun u z=>by cases z),?_⟩) ?_
  ·exact iteT (B:=B (upd H l1 (.lst ((net.map fun t=>t.2.1).map V.str)))) ⟨_,rfl,a,_,_,_,rfl,rfl,SqT.of ha,(by exact qAy (j:=2) rfl),c⟩
  intro l2 hl2
  have n2:=n1.trans (Ext.new hl2 (.lst ((net.map fun t=>t.2.2).map V.str)))
  refine ⟨l1,l2,_,_,rfl,rfl,(Ext.new hl2 _) _ _ upd_same,upd_same,?_,fun l3 hl3=>?_⟩
  ·simp only [List.length_map]
   exact Nat.le_of_lt (qAk (by omega))
  have n3:=n2.trans (Ext.new hl3 (.lst ((net.map fun t=>t.2.1).map V.str++(net.map fun t=>t.2.2).map V.str)))
  refine ⟨l3,(net.map fun t=>t.2.1)++(net.map fun t=>t.2.2),rfl,SqL.of (by rw [upd_same,List.map_append]),?_,fun r1 ss hr1 nd ln mem=>?_⟩
  ·simp only [List.length_append,List.length_map]
   omega
  simp only [List.length_append,List.length_map] at ln
  refine ⟨r1,ss,rfl,upd_same,by omega,fun kn ps hkn pm srt=>?_⟩
  have E1:=(n3.trans (Ext.new hr1 _)).trans (Ext.new hkn (.lst (ps.map V.str)))
  have pok:PtsOk net ps:=⟨pm.nodup_iff.mpr nd,fun x=>by
   rw [pm.mem_iff,mem,List.mem_append,List.mem_map,List.mem_map]
   unfold isPt
   constructor
   ·rintro (⟨t,ht,rfl⟩ | ⟨t,ht,rfl⟩)
    ·exact ⟨t,ht,.inl rfl⟩
    ·exact ⟨t,ht,.inr rfl⟩
   ·rintro ⟨t,ht,rfl | rfl⟩
    ·exact .inl ⟨t,ht,rfl⟩
    ·exact .inr ⟨t,ht,rfl⟩⟩
  have lps:ps.length<=24:=by rw [pm.length_eq];omega
  exact ⟨kn,ps,rfl,E1,upd_same,pok,lps⟩
 rintro σ H1 ⟨kn,ps,rfl,E1,hk1,pok,lps⟩
 refine ⟨Nat.zero_le _,fun ke ke1=>?_⟩
 have Xk:=Ext.new ke1 (.lst [])
 refine ⟨Nat.zero_le _,fun fo fo1=>?_⟩
 have Xf:=Xk.trans (Ext.new fo1 (.lst []))
 have ke0:=E1.none ke1
 have fo0:=E1.none (Xk.none fo1)
 have kefo:ke≠fo:=qAl (upd_same:upd H1 ke (.lst []) ke=_) fo1
 have lA:as.length=net.length:=pr.length
 have hpx:∀ x,isPt net x->x∈ps:=fun x hx=>(pok.2 x).mpr hx
 refine ⟨_,rfl,p,_,rfl,SqL.of (Xf _ _ (E1 _ _ hp)),?_⟩
 rw [List.length_map,lA]
 refine for_pairs (fun i σ H2=>∃ (Kp:List (Nat×Nat)) (Fd:List Nat) (x4 x5 x6 x7 x8 x9:Option V),σ=[some (.ref p),some (.ref kn),some (.ref ke),some (.ref fo),x4,x5,x6,x7,x8,x9]/\Ext H1 H2/\KeptAt H2 ke Kp/\LsN H2 fo Fd/\Kp.length<=i/\Fd.length<=i)
  ⟨[],[],none,none,none,none,none,none,rfl,Xf,⟨[],(Ext.new fo1 _) _ _ upd_same,.nil⟩,upd_same,Nat.le_refl _,Nat.le_refl _⟩ ?_ ?_ ?_
 ·rintro i σ H2 _ ⟨Kp,Fd,x4,x5,x6,x7,x8,x9,_,e2,_⟩
  exact SqL.of ((E1.trans e2) _ _ hp)
 ·rintro i σ H2 T hi ⟨Kp,Fd,x4,x5,x6,x7,x8,x9,rfl,e2,kp,fd,ei,kw⟩ hT
  have hia:i<as.length:=by omega
  have g2:(as.map V.ref).getD i .non = .ref as[i]:=by rw [List.getD_eq_getElem?_getD,List.getElem?_map,List.getElem?_eq_getElem hia];rfl
  obtain ⟨t,ht,hta⟩:=qBf pr (List.getElem?_eq_getElem hia)
  dsimp only
  rw [g2]
  have Y1:=Ext.new hT (.tup [V.int (i:Nat),V.ref as[i]])
  have E2:=(E1.trans e2).trans Y1
  obtain ⟨a1,a2,a3⟩:=ixF_at (hpx t.2.1 ⟨t,List.mem_of_getElem? ht,.inl rfl⟩)
  obtain ⟨b1,b2,b3⟩:=ixF_at (hpx t.2.2 ⟨t,List.mem_of_getElem? ht,.inr rfl⟩)
  have hk2:=(e2.trans Y1) _ _ hk1
  refine ⟨T,_,rfl,SqT.of upd_same,rfl,_,_,rfl,_,_,rfl,rfl,?_⟩
  refine ⟨_,rfl,.inl ⟨rfl,_,SqL.of hk2⟩,_,rfl,as[i],_,_,_,rfl,rfl,SqT.of (E2 _ _ hta),(by exact qAy (j:=1) rfl),kn,ps,t.2.1,ixF ps t.2.1,rfl,rfl,hk2,a1,a2,by omega,_,_,rfl,rfl,⟨by omega,by omega,by decide⟩,?_⟩
  refine ⟨_,rfl,.inl ⟨rfl,_,SqL.of hk2⟩,_,rfl,as[i],_,_,_,rfl,rfl,SqT.of (E2 _ _ hta),(by exact qAy (j:=2) rfl),kn,ps,t.2.2,ixF ps t.2.2,rfl,rfl,hk2,b1,b2,by omega,_,_,rfl,rfl,⟨by omega,by omega,by decide⟩,_,_,rfl,rfl,?_⟩
  have vv:(fun i j:Int=>V.int (Builtin.bitXor i j)) (1*2^(((ixF ps t.2.1:Nat):Int)).toNat) (1*2^(((ixF ps t.2.2:Nat):Int)).toNat)=iV (2^ixF ps t.2.1^^^2^ixF ps t.2.2):=by
   show V.int (Builtin.bitXor _ _)=_
   rw [qCj,qCj,qCh]
  rw [vv]
  refine ⟨_,rfl,_,_,rfl,rfl,⟨by omega,by omega,by decide⟩,?_⟩
  have wv:(fun i j:Int=>V.int (i*2^j.toNat)) 1 ((i:Nat):Int)=iV (2^i):=by
   show V.int (1*2^_)=_
   rw [qCj]
  rw [wv]
  obtain ⟨ks,hks,pks⟩:=kp.ext Y1
  have lk:ks.length=Kp.length:=pks.length
  have lKp:Kp.length<=12:=by omega
  refine ⟨_,rfl,ke,rfl,⟨_,SqL.of hks⟩,?_⟩
  refine qBs (xs:=ks.map V.ref) (fun j σ H3=>H3=upd H2 T (.tup [V.int (i:Nat),V.ref as[i]])/\∃ (x8 x9:Option V) (ev:Nat×Nat),σ=[some (.ref p),some (.ref kn),some (.ref ke),some (.ref fo),some (.int (i:Nat)),some (.ref as[i]),some (iV ev.1),some (iV ev.2),x8,x9])
   ⟨rfl,x8,x9,(2^ixF ps t.2.1^^^2^ixF ps t.2.2,2^i),rfl⟩ (fun j σ H3 _ h=>by rw [h.1];exact SqL.of hks) ?_ ?_
  ·rintro j v σ H3 hx3 ⟨rfl,x8,x9,ev,rfl⟩
   obtain ⟨c,rfl,hc⟩:=qFk hx3
   obtain ⟨g,hg,hcg⟩:=qBf pks hc
   refine ⟨c,_,rfl,SqT.of hcg,rfl,_,_,rfl,_,_,rfl,rfl,?_⟩
   refine ⟨_,rfl,_,rfl,_,_,rfl,rfl,_,rfl,_,rfl,_,_,rfl,rfl,rfl,_,rfl,?_⟩
   refine qCg (fun c2=>?_) (fun c2=>?_)
   ·refine ⟨_,rfl,_,rfl,_,_,rfl,rfl,_,rfl,_,rfl,_,_,rfl,rfl,rfl,some (iV g.1),some (iV g.2),(ev.1^^^g.1,ev.2^^^g.2),?_⟩
    rw [show iV (ev.1^^^g.1,ev.2^^^g.2).1=V.int (Builtin.bitXor ((ev.1:Nat):Int) ((g.1:Nat):Int)) by rw [qCh],show iV (ev.1^^^g.1,ev.2^^^g.2).2=V.int (Builtin.bitXor ((ev.2:Nat):Int) ((g.2:Nat):Int)) by rw [qCh]]
    rfl
   ·exact ⟨rfl,some (iV g.1),some (iV g.2),ev,rfl⟩
  ·rintro σ H3 ⟨rfl,x8,x9,ev,rfl⟩
   have fd3:=Y1 _ _ fd
   have lF:Fd.length<=12:=by omega
   refine ⟨_,rfl,rfl,_,rfl,?_⟩
   refine qCg (fun c2=>?_) (fun c2=>?_)
   ·have z:ev.1=0:=by
     have:((ev.1:Nat):Int)=0:=by simpa using c2
     omega
    refine ⟨_,rfl,.inl ⟨rfl,_,SqL.of fd3⟩,_,rfl,fo,_,_,rfl,rfl,fd3,by rw [List.length_map];exact qAk (by omega),?_⟩
    refine ⟨Kp,Fd++[ev.2],_,_,_,_,_,_,rfl,(e2.trans Y1).over (Xk.none fo1) _,⟨ks,by rw [qAm kefo];exact hks,Paired.mapP pks fun a u z=>?_⟩,?_,by omega,by rw [List.length_append];exact Nat.succ_le_succ kw⟩
    ·have ne:a≠fo:=fun w=>by
      rw [w] at z
      have f3:upd H2 T (.tup [V.int (i:Nat),V.ref as[i]]) fo=some (.lst (Fd.map iV)):=fd3
      rw [f3] at z;cases z
     rw [qAm ne];exact z
    ·unfold LsN
     rw [upd_same,List.map_append];rfl
   ·have z:¬ev.1=0:=fun w=>c2 (by rw [w];rfl)
    refine ⟨_,rfl,.inl ⟨rfl,_,SqL.of hks⟩,_,rfl,_,rfl,(by show 2<=sizeLine;decide),fun T2 hT2=>?_⟩
    have Y2:=Ext.new hT2 (.tup [iV ev.1,iV ev.2])
    refine ⟨ke,_,_,rfl,rfl,Y2 _ _ hks,by rw [List.length_map];exact qAk (by omega),?_⟩
    refine ⟨Kp++[ev],Fd,_,_,_,_,_,_,rfl,((e2.trans Y1).trans Y2).over ke1 _,⟨ks++[T2],by rw [upd_same,List.map_append];rfl,Paired.snoc (Paired.mapP pks fun a u z=>?_) ?_⟩,?_,by rw [List.length_append];exact Nat.succ_le_succ ei,by omega⟩
    ·have z':=Y2 _ _ z
     have ne:a≠ke:=fun w=>by rw [w,Y2 _ _ hks] at z';cases z'
     rw [qAm ne];exact z'
    ·have ne:T2≠ke:=fun w=>by rw [w,hks] at hT2;cases hT2
     rw [qAm ne,upd_same]
    ·unfold LsN
     rw [qAm (Ne.symm kefo)]
     exact Y2 _ _ fd3
 ·rintro σ H2 ⟨Kp,Fd,x4,x5,x6,x7,x8,x9,rfl,e2,kp,fd,ei,kw⟩
  exact ⟨_,rfl,q fo Fd _ (E1.trans e2) fo0 fd (by omega)⟩
end
end My
namespace My
open PySem L2
abbrev nmS (net:List Tr):List Str:=net.map fun t=>t.1
def atX (x:Str) (t:Tr):Bool:=decide (t.2.1=x) ^^ decide (t.2.2=x)
structure Made (net:List Tr) (ps ps':List Str) (S M:List Nat) (K:List (Nat×Nat)) (F:List Nat):Prop where
 rs:Rise (nmS net)
 pk:PtsOk net ps
 pk':PtsOk net ps'
 pS:S.Perm (red (ps.map fun x=>qA2 (nmS net) (metF net x)))
 pM:M.Perm (red (crAll S net.length))
 dM:M.Pairwise fun a b=>b<=a
 ei:EIv (vF net ps') net.length net.length K F
 kw:K.length=(woodF net).length
theorem riseNd {l:List Str} (h:Rise l):l.Nodup:=List.Pairwise.imp (fun {a b} z e=>by rw [e,sLtB_irr] at z;cases z) h
end My
namespace My
open PySem L2
theorem filt_t {α:Type} {p:α->Bool} {l:List α} {i:Nat} {t:α} (h:l[i]?=some t) (c:p t=true):(l.take (i+1)).filter p=(l.take i).filter p++[t]:=by rw [qAn h,List.filter_append];simp [c]
theorem filt_f {α:Type} {p:α->Bool} {l:List α} {i:Nat} {t:α} (h:l[i]?=some t) (c:p t=false):(l.take (i+1)).filter p=(l.take i).filter p:=by rw [qAn h,List.filter_append];simp [c]
theorem eqv_rows':∀ a b:List (List Str),PyData.eqvAll (a.map qEn) (b.map qEn)=decide (a=b)
 | [],[]=>rfl
 | [],_ :: _=>rfl
 | _ :: _,[]=>rfl
 | x :: a,y :: b=>by
  show (PyData.eqv (qEn x) (qEn y) && PyData.eqvAll (a.map qEn) (b.map qEn))=_
  rw [eqv_rows' a b,eqv_row]
  by_cases e:x=y
  ·subst e;simp
  ·simp [e]
theorem eqv_rows (a b:List (List Str)):PyData.eqv (rowsD a) (rowsD b)=decide (a=b):=eqv_rows' a b
theorem lay_rows:∀ {F:List (List Str)},(∀ r∈F,SOk r)->PyData.canLayAll0 (F.map qEn)=true/\PyData.depthAll (F.map qEn)<=1
 | [],_=>⟨rfl,by decide⟩
 | x :: r,h=>by
  obtain ⟨h1,h2⟩:=lay_rows (F:=r) fun y hy=>h y (List.mem_cons_of_mem _ hy)
  obtain ⟨h3,h4⟩:=lay_strs (h x List.mem_cons_self)
  refine ⟨?_,?_⟩
  ·show (PyData.canLayAll0 (x.map .str) && PyData.canLayAll0 (r.map qEn))=true
   rw [h1,h3];rfl
  ·show max (PyData.depthAll (x.map .str)+1) (PyData.depthAll (r.map qEn))<=1
   rw [h4];omega
theorem qBh {F:List (List Str)} (h:∀ r∈F,SOk r):SeqAt.shaped (rowsD F)=true:=by
 obtain ⟨h3,h4⟩:=lay_rows h
 show (PyData.canLayAll0 (F.map qEn) && decide (PyData.depthAll (F.map qEn)+1<=64))=true
 rw [h3,decide_eq_true (by omega)];rfl
theorem dr_rows' {K:PySem.W.Frag} {H:Hp}:∀ {as:List Addr} {F:List (List Str)},Paired (LsS H) as F->DRs K H (as.map V.ref) (F.map qEn)
 | _,_,.nil=>.nil
 | _,_,.cons h t=>.cons (dr_row h) (dr_rows' t)
theorem qC9 {K:PySem.W.Frag} {H:Hp} {p:Addr} {F:List (List Str)} (h:qCo H p F):DR K H (.ref p) (rowsD F):=by
 obtain ⟨as,h1,h2⟩:=h
 exact .lst (SqL.of h1) (dr_rows' h2)
end My
namespace My
open PySem L2
theorem qEz {names:List Str} {z:Nat} {n:Str}:n∈qBw names z↔∃ i,i<names.length/\names[i]?=some n/\z.testBit (names.length - 1 - i)=true:=by
 unfold qBw
 rw [List.mem_filterMap]
 constructor
 ·rintro ⟨i,hi,e⟩
  split at e
  ·rename_i b
   exact ⟨i,List.mem_range.mp hi,e,b⟩
  ·cases e
 ·rintro ⟨i,hi,e,b⟩
  exact ⟨i,List.mem_range.mpr hi,by rw [if_pos b];exact e⟩
theorem rowM_sub {names:List Str} {z:Nat} {n:Str} (h:n∈qBw names z):n∈names:=by
 obtain ⟨i,_,e,_⟩:=qEz.mp h
 exact List.mem_of_getElem? e
theorem idx_one {names:List Str} (nd:names.Nodup) {i j:Nat} {n:Str} (hi:names[i]?=some n) (hj:names[j]?=some n):i=j :=
 (List.getElem?_inj (List.getElem?_eq_some_iff.mp hi).1 nd).mp (hi.trans hj.symm)
abbrev chi (names:List Str) (z:Nat):Str->Bool:=fun n=>decide (n∈qBw names z)
theorem chi_at {names:List Str} (nd:names.Nodup) {z i:Nat} {n:Str} (hi:names[i]?=some n):chi names z n=z.testBit (names.length - 1 - i):=by
 have il:=(List.getElem?_eq_some_iff.mp hi).1
 cases q:z.testBit (names.length - 1 - i) with
 | true=>exact decide_eq_true (qEz.mpr ⟨i,il,hi,q⟩)
 | false =>
  refine decide_eq_false fun m=>?_
  obtain ⟨j,_,ej,bj⟩:=qEz.mp m
  rw [idx_one nd ej hi,q] at bj;cases bj
theorem qFt {names:List Str} (nd:names.Nodup) {z:Nat} (hz:z<2^names.length):qA2 names (qBw names z)=z:=by
 refine Nat.eq_of_testBit_eq fun j=>?_
 rw [qCu]
 by_cases hj:j<names.length
 ·rw [decide_eq_true hj,Bool.true_and]
  have hi:names.length - 1 - j<names.length:=by omega
  have e:=List.getElem?_eq_getElem hi
  have c:=chi_at nd (z:=z) e
  rw [show names.length - 1 - (names.length - 1 - j)=j by omega] at c
  rw [<-c]
  refine decide_eq_decide.mpr ⟨fun ⟨n,h1,h2⟩=>?_,fun h=>⟨_,e,h⟩⟩
  rw [e] at h1
  cases h1
  exact h2
 ·rw [decide_eq_false hj,qEr hz (by omega)];rfl
theorem chi_mask {names:List Str} (nd:names.Nodup) (r:List Str) {n:Str} (hn:n∈names):chi names (qA2 names r) n=decide (n∈r):=by
 obtain ⟨i,hi,e⟩:=List.getElem_of_mem hn
 have e':names[i]?=some n:=by rw [List.getElem?_eq_getElem hi,e]
 rw [chi_at nd e',qCu,decide_eq_true (by omega:names.length - 1 - i<names.length),Bool.true_and,show names.length - 1 - (names.length - 1 - i)=i by omega]
 refine decide_eq_decide.mpr ⟨fun ⟨m,h1,h2⟩=>?_,fun h=>⟨n,e',h⟩⟩
 rw [e'] at h1
 cases h1
 exact h2
structure Tb (net:List Tr) (ps:List Str) (S M:List Nat):Prop where
 rs:Rise (nmS net)
 pk:PtsOk net ps
 pS:S.Perm (red (ps.map fun x=>qA2 (nmS net) (metF net x)))
 pM:M.Perm (red (crAll S net.length))
 dM:M.Pairwise fun a b=>b<=a
theorem desc_uniq:∀ {a b:List Nat},a.Pairwise (fun x y=>y<=x)->b.Pairwise (fun x y=>y<=x)->a.Perm b->a=b
 | [],b,_,_,p=>(List.nil_perm.mp p).symm▸rfl
 | x :: a,[],_,_,p=>by have:=p.length_eq;simp at this
 | x :: a,y :: b,ha,hb,p=>by
  obtain ⟨a1,a2⟩:=List.pairwise_cons.mp ha
  obtain ⟨b1,b2⟩:=List.pairwise_cons.mp hb
  have e:x=y:=by
   rcases List.mem_cons.mp (p.mem_iff.mp List.mem_cons_self) with z | z
   ·exact z
   ·rcases List.mem_cons.mp (p.mem_iff.mpr List.mem_cons_self) with w' | w'
    ·exact w'.symm
    ·have h1:=b1 x z
     have h2:=a1 y w'
     omega
  subst e
  rw [desc_uniq a2 b2 ((List.perm_cons _).mp p)]
def lackF (ms:List Nat) (q:Nat):List Nat:=(ms.filter fun z=>!z.testBit q)++((ms.filter fun z=>z.testBit q).drop 1).map fun z=>z^^^(ms.filter fun z=>z.testBit q).headD 0
theorem lack_spn (ms:List Nat) (q:Nat) (z:Nat):Spn (lackF ms q) z↔Spn ms z/\z.testBit q=false:=by
 have hmem:∀ y∈ms.filter (fun z=>z.testBit q),y∈ms/\y.testBit q=true:=fun y hy=>⟨(List.mem_filter.mp hy).1,(List.mem_filter.mp hy).2⟩
 have bitF:∀ y∈lackF ms q,y.testBit q=false:=fun y hy=>by
  unfold lackF at hy
  rcases List.mem_append.mp hy with w | w
  ·simpa using (List.mem_filter.mp w).2
  ·obtain ⟨u,hu,rfl⟩:=List.mem_map.mp w
   have h1:=(hmem u (List.mem_of_mem_drop hu)).2
   have h2:((ms.filter fun z=>z.testBit q).headD 0).testBit q=true:=by
    cases e:ms.filter (fun z=>z.testBit q) with
    | nil=>rw [e] at hu;simp at hu
    | cons a l=>exact (hmem a (by rw [e];exact List.mem_cons_self)).2
   rw [Nat.testBit_xor,h1,h2];rfl
 constructor
 ·intro h
  refine ⟨h.mono fun y hy=>?_,spn_bit bitF h⟩
  unfold lackF at hy
  rcases List.mem_append.mp hy with w | w
  ·exact .mem (List.mem_filter.mp w).1
  ·obtain ⟨u,hu,rfl⟩:=List.mem_map.mp w
   have h1:=(hmem u (List.mem_of_mem_drop hu)).1
   cases e:ms.filter (fun z=>z.testBit q) with
   | nil=>rw [e] at hu;simp at hu
   | cons a l=>exact (Spn.mem h1).xor (.mem (hmem a (by rw [e];exact List.mem_cons_self)).1)
 ·rintro ⟨h,hb⟩
  have key:Spn (lackF ms q) z\/(Spn (lackF ms q) (z^^^(ms.filter fun z=>z.testBit q).headD 0)/\((ms.filter fun z=>z.testBit q).headD 0).testBit q=true):=by
   clear hb
   induction h with
   | zero=>exact .inl .zero
   | add m _ ih =>
    rename_i x y _
    by_cases b:x.testBit q=true
    ·have xm:x∈ms.filter (fun z=>z.testBit q):=List.mem_filter.mpr ⟨m,b⟩
     have hh:((ms.filter fun z=>z.testBit q).headD 0).testBit q=true:=by
      cases e:ms.filter (fun z=>z.testBit q) with
      | nil=>rw [e] at xm;cases xm
      | cons a l=>exact (hmem a (by rw [e];exact List.mem_cons_self)).2
     have xh:Spn (lackF ms q) (x^^^(ms.filter fun z=>z.testBit q).headD 0):=by
      cases e:ms.filter (fun z=>z.testBit q) with
      | nil=>rw [e] at xm;cases xm
      | cons a l =>
       rw [e] at xm
       rcases List.mem_cons.mp xm with w | w
       ·subst w
        show Spn _ (x^^^x)
        rw [Nat.xor_self];exact .zero
       ·refine .mem ?_
        unfold lackF
        rw [e]
        exact List.mem_append_right _ (List.mem_map.mpr ⟨x,w,rfl⟩)
     rcases ih with ih | ⟨ih,_⟩
     ·refine .inr ⟨?_,hh⟩
      have:=xh.xor ih
      rw [Nat.xor_assoc,Nat.xor_comm _ y,<-Nat.xor_assoc] at this
      exact this
     ·refine .inl ?_
      have:=xh.xor ih
      rw [Nat.xor_comm y,<-Nat.xor_assoc,qBq] at this
      exact this
    ·have xm:x∈lackF ms q:=by
      unfold lackF
      exact List.mem_append_left _ (List.mem_filter.mpr ⟨m,by simpa using b⟩)
     rcases ih with ih | ⟨ih,hh⟩
     ·exact .inl (.add xm ih)
     ·refine .inr ⟨?_,hh⟩
      rw [Nat.xor_assoc];exact .add xm ih
  rcases key with k | ⟨k,hh⟩
  ·exact k
  ·have:=spn_bit bitF k
   rw [Nat.testBit_xor,hb,hh] at this
   cases this
end My
namespace My
open PySem L2
theorem mask_one {names:List Str} (nd:names.Nodup) {i:Nat} {n:Str} (hi:names[i]?=some n):qA2 names [n]=2^(names.length - 1 - i):=by
 have il:=(List.getElem?_eq_some_iff.mp hi).1
 refine Nat.eq_of_testBit_eq fun j=>?_
 rw [qCu,Nat.testBit_two_pow]
 by_cases hj:j<names.length
 ·rw [decide_eq_true hj,Bool.true_and]
  refine decide_eq_decide.mpr ⟨fun ⟨m,h1,h2⟩=>?_,fun e=>⟨n,?_,by simp⟩⟩
  ·rw [List.mem_singleton] at h2
   rw [h2] at h1
   have:=idx_one nd hi h1
   omega
  ·rw [<-e,show names.length - 1 - (names.length - 1 - i)=i by omega];exact hi
 ·rw [decide_eq_false hj,decide_eq_false (fun e:names.length - 1 - i=j=>hj (by omega))];rfl
def lackA (names:List Str) (S:List Nat) (taken:List Str):List Nat:=taken.foldl (fun ms n=>lackF ms (qA2 names [n]).log2) S
theorem qGw (names:List Str) (S:List Nat) (taken:List Str) (n:Str):lackA names S (taken++[n])=lackF (lackA names S taken) (qA2 names [n]).log2:=by unfold lackA;rw [List.foldl_append];rfl
theorem one_log {names:List Str} (nd:names.Nodup) {i:Nat} {n:Str} (hi:names[i]?=some n):(qA2 names [n]).log2=names.length - 1 - i:=by
 rw [mask_one nd hi]
 refine log2_of ?_ (Nat.pow_lt_pow_right (by decide) (by omega))
 rw [Nat.testBit_two_pow];simp
abbrev piM (names rest:List Str) (z:Nat):Nat:=qA2 rest (qBw names z)
def kap (p:Tr) (e:Str):Str:=if e=p.2.2 then p.2.1 else e
structure CnR (p t t':Tr):Prop where
 nm:t'.1=t.1
 at_:∀ x,atX x t'=(decide (kap p t.2.1=x) ^^ decide (kap p t.2.2=x))
end My
namespace My
open PySem L2
theorem cut_tail (xs:List V):cutV xs (some 1) none=xs.drop 1:=by
 cases xs with
 | nil=>rfl
 | cons a r=>cases r <;> simp [cutV,HT.sIx]
def spLack:Sp:=fun vs H Q _=>∃ (p:Addr) (ms:List Nat) (q:Nat),vs=[.ref p,iV (2^q)]/\LsN H p ms/\ms.length<=24/\∀ r H',Ext H H'->H r=none->LsN H' r (lackF ms q)->Q (.ref r) H'
theorem lackF_len (ms:List Nat) (q:Nat):(lackF ms q).length<=ms.length:=by
 unfold lackF
 rw [List.length_append,List.length_map,List.length_drop]
 have:(ms.filter fun z=>!z.testBit q).length+(ms.filter fun z=>z.testBit q).length=ms.length:=by
  induction ms with
  | nil=>rfl
  | cons a l ih =>
   rw [List.filter_cons,List.filter_cons]
   cases a.testBit q <;> simp <;> omega
 omega
theorem lackA_len (names:List Str) (S:List Nat) (taken:List Str):(lackA names S taken).length<=S.length:=by
 refine snoc_ind (P:=fun taken=>(lackA names S taken).length<=S.length) (Nat.le_refl _) (fun l n ih=>?_) taken
 rw [qGw]
 exact Nat.le_trans (lackF_len _ _) ih
def restF (names gone:List Str):List Str:=names.filter fun n=>!decide (n∈gone)
def spLeft:Sp:=fun vs H Q _=>∃ (T pt ph:Addr) (names:List Str) (rows:List (List Str)) (taken shr:List Str),vs=[.ref T,.ref pt,.ref ph]/\qCv H T names rows/\LsS H pt taken/\LsS H ph shr/\names.Nodup/\(∀ n∈taken,n∈names)/\(∀ n∈shr,n∈names)/\names.length<=12/\rows.length<=24/\taken.length<=12/\shr.length<=12 /\
 ∀ (T':Addr) (S M:List Nat) (H':Hp),Ext H H'->H T'=none->TabF H H' T' (restF names (taken++shr)) (M.map (qBw (restF names (taken++shr))))->S.Perm (red (rows.map (qA2 names)))->M.Perm (red ((lackA names S taken).map (piM names (restF names (taken++shr)))))->M.Pairwise (fun a b=>b<=a)->Q (.ref T') H'
section
variable {P:Program} {w:World} {K:PySem.W.Frag} {mg:Str->Option Value} {base:Heap} {f f1 f2 f3 f4 f5:Addr} {fd fd1 fd2 fd3 fd4 fd5:FuncData}
abbrev lkN:List Str:=["masks","bit","having","without"]
theorem scLack:FnScope lkN ["masks","bit"] (qAc sLack):=⟨rfl,rfl,rfl,by decide +kernel,rfl,by decide +kernel,by decide +kernel⟩
theorem qB4 {ms:List Nat} {Q:List V->Hp->Prop} {H1:Hp} {σ0:St} {g:TG} {tt:TT} {te:TE} {p:Addr} (pr:Nat->Bool) (h:Nat->Nat) (hp:LsN H1 p ms) (ln:ms.length<=5000)
  (hs:∀ z∈ms,∀ (C:V->Hp->Prop) (B:Hp->Prop),(pr z=true->C (iV (h z)) H1)->(pr z=false->B H1)->g (iV z) σ0 H1 fun σ2 H2=>Sle σ0 σ2/\tt σ2 H2 fun b H3=>if b=true then te σ2 H3 C else B H3)
  (hd:Q (((ms.filter pr).map h).map iV) H1):qDo (Itl K p) σ0 g tt te Q H1:=by
 refine qAu (xs:=ms.map iV) (fun j ys H2=>H2=H1/\ys=(((ms.take j).filter pr).map h).map iV) ⟨rfl,rfl⟩ (fun j ys H2 _ h=>by rw [h.1];exact SqL.of hp) ?_ ?_
 ·rintro j x ys H2 hx ⟨rfl,rfl⟩
  obtain ⟨z,rfl,hz⟩:=qBz hx
  have hj:=qA7 hz
  have sz:=List.length_filter_le pr (ms.take j)
  rw [List.length_take] at sz
  refine hs z (List.mem_of_getElem? hz) _ _ (fun b=>⟨?_,nxt (qA7 hx) ⟨rfl,?_⟩⟩) (fun b=>nxt (qA7 hx) ⟨rfl,?_⟩)
  ·rw [List.length_map,List.length_map];exact qBo (by omega)
  ·rw [qAn hz,List.filter_append,List.map_append,List.map_append]
   simp [b]
  ·rw [qAn hz,List.filter_append]
   simp [b]
 ·rintro ys H2 ⟨rfl,rfl⟩
  rw [List.length_map,List.take_of_length_le (Nat.le_refl _)]
  exact hd
theorem and_test (z q:Nat):((!decide (V.int (Builtin.bitAnd (z:Int) ((2^q:Nat):Int))=V.int 0))=true)↔z.testBit q=true:=by
 rw [<-qF5 z q,qB3]
 simp
theorem ok_lack (F:Fun K "lacking" "lacking" sLack f fd):FnOk P w K mg base CX0 1 f fd ["masks","bit"] spLack:=by
 refine F.ok scLack (fun vs H Q E h=>?_) (fun cdv A outer s H vs Q E hr h=>?_)
 ·obtain ⟨p,ms,q,rfl,_⟩:=h
  rfl
 obtain ⟨p,ms,q,rfl,hp,lm,qq⟩:=h
 refine ⟨_,qAb (qAj (i:=2) scLack.nd rfl (Or.inr rfl) (qBx (N:=lkN) (sc:=qAc sLack) (N':=["mask","bit"]) (sub:=[none,some 1]) rfl rfl (CmpOk.of (by decide +kernel)) rfl (qAr (pv 0))
   (fun C s H fp=>⟨qAi (i:=0) (by show (["mask","bit"]:List Str).Nodup;decide) rfl (Or.inl rfl),qB5 (qAo qFr (qAh qBy (pv 0) (pv 1)) qAe (qAx _)),pv 0⟩)))
  (qAb (ps_lc (i:=3) (N:=lkN) (sc:=qAc sLack) (N':=["mask","bit"]) (sub:=[none,some 1]) rfl rfl (CmpOk.of (by decide +kernel)) rfl (qAr (pv 0))
   (fun C s H fp=>⟨qAi (i:=0) (by show (["mask","bit"]:List Str).Nodup;decide) rfl (Or.inl rfl),qB5 (qAo qDt (qAh qBy (pv 0) (pv 1)) qAe (qAx _)),pv 0⟩) scLack.nd rfl (Or.inl rfl))
  (qAf (qAw (qAh qDm (pv 3) (qBx (N:=lkN) (sc:=qAc sLack) (N':=["mask","having"]) (sub:=[none,some 2]) rfl rfl (CmpOk.of (by decide +kernel)) rfl (qAr (qCy qFc (pv 2) (qDr qAe) qDs))
   (fun C s H fp=>⟨qAi (i:=0) (by show (["mask","having"]:List Str).Nodup;decide) rfl (Or.inl rfl),qBb,qAh qDj (pv 0) (qBg (show IxR _ (rIxL K) from qCc) (pv 1) qAe (fun _ _=>rfl))⟩)))))),?_⟩
 refine ⟨_,rfl,p,rfl,⟨_,SqL.of hp⟩,?_⟩
 refine qB4 (fun z=>z.testBit q) id hp (by omega) (fun z hz C B c b=>⟨Sle.set _ (Sle.refl _) (fun u z=>by cases z),?_⟩) ?_
 ·refine ⟨_,rfl,_,rfl,_,_,rfl,rfl,rfl,_,rfl,?_⟩
  refine qCg (fun cc=>⟨_,rfl,c ((and_test z q).mp cc)⟩) (fun cc=>b ?_)
  cases e:z.testBit q with
  | false=>rfl
  | true=>exact absurd ((and_test z q).mpr e) cc
 intro l1 hl1
 rw [List.map_id]
 have n1:=Ext.new hl1 (.lst ((ms.filter fun z=>z.testBit q).map iV))
 refine ⟨_,rfl,p,rfl,⟨_,SqL.of (n1 _ _ hp)⟩,?_⟩
 refine qB4 (fun z=>!z.testBit q) id (n1 _ _ hp) (by omega) (fun z hz C B c b=>⟨Sle.set _ (Sle.refl _) (fun u z=>by cases z),?_⟩) ?_
 ·refine ⟨_,rfl,_,rfl,_,_,rfl,rfl,rfl,_,rfl,?_⟩
  have key:(decide (V.int (Builtin.bitAnd (z:Int) ((2^q:Nat):Int))=V.int 0)=true)↔z.testBit q=false:=by
   have:=and_test z q
   cases e:z.testBit q with
   | true=>rw [e] at this;have:=this.mpr rfl;simp at this ⊢;exact this
   | false =>
    rw [e] at this
    refine ⟨fun _=>rfl,fun _=>?_⟩
    cases d:decide (V.int (Builtin.bitAnd (z:Int) ((2^q:Nat):Int))=V.int 0) with
    | true=>rfl
    | false=>rw [d] at this;exact absurd (this.mp rfl) (by decide)
  refine qCg (fun cc=>⟨_,rfl,c (by rw [key.mp cc];rfl)⟩) (fun cc=>b ?_)
  cases e:z.testBit q with
  | true=>rfl
  | false=>exact absurd (key.mpr e) cc
 intro l2 hl2
 rw [List.map_id]
 have n2:=n1.trans (Ext.new hl2 (.lst ((ms.filter fun z=>!z.testBit q).map iV)))
 have h1:LsN (upd (upd H l1 (.lst ((ms.filter fun z=>z.testBit q).map iV))) l2 (.lst ((ms.filter fun z=>!z.testBit q).map iV))) l1 (ms.filter fun z=>z.testBit q):=(Ext.new hl2 _) _ _ upd_same
 have h2:LsN (upd (upd H l1 (.lst ((ms.filter fun z=>z.testBit q).map iV))) l2 (.lst ((ms.filter fun z=>!z.testBit q).map iV))) l2 (ms.filter fun z=>!z.testBit q):=upd_same
 revert n2 h1 h2
 generalize upd (upd H l1 (.lst ((ms.filter fun z=>z.testBit q).map iV))) l2 (.lst ((ms.filter fun z=>!z.testBit q).map iV))=H2
 intro n2 h1 h2
 have lh:=List.length_filter_le (fun z:Nat=>z.testBit q) ms
 refine ⟨_,rfl,_,rfl,_,rfl,l1,_,rfl,SqL.of h1,fun l3 hl3=>?_⟩
 rw [cut_tail,<-List.map_drop]
 have n3:=Ext.new hl3 (.lst (((ms.filter fun z=>z.testBit q).drop 1).map iV))
 refine ⟨l3,rfl,⟨_,SqL.of upd_same⟩,?_⟩
 refine qB4 (ms:=(ms.filter fun z=>z.testBit q).drop 1) (fun _=>true) (fun z=>z^^^(ms.filter fun z=>z.testBit q).headD 0) upd_same (by rw [List.length_drop];omega) (fun z hz C B c b=>⟨Sle.set _ (Sle.refl _) (fun u z=>by cases z),?_⟩) ?_
 ·have hd:atI ((ms.filter fun z=>z.testBit q).map iV) 0=some (iV ((ms.filter fun z=>z.testBit q).headD 0)):=by
   cases e:ms.filter (fun z=>z.testBit q) with
   | nil=>rw [e] at hz;simp at hz
   | cons a l=>exact qAy (j:=0) rfl
  refine iteT (B:=B (upd H2 l3 (.lst (((ms.filter fun z=>z.testBit q).drop 1).map iV)))) ⟨_,rfl,_,rfl,l1,_,_,_,rfl,rfl,SqL.of (n3 _ _ h1),hd,_,_,rfl,rfl,?_⟩
  have:=c rfl
  rw [show iV (z^^^(ms.filter fun z=>z.testBit q).headD 0)=V.int (Builtin.bitXor (z:Int) (((ms.filter fun z=>z.testBit q).headD 0:Nat):Int)) by rw [qCh]] at this
  exact this
 intro l4 hl4
 have ft:((ms.filter fun z=>z.testBit q).drop 1).filter (fun _=>true)=(ms.filter fun z=>z.testBit q).drop 1:=List.filter_eq_self.mpr fun _ _=>rfl
 rw [ft]
 have n4:=n3.trans (Ext.new hl4 (.lst ((((ms.filter fun z=>z.testBit q).drop 1).map fun z=>z^^^(ms.filter fun z=>z.testBit q).headD 0).map iV)))
 refine ⟨l2,l4,_,_,rfl,rfl,n4 _ _ h2,upd_same,?_,fun l5 hl5=>?_⟩
 ·have:=lackF_len ms q
  unfold lackF at this
  rw [List.length_append] at this
  rw [List.length_map,List.length_map]
  exact Nat.le_of_lt (qAk (by omega))
 ·refine qq l5 _ ((n2.trans n4).trans (Ext.new hl5 _)) ((n2.trans n4).none hl5) ?_
  unfold LsN lackF
  rw [upd_same,List.map_append]
abbrev lfN:List Str:=["table","taken","shrunk_ones","names","gone","name","masks","rest"]
theorem qEj:FnScope lfN ["table","taken","shrunk_ones"] (qAc sLeft):=⟨rfl,rfl,rfl,by decide +kernel,rfl,by decide +kernel,by decide +kernel⟩
abbrev lfC:List Str:=["mask","rest","names"]
theorem ok_left (F:Fun K "left" "left" sLeft f fd)
  (G1:FnOk P w K mg base CX0 3 f1 fd1 ["table"] qE9) (bG1:qA1 K fd1 ["table"] []) (kG1:PySem.W.keepIn K (.ref f1)=true) (mG1:mg "step_masks" = some (.ref f1))
  (G2:FnOk P w K mg base CX0 1 f2 fd2 ["masks","bit"] spLack) (bG2:qA1 K fd2 ["masks","bit"] []) (kG2:PySem.W.keepIn K (.ref f2)=true) (mG2:mg "lacking" = some (.ref f2))
  (G3:FnOk P w K mg base CX0 1 f3 fd3 ["names","row"] spMask) (bG3:qA1 K fd3 ["names","row"] []) (kG3:PySem.W.keepIn K (.ref f3)=true) (mG3:mg "mask_of" = some (.ref f3))
  (G4:FnOk P w K mg base CX0 1 f4 fd4 ["names","mask"] qFa) (bG4:qA1 K fd4 ["names","mask"] []) (kG4:PySem.W.keepIn K (.ref f4)=true) (mG4:mg "row_of" = some (.ref f4))
  (G5:FnOk P w K mg base CX0 3 f5 fd5 ["names","masks"] spTabF) (bG5:qA1 K fd5 ["names","masks"] []) (kG5:PySem.W.keepIn K (.ref f5)=true) (mG5:mg "table_from" = some (.ref f5)):FnOk P w K mg base CX0 4 f fd ["table","taken","shrunk_ones"] spLeft:=by
 refine F.ok qEj (fun vs H Q E h=>?_) (fun cdv A outer s H vs Q E hr h=>?_)
 ·obtain ⟨T,pt,ph,names,rows,taken,shr,rfl,_⟩:=h
  rfl
 obtain ⟨T,pt,ph,names,rows,taken,shr,rfl,ti,ht,hs,nd,tsub,ssub,ln,lr,lt,lsr,q⟩:=h
 have hr1:=hr.mono (j:=1) (by decide)
 refine ⟨_,qAb (qAj (i:=3) qEj.nd rfl (Or.inr rfl) (qBg qBl (pv 0) qAe (fun _ _=>rfl)))
  (qAb (qAj (i:=4) qEj.nd rfl (Or.inr rfl) (qAh qDm (pv 1) (pv 2)))
  (qAb (qBi PassesOwn.never rfl (qAr (pv 4)) (qAi (i:=5) qEj.nd rfl (Or.inl rfl)) (qAf (qB6 (qAo qB7 (pv 5) (pv 3) (by with_unfolding_all rfl)) (qAf ps_never) qA8)))
  (qAb (qAj (i:=6) qEj.nd rfl (Or.inl rfl) (qAg G1 hr rfl mG1 kG1 bG1 .nil qAt (qAa (pv 0) qAd)))
  (qAb (qBi PassesOwn.never rfl (qAr (pv 1)) (qAi (i:=5) qEj.nd rfl (Or.inl rfl))
   (qAf (qAj (i:=6) qEj.nd rfl (Or.inl rfl) (qAg G2 hr1 rfl mG2 kG2 bG2 .nil qAt (qAa (pv 6) (qAa (qAg G3 hr1 rfl mG3 kG3 bG3 .nil qAt (qAa (pv 3) (qAa (qBa (qAa (pv 5) qAd)) qAd))) qAd))))))
  (qAb (qAj (i:=7) qEj.nd rfl (Or.inr rfl) (qBx (N:=lfN) (sc:=qAc sLeft) (N':=["name","gone"]) (sub:=[none,some 4]) rfl rfl (CmpOk.of (by decide +kernel)) rfl (qAr (pv 3))
   (fun C s H fp=>⟨qAi (i:=0) (by show (["name","gone"]:List Str).Nodup;decide) rfl (Or.inl rfl),qB5 (qAo (show OpR _ (compareOp .NotIn) (rIn K true) from qB7) (pv 0) (pv 1) (by with_unfolding_all rfl)),pv 0⟩)))
  (qAf (qAw (qAg G5 hr rfl mG5 kG5 bG5 .nil qAt (qAa (pv 7) (qAa (qBx (N:=lfN) (sc:=qAc sLeft) (N':=lfC) (sub:=[none,some 7,some 3]) rfl rfl (CmpOk.of (by decide +kernel)) rfl (qAr (pv 6))
   (fun C s H fp=>⟨qAi (i:=0) (by show lfC.Nodup;decide) rfl (Or.inl rfl),qBb,qAg G3 hr1 rfl mG3 kG3 bG3 .nil qAt (qAa (pv 1) (qAa (qAg G4 hr1 rfl mG4 kG4 bG4 .nil qAt (qAa (pv 2) (qAa (pv 0) qAd))) qAd))⟩)) qAd)))))))))),?_⟩
 obtain ⟨a,b,hT,ha,hb⟩:=id ti
 refine ⟨_,rfl,T,_,_,_,rfl,rfl,SqT.of hT,(by exact qAy (j:=0) rfl),?_⟩
 refine ⟨_,rfl,_,rfl,pt,ph,_,_,rfl,rfl,ht,hs,?_,fun go hgo=>?_⟩
 ·rw [List.length_map,List.length_map];exact Nat.le_of_lt (qAk (by omega))
 have X1:=Ext.new hgo (.lst (taken.map V.str++shr.map V.str))
 have hg1:LsS (upd H go (.lst (taken.map V.str++shr.map V.str))) go (taken++shr):=by unfold LsS;rw [upd_same,List.map_append]
 revert X1 hg1
 generalize upd H go (.lst (taken.map V.str++shr.map V.str))=H1
 intro X1 hg1
 refine ⟨_,rfl,go,rfl,⟨_,SqL.of hg1⟩,?_⟩
 refine qBs (xs:=(taken++shr).map V.str) (fun i σ H'=>H'=H1/\∃ x5:Option V,σ=[some (.ref T),some (.ref pt),some (.ref ph),some (.ref a),some (.ref go),x5,none,none]) ⟨rfl,none,rfl⟩ (fun i σ H' _ h=>by rw [h.1];exact SqL.of hg1) ?_ ?_
 ·rintro i v σ H' hx ⟨rfl,x5,rfl⟩
  obtain ⟨n,rfl,hn⟩:=qD7 hx
  have nm:n∈names:=by
   rcases List.mem_append.mp (List.mem_of_getElem? hn) with z | z
   ·exact tsub n z
   ·exact ssub n z
  refine ⟨_,rfl,_,rfl,a,_,rfl,.inl (SqL.of (X1 _ _ ha)),rfl,flat_strs _,_,rfl,?_⟩
  rw [if_pos rfl,qDu,decide_eq_true nm]
  exact iteF ⟨rfl,_,rfl⟩
 rintro σ H' ⟨rfl,x5,rfl⟩
 refine ⟨_,rfl,T,names,rows,rfl,ti.ext X1,lr,fun ms S H2 e2 ms0 hS pS dS=>?_⟩
 have lS:S.length<=24:=by
  rw [pS.length_eq]
  have:=qGm (rows.map (qA2 names))
  rw [List.length_map] at this
  omega
 have E2:=X1.trans e2
 refine ⟨_,rfl,pt,rfl,⟨_,SqL.of (E2 _ _ ht)⟩,?_⟩
 refine qBs (xs:=taken.map V.str) (fun i σ H3=>∃ (ms:Addr) (x5:Option V),σ=[some (.ref T),some (.ref pt),some (.ref ph),some (.ref a),some (.ref go),x5,some (.ref ms),none]/\Ext H2 H3/\LsN H3 ms (lackA names S (taken.take i))) ⟨ms,_,rfl,Ext.refl _,hS⟩ (fun i σ H3 _ h=>by obtain ⟨_,_,_,e,_⟩:=h;exact SqL.of ((E2.trans e) _ _ ht)) ?_ ?_
 ·rintro i v σ H3 hx ⟨ms,x5,rfl,e3,hm⟩
  obtain ⟨n,rfl,hn⟩:=qD7 hx
  have nm:=tsub n (List.mem_of_getElem? hn)
  obtain ⟨k,hk,ek⟩:=List.getElem_of_mem nm
  have ek':names[k]?=some n:=by rw [List.getElem?_eq_getElem hk,ek]
  refine ⟨_,rfl,_,rfl,_,rfl,(by show 1<=sizeLine;decide),fun l hl=>?_⟩
  have Xl:=Ext.new hl (.lst [V.str n])
  have E3:=(E2.trans e3).trans Xl
  refine ⟨a,l,names,[n],rfl,E3 _ _ ha,upd_same,?_⟩
  have lA:=lackA_len names S (taken.take i)
  refine ⟨ms,lackA names S (taken.take i),names.length - 1 - k,(by rw [mask_one nd ek'];rfl),Xl _ _ hm,by omega,fun r H4 e4 r0 h4=>?_⟩
  refine ⟨r,_,rfl,e3.trans (Xl.trans e4),?_⟩
  rw [qAn hn,qGw,one_log nd ek']
  exact h4
 rintro σ H3 ⟨ms,x5,rfl,e3,hm⟩
 rw [List.length_map,List.take_of_length_le (Nat.le_refl _)] at hm
 have E3:=E2.trans e3
 have hg3:=(e2.trans e3) _ _ hg1
 have ha3:=E3 _ _ ha
 refine ⟨_,rfl,a,rfl,⟨_,SqL.of ha3⟩,?_⟩
 refine qAu (xs:=names.map V.str) (fun j ys H4=>H4=H3/\ys=(restF (names.take j) (taken++shr)).map V.str) ⟨rfl,rfl⟩ (fun j ys H4 _ h=>by rw [h.1];exact SqL.of ha3) ?_ ?_
 ·rintro j v ys H4 hx ⟨rfl,rfl⟩
  obtain ⟨n,rfl,hn⟩:=qD7 hx
  have hj:=qA7 hn
  have sz:=List.length_filter_le (fun n=>!decide (n∈taken++shr)) (names.take j)
  rw [List.length_take] at sz
  refine ⟨Sle.set _ (Sle.refl _) (fun u z=>by cases z),_,rfl,_,rfl,go,_,rfl,.inl (SqL.of hg3),rfl,flat_strs _,_,rfl,?_⟩
  rw [if_pos rfl,qDu]
  refine qCg (fun c=>?_) (fun c=>?_)
  ·refine ⟨_,rfl,?_,nxt (qA7 hx) ⟨rfl,?_⟩⟩
   ·unfold restF;rw [List.length_map];exact qAk (by omega)
   ·unfold restF
    rw [filt_t hn c,List.map_append];rfl
  ·refine nxt (qA7 hx) ⟨rfl,?_⟩
   unfold restF
   rw [filt_f hn (by simpa using c)]
 rintro ys H4 ⟨rfl,rfl⟩ rl hrl
 rw [List.length_map,List.take_of_length_le (Nat.le_refl _)]
 have X4:=Ext.new hrl (.lst ((restF names (taken++shr)).map V.str))
 have hr4:LsS (upd H4 rl (.lst ((restF names (taken++shr)).map V.str))) rl (restF names (taken++shr)):=upd_same
 have ha4:=X4 _ _ ha3
 have hm4:=X4 _ _ hm
 have E4:=E3.trans X4
 revert hr4 ha4 hm4 E4
 generalize upd H4 rl (.lst ((restF names (taken++shr)).map V.str))=H5
 intro hr4 ha4 hm4 E4
 have lA:=lackA_len names S taken
 refine ⟨_,rfl,_,rfl,ms,rfl,⟨_,SqL.of hm4⟩,?_⟩
 refine qAu (xs:=(lackA names S taken).map iV) (fun j ys H6=>Ext H5 H6/\ys=(((lackA names S taken).take j).map (piM names (restF names (taken++shr)))).map iV) ⟨Ext.refl _,rfl⟩ (fun j ys H6 _ h=>SqL.of (h.1 _ _ hm4)) ?_ ?_
 ·rintro j v ys H6 hx ⟨e6,rfl⟩
  obtain ⟨z,rfl,hz⟩:=qBz hx
  have hj:=qA7 hz
  refine ⟨Sle.set _ (Sle.refl _) (fun u z=>by cases z),iteT (B:=False) ⟨_,rfl,_,rfl,_,rfl,a,names,z,rfl,e6 _ _ ha4,ln,fun r7 H7 e7 r70 h7=>?_⟩⟩
  refine ⟨rl,r7,restF names (taken++shr),qBw names z,rfl,(e6.trans e7) _ _ hr4,h7,?_,nxt (qA7 hx) ⟨e6.trans e7,?_⟩⟩
  ·rw [List.length_map,List.length_map,List.length_take];exact qAk (by omega)
  ·rw [qAn hz,List.map_append,List.map_append];rfl
 rintro ys H6 ⟨e6,rfl⟩ pl hpl
 rw [List.length_map,List.take_of_length_le (Nat.le_refl _)]
 have X6:=e6.trans (Ext.new hpl (.lst (((lackA names S taken).map (piM names (restF names (taken++shr)))).map iV)))
 have E6:=E4.trans X6
 have lrest:(restF names (taken++shr)).length<=12:=Nat.le_trans (List.length_filter_le _ _) ln
 refine ⟨rl,pl,restF names (taken++shr),_,rfl,X6 _ _ hr4,lrest,upd_same,by rw [List.length_map];omega,fun T' M H7 e7 t0 tf pM dM=>?_⟩
 exact q T' S M H7 (E6.trans e7) (E6.none t0) (tf.down E6) pS pM dM
end
end My
namespace L2
open PySem PySem.Spec PyProof.Rows
end L2
namespace My
open PySem L2
theorem boot_int':bootBuiltins "int" = some (.type "int"):=by decide +kernel
def spTake:Sp:=fun vs H Q _=>∃ (T:Addr) (names:List Str) (rows:List (List Str)) (n:Str),vs=[.ref T,.str n]/\qCv H T names rows/\names.Nodup/\n∈names/\names.length<=12/\rows.length<=24 /\
 ∀ (T':Addr) (S M:List Nat) (H':Hp),Ext H H'->H T'=none->TabF H H' T' (restF names [n]) (M.map (qBw (restF names [n])))->S.Perm (red (rows.map (qA2 names)))->M.Perm (red ((lackA names S [n]).map (piM names (restF names [n]))))->M.Pairwise (fun a b=>b<=a)->Q (.ref T') H'
def spShr:Sp:=fun vs H Q _=>∃ (T:Addr) (names:List Str) (rows:List (List Str)) (n:Str),vs=[.ref T,.str n]/\qCv H T names rows/\names.Nodup/\n∈names/\names.length<=12/\rows.length<=24 /\
 ∀ (T':Addr) (S M:List Nat) (H':Hp),Ext H H'->H T'=none->TabF H H' T' (restF names [n]) (M.map (qBw (restF names [n])))->S.Perm (red (rows.map (qA2 names)))->M.Perm (red (S.map (piM names (restF names [n]))))->M.Pairwise (fun a b=>b<=a)->Q (.ref T') H'
def spRank:Sp:=fun vs H Q _=>∃ (T pn:Addr) (tn:List Str) (rows:List (List Str)) (row:List Str),vs=[.ref T,.ref pn]/\qCv H T tn rows/\LsS H pn row/\tn.Nodup/\tn.length<=12/\rows.length<=24/\row.length<=100 /\
 ∀ (S M:List Nat) (H':Hp),Ext H H'->S.Perm (red (rows.map (qA2 tn)))->M.Perm (red ((lackA tn S (restF tn row)).map (piM tn (restF tn (restF tn row++[])))))->M.Pairwise (fun a b=>b<=a)->Q (.int ((row.length:Int) - (M.length:Int))) H'
section
variable {P:Program} {w:World} {K:PySem.W.Frag} {mg:Str->Option Value} {base:Heap} {f f1 f2 f3 f4 f5:Addr} {fd fd1 fd2 fd3 fd4 fd5:FuncData}
theorem scTaken:FnScope ["table","name"] ["table","name"] (qAc qGh):=⟨rfl,rfl,rfl,by decide +kernel,rfl,by decide +kernel,by decide +kernel⟩
theorem ok_taken (F:Fun K "taken_out" "taken_out" qGh f fd) (G:FnOk P w K mg base CX0 4 f1 fd1 ["table","taken","shrunk_ones"] spLeft) (bG:qA1 K fd1 ["table","taken","shrunk_ones"] []) (kG:PySem.W.keepIn K (.ref f1)=true) (mG:mg "left" = some (.ref f1)):FnOk P w K mg base CX0 5 f fd ["table","name"] spTake:=by
 refine F.ok scTaken (fun vs H Q E h=>?_) (fun cdv A outer s H vs Q E hr h=>?_)
 ·obtain ⟨T,names,rows,n,rfl,_⟩:=h
  rfl
 obtain ⟨T,names,rows,n,rfl,ti,nd,nm,ln,lr,q⟩:=h
 refine ⟨_,qAf (qAw (qAg G hr rfl mG kG bG .nil qAt (qAa (pv 0) (qAa (qBa (qAa (pv 1) qAd)) (qAa (qBa qAd) qAd))))),?_⟩
 refine ⟨_,rfl,_,rfl,(by show 1<=sizeLine;decide),fun l1 hl1=>⟨Nat.zero_le _,fun l2 hl2=>?_⟩⟩
 have n1:=Ext.new hl1 (.lst [V.str n])
 have n2:=n1.trans (Ext.new hl2 (.lst []))
 refine ⟨T,l1,l2,names,rows,[n],[],rfl,ti.ext n2,(Ext.new hl2 _) _ _ upd_same,upd_same,nd,fun m hm=>(by rw [List.mem_singleton] at hm;rw [hm];exact nm),fun m hm=>(by cases hm),ln,lr,(by show _<=12;simp),(by show _<=12;simp),fun T' S M H' e t0 tf pS pM dM=>?_⟩
 exact q T' S M H' (n2.trans e) (n2.none t0) (tf.down n2) pS pM dM
theorem scShr:FnScope ["table","name"] ["table","name"] (qAc sShr):=⟨rfl,rfl,rfl,by decide +kernel,rfl,by decide +kernel,by decide +kernel⟩
theorem ok_shr (F:Fun K "shrunk" "shrunk" sShr f fd) (G:FnOk P w K mg base CX0 4 f1 fd1 ["table","taken","shrunk_ones"] spLeft) (bG:qA1 K fd1 ["table","taken","shrunk_ones"] []) (kG:PySem.W.keepIn K (.ref f1)=true) (mG:mg "left" = some (.ref f1)):FnOk P w K mg base CX0 5 f fd ["table","name"] spShr:=by
 refine F.ok scShr (fun vs H Q E h=>?_) (fun cdv A outer s H vs Q E hr h=>?_)
 ·obtain ⟨T,names,rows,n,rfl,_⟩:=h
  rfl
 obtain ⟨T,names,rows,n,rfl,ti,nd,nm,ln,lr,q⟩:=h
 refine ⟨_,qAf (qAw (qAg G hr rfl mG kG bG .nil qAt (qAa (pv 0) (qAa (qBa qAd) (qAa (qBa (qAa (pv 1) qAd)) qAd))))),?_⟩
 refine ⟨_,rfl,Nat.zero_le _,fun l1 hl1=>⟨_,rfl,(by show 1<=sizeLine;decide),fun l2 hl2=>?_⟩⟩
 have n1:=Ext.new hl1 (.lst [])
 have n2:=n1.trans (Ext.new hl2 (.lst [V.str n]))
 refine ⟨T,l1,l2,names,rows,[],[n],rfl,ti.ext n2,(Ext.new hl2 _) _ _ upd_same,upd_same,nd,fun m hm=>(by cases hm),fun m hm=>(by rw [List.mem_singleton] at hm;rw [hm];exact nm),ln,lr,(by show _<=12;simp),(by show _<=12;simp),fun T' S M H' e t0 tf pS pM dM=>?_⟩
 exact q T' S M H' (n2.trans e) (n2.none t0) (tf.down n2) pS pM dM
theorem scRank:FnScope ["table","names","others"] ["table","names"] (qAc sRank):=⟨rfl,rfl,rfl,by decide +kernel,rfl,by decide +kernel,by decide +kernel⟩
theorem ok_rank (F:Fun K "rank" "rank" sRank f fd) (G:FnOk P w K mg base CX0 4 f1 fd1 ["table","taken","shrunk_ones"] spLeft) (bG:qA1 K fd1 ["table","taken","shrunk_ones"] []) (kG:PySem.W.keepIn K (.ref f1)=true) (mG:mg "left" = some (.ref f1)) (ml:mg "len" = none):FnOk P w K mg base CX0 5 f fd ["table","names"] spRank:=by
 refine F.ok scRank (fun vs H Q E h=>?_) (fun cdv A outer s H vs Q E hr h=>?_)
 ·obtain ⟨T,pn,tn,rows,row,rfl,_⟩:=h
  rfl
 obtain ⟨T,pn,tn,rows,row,rfl,ti,hn,nd,ln,lr,lrow,q⟩:=h
 refine ⟨_,qAb (ps_lc (i:=2) (N:=["table","names","others"]) (sc:=qAc sRank) (N':=["name","names"]) (sub:=[none,some 1]) rfl rfl (CmpOk.of (by decide +kernel)) rfl (qAr (qBg qBl (pv 0) qAe (fun _ _=>rfl)))
   (fun C s H fp=>⟨qAi (i:=0) (by show (["name","names"]:List Str).Nodup;decide) rfl (Or.inl rfl),qB5 (qAo (show OpR _ (compareOp .NotIn) (rIn K true) from qB7) (pv 0) (pv 1) (by with_unfolding_all rfl)),pv 0⟩) scRank.nd rfl (Or.inl rfl))
  (qAf (qAw (qAh qDk (qAs qAv rfl ml PySem.boot_len (qAa (pv 1) qAd)) (qAs qAv rfl ml PySem.boot_len (qAa (qBg qBl (qAg G hr rfl mG kG bG .nil qAt (qAa (pv 0) (qAa (pv 2) (qAa (qBa qAd) qAd)))) qAe (fun _ _=>rfl)) qAd))))),?_⟩
 obtain ⟨a,b,hT,ha,hb⟩:=id ti
 refine ⟨_,rfl,T,_,_,_,rfl,rfl,SqT.of hT,(by exact qAy (j:=0) rfl),a,rfl,⟨_,SqL.of ha⟩,?_⟩
 refine qAu (xs:=tn.map V.str) (fun j ys H4=>H4=H/\ys=(restF (tn.take j) row).map V.str) ⟨rfl,rfl⟩ (fun j ys H4 _ h=>by rw [h.1];exact SqL.of ha) ?_ ?_
 ·rintro j v ys H4 hx ⟨rfl,rfl⟩
  obtain ⟨n,rfl,hn'⟩:=qD7 hx
  have hj:=qA7 hn'
  have sz:=List.length_filter_le (fun n=>!decide (n∈row)) (tn.take j)
  rw [List.length_take] at sz
  refine ⟨Sle.set _ (Sle.refl _) (fun u z=>by cases z),_,rfl,_,rfl,pn,_,rfl,.inl (SqL.of hn),rfl,flat_strs _,_,rfl,?_⟩
  rw [if_pos rfl,qDu]
  refine qCg (fun c=>?_) (fun c=>?_)
  ·refine ⟨_,rfl,?_,nxt (qA7 hx) ⟨rfl,?_⟩⟩
   ·unfold restF;rw [List.length_map];exact qAk (by omega)
   ·unfold restF
    rw [filt_t hn' c,List.map_append];rfl
  ·refine nxt (qA7 hx) ⟨rfl,?_⟩
   unfold restF
   rw [filt_f hn' (by simpa using c)]
 rintro ys H4 ⟨rfl,rfl⟩ ol hol
 rw [List.length_map,List.take_of_length_le (Nat.le_refl _)]
 have X1:=Ext.new hol (.lst ((restF tn row).map V.str))
 refine ⟨_,rfl,pn,_,rfl,.inl (SqL.of (X1 _ _ hn)),?_⟩
 refine ⟨_,rfl,_,rfl,Nat.zero_le _,fun l2 hl2=>?_⟩
 have X2:=X1.trans (Ext.new hl2 (.lst []))
 refine ⟨T,ol,l2,tn,rows,restF tn row,[],rfl,ti.ext X2,(Ext.new hl2 _) _ _ upd_same,upd_same,nd,fun m hm=>(List.mem_filter.mp hm).1,fun m hm=>(by cases hm),ln,lr,Nat.le_trans (List.length_filter_le _ _) ln,by decide,fun T' S M H' e t0 tf pS pM dM=>?_⟩
 obtain ⟨fa,fb,hTf,hfa,fa0,⟨gs,hfb,pgs⟩,fb0⟩:=tf
 have lgs:gs.length=M.length:=by rw [pgs.length,List.length_map]
 refine ⟨T',_,_,_,rfl,rfl,SqT.of hTf,(by exact qAy (j:=1) rfl),fb,_,rfl,.inl (SqL.of hfb),_,_,rfl,rfl,?_⟩
 have r:=q S M H' (X2.trans e) pS pM dM
 rw [List.length_map,List.length_map,lgs]
 exact r
end
end My
namespace My
open PySem L2
theorem big_m (ms:List Nat):∃ m,∀ x∈ms,x<2^m:=by
 induction ms with
 | nil=>exact ⟨0,fun x h=>(by cases h)⟩
 | cons a l ih =>
  obtain ⟨m,h⟩:=ih
  refine ⟨m+a,fun x hx=>?_⟩
  rcases List.mem_cons.mp hx with z | z
  ·rw [z]
   exact Nat.lt_of_lt_of_le Nat.lt_two_pow_self (Nat.pow_le_pow_right (by decide) (by omega))
  ·exact Nat.lt_of_lt_of_le (h x z) (Nat.pow_le_pow_right (by decide) (by omega))
def delB (p z:Nat):Nat:=(z&&&(2^p - 1)) ||| ((z >>> (p+1)) <<< p)
theorem qA6 (p z j:Nat):(delB p z).testBit j=if j<p then z.testBit j else z.testBit (j+1):=by
 unfold delB
 rw [Nat.testBit_or,Nat.testBit_and,Nat.testBit_two_pow_sub_one,Nat.testBit_shiftLeft,Nat.testBit_shiftRight]
 by_cases h:j<p
 ·rw [if_pos h,decide_eq_true h,decide_eq_false (by omega)];simp
 ·rw [if_neg h,decide_eq_false h,decide_eq_true (by omega),show p+1+(j - p)=j+1 by omega];simp
theorem eraseP {names:List Str} {p:Nat} (nd:names.Nodup) {n:Str} (hp:names[p]?=some n):names.take p++names.drop (p+1)=restF names [n]:=by
 have pl:=(List.getElem?_eq_some_iff.mp hp).1
 have e:names=names.take p++n :: names.drop (p+1):=by
  have:=List.take_append_drop p names
  rw [List.drop_eq_getElem_cons pl] at this
  rw [<-(List.getElem?_eq_some_iff.mp hp).2];exact this.symm
 have nd':=nd
 rw [e,List.nodup_append] at nd'
 obtain ⟨n1,n2,n3⟩:=nd'
 obtain ⟨n4,n5⟩:=List.nodup_cons.mp n2
 unfold restF
 conv=>rhs;rw [e]
 rw [List.filter_append,List.filter_cons,if_neg (by simp)]
 congr 1
 ·refine (List.filter_eq_self.mpr fun m hm=>?_).symm
  have:¬m=n:=fun z=>n3 m hm n List.mem_cons_self z
  simp [this]
 ·refine (List.filter_eq_self.mpr fun m hm=>?_).symm
  have:¬m=n:=fun z=>n4 (z▸hm)
  simp [this]
theorem rest_len {names:List Str} {p:Nat} (nd:names.Nodup) {n:Str} (hp:names[p]?=some n):(restF names [n]).length=names.length - 1:=by
 have pl:=(List.getElem?_eq_some_iff.mp hp).1
 rw [<-eraseP nd hp,List.length_append,List.length_take,List.length_drop];omega
theorem rest_get {names:List Str} {p:Nat} (nd:names.Nodup) {n:Str} (hp:names[p]?=some n) (i:Nat):(restF names [n])[i]?=if i<p then names[i]? else names[i+1]?:=by
 have pl:=(List.getElem?_eq_some_iff.mp hp).1
 rw [<-eraseP nd hp]
 by_cases h:i<p
 ·rw [if_pos h,List.getElem?_append_left (by rw [List.length_take];omega),List.getElem?_take,if_pos h]
 ·rw [if_neg h,List.getElem?_append_right (by rw [List.length_take];omega),List.getElem?_drop,List.length_take,show p+1+(i - min p names.length)=i+1 by omega]
theorem pi_del {names:List Str} {p:Nat} (nd:names.Nodup) {n:Str} (hp:names[p]?=some n) {z:Nat} (hz:z<2^names.length):piM names (restF names [n]) (rv names.length z)=rv (names.length - 1) (delB p z):=by
 have pl:=(List.getElem?_eq_some_iff.mp hp).1
 have rl:=rest_len nd hp
 refine Nat.eq_of_testBit_eq fun j=>?_
 rw [qCk,qCu,rl,qA6]
 by_cases hj:j<names.length - 1
 ·rw [decide_eq_true hj,Bool.true_and,Bool.true_and,rest_get nd hp]
  have ei:∀ i m,names[i]?=some m->decide (∃ k,some m=some k/\k∈qBw names (rv names.length z))=z.testBit i:=fun i m hm=>by
   have il:=(List.getElem?_eq_some_iff.mp hm).1
   have c:=chi_at nd (z:=rv names.length z) hm
   rw [qCk,decide_eq_true (by omega),Bool.true_and,show names.length - 1 - (names.length - 1 - i)=i by omega] at c
   rw [<-c]
   exact decide_eq_decide.mpr ⟨fun ⟨k,h1,h2⟩=>by cases h1;exact h2,fun h=>⟨m,rfl,h⟩⟩
  split
  ·have il:names.length - 1 - 1 - j<names.length:=by omega
   have e:=List.getElem?_eq_getElem il
   rw [e]
   exact ei _ _ e
  ·have il:names.length - 1 - 1 - j+1<names.length:=by omega
   have e:=List.getElem?_eq_getElem il
   rw [e]
   exact ei _ _ e
 ·rw [decide_eq_false hj];rfl
structure TabOk (names:List Str) (rows:List (List Str)):Prop where
 rn:Rise names
 ok:SOk names
 ln:names.length<=12
 lr:rows.length<=16
 rw:∀ r∈rows,∃ x,r=rowL names x
end My
namespace L2
open PySem PySem.Spec PyProof.Rows
section
variable {X:Cx}
def rInsert:V->List V->Hp->VK->Prop:=fun x vs H Q=>∃ (l:Addr) (xs:List V) (i:Nat) (y:V),x = .ref l/\vs=[.int (i:Int),y]/\H l=some (.lst xs)/\i<=xs.length/\xs.length<1000/\Q .non (upd H l (.lst (xs.take i++y :: xs.drop i)))
theorem qBc.takeL:∀ {xs:List V} {us:List Value} (i:Nat),qBc xs us->qBc (xs.take i) (us.take i)
 | _,_,0,_=>.nil
 | _,_,_+1,.nil=>.nil
 | _,_,i+1,.cons r t=>.cons r (qBc.takeL i t)
theorem qBc.dropL:∀ {xs:List V} {us:List Value} (i:Nat),qBc xs us->qBc (xs.drop i) (us.drop i)
 | _,_,0,h=>h
 | _,_,_+1,.nil=>.nil
 | _,_,i+1,.cons _ t=>qBc.dropL i t
theorem mt_insert:MtM X "list.insert" rInsert:=by
 intro pins s σ H x vs v us Q I rx rv h
 obtain ⟨l,xs,i,y,rfl,rfl,hH,hi,hz,q⟩:=h
 cases rx
 obtain ⟨u,w',rfl,r1,r2⟩:=vals2 rv
 obtain ⟨t,rfl⟩:=r1
 obtain ⟨z,its,n,r,hl,e⟩:=I.lstM hH
 have fi:¬(!Builtin.List.listFitsIndex (i:Int))=true:=by
  rw [fitsIndex_both (by omega) (by omega)]
  exact Bool.false_ne_true
 have zz:its.toArray.size<=sizeLine:=by rw [List.size_toArray,<-hl];exact z
 obtain ⟨k,hk⟩:∃ k:Int,k=(i:Int):=⟨_,rfl⟩
 rw [<-hk] at fi ⊢
 have M:=AutoListH.list_insert_list_int_val_1 l its.toArray n k t w' fi zz
 refine call_meets F.slot_list_insert ⟨_,e,rfl⟩ F.entry_list_insert (F.args_list_insert_3 _ _ _) M ⟨e,?_⟩
 refine ⟨.non,_,I.lset (its':=its.take i++w' :: its.drop i) hH e ?_ (qBc.append (qBc.takeL i r) (.cons r2 (qBc.dropL i r))) ?_,rfl,q⟩
 ·have k':(if k<0 then (k+((its.toArray.size:Nat):Int)).toNat else min k.toNat its.toArray.size)=i:=by
   rw [hk,if_neg (by omega),Int.toNat_natCast,List.size_toArray]
   omega
  dsimp only
  rw [k']
  apply Array.ext'
  simp
  rw [List.take_of_length_le (by rw [List.length_drop];exact Nat.le_refl _)]
 ·rw [List.length_append,List.length_cons,List.length_take,List.length_drop]
  exact Nat.le_of_lt (qAk (by omega))
end
end L2
namespace My
open PySem L2
theorem bor_nat (a b:Nat):Builtin.bitOr (a:Int) (b:Int)=((a ||| b:Nat):Int):=by
 have x:∀ x:Int,Builtin.bitNot (Builtin.bitNot x)=x:=fun x=>by unfold Builtin.bitNot;omega
 unfold Builtin.bitOr
 have na:¬(0:Int)<=Builtin.bitNot (a:Int):=by unfold Builtin.bitNot;omega
 have nb:¬(0:Int)<=Builtin.bitNot (b:Int):=by unfold Builtin.bitNot;omega
 have o:Builtin.bitAnd (Builtin.bitNot (a:Int)) (Builtin.bitNot (b:Int))=Builtin.bitNot ((a ||| b:Nat):Int):=by
  unfold Builtin.bitAnd
  rw [decide_eq_false na,decide_eq_false nb]
  show Builtin.bitNot _=_
  rw [x,x];simp
 rw [o,x]
theorem shl_natG (z k:Nat):(z:Int)*2^((k:Int)).toNat=((z <<< k:Nat):Int):=by
 rw [Int.toNat_natCast,Nat.shiftLeft_eq,Int.natCast_mul,Int.natCast_pow];rfl
theorem p2_pos (m:Nat):(0:Int)<1*2^((m:Int)).toNat:=by
 rw [qCj]
 have:0<2^m:=Nat.pow_pos (by decide)
 omega
theorem p2_mod (a:Int) (m:Nat):∃ x:Nat,a % (1*2^((m:Int)).toNat)=(x:Int):=by
 have:=p2_pos m
 exact ⟨(a % (1*2^((m:Int)).toNat)).toNat,(Int.toNat_of_nonneg (Int.emod_nonneg _ (by omega))).symm⟩
theorem cut_to (xs:List V) (p:Nat):cutV xs none (some (p:Int))=xs.take p:=by
 unfold cutV
 rw [HT.sIx_nat,HT.sIx_none,List.drop_zero,Nat.sub_zero]
 rcases Nat.le_total p xs.length with h | h
 ·rw [Nat.min_eq_left h]
 ·rw [Nat.min_eq_right h,List.take_of_length_le (Nat.le_refl _),List.take_of_length_le h]
def spLFre:Sp:=fun vs H Q _=>∃ (b:Int) (m:Nat),vs=[.int b,iV m]/\m<=12/\∀ (r:Addr) (ns:List Nat) (H':Hp),Ext H H'->H r=none->LsN H' r ns->ns.length<=9->Q (.ref r) H'
def spLCop:Sp:=fun vs H Q _=>∃ (T:Addr) (names:List Str) (rows:List (List Str)),vs=[.ref T]/\qCv H T names rows/\rows.length<=24/\∀ T' H',Ext H H'->H T'=none->qCv H' T' names rows->Q (.ref T') H'
def rLst (K:PySem.W.Frag):List V->Hp->VK->Prop:=fun xs H Q=>∃ p ys,xs=[.ref p]/\(SqL K H p ys\/SqT K H p ys)/\∀ l,H l=none->Q (.ref l) (upd H l (.lst ys))
section
variable {P:Program} {w:World} {K:PySem.W.Frag} {mg:Str->Option Value} {base:Heap} {f f1 f2 f3 f4 f5:Addr} {fd fd1 fd2 fd3 fd4 fd5:FuncData}
abbrev frN:List Str:=["_law_big_here","_law_many","_law_found","_law_k"]
theorem scLFre:FnScope frN ["_law_big_here","_law_many"] (qAc sLFre):=⟨rfl,rfl,rfl,by decide +kernel,rfl,by decide +kernel,by decide +kernel⟩
theorem ok_lfre (F:Fun K "_law_free" "_law_free" sLFre f fd) (mr:mg "range" = none):FnOk P w K mg base CX0 1 f fd ["_law_big_here","_law_many"] spLFre:=by
 refine F.ok scLFre (fun vs H Q E h=>?_) (fun cdv A outer s H vs Q E hr h=>?_)
 ·obtain ⟨b,m,rfl,_⟩:=h
  rfl
 obtain ⟨b,m,rfl,m12,q⟩:=h
 refine ⟨_,qAb (qAj (i:=2) scLFre.nd rfl (Or.inl rfl) (qBa qAd))
  (qAb (qBi PassesOwn.never rfl (qBj rfl mr (qAa (qAh qBe (pv 0) qAe) qAd)) (qAi (i:=3) scLFre.nd rfl (Or.inl rfl))
   (qAb (qCl (qD9 PySem.F.plainAttrs_list PySem.F.slot_list_append PySem.F.type_list_append qBp (pv 2) (qAa (qAh qBe (qAh qA4 (pv 0) qAe) (qAh qCt qAe (pv 1))) qAd)))
   (qAf (qAj (i:=0) scLFre.nd rfl (Or.inl rfl) (qAh qGt (qAh qA4 (pv 0) qAe) (pv 1))))))
  (qAf (qAw (pv 2)))),?_⟩
 refine ⟨Nat.zero_le _,fun fo fo0=>?_⟩
 have h1:=Int.emod_nonneg b (show (10:Int)≠0 by decide)
 have h2:=Int.emod_lt_of_pos b (show (0:Int)<10 by decide)
 refine ⟨_,rfl,_,_,rfl,rfl,(by show (0:Int)<_;decide),b % 10,rfl,by omega,by omega,?_⟩
 refine qB1 (lo:=0) (n:=(b % 10).toNat) (fun i σ H'=>∃ (b':Int) (x3:Option V) (ns:List Nat),σ=[some (.int b'),some (iV m),some (.ref fo),x3]/\Ext H H'/\LsN H' fo ns/\ns.length<=i) ⟨b,none,[],rfl,Ext.new fo0 _,upd_same,Nat.le_refl _⟩ ?_ ?_
 ·rintro i σ H' hi ⟨b',x3,ns,rfl,e,hf,ln⟩
  obtain ⟨x,hx⟩:=p2_mod (b' / 10) m
  refine ⟨_,rfl,.inl ⟨rfl,_,SqL.of hf⟩,_,rfl,_,_,rfl,rfl,⟨by decide,by decide⟩,_,rfl,_,_,rfl,rfl,⟨by omega,by omega,by decide⟩,_,_,rfl,rfl,p2_pos m,fo,_,_,rfl,rfl,hf,by rw [List.length_map];exact qAk (by omega),?_⟩
  refine ⟨_,rfl,_,_,rfl,rfl,⟨by decide,by decide⟩,_,rfl,_,_,rfl,rfl,(by show (0:Int)<=_;omega),?_⟩
  refine ⟨_,_,ns++[x],rfl,e.over fo0 _,?_,by rw [List.length_append];exact Nat.succ_le_succ ln⟩
  unfold LsN
  rw [upd_same,List.map_append]
  show some (HO.lst (_++[V.int (b' / 10 % (1*2^((m:Int)).toNat))]))=_
  rw [hx];rfl
 ·rintro σ H' ⟨b',x3,ns,rfl,e,hf,ln⟩
  exact ⟨_,rfl,q fo ns _ e fo0 hf (by omega)⟩
theorem scLCop:FnScope ["_law_table_here"] ["_law_table_here"] (qAc sLCop):=⟨rfl,rfl,rfl,by decide +kernel,rfl,by decide +kernel,by decide +kernel⟩
theorem ok_lcop (F:Fun K "_law_copy" "_law_copy" sLCop f fd) (mL:mg "list" = none):FnOk P w K mg base CX0 1 f fd ["_law_table_here"] spLCop:=by
 refine F.ok scLCop (fun vs H Q E h=>?_) (fun cdv A outer s H vs Q E hr h=>?_)
 ·obtain ⟨T,names,rows,rfl,_⟩:=h
  rfl
 obtain ⟨T,names,rows,rfl,ti,lr,q⟩:=h
 refine ⟨_,qAf (qAw (qCm (qAa (qBd qBn rfl mL qBu (qAa (qBg qBl (pv 0) qAe (fun _ _=>rfl)) qAd))
  (qAa (qBx (N:=["_law_table_here"]) (sc:=qAc sLCop) (N':=["_law_row_here"]) (sub:=[none]) rfl rfl (CmpOk.of (by decide +kernel)) rfl (qAr (qBg qBl (pv 0) qAe (fun _ _=>rfl)))
   (fun C s H fp=>⟨qAi (i:=0) (by show (["_law_row_here"]:List Str).Nodup;decide) rfl (Or.inl rfl),qBb,qBd (show qCw _ (.type "list") (rLst K) from qBn) rfl mL qBu (qAa (pv 0) qAd)⟩)) qAd)))),?_⟩
 obtain ⟨tA,tB,hT,htA,⟨cs,htB,pcs⟩⟩:=id ti
 have lcs:cs.length=rows.length:=pcs.length
 refine ⟨_,rfl,T,_,_,_,rfl,rfl,SqT.of hT,(by exact qAy (j:=0) rfl),tA,_,rfl,.inl (SqL.of htA),fun l1 hl1=>?_⟩
 have N0:=Ext.new hl1 (.lst (names.map V.str))
 refine ⟨_,rfl,T,_,_,_,rfl,rfl,SqT.of (N0 _ _ hT),(by exact qAy (j:=1) rfl),tB,rfl,⟨_,SqL.of (N0 _ _ htB)⟩,?_⟩
 refine qAu (xs:=cs.map V.ref) (fun j ys Hd=>Ext (upd H l1 (.lst (names.map V.str))) Hd/\∃ ds,ys=ds.map V.ref/\Paired (LsS Hd) ds (rows.take j)) ⟨Ext.refl _,[],rfl,.nil⟩ (fun j ys Hd _ h=>SqL.of (h.1 _ _ (N0 _ _ htB))) ?_ ?_
 ·rintro j v ys Hd hx ⟨ed,ds,rfl,pd⟩
  obtain ⟨c,rfl,hc⟩:=qFk hx
  obtain ⟨rw1,hrw,hc1⟩:=qBf pcs hc
  have hj:=qA7 hrw
  have ld:ds.length=_:=pd.length
  rw [List.length_take] at ld
  refine ⟨Sle.set _ (Sle.refl _) (fun u z=>by cases z),iteT (B:=False) ⟨_,rfl,c,_,rfl,.inl (SqL.of (ed _ _ (N0 _ _ hc1))),fun l hl=>⟨?_,nxt (qA7 hx) ⟨ed.trans (Ext.new hl _),ds++[l],by rw [List.map_append];rfl,?_⟩⟩⟩⟩
  ·rw [List.length_map];exact qAk (by omega)
  ·rw [qAn hrw]
   exact Paired.snoc (Paired.mapP pd fun a t z=>(Ext.new hl _) _ _ z) upd_same
 rintro ys Hd ⟨ed,ds,rfl,pd⟩ bb hbb
 rw [List.length_map,lcs,List.take_of_length_le (Nat.le_refl _)] at pd
 have XB:=Ext.new hbb (.lst (ds.map V.ref))
 refine ⟨(by show 2<=sizeLine;decide),fun TT hTT=>?_⟩
 have XT:=Ext.new hTT (.tup [V.ref l1,V.ref bb])
 have NE:=N0.trans (ed.trans (XB.trans XT))
 exact q TT _ NE (((N0.trans ed).trans XB).none hTT) ⟨l1,bb,upd_same,(ed.trans (XB.trans XT)) _ _ upd_same,⟨ds,XT _ _ upd_same,Paired.mapP pd fun a t z=>(XB.trans XT) _ _ z⟩⟩
end
end My
namespace My
open PySem L2
def spLCro:Sp:=fun vs H Q _=>∃ (p:Addr) (ms:List Nat) (m:Nat),vs=[.ref p,iV m]/\LsN H p ms/\ms.length<=24/\m<=12/\∀ (r:Addr) (ns:List Nat) (H':Hp),Ext H H'->H r=none->LsN H' r ns->ns.length<=12->Q (.ref r) H'
def spLSma:Sp:=fun vs H Q _=>∃ k:Int,vs=[.int k]/\0<=k/\k<4/\∀ (T b:Addr) (m:Nat) (ns:List Nat) (H':Hp),Ext H H'->H' T=some (.tup [iV m,.ref b])->LsN H' b ns->ns.length<=12->0<m->m<=36->Q (.ref T) H'
def spLMor:Sp:=fun vs H Q _=>∃ (p:Addr) (ms:List Nat) (m M:Nat) (b:Int),vs=[.ref p,iV m,.int b,iV M]/\LsN H p ms/\ms.length<=12/\0<m/\M<=12/\∀ (r:Addr) (ns:List Nat) (H':Hp),Ext H H'->LsN H' r ns->ns.length<=24->Q (.ref r) H'
section
variable {P:Program} {w:World} {K:PySem.W.Frag} {mg:Str->Option Value} {base:Heap} {f f1 f2 f3 f4 f5:Addr} {fd fd1 fd2 fd3 fd4 fd5:FuncData}
abbrev coN:List Str:=["_law_numbers","_law_many","_law_rows","_law_fronts","_law_found","_law_place"]
theorem scLCro:FnScope coN ["_law_numbers","_law_many"] (qAc sLCro):=⟨rfl,rfl,rfl,by decide +kernel,rfl,by decide +kernel,by decide +kernel⟩
theorem ok_lcro (F:Fun K "_law_crossing" "_law_crossing" sLCro f fd) (G:FnOk P w K mg base CX0 1 f1 fd1 ["_law_numbers"] spLRed) (bG:qA1 K fd1 ["_law_numbers"] []) (kG:PySem.W.keepIn K (.ref f1)=true) (mG:mg "_law_reduced" = some (.ref f1)) (msu:mg "sum" = none) (mr:mg "range" = none):FnOk P w K mg base CX0 2 f fd ["_law_numbers","_law_many"] spLCro:=by
 refine F.ok scLCro (fun vs H Q E h=>?_) (fun cdv A outer s H vs Q E hr h=>?_)
 ·obtain ⟨p,ms,m,rfl,_⟩:=h
  rfl
 obtain ⟨p,ms,m,rfl,hp,lm,m12,q⟩:=h
 refine ⟨_,qAb (qAj (i:=2) scLCro.nd rfl (Or.inl rfl) (qAg G hr rfl mG kG bG .nil qAt (qAa (pv 0) qAd)))
  (qAb (qAj (i:=3) scLCro.nd rfl (Or.inl rfl) (qAs (qDb rfl) rfl msu qDc (qAa (qBx (N:=coN) (sc:=qAc sLCro) (N':=["_law_row_here"]) (sub:=[none]) rfl rfl (CmpOk.of (by decide +kernel)) rfl (qAr (pv 2))
   (fun C s H fp=>⟨qAi (i:=0) (by show (["_law_row_here"]:List Str).Nodup;decide) rfl (Or.inl rfl),qBb,qAh qBy (pv 0) (pe_un un_neg (pv 0))⟩)) qAd)))
  (qAb (qAj (i:=4) scLCro.nd rfl (Or.inl rfl) (qBa qAd))
  (qAb (qBi PassesOwn.never rfl (qBj rfl mr (qAa (pv 1) qAd)) (qAi (i:=5) scLCro.nd rfl (Or.inr rfl))
   (qAf (qB6 (qAo qDt (qAh qBy (qAh qGt (pv 3) (pv 5)) qAe) qAe (qAx _))
    (qAf (qCl (qD9 PySem.F.plainAttrs_list PySem.F.slot_list_append PySem.F.type_list_append qBp (pv 4) (qAa
     (qAh qBk (qAh qCt qAe (pv 5)) (qAs (qDb rfl) rfl msu qDc (qAa (qBx (N:=coN) (sc:=qAc sLCro) (N':=["_law_row_here","_law_place"]) (sub:=[none,some 5]) rfl rfl (CmpOk.of (by decide +kernel)) rfl (qAr (pv 2))
      (fun C s H fp=>⟨qAi (i:=0) (by show (["_law_row_here","_law_place"]:List Str).Nodup;decide) rfl (Or.inl rfl),qB5 (qAo qDt (qAh qBy (qAh qGt (pv 0) (pv 1)) qAe) qAe (qAx _)),qAh qBy (pv 0) (pe_un un_neg (pv 0))⟩)) qAd))) qAd))))
    qA8)))
  (qAf (qAw (pv 4)))))),?_⟩
 obtain ⟨m0,lt0⟩:=big_m ms
 refine ⟨_,rfl,p,ms,m0,rfl,hp,by omega,lt0,fun ro H1 e1 ro0 hro=>?_⟩
 obtain ⟨gm,_⟩:=redL_rv (m:=m0) ms lt0
 have lR:=redL_le ms
 refine ⟨_,rfl,ro,rfl,⟨_,SqL.of hro⟩,?_⟩
 refine qB4 (fun _=>true) (fun z=>2^lo z) hro (by omega) (fun z hz C B c b=>⟨Sle.set _ (Sle.refl _) (fun u z=>by cases z),?_⟩) ?_
 ·refine iteT (B:=B H1) ⟨_,rfl,_,rfl,_,rfl,_,_,rfl,rfl,?_⟩
  have:=c rfl
  rw [show iV (2^lo z)=V.int (Builtin.bitAnd (z:Int) (-(z:Int))) by rw [low_bit (gm z hz).2]] at this
  exact this
 intro l1 hl1
 have n1:=e1.trans (Ext.new hl1 (.lst ((((redL ms).filter fun _=>true).map fun z=>2^lo z).map iV)))
 refine ⟨l1,(((redL ms).filter fun _=>true).map fun z=>2^lo z).map (fun n:Nat=>(n:Int)),rfl,SqL.of (by rw [upd_same,qC0]),?_⟩
 rw [qDe]
 have hro1:=(Ext.new hl1 (.lst ((((redL ms).filter fun _=>true).map fun z=>2^lo z).map iV))) _ _ hro
 refine ⟨Nat.zero_le _,fun fo fo1=>?_⟩
 have fo0:=n1.none fo1
 have n2:=n1.trans (Ext.new fo1 (.lst []))
 have hro2:=(Ext.new fo1 (.lst [])) _ _ hro1
 revert n2 hro2
 have hfo2:upd (upd H1 l1 (.lst ((((redL ms).filter fun _=>true).map fun z=>2^lo z).map iV))) fo (.lst []) fo=some (.lst []):=upd_same
 revert hfo2
 generalize upd (upd H1 l1 (.lst ((((redL ms).filter fun _=>true).map fun z=>2^lo z).map iV))) fo (.lst [])=H2
 intro hfo2 n2 hro2
 have rofo:ro≠fo:=qAl hro1 fo1
 generalize (((redL ms).filter fun _=>true).map fun z=>2^lo z).sum=fr
 refine ⟨_,rfl,(m:Int),rfl,by omega,by omega,?_⟩
 refine qB1 (lo:=0) (n:=((m:Int)).toNat) (fun i σ H'=>∃ (x5:Option V) (ns:List Nat),σ=[some (.ref p),some (iV m),some (.ref ro),some (iV fr),some (.ref fo),x5]/\Ext H H'/\LsN H' ro (redL ms)/\LsN H' fo ns/\ns.length<=i) ⟨none,[],rfl,n2,hro2,hfo2,Nat.le_refl _⟩ ?_ ?_
 ·rintro i σ H' hi ⟨x5,ns,rfl,e,hr',hf,ln⟩
  have hi':i<m:=by omega
  refine ⟨_,rfl,_,rfl,_,_,rfl,rfl,(by show (0:Int)<=_;omega),_,_,rfl,rfl,rfl,_,rfl,?_⟩
  refine qCg (fun c=>?_) (fun c=>?_)
  ·refine ⟨_,rfl,.inl ⟨rfl,_,SqL.of hf⟩,_,rfl,_,_,rfl,rfl,⟨by omega,by omega,by decide⟩,?_⟩
   refine ⟨_,rfl,ro,rfl,⟨_,SqL.of hr'⟩,?_⟩
   refine qB4 (fun z=>z.testBit i) (fun z=>2^lo z) hr' (by omega) (fun z hz C B c2 b2=>⟨Sle.set _ (Sle.refl _) (fun u z=>by cases z),?_⟩) ?_
   ·refine ⟨_,rfl,_,rfl,_,_,rfl,rfl,(by show (0:Int)<=_;omega),_,_,rfl,rfl,rfl,_,rfl,?_⟩
    have key:(decide (V.int (Builtin.bitAnd ((z:Int) / 2^(0+(i:Int)).toNat) 1)=V.int 1)=true)↔z.testBit i=true:=by
     rw [decide_eq_true_iff,V.int.injEq,show (0+(i:Int))=((i:Nat):Int) by omega,Int.toNat_natCast,shr_one]
     by_cases b:z.testBit i=true
     ·simp [b]
     ·simp [b]
    refine qCg (fun cc=>⟨_,rfl,_,rfl,_,rfl,_,_,rfl,rfl,?_⟩) (fun cc=>b2 ?_)
    ·have:=c2 (key.mp cc)
     rw [show iV (2^lo z)=V.int (Builtin.bitAnd (z:Int) (-(z:Int))) by rw [low_bit (gm z hz).2]] at this
     exact this
    ·cases q2:z.testBit i with
     | false=>rfl
     | true=>exact absurd (key.mpr q2) cc
   ·intro l2 hl2
    have n3:=Ext.new hl2 (.lst ((((redL ms).filter fun z=>z.testBit i).map fun z=>2^lo z).map iV))
    refine ⟨l2,(((redL ms).filter fun z=>z.testBit i).map fun z=>2^lo z).map (fun n:Nat=>(n:Int)),rfl,SqL.of (by rw [upd_same,qC0]),?_⟩
    rw [qDe]
    refine ⟨_,_,rfl,rfl,fo,_,_,rfl,rfl,n3 _ _ hf,by rw [List.length_map];exact qAk (by omega),?_⟩
    have ev:(fun i j:Int=>V.int (i+j)) (1*2^(0+(i:Int)).toNat) (((((redL ms).filter fun z=>z.testBit i).map fun z=>2^lo z).sum:Nat):Int)=iV (2^i+((((redL ms).filter fun z=>z.testBit i).map fun z=>2^lo z).sum)):=by
     show V.int (_+_)=V.int _
     rw [show (0+(i:Int))=((i:Nat):Int) by omega,qCj,Int.natCast_add]
    rw [ev]
    refine ⟨_,ns++[2^i+((((redL ms).filter fun z=>z.testBit i).map fun z=>2^lo z).sum)],rfl,(e.trans n3).over fo0 _,?_,?_,by rw [List.length_append];exact Nat.succ_le_succ ln⟩
    ·unfold LsN;rw [qAm rofo];exact n3 _ _ hr'
    ·unfold LsN;rw [upd_same,List.map_append];rfl
  ·exact ⟨_,ns,rfl,e,hr',hf,by omega⟩
 ·rintro σ H' ⟨x5,ns,rfl,e,hr',hf,ln⟩
  exact ⟨_,rfl,q fo ns _ e fo0 hf (by omega)⟩
abbrev mrN:List Str:=["_law_base","_law_many","_law_big_here","_law_most","_law_way","_law_mate"]
theorem qEk:FnScope mrN ["_law_base","_law_many","_law_big_here","_law_most"] (qAc sLMor):=⟨rfl,rfl,rfl,by decide +kernel,rfl,by decide +kernel,by decide +kernel⟩
abbrev mrC:List Str:=["_law_step","_law_mate","_law_many"]
theorem ok_lmor (F:Fun K "_law_with_more" "_law_with_more" sLMor f fd) (ml:mg "len" = none):FnOk P w K mg base CX0 1 f fd ["_law_base","_law_many","_law_big_here","_law_most"] spLMor:=by
 refine F.ok qEk (fun vs H Q E h=>?_) (fun cdv A outer s H vs Q E hr h=>?_)
 ·obtain ⟨p,ms,m,M,b,rfl,_⟩:=h
  rfl
 obtain ⟨p,ms,m,M,b,rfl,hp,lm,m0,M12,q⟩:=h
 refine ⟨_,qAb (ps_while PassesOwn.never (qAo qFs (pv 1) (pv 3) (qAx _))
   (qAb (qAj (i:=4) qEk.nd rfl (Or.inl rfl) (qAh qBe (pv 2) qAe))
   (qAb (qAj (i:=5) qEk.nd rfl (Or.inr rfl) (qAh qBe (qAh qA4 (pv 2) qAe) (pv 1)))
   (qAb (qAj (i:=2) qEk.nd rfl (Or.inl rfl) (qAh qA4 (qAh qA4 (pv 2) qAe) (pv 1)))
   (qAb (qB6 (PW.pt (pw_and (qAo qDt (pv 4) qAe (qAx _)) (qFo (qAo qFs (qAs qAv rfl ml PySem.boot_len (qAa (pv 0) qAd)) qAe (qAx _)))))
     (qAf (qAj (i:=0) qEk.nd rfl (Or.inl rfl) (qAh qDm (pv 0) (qBa (qAa (qAh qCt qAe (pv 1)) qAd)))))
     (qAf (qB6 (PW.pt (pw_and (qAo qDt (pv 4) qAe (qAx _)) (qFo (qAo qFs (qAs qAv rfl ml PySem.boot_len (qAa (pv 0) qAd)) qAe (qAx _)))))
      (qAf (qAj (i:=0) qEk.nd rfl (Or.inl rfl) (qAh qDm (pv 0) (qBa (qAa (qAh op_or (qAh qCt qAe (pv 1)) (qAh qCt qAe (pv 5))) qAd)))))
      (qAf (qB6 (qAo qDt (pv 4) qAe (qAx _))
       (qAf (ps_lc (i:=0) (N:=mrN) (sc:=qAc sLMor) (N':=mrC) (sub:=[none,some 5,some 1]) rfl rfl (CmpOk.of (by decide +kernel)) rfl (qAr (pv 0))
        (fun C s H fp=>⟨qAi (i:=0) (by show mrC.Nodup;decide) rfl (Or.inl rfl),qBb,qAh op_or (pv 0) (qAh qCt (qAh qBy (qAh qGt (pv 0) (pv 1)) qAe) (pv 2))⟩) qEk.nd rfl (Or.inl rfl)))
       qA8)))))
   (qAf (ps_aug (i:=1) qEk.nd rfl (Or.inr rfl) qAe ip_add)))))))
  (qAf (qAw (pv 0))),?_⟩
 refine ⟨fun k σ H'=>∃ (p:Addr) (ms:List Nat) (m:Nat) (b:Int) (x4 x5:Option V),k=M - m/\σ=[some (.ref p),some (iV m),some (.int b),some (iV M),x4,x5]/\Ext H H'/\LsN H' p ms/\ms.length<=12/\0<m,⟨_,p,ms,m,b,none,none,rfl,rfl,Ext.refl _,hp,lm,m0⟩,?_⟩
 clear hp lm m0
 rintro k σ H' ⟨p,ms,m,b,x4,x5,rfl,rfl,e,hp,lm,m0⟩
 refine ⟨_,rfl,_,rfl,_,_,rfl,rfl,_,rfl,?_⟩
 refine qCg (fun c=>?_) (fun c=>?_)
 ·have c':m<M:=by
   have:(m:Int)<(M:Int):=of_decide_eq_true c
   omega
  refine ⟨fun σ' H'=>∃ k',k'<M - m/\∃ (p:Addr) (ms:List Nat) (m:Nat) (b:Int) (x4 x5:Option V),k'=M - m/\σ'=[some (.ref p),some (iV m),some (.int b),some (iV M),x4,x5]/\Ext H H'/\LsN H' p ms/\ms.length<=12/\0<m,fun _ _ h=>h,?_⟩
  have mm0:(0:Int)<(m:Int):=by omega
  obtain ⟨mt,hmt,mtl⟩:∃ mt:Nat,b / 4 % (m:Int)=(mt:Int)/\mt<m:=by
   have h1:=Int.emod_nonneg (b / 4) (show (m:Int)≠0 by omega)
   have h2:=Int.emod_lt_of_pos (b / 4) mm0
   exact ⟨(b / 4 % (m:Int)).toNat,by omega,by omega⟩
  refine ⟨_,rfl,_,_,rfl,rfl,(by show (0:Int)<_;decide),?_⟩
  refine ⟨_,rfl,_,_,rfl,rfl,⟨by decide,by decide⟩,_,rfl,_,_,rfl,rfl,mm0,?_⟩
  refine ⟨_,rfl,_,_,rfl,rfl,⟨by decide,by decide⟩,_,rfl,_,_,rfl,rfl,⟨mm0,by omega⟩,?_⟩
  have mte:(fun i j:Int=>V.int (i % j)) (b / 4) (m:Int)=iV mt:=by show V.int _=V.int _;rw [hmt]
  rw [mte]
  have fin:∀ (p':Addr) (ns:List Nat) (b':Int) (x4' x5':Option V) (H2:Hp),Ext H H2->LsN H2 p' ns->ns.length<=12->∃ k',k'<M - m/\∃ (p:Addr) (ms:List Nat) (m2:Nat) (b:Int) (x4 x5:Option V),k'=M - m2/\[some (V.ref p'),some (V.int ((m:Int)+1)),some (.int b'),some (iV M),x4',x5']=[some (.ref p),some (iV m2),some (.int b),some (iV M),x4,x5]/\Ext H H2/\LsN H2 p ms/\ms.length<=12/\0<m2:=fun p' ns b' x4' x5' H2 h1 h2 h3=>⟨M - (m+1),by omega,p',ns,m+1,b',x4',x5',rfl,rfl,h1,h2,h3,by omega⟩
  have nope:∀ (k k':Int),k≠k'->decide (V.int (b % 4)=V.int k)=true->¬decide (V.int (b % 4)=V.int k')=true:=fun k k' ne h1 h2=>by
   rw [decide_eq_true_iff,V.int.injEq] at h1 h2
   exact ne (h1.symm.trans h2)
  have bc:∀ z:Nat,Builtin.bitAnd ((z:Int) / 2^((mt:Int)).toNat) 1=(((if z.testBit mt=true then 1 else 0:Nat):Nat):Int):=fun z=>by
   rw [Int.toNat_natCast,shr_one]
   split <;> rfl
  refine ⟨_,rfl,rfl,_,rfl,?_⟩
  refine qCg (fun c1=>?_) (fun c1=>?_)
  ·refine ⟨_,rfl,p,_,rfl,.inl (SqL.of hp),_,_,rfl,rfl,_,rfl,?_⟩
   refine qCg (fun c2=>?_) (fun c2=>?_)
   ·have l8:ms.length<8:=by
     have:(((ms.map iV).length:Nat):Int)<8:=of_decide_eq_true c2
     rw [List.length_map] at this;omega
    refine ⟨_,rfl,_,rfl,_,_,rfl,rfl,⟨by omega,by omega,by decide⟩,(by show 1<=sizeLine;decide),fun l hl=>?_⟩
    have X1:=Ext.new hl (.lst [V.int (1*2^((m:Int)).toNat)])
    refine ⟨p,l,_,_,rfl,rfl,X1 _ _ hp,upd_same,?_,fun l2 hl2=>?_⟩
    ·rw [List.length_map]
     show _+1<=sizeLine
     exact Nat.le_of_lt (qAk (by omega))
    ·refine ⟨_,rfl,_,_,rfl,rfl,fin l2 (ms++[2^m]) _ _ _ _ (e.trans (X1.trans (Ext.new hl2 _))) ?_ (by rw [List.length_append];show _+1<=12;omega)⟩
     unfold LsN
     rw [upd_same,List.map_append]
     show some (HO.lst (_++[V.int (1*2^((m:Int)).toNat)]))=_
     rw [qCj];rfl
   ·refine ⟨_,rfl,rfl,_,rfl,?_⟩
    refine qCg (fun c3=>absurd c3 (nope 0 1 (by decide) c1)) (fun c3=>iteF ?_)
    refine ⟨_,rfl,rfl,_,rfl,?_⟩
    refine qCg (fun c4=>absurd c4 (nope 0 2 (by decide) c1)) (fun c4=>?_)
    exact ⟨_,rfl,_,_,rfl,rfl,fin p ms _ _ _ _ e hp lm⟩
  ·refine iteF ⟨_,rfl,rfl,_,rfl,?_⟩
   have thr:∀ (h:¬False),True:=fun _=>trivial
   refine qCg (fun c3=>?_) (fun c3=>?_)
   ·refine ⟨_,rfl,p,_,rfl,.inl (SqL.of hp),_,_,rfl,rfl,_,rfl,?_⟩
    refine qCg (fun c2=>?_) (fun c2=>?_)
    ·have l8:ms.length<8:=by
      have:(((ms.map iV).length:Nat):Int)<8:=of_decide_eq_true c2
      rw [List.length_map] at this;omega
     refine ⟨_,rfl,_,rfl,_,_,rfl,rfl,⟨by omega,by omega,by decide⟩,_,rfl,_,_,rfl,rfl,⟨by omega,by omega,by decide⟩,_,_,rfl,rfl,(by show 1<=sizeLine;decide),fun l hl=>?_⟩
     have X1:=Ext.new hl (.lst [V.int (Builtin.bitOr (1*2^((m:Int)).toNat) (1*2^((mt:Int)).toNat))])
     refine ⟨p,l,_,_,rfl,rfl,X1 _ _ hp,upd_same,?_,fun l2 hl2=>?_⟩
     ·rw [List.length_map]
      show _+1<=sizeLine
      exact Nat.le_of_lt (qAk (by omega))
     ·refine ⟨_,rfl,_,_,rfl,rfl,fin l2 (ms++[2^m ||| 2^mt]) _ _ _ _ (e.trans (X1.trans (Ext.new hl2 _))) ?_ (by rw [List.length_append];show _+1<=12;omega)⟩
      unfold LsN
      rw [upd_same,List.map_append]
      show some (HO.lst (_++[V.int (Builtin.bitOr (1*2^((m:Int)).toNat) (1*2^((mt:Int)).toNat))]))=_
      rw [qCj,qCj,bor_nat];rfl
    ·refine ⟨_,rfl,rfl,_,rfl,?_⟩
     refine qCg (fun c4=>absurd c4 (nope 1 2 (by decide) c3)) (fun c4=>?_)
     exact ⟨_,rfl,_,_,rfl,rfl,fin p ms _ _ _ _ e hp lm⟩
   ·refine iteF ⟨_,rfl,rfl,_,rfl,?_⟩
    refine qCg (fun c4=>?_) (fun c4=>?_)
    ·refine ⟨_,rfl,p,rfl,⟨_,SqL.of hp⟩,?_⟩
     refine qB4 (fun _=>true) (fun z=>z ||| (if z.testBit mt=true then 1 else 0) <<< m) hp (by omega) (fun z hz C B cc bb=>⟨Sle.set _ (Sle.refl _) (fun u z=>by cases z),?_⟩) ?_
     ·refine iteT (B:=B H') ⟨_,rfl,_,rfl,_,rfl,_,_,rfl,rfl,(by show (0:Int)<=_;omega),_,_,rfl,rfl,_,rfl,_,_,rfl,rfl,⟨by omega,by omega,?_⟩,_,_,rfl,rfl,?_⟩
      ·rw [bc]
       split <;> decide
      ·have:=cc rfl
       rw [show iV (z ||| (if z.testBit mt=true then 1 else 0) <<< m)=V.int (Builtin.bitOr (z:Int) (Builtin.bitAnd ((z:Int) / 2^((mt:Int)).toNat) 1*2^((m:Int)).toNat)) by rw [bc,shl_natG,bor_nat]] at this
       exact this
     ·intro l hl
      refine ⟨_,rfl,_,_,rfl,rfl,fin l _ _ _ _ _ (e.trans (Ext.new hl _)) upd_same ?_⟩
      rw [List.length_map]
      exact Nat.le_trans (List.length_filter_le _ _) lm
    ·exact ⟨_,rfl,_,_,rfl,rfl,fin p ms _ _ _ _ e hp lm⟩
 ·exact ⟨_,rfl,q p ms _ e hp (by omega)⟩
end
end My
namespace My
open PySem L2
theorem band_low (z p:Nat):Builtin.bitAnd (z:Int) (1*2^((p:Int)).toNat - 1)=((z&&&(2^p - 1):Nat):Int):=by
 rw [qCj]
 have:0<2^p:=Nat.pow_pos (by decide)
 rw [show ((2^p:Nat):Int) - 1=((2^p - 1:Nat):Int) by omega,qB3]
end My
namespace My
open PySem L2
end My
namespace My
open PySem L2
theorem qG0 {α β:Type} {R:α->β->Prop}:∀ {as:List α} {bs:List β} {cs:List α} {ds:List β},Paired R as bs->Paired R cs ds->Paired R (as++cs) (bs++ds)
 | _,_,_,_,.nil,h=>h
 | _,_,_,_,.cons a r,h=>.cons a (qG0 r h)
def rwE (x:Nat) (n:Nat):List (Int×Int):=(List.range n).map fun (y:Nat)=>((0+(x:Int)),(0+(y:Int)))
def prs:Nat->List (Int×Int)
 | 0=>[]
 | i+1=>prs i++rwE i 6
def pr2 (t:Int×Int):Bool:=decide (t.1<t.2) && decide (t.2<5)
def pr3 (t:Int×Int):Bool:=decide (t.1<3) && decide (3<=t.2)
theorem rwE_len (x n:Nat):(rwE x n).length=n:=by unfold rwE;rw [List.length_map,List.length_range]
theorem qD8:∀ i,(prs i).length=6*i
 | 0=>rfl
 | i+1=>by
  show (prs i++rwE i 6).length=_
  rw [List.length_append,qD8 i,rwE_len];omega
theorem pr2_pos:0<((prs 6).filter pr2).length:=by decide +kernel
theorem pr3_pos:0<((prs 6).filter pr3).length:=by decide +kernel
theorem qGd {K:PySem.W.Frag} {as:List Addr} {es:List (Int×Int)} {Q:List V->Hp->Prop} {H1:Hp} {σ0:St} {g:TG} {tt:TT} {te:TE} {p:Addr} (pr:Int×Int->Bool) (hp:H1 p=some (.lst (as.map V.ref))) (pe:Paired (fun a t=>H1 a=some (.tup (enV t))) as es) (ln:es.length<=36)
  (hs:∀ a t,H1 a=some (.tup (enV t))->∀ (C:V->Hp->Prop) (B:Hp->Prop),(pr t=true->C (.ref a) H1)->(pr t=false->B H1)->g (.ref a) σ0 H1 fun σ2 H2=>Sle σ0 σ2/\tt σ2 H2 fun b H3=>if b=true then te σ2 H3 C else B H3)
  (hd:∀ bs,Paired (fun a t=>H1 a=some (.tup (enV t))) bs (es.filter pr)->Q (bs.map V.ref) H1):qDo (Itl K p) σ0 g tt te Q H1:=by
 have la:as.length=es.length:=pe.length
 refine qAu (xs:=as.map V.ref) (fun j ys H2=>H2=H1/\∃ bs:List Addr,ys=bs.map V.ref/\Paired (fun a t=>H1 a=some (.tup (enV t))) bs ((es.take j).filter pr)) ⟨rfl,[],rfl,.nil⟩ (fun j ys H2 _ h=>by rw [h.1];exact SqL.of hp) ?_ ?_
 ·rintro j x ys H2 hx ⟨rfl,bs,rfl,pb⟩
  obtain ⟨a,rfl,ha⟩:=qFk hx
  obtain ⟨t,ht,h1⟩:=qBf pe ha
  have hj:=qA7 ht
  have lb:bs.length=_:=pb.length
  have sz:=List.length_filter_le pr (es.take j)
  rw [List.length_take] at sz
  refine hs a t h1 _ _ (fun b=>⟨by rw [List.length_map];exact qAk (by omega),nxt (qA7 hx) ⟨rfl,bs++[a],by rw [List.map_append];rfl,?_⟩⟩) (fun b=>nxt (qA7 hx) ⟨rfl,bs,rfl,?_⟩)
  ·rw [filt_t ht b];exact pb.snoc h1
  ·rw [filt_f ht b];exact pb
 ·rintro ys H2 ⟨rfl,bs,rfl,pb⟩
  rw [List.length_map,la,List.take_of_length_le (Nat.le_refl _)] at pb
  exact hd bs pb
section
variable {P:Program} {w:World} {K:PySem.W.Frag} {mg:Str->Option Value} {base:Heap} {f f1 f2 f3 f4 f5:Addr} {fd fd1 fd2 fd3 fd4 fd5:FuncData}
abbrev smN:List Str:=["_law_kind","_law_base","_law_pairs","_law_one","_law_lights","_law_point"]
theorem qDw:FnScope smN ["_law_kind"] (qAc qF9):=⟨rfl,rfl,rfl,by decide +kernel,rfl,by decide +kernel,by decide +kernel⟩
abbrev smC:List Str:=["_law_k","_law_pair","_law_point"]
theorem ok_lsma (F:Fun K "_law_small" "_law_small" qF9 f fd) (G1:FnOk P w K mg base CX0 2 f1 fd1 ["_law_numbers","_law_many"] spLCro) (bG1:qA1 K fd1 ["_law_numbers","_law_many"] []) (kG1:PySem.W.keepIn K (.ref f1)=true) (mG1:mg "_law_crossing" = some (.ref f1))
  (G2:FnOk P w K mg base CX0 1 f2 fd2 ["_law_numbers"] spLRed) (bG2:qA1 K fd2 ["_law_numbers"] []) (kG2:PySem.W.keepIn K (.ref f2)=true) (mG2:mg "_law_reduced" = some (.ref f2)) (msu:mg "sum" = none) (mr:mg "range" = none) (me:mg "enumerate" = none) (ml:mg "len" = none):FnOk P w K mg base CX0 3 f fd ["_law_kind"] spLSma:=by
 refine F.ok qDw (fun vs H Q E h=>?_) (fun cdv A outer s H vs Q E hr h=>?_)
 ·obtain ⟨k,rfl,_⟩:=h
  rfl
 obtain ⟨k,rfl,k0,k4,q⟩:=h
 have hr1:=hr.mono (j:=1) (by decide)
 refine ⟨_,qAb (qB6 (qAo qFs (pv 0) qAe (qAx _))
   (qAb (qAj (i:=1) qDw.nd rfl (Or.inl rfl) (qBa (qAa qAe (qAa qAe (qAa qAe (qAa qAe qAd))))))
   (qAf (qAw (qCm (qAa qAe (qAa (qBg qCc (qBa (qAa (pv 1) (qAa (qAg G1 hr rfl mG1 kG1 bG1 .nil qAt (qAa (pv 1) (qAa qAe qAd))) qAd))) (pv 0) (fun _ _=>rfl)) qAd))))))
   qA8)
  (qAb (qAj (i:=2) qDw.nd rfl (Or.inl rfl) (qBa qAd))
  (qAb (qBi PassesOwn.never rfl (qBj rfl mr (qAa qAe qAd)) (qAi (i:=3) qDw.nd rfl (Or.inr rfl))
   (qAf (qAj (i:=2) qDw.nd rfl (Or.inl rfl) (qAh qDm (pv 2) (qBx (N:=smN) (sc:=qAc qF9) (N':=["_law_other","_law_one"]) (sub:=[none,some 3]) rfl rfl (CmpOk.of (by decide +kernel)) rfl (qBj rfl mr (qAa qAe qAd))
    (fun C s H fp=>⟨qAi (i:=0) (by show (["_law_other","_law_one"]:List Str).Nodup;decide) rfl (Or.inl rfl),qBb,qCm (qAa (pv 1) (qAa (pv 0) qAd))⟩))))))
  (qAb (qGn (fun σ H2=>∃ (pa:Addr) (x3:Option V) (es:List (Int×Int)),σ=[some (.int k),none,some (.ref pa),x3,none,none]/\Ext H H2/\qDd H2 pa es/\0<es.length/\es.length<=36) (qB6 (qAo qDt (pv 0) qAe (qAx _))
   (qAf (ps_lc (i:=2) (N:=smN) (sc:=qAc qF9) (N':=["_law_pair"]) (sub:=[none]) rfl rfl (CmpOk.of (by decide +kernel)) rfl (qAr (pv 2))
    (fun C s H fp=>⟨qAi (i:=0) (by show (["_law_pair"]:List Str).Nodup;decide) rfl (Or.inl rfl),qB5 (pt_chain qFs qFs (qBg (show IxR _ (rIxT K) from qBl) (pv 0) qAe (fun _ _=>rfl)) (qBg (show IxR _ (rIxT K) from qBl) (pv 0) qAe (fun _ _=>rfl)) qAe),pv 0⟩) qDw.nd rfl (Or.inl rfl)))
   (qAf (ps_lc (i:=2) (N:=smN) (sc:=qAc qF9) (N':=["_law_pair"]) (sub:=[none]) rfl rfl (CmpOk.of (by decide +kernel)) rfl (qAr (pv 2))
    (fun C s H fp=>⟨qAi (i:=0) (by show (["_law_pair"]:List Str).Nodup;decide) rfl (Or.inl rfl),qB5 (pt_chain qFs op_le (qBg (show IxR _ (rIxT K) from qBl) (pv 0) qAe (fun _ _=>rfl)) qAe (qBg (show IxR _ (rIxT K) from qBl) (pv 0) qAe (fun _ _=>rfl))),pv 0⟩) qDw.nd rfl (Or.inl rfl)))))
  (qAb (qAj (i:=4) qDw.nd rfl (Or.inl rfl) (qBa qAd))
  (qAb (qBi PassesOwn.never rfl (qBj rfl mr (qAa qAe qAd)) (qAi (i:=5) qDw.nd rfl (Or.inr rfl))
   (qAf (qCl (qD9 PySem.F.plainAttrs_list PySem.F.slot_list_append PySem.F.type_list_append qBp (pv 4) (qAa (qAs (qDb rfl) rfl msu qDc (qAa (qBx (N:=smN) (sc:=qAc qF9) (N':=smC) (sub:=[none,none,some 5]) rfl rfl (CmpOk.of (by decide +kernel)) rfl (pi_enum rfl me (qAa (pv 2) qAd))
    (fun C s H fp=>⟨(show PG _ _ (gTup K 2 _) from qC5 rfl (qAz (qAi (i:=0) (by show smC.Nodup;decide) rfl (Or.inl rfl)) (qAz (qAi (i:=1) (by show smC.Nodup;decide) rfl (Or.inl rfl)) qCb))),
     qB5 (qAo (show OpR _ (compareOp .In) (rIn K false) from op_in_seq) (pv 2) (pv 1) (by with_unfolding_all rfl)),qAh qCt qAe (pv 0)⟩)) qAd)) qAd)))))
  (qAf (qAw (qCm (qAa (qAs qAv rfl ml PySem.boot_len (qAa (pv 2) qAd)) (qAa (qAg G2 hr1 rfl mG2 kG2 bG2 .nil qAt (qAa (pv 4) qAd)) qAd)))))))))),?_⟩
 refine ⟨_,rfl,_,_,rfl,rfl,_,rfl,?_⟩
 refine qCg (fun c=>?_) (fun c=>?_)
 ·have k2:k<2:=of_decide_eq_true c
  refine ⟨(by show 4<=sizeLine;decide),fun l0 h0=>?_⟩
  have X0:=Ext.new h0 (.lst ([7,25,42,75].map iV))
  have hl0:LsN (upd H l0 (.lst ([7,25,42,75].map iV))) l0 [7,25,42,75]:=upd_same
  refine ⟨_,rfl,_,rfl,l0,[7,25,42,75],7,rfl,hl0,by decide,by decide,fun r ns H1 e1 r0 hr1' ln=>?_⟩
  refine ⟨(by show 2<=sizeLine;decide),fun l1 hl1=>?_⟩
  have X1:=Ext.new hl1 (.lst [V.ref l0,V.ref r])
  obtain rfl | rfl:k=0\/k=1:=by omega
  ·refine ⟨_,rfl,l1,_,_,_,rfl,rfl,SqL.of upd_same,(by exact qAy (j:=0) rfl),(by show 2<=sizeLine;decide),fun T hT=>?_⟩
   have XT:=X1.trans (Ext.new hT (.tup [iV 7,V.ref l0]))
   exact q T l0 7 [7,25,42,75] _ (X0.trans (e1.trans XT)) upd_same (XT _ _ (e1 _ _ hl0)) (by decide) (by decide) (by decide)
  ·refine ⟨_,rfl,l1,_,_,_,rfl,rfl,SqL.of upd_same,(by exact qAy (j:=1) rfl),(by show 2<=sizeLine;decide),fun T hT=>?_⟩
   have XT:=X1.trans (Ext.new hT (.tup [iV 7,V.ref r]))
   exact q T r 7 ns _ (X0.trans (e1.trans XT)) upd_same (XT _ _ hr1') ln (by decide) (by decide)
 refine ⟨Nat.zero_le _,fun p0 hp0=>?_⟩
 refine ⟨6,rfl,by decide,by decide,qB1 (lo:=0) (n:=6) (fun i σ H'=>∃ (pa:Addr) (x3:Option V),σ=[some (.int k),none,some (.ref pa),x3,none,none]/\Ext H H'/\qDd H' pa (prs i)) ⟨p0,none,rfl,Ext.new hp0 _,[],upd_same,.nil⟩ ?_ ?_⟩
 ·rintro i σ H' hi ⟨pa,x3,rfl,e,⟨as,hpa,pae⟩⟩
  have la:as.length=6*i:=by rw [pae.length,qD8]
  refine ⟨_,rfl,6,rfl,by decide,by decide,?_⟩
  refine qE6 (lo:=0) (n:=6) (fun j ys H2=>Ext H' H2/\∃ bs:List Addr,ys=bs.map V.ref/\Paired (fun a t=>H2 a=some (.tup (enV t))) bs (rwE i j)) ⟨Ext.refl _,[],rfl,.nil⟩ ?_ ?_
  ·rintro j ys H2 hj ⟨e2,bs,rfl,pb⟩
   have lb:bs.length=j:=by rw [pb.length,rwE_len]
   refine ⟨Sle.set _ (Sle.refl _) (fun u z=>by cases z),iteT (B:=False) ⟨_,rfl,_,rfl,(by show 2<=sizeLine;decide),fun T hT=>⟨by rw [List.length_map];exact qAk (by omega),nxt hj ⟨e2.trans (Ext.new hT _),bs++[T],by rw [List.map_append];rfl,?_⟩⟩⟩⟩
   have er:rwE i (j+1)=rwE i j++[((0+(i:Int)),(0+(j:Int)))]:=by
    unfold rwE
    rw [List.range_succ,List.map_append];rfl
   rw [er]
   exact Paired.snoc (Paired.mapP pb fun a t z=>(Ext.new hT _) _ _ z) upd_same
  ·rintro ys H2 ⟨e2,bs,rfl,pb⟩ l hl
   have lb:bs.length=6:=by rw [pb.length,rwE_len]
   have Xl:=e2.trans (Ext.new hl (.lst (bs.map V.ref)))
   refine ⟨pa,l,_,_,rfl,rfl,Xl _ _ hpa,upd_same,by rw [List.length_map,List.length_map];exact Nat.le_of_lt (qAk (by omega)),fun l3 hl3=>?_⟩
   have X3:=Ext.new hl3 (.lst (as.map V.ref++bs.map V.ref))
   refine ⟨l3,_,rfl,(e.trans Xl).trans X3,as++bs,by rw [upd_same,List.map_append],qG0 (Paired.mapP pae fun a t z=>(Xl.trans X3) _ _ z) (Paired.mapP pb fun a t z=>((Ext.new hl _).trans X3) _ _ z)⟩
 rintro σ H' ⟨pa,x3,rfl,e,⟨as,hpa,pae⟩⟩
 refine ⟨?_,?_⟩
 ·refine ⟨_,rfl,rfl,_,rfl,?_⟩
  refine qCg (fun ck=>?_) (fun ck=>?_)
  ·refine ⟨_,rfl,pa,rfl,⟨_,SqL.of hpa⟩,?_⟩
   refine qGd pr2 hpa pae (by rw [qD8];decide) (fun a t ha C B c b=>⟨Sle.set _ (Sle.refl _) (fun u z=>by cases z),?_⟩) ?_
   ·refine ⟨_,rfl,a,_,_,_,rfl,rfl,SqT.of ha,(by exact qAy (j:=0) rfl),_,rfl,a,_,_,_,rfl,rfl,SqT.of ha,(by exact qAy (j:=1) rfl),_,_,rfl,rfl,_,rfl,?_⟩
    refine qCg (fun c1=>?_) (fun c1=>?_)
    ·refine ⟨_,_,rfl,rfl,_,rfl,?_⟩
     refine qCg (fun c2=>⟨_,rfl,c ?_⟩) (fun c2=>b ?_)
     ·show (decide _ && decide _)=true
      rw [c1,c2];rfl
     ·show (decide _ && decide _)=false
      rw [c1,Bool.true_and];simpa using c2
    ·refine ⟨_,rfl,iteF (b ?_)⟩
     show (decide _ && decide _)=false
     rw [show decide _=false by simpa using c1];rfl
   ·intro bs pb l hl
    have Xl:=Ext.new hl (.lst (bs.map V.ref))
    exact ⟨l,_,_,rfl,e.trans Xl,⟨bs,upd_same,Paired.mapP pb fun a t z=>Xl _ _ z⟩,pr2_pos,Nat.le_trans (List.length_filter_le _ _) (by rw [qD8];decide)⟩
  ·refine ⟨_,rfl,pa,rfl,⟨_,SqL.of hpa⟩,?_⟩
   refine qGd pr3 hpa pae (by rw [qD8];decide) (fun a t ha C B c b=>⟨Sle.set _ (Sle.refl _) (fun u z=>by cases z),?_⟩) ?_
   ·refine ⟨_,rfl,a,_,_,_,rfl,rfl,SqT.of ha,(by exact qAy (j:=0) rfl),_,_,rfl,rfl,_,rfl,?_⟩
    refine qCg (fun c1=>?_) (fun c1=>?_)
    ·refine ⟨_,rfl,a,_,_,_,rfl,rfl,SqT.of ha,(by exact qAy (j:=1) rfl),_,_,rfl,rfl,_,rfl,?_⟩
     refine qCg (fun c2=>⟨_,rfl,c ?_⟩) (fun c2=>b ?_)
     ·show (decide _ && decide _)=true
      rw [c1,c2];rfl
     ·show (decide _ && decide _)=false
      rw [c1,Bool.true_and];simpa using c2
    ·refine ⟨_,rfl,iteF (b ?_)⟩
     show (decide _ && decide _)=false
     rw [show decide _=false by simpa using c1];rfl
   ·intro bs pb l hl
    have Xl:=Ext.new hl (.lst (bs.map V.ref))
    exact ⟨l,_,_,rfl,e.trans Xl,⟨bs,upd_same,Paired.mapP pb fun a t z=>Xl _ _ z⟩,pr3_pos,Nat.le_trans (List.length_filter_le _ _) (by rw [qD8];decide)⟩
 ·rintro σ H2 ⟨pa,x3,es,rfl,e,en,pos,le36⟩
  obtain ⟨bs,hpa,pae⟩:=id en
  have lb:bs.length=es.length:=pae.length
  refine ⟨Nat.zero_le _,fun li li0=>?_⟩
  refine ⟨6,rfl,by decide,by decide,qB1 (lo:=0) (n:=6) (fun i σ H'=>∃ (x5:Option V) (ns:List Nat),σ=[some (.int k),none,some (.ref pa),x3,some (.ref li),x5]/\Ext H2 H'/\LsN H' li ns/\ns.length<=i) ⟨none,[],rfl,Ext.new li0 _,upd_same,Nat.le_refl _⟩ ?_ ?_⟩
  ·rintro i σ H' hi ⟨x5,ns,rfl,e2,hli,ln⟩
   refine ⟨_,rfl,.inl ⟨rfl,_,SqL.of hli⟩,_,rfl,pa,_,rfl,SqL.of (e2 _ _ hpa),?_⟩
   rw [List.length_map]
   refine qE5 (fun j ys H3=>Ext H' H3/\∃ ms:List Nat,ys=ms.map iV/\ms.length<=j) ⟨Ext.refl _,[],rfl,Nat.le_refl _⟩ (fun j ys H3 _ p=>SqL.of (p.1 _ _ (e2 _ _ hpa))) ?_ ?_
   ·rintro j ys H3 T hj ⟨e3,ms,rfl,lm⟩ hT
    have gd:(bs.map V.ref).getD j .non = .ref bs[j]:=by rw [List.getD_eq_getElem?_getD,List.getElem?_map,List.getElem?_eq_getElem hj];rfl
    obtain ⟨t,ht,h1⟩:=qBf pae (List.getElem?_eq_getElem hj)
    have e4:=e3.trans (Ext.new hT (.tup [V.int (j:Nat),(bs.map V.ref).getD j .non]))
    refine ⟨T,_,rfl,SqT.of upd_same,rfl,_,_,rfl,_,_,rfl,rfl,?_⟩
    refine ⟨Sle.set _ (Sle.set _ (Sle.refl _) (fun u z=>by cases z)) (fun u z=>by cases z),?_⟩
    refine ⟨_,rfl,_,rfl,bs[j],_,gd,.inr (SqT.of ((e2.trans e4) _ _ h1)),rfl,rfl,_,rfl,?_⟩
    refine qCg (fun c3=>?_) (fun c3=>?_)
    ·refine ⟨_,rfl,_,_,rfl,rfl,⟨by omega,by omega,by decide⟩,by rw [List.length_map];exact qAk (by omega),nxt hj ⟨e4,ms++[2^j],?_,by rw [List.length_append];exact Nat.succ_le_succ lm⟩⟩
     rw [List.map_append]
     show _++[V.int (1*2^(((j:Nat):Int)).toNat)]=_
     rw [qCj];rfl
    ·exact nxt hj ⟨e4,ms,rfl,Nat.le_succ_of_le lm⟩
   ·rintro ys H3 ⟨e3,ms,rfl,lm⟩ l hl
    have e4:=e3.trans (Ext.new hl (.lst (ms.map iV)))
    refine ⟨l,ms.map (fun n:Nat=>(n:Int)),rfl,SqL.of (by rw [upd_same,qC0]),?_⟩
    rw [qDe]
    refine ⟨li,_,_,rfl,rfl,e4 _ _ hli,by rw [List.length_map];exact qAk (by omega),?_⟩
    refine ⟨_,ns++[ms.sum],rfl,(e2.trans e4).over li0 _,?_,by rw [List.length_append];exact Nat.succ_le_succ ln⟩
    unfold LsN
    rw [upd_same,List.map_append];rfl
  ·rintro σ H' ⟨x5,ns,rfl,e2,hli,ln⟩
   obtain ⟨m0,lt0⟩:=big_m ns
   refine ⟨_,rfl,pa,_,rfl,.inl (SqL.of (e2 _ _ hpa)),_,rfl,li,ns,m0,rfl,hli,by omega,lt0,fun r H5 e5 r0 hr5=>⟨(by show 2<=sizeLine;decide),fun T hT=>?_⟩⟩
   have lR:=redL_le ns
   have XT:=Ext.new hT (.tup [V.int (((bs.map V.ref).length:Nat):Int),V.ref r])
   refine q T r es.length (redL ns) _ ((e.trans e2).trans (e5.trans XT)) ?_ (XT _ _ hr5) (by omega) pos le36
   rw [upd_same,List.length_map,lb]
end
end My
namespace My
open PySem L2
def spLSto (K:PySem.W.Frag):Sp:=fun vs H Q _=>∃ (a:Addr) (ns:List Int),vs=[.ref a,.int 1]/\SqL K H a (ns.map V.int)/\∀ (T b:Addr) (m:Nat) (ms:List Nat) (H':Hp),Ext H H'->H' T=some (.tup [iV m,.ref b])->LsN H' b ms->m<=12->ms.length<=8->Q (.ref T) H'
section
variable {P:Program} {w:World} {K:PySem.W.Frag} {mg:Str->Option Value} {base:Heap} {f f1 f2 f3 f4 f5 f6 f7:Addr} {fd fd1 fd2 fd3 fd4 fd5 fd6 fd7:FuncData}
abbrev stN:List Str:=["_law_script","_law_at","_law_big_here","_law_net_here","_law_many","_law_base","_law_most"]
theorem qCd:FnScope stN ["_law_script","_law_at"] (qAc sLSto):=⟨rfl,rfl,rfl,by decide +kernel,rfl,by decide +kernel,by decide +kernel⟩
theorem ok_lsto (F:Fun K "_law_steps_of" "_law_steps_of" sLSto f fd)
  (G1:FnOk P w K mg base CX0 2 f1 fd1 ["_law_script","_law_k"] (spBig K)) (bG1:qA1 K fd1 ["_law_script","_law_k"] []) (kG1:PySem.W.keepIn K (.ref f1)=true) (mG1:mg "_law_big" = some (.ref f1))
  (G2:FnOk P w K mg base CX0 3 f2 fd2 ["_law_script","_law_at"] (spNet K)) (bG2:qA1 K fd2 ["_law_script","_law_at"] []) (kG2:PySem.W.keepIn K (.ref f2)=true) (mG2:mg "_law_net" = some (.ref f2))
  (G3:FnOk P w K mg base CX0 1 f3 fd3 ["_law_net_here"] spLEven) (bG3:qA1 K fd3 ["_law_net_here"] []) (kG3:PySem.W.keepIn K (.ref f3)=true) (mG3:mg "_law_even" = some (.ref f3))
  (G4:FnOk P w K mg base CX0 1 f4 fd4 ["_law_big_here","_law_many"] spLFre) (bG4:qA1 K fd4 ["_law_big_here","_law_many"] []) (kG4:PySem.W.keepIn K (.ref f4)=true) (mG4:mg "_law_free" = some (.ref f4))
  (G5:FnOk P w K mg base CX0 3 f5 fd5 ["_law_kind"] spLSma) (bG5:qA1 K fd5 ["_law_kind"] []) (kG5:PySem.W.keepIn K (.ref f5)=true) (mG5:mg "_law_small" = some (.ref f5))
  (G6:FnOk P w K mg base CX0 1 f6 fd6 ["_law_base","_law_many","_law_big_here","_law_most"] spLMor) (bG6:qA1 K fd6 ["_law_base","_law_many","_law_big_here","_law_most"] []) (kG6:PySem.W.keepIn K (.ref f6)=true) (mG6:mg "_law_with_more" = some (.ref f6))
  (G7:FnOk P w K mg base CX0 1 f7 fd7 ["_law_numbers"] spLRed) (bG7:qA1 K fd7 ["_law_numbers"] []) (kG7:PySem.W.keepIn K (.ref f7)=true) (mG7:mg "_law_reduced" = some (.ref f7))
  (ml:mg "len" = none) (mmi:mg "min" = none):FnOk P w K mg base CX0 4 f fd ["_law_script","_law_at"] (spLSto K):=by
 refine F.ok qCd (fun vs H Q E h=>?_) (fun cdv A outer s H vs Q E hr h=>?_)
 ·obtain ⟨a,ns,rfl,_⟩:=h
  rfl
 obtain ⟨a,ns,rfl,hS,q⟩:=h
 have hr1:=hr.mono (j:=1) (by decide)
 have hr2:=hr.mono (j:=2) (by decide)
 let PB:Nat->St->Hp->Prop:=fun bd σ H'=>∃ (B:Int) (r:Addr) (m:Nat) (b:Addr) (ms:List Nat) (x6:Option V),σ=[some (.ref a),some (.int 1),some (.int B),some (.ref r),some (iV m),some (.ref b),x6]/\Ext H H'/\LsN H' b ms/\m<=12/\ms.length<=bd
 refine ⟨_,qAb (qAj (i:=2) qCd.nd rfl (Or.inl rfl) (qAg G1 hr2 rfl mG1 kG1 bG1 .nil qAt (qAa (pv 0) (qAa (qAh qBk (pv 1) qAe) qAd))))
  (qAb (qAj (i:=3) qCd.nd rfl (Or.inl rfl) (qAg G2 hr rfl mG2 kG2 bG2 .nil qAt (qAa (pv 0) (qAa (pv 1) qAd))))
  (qAb (qGn (PB 12) (qGo (qCm (qAa (qAs qAv rfl ml PySem.boot_len (qAa (pv 3) qAd)) (qAa (qAg G3 hr1 rfl mG3 kG3 bG3 .nil qAt (qAa (pv 3) qAd)) qAd))) (qC5 rfl (qAz (qAi (i:=4) qCd.nd rfl (Or.inr rfl)) (qAz (qAi (i:=5) qCd.nd rfl (Or.inl rfl)) qCb)))))
  (qAb (qGn (PB 24) (qB6 (qAo qFs (qAh qBe (pv 2) qAe) qAe (qAx _))
   (qAf (qAj (i:=5) qCd.nd rfl (Or.inl rfl) (qAh qDm (pv 5) (qCy qFc (qAg G4 hr1 rfl mG4 kG4 bG4 .nil qAt (qAa (qAh qA4 (pv 2) qAe) (qAa (pv 4) qAd))) qDs (qDr (qAh qBk qAe (qAh qBe (pv 2) qAe)))))))
   qA8))
  (qAb (qGn (PB 24) (qB6 (qAo qDt (qAh qBe (pv 2) qAe) qAe (qAx _))
   (qAb (qAj (i:=4) qCd.nd rfl (Or.inr rfl) (qAh qBk qAe (qAh qBe (qAh qA4 (pv 2) qAe) qAe)))
   (qAf (qAj (i:=5) qCd.nd rfl (Or.inl rfl) (qAg G4 hr1 rfl mG4 kG4 bG4 .nil qAt (qAa (qAh qA4 (pv 2) qAe) (qAa (pv 4) qAd))))))
   qA8))
  (qAb (qGn (PB 24) (qB6 (qAo op_gt (qAh qBe (pv 2) qAe) qAe (qAx _))
   (qAb (qGo (qAg G5 hr rfl mG5 kG5 bG5 .nil qAt (qAa (qAh qBe (qAh qA4 (pv 2) qAe) qAe) qAd)) (qC5 rfl (qAz (qAi (i:=4) qCd.nd rfl (Or.inr rfl)) (qAz (qAi (i:=5) qCd.nd rfl (Or.inl rfl)) qCb))))
   (qAb (qAj (i:=6) qCd.nd rfl (Or.inl rfl) (qAs (qF2 rfl) rfl mmi qF3 (qAa qAe (qAa (qAh qBk (pv 4) (qAh qBe (qAh qA4 (pv 2) qAe) qAe)) qAd))))
   (qAb (qAj (i:=5) qCd.nd rfl (Or.inl rfl) (qAg G6 hr1 rfl mG6 kG6 bG6 .nil qAt (qAa (pv 5) (qAa (pv 4) (qAa (qAh qA4 (pv 2) qAe) (qAa (pv 6) qAd))))))
   (qAf (qAj (i:=4) qCd.nd rfl (Or.inr rfl) (pv 6))))))
   qA8))
  (qAb (qAj (i:=5) qCd.nd rfl (Or.inl rfl) (qCy qFc (qAg G7 hr1 rfl mG7 kG7 bG7 .nil qAt (qAa (pv 5) qAd)) qDs (qDr qAe)))
  (qAb (ps_while PassesOwn.never (qAo op_gt (qAh qDk (pv 4) (qAs qAv rfl ml PySem.boot_len (qAa (pv 5) qAd))) qAe (qAx _))
   (qAb (ps_aug (i:=4) qCd.nd rfl (Or.inr rfl) qAe ip_sub)
   (qAf (qAj (i:=5) qCd.nd rfl (Or.inl rfl) (qAg G7 hr1 rfl mG7 kG7 bG7 .nil qAt (qAa (qBx (N:=stN) (sc:=qAc sLSto) (N':=["_law_step","_law_many"]) (sub:=[none,some 4]) rfl rfl (CmpOk.of (by decide +kernel)) rfl (qAr (pv 5))
    (fun C s H fp=>⟨qAi (i:=0) (by show (["_law_step","_law_many"]:List Str).Nodup;decide) rfl (Or.inl rfl),qBb,qAh qBy (pv 0) (qAh qDk (qAh qCt qAe (pv 1)) qAe)⟩)) qAd))))))
  (qAf (qAw (qCm (qAa (pv 4) (qAa (pv 5) qAd)))))))))))),?_⟩
 refine ⟨_,rfl,_,rfl,_,_,rfl,rfl,a,ns,_,rfl,hS,by decide,by decide,fun B=>?_⟩
 refine ⟨_,rfl,_,rfl,a,ns,rfl,hS,fun r net H1 e1 r0 nt ln tx rs=>?_⟩
 refine ⟨?_,?_⟩
 ·obtain ⟨as,hn1,pr⟩:=id nt
  have lA:as.length=net.length:=pr.length
  refine ⟨_,rfl,r,_,rfl,.inl (SqL.of hn1),_,rfl,r,net,rfl,nt,ln,fun ev F H2 e2 ev0 hev lF=>?_⟩
  refine ⟨(by show 2<=sizeLine;decide),fun T hT=>⟨T,_,rfl,SqT.of upd_same,rfl,_,_,rfl,_,_,rfl,rfl,?_⟩⟩
  have XT:=Ext.new hT (.tup [V.int (((as.map V.ref).length:Nat):Int),V.ref ev])
  exact ⟨B,r,(as.map V.ref).length,ev,F,none,rfl,e1.trans (e2.trans XT),XT _ _ hev,by rw [List.length_map];omega,by omega⟩
 rintro σ H2 ⟨B,r,m,b,ms,x6,rfl,e,hb,m12,lm⟩
 refine ⟨?_,?_⟩
 ·refine ⟨_,rfl,_,_,rfl,rfl,(by show (0:Int)<_;decide),_,_,rfl,rfl,_,rfl,?_⟩
  refine qCg (fun c=>?_) (fun c=>?_)
  ·have c':B % 8<2:=of_decide_eq_true c
   have b0:=Int.emod_nonneg B (show (8:Int)≠0 by decide)
   obtain ⟨t,ht⟩:∃ t:Nat,1+B % 8=(t:Int):=⟨(1+B % 8).toNat,by omega⟩
   refine ⟨_,rfl,_,rfl,_,_,rfl,rfl,⟨by decide,by decide⟩,_,rfl,_,m,rfl,m12,fun r2 ns2 H3 e3 r20 hr2' l2=>?_⟩
   refine ⟨_,rfl,_,_,rfl,rfl,(by show (0:Int)<_;decide),_,_,rfl,rfl,_,rfl,r2,_,rfl,SqL.of hr2',fun l hl=>?_⟩
   rw [show cutV (ns2.map iV) none (some (1+B % 8))=(ns2.take t).map iV by rw [ht,cut_to,List.map_take]]
   have Xl:=Ext.new hl (.lst ((ns2.take t).map iV))
   have lt:=List.length_take_le t ns2
   have lt2:(ns2.take t).length<=ns2.length:=by rw [List.length_take];omega
   refine ⟨b,l,_,_,rfl,rfl,(e3.trans Xl) _ _ hb,upd_same,by rw [List.length_map,List.length_map];exact Nat.le_of_lt (qAk (by omega)),fun l3 hl3=>?_⟩
   exact ⟨B,r,m,l3,ms++ns2.take t,x6,rfl,((e.trans e3).trans Xl).trans (Ext.new hl3 _),by unfold LsN;rw [upd_same,List.map_append],m12,by rw [List.length_append];omega⟩
  ·exact ⟨B,r,m,b,ms,x6,rfl,e,hb,m12,by omega⟩
 clear e hb m12 lm
 rintro σ H2 ⟨B,r,m,b,ms,x6,rfl,e,hb,m12,lm⟩
 refine ⟨?_,?_⟩
 ·refine ⟨_,rfl,_,_,rfl,rfl,(by show (0:Int)<_;decide),rfl,_,rfl,?_⟩
  refine qCg (fun c=>?_) (fun c=>?_)
  ·have b0:=Int.emod_nonneg (B / 8) (show (12:Int)≠0 by decide)
   have b1:=Int.emod_lt_of_pos (B / 8) (show (0:Int)<12 by decide)
   obtain ⟨m',hm'⟩:∃ m':Nat,1+B / 8 % 12=(m':Int):=⟨(1+B / 8 % 12).toNat,by omega⟩
   have ev:(fun i j:Int=>V.int (i+j)) 1 (B / 8 % 12)=iV m':=congrArg V.int hm'
   refine ⟨_,rfl,_,_,rfl,rfl,⟨by decide,by decide⟩,_,_,rfl,rfl,(by show (0:Int)<_;decide),_,_,rfl,rfl,?_⟩
   rw [ev]
   exact ⟨_,rfl,_,_,rfl,rfl,⟨by decide,by decide⟩,_,rfl,_,m',rfl,by omega,fun r2 ns2 H3 e3 r20 hr2' l2=>⟨B,r,m',r2,ns2,x6,rfl,e.trans e3,hr2',by omega,by omega⟩⟩
  ·exact ⟨B,r,m,b,ms,x6,rfl,e,hb,m12,lm⟩
 clear e hb m12 lm
 rintro σ H2 ⟨B,r,m,b,ms,x6,rfl,e,hb,m12,lm⟩
 refine ⟨?_,?_⟩
 ·refine ⟨_,rfl,_,_,rfl,rfl,(by show (0:Int)<_;decide),_,_,rfl,rfl,_,rfl,?_⟩
  refine qCg (fun c=>?_) (fun c=>?_)
  ·have b0:=Int.emod_nonneg (B / 8) (show (4:Int)≠0 by decide)
   have b1:=Int.emod_lt_of_pos (B / 8) (show (0:Int)<4 by decide)
   have d0:=Int.emod_nonneg (B / 32) (show (4:Int)≠0 by decide)
   have d1:=Int.emod_lt_of_pos (B / 32) (show (0:Int)<4 by decide)
   refine ⟨_,rfl,_,_,rfl,rfl,⟨by decide,by decide⟩,_,_,rfl,rfl,(by show (0:Int)<_;decide),B / 8 % 4,rfl,b0,b1,fun T b2 m2 ns2 H3 e3 hT hb2 l2 mp m36=>?_⟩
   refine ⟨T,_,rfl,SqT.of hT,rfl,_,_,rfl,_,_,rfl,rfl,?_⟩
   obtain ⟨M,hM,M12⟩:∃ M:Nat,(if (m2:Int)+B / 32 % 4<12 then (m2:Int)+B / 32 % 4 else 12)=(M:Int)/\M<=12:=by
    split
    ·exact ⟨((m2:Int)+B / 32 % 4).toNat,by omega,by omega⟩
    ·exact ⟨12,rfl,by decide⟩
   refine ⟨_,rfl,_,rfl,_,_,rfl,rfl,⟨by decide,by decide⟩,_,_,rfl,rfl,(by show (0:Int)<_;decide),_,_,rfl,rfl,12,(m2:Int)+B / 32 % 4,rfl,?_⟩
   rw [hM]
   refine ⟨_,rfl,_,rfl,_,rfl,_,_,rfl,rfl,⟨by decide,by decide⟩,_,rfl,b2,ns2,m2,M,_,rfl,hb2,l2,mp,M12,fun r3 ns3 H4 e4 hr3 l3=>?_⟩
   exact ⟨_,rfl,B,r,M,r3,ns3,_,rfl,e.trans (e3.trans e4),hr3,M12,l3⟩
  ·exact ⟨B,r,m,b,ms,x6,rfl,e,hb,m12,lm⟩
 clear e hb m12 lm
 rintro σ H2 ⟨B,r,m,b,ms,x6,rfl,e,hb,m12,lm⟩
 obtain ⟨m0,lt0⟩:=big_m ms
 refine ⟨_,rfl,b,ms,m0,rfl,hb,by omega,lt0,fun r2 H3 e3 r20 hr2'=>⟨_,rfl,r2,_,rfl,SqL.of hr2',fun l hl=>?_⟩⟩
 rw [show cutV ((redL ms).map iV) none (some 8)=((redL ms).take 8).map iV by rw [show (8:Int)=((8:Nat):Int) from rfl,cut_to,List.map_take]]
 have Xl:=Ext.new hl (.lst (((redL ms).take 8).map iV))
 refine ⟨fun k σ H'=>∃ (m:Nat) (b:Addr) (ms:List Nat),k=m/\σ=[some (.ref a),some (.int 1),some (.int B),some (.ref r),some (iV m),some (.ref b),x6]/\Ext H H'/\LsN H' b ms/\m<=12/\ms.length<=8,⟨_,m,l,_,rfl,rfl,(e.trans e3).trans Xl,upd_same,m12,by rw [List.length_take];omega⟩,?_⟩
 clear e hb m12 lm lt0 hr2' hl Xl
 rintro k σ H' ⟨m,b,ms,rfl,rfl,e,hb,m12,lm⟩
 refine ⟨_,rfl,_,rfl,b,_,rfl,.inl (SqL.of hb),_,_,rfl,rfl,_,_,rfl,rfl,_,rfl,?_⟩
 refine qCg (fun c=>?_) (fun c=>?_)
 ·have c':8<k:=by
   have:(8:Int)<(k:Int) - (((ms.map iV).length:Nat):Int):=of_decide_eq_true c
   omega
  refine ⟨fun σ' H'=>∃ k',k'<k/\∃ (m:Nat) (b:Addr) (ms:List Nat),k'=m/\σ'=[some (.ref a),some (.int 1),some (.int B),some (.ref r),some (iV m),some (.ref b),x6]/\Ext H H'/\LsN H' b ms/\m<=12/\ms.length<=8,fun _ _ h=>h,?_⟩
  refine ⟨_,rfl,_,_,rfl,rfl,?_⟩
  have ev:V.int ((k:Int) - 1)=iV (k - 1):=congrArg V.int (by omega)
  show (fun z H2=>_) (V.int ((k:Int) - 1)) H'
  rw [ev]
  refine ⟨_,rfl,b,rfl,⟨_,SqL.of hb⟩,?_⟩
  refine qB4 (fun _=>true) (fun z=>z&&&(2^(k - 1) - 1)) hb (by omega) (fun z hz C B' cc bb=>⟨Sle.set _ (Sle.refl _) (fun u z=>by cases z),?_⟩) ?_
  ·refine iteT (B:=B' H') ⟨_,rfl,_,rfl,_,_,rfl,rfl,⟨by omega,by omega,by decide⟩,_,_,rfl,rfl,_,_,rfl,rfl,?_⟩
   have:=cc rfl
   rw [show iV (z&&&(2^(k - 1) - 1))=V.int (Builtin.bitAnd (z:Int) (1*2^(((k - 1:Nat):Int)).toNat - 1)) by rw [band_low]] at this
   exact this
  ·intro l2 hl2
   have X2:=Ext.new hl2 (.lst (((ms.filter fun _=>true).map fun z=>z&&&(2^(k - 1) - 1)).map iV))
   have l2l:((ms.filter fun _=>true).map fun z=>z&&&(2^(k - 1) - 1)).length<=8:=by
    rw [List.length_map]
    exact Nat.le_trans (List.length_filter_le _ _) lm
   obtain ⟨m1,lt1⟩:=big_m ((ms.filter fun _=>true).map fun z=>z&&&(2^(k - 1) - 1))
   refine ⟨l2,_,m1,rfl,upd_same,by omega,lt1,fun r3 H4 e4 r30 hr3=>?_⟩
   exact ⟨k - 1,by omega,k - 1,r3,_,rfl,rfl,e.trans (X2.trans e4),hr3,by omega,Nat.le_trans (redL_le _) l2l⟩
 ·refine ⟨_,rfl,_,rfl,(by show 2<=sizeLine;decide),fun T hT=>?_⟩
  have XT:=Ext.new hT (.tup [iV k,V.ref b])
  exact q T b k ms _ (e.trans XT) upd_same (XT _ _ hb) m12 lm
end
end My
namespace My
open PySem L2
def spLTab (K:PySem.W.Frag):Sp:=fun vs H Q _=>∃ (a:Addr) (ns:List Int),vs=[.ref a,.int 1]/\SqL K H a (ns.map V.int)/\∀ (T:Addr) (names:List Str) (rows:List (List Str)) (H':Hp),Ext H H'->qCv H' T names rows->TabOk names rows->Q (.ref T) H'
section
variable {P:Program} {w:World} {K:PySem.W.Frag} {mg:Str->Option Value} {base:Heap} {f f1 f2 f3 f4 f5 f6 f7:Addr} {fd fd1 fd2 fd3 fd4 fd5 fd6 fd7:FuncData}
abbrev tbN:List Str:=["_law_script","_law_at","_law_many","_law_base","_law_names_here","_law_rows","_law_big_here","_law_k","_law_mix","_law_row_here"]
theorem qC7:FnScope tbN ["_law_script","_law_at"] (qAc sLTab):=⟨rfl,rfl,rfl,by decide +kernel,rfl,by decide +kernel,by decide +kernel⟩
theorem ok_ltab (F:Fun K "_law_table" "_law_table" sLTab f fd)
  (G1:FnOk P w K mg base CX0 4 f1 fd1 ["_law_script","_law_at"] (spLSto K)) (bG1:qA1 K fd1 ["_law_script","_law_at"] []) (kG1:PySem.W.keepIn K (.ref f1)=true) (mG1:mg "_law_steps_of" = some (.ref f1))
  (G2:FnOk P w K mg base CX0 1 f2 fd2 ["_law_big_here","_law_many"] spNames) (bG2:qA1 K fd2 ["_law_big_here","_law_many"] []) (kG2:PySem.W.keepIn K (.ref f2)=true) (mG2:mg "_law_names" = some (.ref f2))
  (G3:FnOk P w K mg base CX0 2 f3 fd3 ["_law_script","_law_k"] (spBig K)) (bG3:qA1 K fd3 ["_law_script","_law_k"] []) (kG3:PySem.W.keepIn K (.ref f3)=true) (mG3:mg "_law_big" = some (.ref f3))
  (G4:FnOk P w K mg base CX0 1 f4 fd4 ["_law_names_here","_law_number"] spLRow) (bG4:qA1 K fd4 ["_law_names_here","_law_number"] []) (kG4:PySem.W.keepIn K (.ref f4)=true) (mG4:mg "_law_row" = some (.ref f4))
  (ml:mg "len" = none) (mL:mg "list" = none) (mso:mg "sorted" = none) (mr:mg "range" = none):FnOk P w K mg base CX0 5 f fd ["_law_script","_law_at"] (spLTab K):=by
 refine F.ok qC7 (fun vs H Q E h=>?_) (fun cdv A outer s H vs Q E hr h=>?_)
 ·obtain ⟨a,ns,rfl,_⟩:=h
  rfl
 obtain ⟨a,ns,rfl,hS,q⟩:=h
 have hr1:=hr.mono (j:=1) (by decide)
 have hr2:=hr.mono (j:=2) (by decide)
 refine ⟨_,qAb (qGo (qAg G1 hr rfl mG1 kG1 bG1 .nil qAt (qAa (pv 0) (qAa (pv 1) qAd))) (qC5 rfl (qAz (qAi (i:=2) qC7.nd rfl (Or.inl rfl)) (qAz (qAi (i:=3) qC7.nd rfl (Or.inl rfl)) qCb))))
  (qAb (qAj (i:=4) qC7.nd rfl (Or.inr rfl) (qAs qEp rfl mso qB8 (qAa (qAg G2 hr1 rfl mG2 kG2 bG2 .nil qAt (qAa (qAg G3 hr2 rfl mG3 kG3 bG3 .nil qAt (qAa (pv 0) (qAa (qAh qBk (pv 1) qAe) qAd))) (qAa (pv 2) qAd))) qAd)))
  (qAb (qAj (i:=5) qC7.nd rfl (Or.inl rfl) (qBd qBn rfl mL qBu (qAa (pv 3) qAd)))
  (qAb (qAj (i:=6) qC7.nd rfl (Or.inl rfl) (qAg G3 hr2 rfl mG3 kG3 bG3 .nil qAt (qAa (pv 0) (qAa (qAh qBk (pv 1) qAe) qAd))))
  (qAb (qBi PassesOwn.never rfl (qBj rfl mr (qAa (qAh qBe (pv 6) qAe) qAd)) (qAi (i:=7) qC7.nd rfl (Or.inl rfl))
   (qAb (qAj (i:=8) qC7.nd rfl (Or.inl rfl) qAe)
   (qAb (qBi PassesOwn.never rfl (qAr (qCy qFc (pv 5) qDs (qDr (qAs qAv rfl ml PySem.boot_len (qAa (pv 3) qAd))))) (qAi (i:=9) qC7.nd rfl (Or.inl rfl))
    (qAb (qAj (i:=8) qC7.nd rfl (Or.inl rfl) (qAh qDj (pv 8) (qAh qDl (pv 9) (qAh qBe (qAh qA4 (pv 6) qAe) qAe))))
    (qAf (qAj (i:=6) qC7.nd rfl (Or.inl rfl) (qAh qA4 (pv 6) qAe)))))
   (qAf (qCl (qD9 PySem.F.plainAttrs_list PySem.F.slot_list_insert PySem.F.type_list_insert mt_insert (pv 5) (qAa (qAh qBe (qAh qA4 (pv 6) qAe) (qAh qBk (qAs qAv rfl ml PySem.boot_len (qAa (pv 5) qAd)) qAe)) (qAa (pv 8) qAd))))))))
  (qAf (qAw (qCm (qAa (pv 4) (qAa (qBx (N:=tbN) (sc:=qAc sLTab) (N':=["_law_row_here","_law_names_here"]) (sub:=[none,some 4]) rfl rfl (CmpOk.of (by decide +kernel)) rfl (qAr (qCy qFc (pv 5) qDs (qDr qAe)))
   (fun C s H fp=>⟨qAi (i:=0) (by show (["_law_row_here","_law_names_here"]:List Str).Nodup;decide) rfl (Or.inl rfl),qBb,qAg G4 hr1 rfl mG4 kG4 bG4 .nil qAt (qAa (pv 1) (qAa (pv 0) qAd))⟩)) qAd))))))))),?_⟩
 refine ⟨_,rfl,_,rfl,a,ns,rfl,hS,fun T0 b m ms H1 e1 hT0 hb m12 lm=>?_⟩
 refine ⟨T0,_,rfl,SqT.of hT0,rfl,_,_,rfl,_,_,rfl,rfl,?_⟩
 refine ⟨_,rfl,_,rfl,_,_,rfl,rfl,a,ns,_,rfl,Ext.sqL e1 hS,by decide,by decide,fun B1=>?_⟩
 refine ⟨_,rfl,B1,(m:Int),rfl,by omega,by omega,fun nr ss H2 e2 nr0 hss lss tx ndc=>?_⟩
 have nd0:ss.Nodup:=ndc (by omega)
 refine ⟨nr,ss,rfl,SqL.of hss,by omega,fun nm names hnm pm srt=>?_⟩
 have nd:names.Nodup:=pm.symm.nodup nd0
 have rn:Rise names:=rise_of srt nd
 have ok:SOk names:=fun x hx=>(tx x (pm.mem_iff.mp hx)).ok
 have ln:names.length<=12:=by rw [pm.length_eq,lss];omega
 have X2:=Ext.new hnm (.lst (names.map V.str))
 have E2:=e1.trans (e2.trans X2)
 have hb2:=(e2.trans X2) _ _ hb
 have hn2:LsS (upd H2 nm (.lst (names.map V.str))) nm names:=upd_same
 revert E2 hb2 hn2
 generalize upd H2 nm (.lst (names.map V.str))=Hb
 intro E2 hb2 hn2
 refine ⟨_,rfl,b,_,rfl,.inl (SqL.of hb2),fun rw rw0=>?_⟩
 have X3:=Ext.new rw0 (.lst (ms.map iV))
 refine ⟨_,rfl,_,rfl,_,_,rfl,rfl,a,ns,_,rfl,Ext.sqL (E2.trans X3) hS,by decide,by decide,fun B2=>?_⟩
 have h1:=Int.emod_nonneg B2 (show (9:Int)≠0 by decide)
 have h2:=Int.emod_lt_of_pos B2 (show (0:Int)<9 by decide)
 refine ⟨_,rfl,_,_,rfl,rfl,(by show (0:Int)<_;decide),B2 % 9,rfl,by omega,by omega,?_⟩
 refine qB1 (lo:=0) (n:=(B2 % 9).toNat) (fun i σ H'=>∃ (B:Int) (x7 x8 x9:Option V) (ns:List Nat),σ=[some (.ref a),some (.int 1),some (iV m),some (.ref b),some (.ref nm),some (.ref rw),some (.int B),x7,x8,x9]/\Ext Hb H'/\LsN H' rw ns/\ns.length<=8+i) ⟨B2,none,none,none,ms,rfl,X3,upd_same,by omega⟩ ?_ ?_
 ·rintro i σ H' hi ⟨B,x7,x8,x9,ns,rfl,e,hrw,ln2⟩
  refine ⟨_,rfl,_,rfl,b,_,rfl,.inl (SqL.of (e _ _ hb2)),_,rfl,rw,_,rfl,SqL.of hrw,fun sl hsl=>?_⟩
  rw [cut_to,List.length_map,<-List.map_take]
  have Xs:=Ext.new hsl (.lst ((ns.take ms.length).map iV))
  have hs2:LsN (upd H' sl (.lst ((ns.take ms.length).map iV))) sl (ns.take ms.length):=upd_same
  have hrw2:=Xs _ _ hrw
  have e2':=e.trans Xs
  revert hs2 hrw2 e2'
  generalize upd H' sl (.lst ((ns.take ms.length).map iV))=H3
  intro hs2 hrw2 e2'
  refine ⟨sl,rfl,⟨_,SqL.of hs2⟩,?_⟩
  refine qBs (xs:=(ns.take ms.length).map iV) (fun j σ H''=>H''=H3/\∃ (B:Int) (x9:Option V) (mix:Nat),σ=[some (.ref a),some (.int 1),some (iV m),some (.ref b),some (.ref nm),some (.ref rw),some (.int B),some (.int (0+(i:Int))),some (iV mix),x9]) ⟨rfl,B,x9,0,rfl⟩ (fun j σ H'' _ h=>by rw [h.1];exact SqL.of hs2) ?_ ?_
  ·rintro j v σ H'' hx ⟨rfl,B,x9,mix,rfl⟩
   obtain ⟨z,rfl,hz⟩:=qBz hx
   have d0:=Int.emod_nonneg (B / 9) (show (2:Int)≠0 by decide)
   have d1:=Int.emod_lt_of_pos (B / 9) (show (0:Int)<2 by decide)
   obtain ⟨d,hd⟩:∃ d:Nat,B / 9 % 2=(d:Int):=⟨(B / 9 % 2).toNat,by omega⟩
   have ev:(fun i j:Int=>V.int (Builtin.bitXor i j)) (mix:Int) ((z:Int)*(B / 9 % 2))=iV (mix^^^(z*d)):=by
    show V.int (Builtin.bitXor (mix:Int) ((z:Int)*(B / 9 % 2)))=V.int _
    rw [hd,<-Int.natCast_mul,qCh]
   refine ⟨_,rfl,_,rfl,_,rfl,_,_,rfl,rfl,⟨by decide,by decide⟩,_,_,rfl,rfl,(by show (0:Int)<_;decide),_,_,rfl,rfl,.inr ⟨by omega,by omega⟩,_,_,rfl,rfl,?_⟩
   rw [ev]
   exact ⟨_,rfl,_,_,rfl,rfl,⟨by decide,by decide⟩,rfl,_,_,_,rfl⟩
  ·rintro σ H'' ⟨rfl,B,x9,mix,rfl⟩
   have l1:(0:Int)<((ns.length:Nat):Int)+1:=by omega
   have i0:=Int.emod_nonneg (B / 9) (show ((ns.length:Nat):Int)+1≠0 by omega)
   have i1:=Int.emod_lt_of_pos (B / 9) l1
   obtain ⟨p,hp⟩:∃ p:Nat,B / 9 % (((ns.length:Nat):Int)+1)=(p:Int):=⟨(B / 9 % (((ns.length:Nat):Int)+1)).toNat,by omega⟩
   have hp':B / 9 % ((((ns.map iV).length:Nat):Int)+1)=(p:Int):=by rw [List.length_map];exact hp
   refine ⟨_,rfl,.inl ⟨rfl,_,SqL.of hrw2⟩,_,rfl,_,_,rfl,rfl,⟨by decide,by decide⟩,_,rfl,rw,_,rfl,.inl (SqL.of hrw2),_,_,rfl,rfl,_,_,rfl,rfl,(by show (0:Int)<(((ns.map iV).length:Nat):Int)+1;omega),_,rfl,?_⟩
   refine ⟨rw,ns.map iV,p,iV mix,rfl,congrArg (fun z=>[V.int z,iV mix]) hp',hrw2,by rw [List.length_map];omega,by rw [List.length_map];omega,?_⟩
   refine ⟨B,_,_,x9,ns.take p++mix :: ns.drop p,rfl,e2'.over rw0 _,?_,?_⟩
   ·unfold LsN
    rw [upd_same,List.map_append,List.map_cons,List.map_take,List.map_drop]
   ·rw [List.length_append,List.length_cons,List.length_take,List.length_drop];omega
 ·rintro σ H' ⟨B,x7,x8,x9,ns,rfl,e,hrw,ln2⟩
  refine ⟨_,rfl,_,rfl,_,rfl,rw,_,rfl,SqL.of hrw,fun sl hsl=>?_⟩
  rw [show cutV (ns.map iV) none (some 16)=(ns.take 16).map iV by rw [show (16:Int)=((16:Nat):Int) from rfl,cut_to,List.map_take]]
  have Xs:=Ext.new hsl (.lst ((ns.take 16).map iV))
  have l16:(ns.take 16).length<=16:=by rw [List.length_take];omega
  have hs2:LsN (upd H' sl (.lst ((ns.take 16).map iV))) sl (ns.take 16):=upd_same
  have e2':=e.trans Xs
  revert hs2 e2'
  generalize upd H' sl (.lst ((ns.take 16).map iV))=H3
  generalize ns.take 16=us at l16
  intro hs2 e2'
  refine ⟨sl,rfl,⟨_,SqL.of hs2⟩,?_⟩
  refine qAu (xs:=us.map iV) (fun j ys H4=>Ext H3 H4/\∃ as,ys=as.map V.ref/\Paired (LsS H4) as ((us.take j).map (rowL names))) ⟨Ext.refl _,[],rfl,.nil⟩ (fun j ys H4 _ h=>SqL.of (h.1 _ _ hs2)) ?_ ?_
  ·rintro j v ys H4 hx ⟨e4,as,rfl,pr⟩
   obtain ⟨x,rfl,hx'⟩:=qBz hx
   have hj:=qA7 hx'
   have la:as.length=_:=pr.length
   rw [List.length_map,List.length_take] at la
   refine ⟨Sle.set _ (Sle.refl _) (fun u z=>by cases z),iteT (B:=False) ⟨_,rfl,_,rfl,nm,names,x,rfl,(e2'.trans e4) _ _ hn2,ln,fun r3 H5 e5 r30 h3=>⟨?_,nxt (qA7 hx) ⟨e4.trans e5,as++[r3],by rw [List.map_append];rfl,?_⟩⟩⟩⟩
   ·rw [List.length_map];exact qAk (by omega)
   ·rw [qAn hx',List.map_append]
    exact Paired.snoc (Paired.mapP pr fun a t z=>e5 _ _ z) h3
  ·rintro ys H4 ⟨e4,as,rfl,pr⟩ bb hbb
   rw [List.length_map,List.take_of_length_le (Nat.le_refl _)] at pr
   have XB:=Ext.new hbb (.lst (as.map V.ref))
   refine ⟨(by show 2<=sizeLine;decide),fun T hT=>?_⟩
   have XT:=Ext.new hT (.tup [V.ref nm,V.ref bb])
   refine q T names (us.map (rowL names)) _ (E2.trans (e2'.trans (e4.trans (XB.trans XT)))) ⟨nm,bb,upd_same,(e2'.trans (e4.trans (XB.trans XT))) _ _ hn2,⟨as,XT _ _ upd_same,Paired.mapP pr fun a t z=>(XB.trans XT) _ _ z⟩⟩ ⟨rn,ok,ln,by rw [List.length_map];exact l16,fun r hr=>?_⟩
   obtain ⟨x,_,rfl⟩:=List.mem_map.mp hr
   exact ⟨x,rfl⟩
end
end My
namespace L2
open PySem PySem.Spec PyProof.Rows PySem.SeqAt PySem.MeetsSeq
end L2
namespace L2
open PySem PySem.Spec PyProof.Rows
section
variable {X:Cx} {k:Nat} {f:Addr} {fd:FuncData} {ps:List Str} {sp:Sp} {E:XK}
structure Aw (X:Cx) (pins:List (Addr×Obj)) (a:Addr):Prop where
 loc:a≠X.env.locals
 ab:X.s₀.heap.objs.size<=a
 cel:∀ x c,X.env.cells.lookup x=some c->c≠a
 pin:∀ p∈X.pn++pins,p.1≠a
 fs:a∉X.fs
theorem Inv.aw {pins:List (Addr×Obj)} {σ:St} {H:Hp} {s:Shared} (I:Inv X pins σ H s) {a:Addr} (h:s.heap.objs.size<=a):Aw X pins a:=by
 refine ⟨Nat.ne_of_gt (Nat.lt_of_lt_of_le I.lt h),Nat.le_trans I.sz h,fun x c e=>?_,fun p hp=>?_,I.nofs h⟩
 ·obtain ⟨v,o,ho,_⟩:=I.cell x c e
  exact Nat.ne_of_lt (Nat.lt_of_lt_of_le (Heap.lt_size ho) h)
 ·exact Nat.ne_of_lt (Nat.lt_of_lt_of_le (Heap.lt_size (I.pin p hp).1) h)
theorem Inv.adoptL {pins:List (Addr×Obj)} {σ:St} {H:Hp} {s:Shared} {a:Addr} {ys:List V} {its:List Value} {n:Nat} (I:Inv X pins σ H s) (w:Aw X pins a) (hn:H a=none) (hv:qBc ys its) (hz:ys.length<=sizeLine)
  (e:s.heap.get? a=some { cls:=.type "list",data:=.seq its.toArray n }):Inv X pins σ (upd H a (.lst ys)) s:=by
 refine ⟨I.ok,I.os,I.bare,⟨I.base.keep,I.base.slot,fun b o q n' hx=>?_,I.base.there,fun b xs q=>?_,fun b o u q=>?_,fun b ps q=>?_⟩,I.loc,I.cell,?_,fun x c q=>?_,fun p hp=>?_,fun b u q=>?_,I.len⟩
 ·rw [qAm (Nat.ne_of_lt (Nat.lt_of_lt_of_le (Heap.lt_size q) w.ab))];exact I.base.free b o q n' hx
 ·have:=I.base.tups b xs q
  rw [qAm (qAl this hn)];exact this
 ·have:=I.base.frzs b o u q
  rw [qAm (qAl this hn)];exact this
 ·obtain ⟨m,this⟩:=I.base.tbls b ps q
  exact ⟨m,by rw [qAm (qAl this hn)];exact this⟩
 ·rw [qAm (Ne.symm w.loc)];exact I.free
 ·rw [qAm (w.cel x c q)];exact I.freeC x c q
 ·obtain ⟨h1,h2,h3⟩:=I.pin p hp
  exact ⟨h1,by rw [qAm (w.pin p hp)];exact h2,h3⟩
 ·by_cases hb:b=a
  ·subst hb
   rw [upd_same] at q;cases q
   exact ⟨hz,its,n,hv,e⟩
  ·rw [qAm hb] at q
   exact (I.hok b u q).stay (fun c v _ r=>r) (fun c r=>by rw [qAm (qAl r hn)];exact r) fun c xs r=>by rw [qAm (qAl r hn)];exact r
theorem Inv.repinL {pins:List (Addr×Obj)} {σ:St} {H:Hp} {s:Shared} {a:Addr} {its:Array Value} {n:Nat} (f:Array Value->Array Value) (I:Inv X pins σ H s) (w:Aw X pins a) (hn:H a=none) (e:s.heap.get? a=some (seqObj "list" its n)) :
  ∃ n',Inv X pins σ H { s with heap:=s.heap.update a (Obj.mapSeq f) }/\(s.heap.update a (Obj.mapSeq f)).get? a=some (seqObj "list" (f its) n'):=by
 obtain ⟨c,hc⟩:∃ c,(s.heap.update a (Obj.mapSeq f)).get? a=some (seqObj "list" (f its) c):=⟨_,get?_update_seq e f⟩
 refine ⟨c,?_,hc⟩
 exact I.turned (t':=s.toks) (it:=a) (fun b o hb q=>(Heap.get?_update_other s.heap _ (Ne.symm hb)).trans q) hn w.loc (.inr w.ab) w.cel w.pin
theorem Inv.pinL {pins:List (Addr×Obj)} {σ:St} {H:Hp} {s:Shared} {a:Addr} {its:Array Value} {n:Nat} (I:Inv X pins σ H s) (w:Aw X pins a) (hn:H a=none) (e:s.heap.get? a=some (seqObj "list" its n)) :
  Inv X ((a,seqObj "list" its n) :: pins) σ H s:=I.pins_of fun p hp=>by
 rcases List.mem_cons.mp hp with rfl | hp
 ·exact ⟨e,hn,w.loc,w.fs,fun v q=>by cases q⟩
 ·exact I.pin p (List.mem_append_right _ hp)
theorem Inv.unpin {pins:List (Addr×Obj)} {σ:St} {H:Hp} {s:Shared} {q:Addr×Obj} (I:Inv X (q :: pins) σ H s):Inv X pins σ H s:=I.pins_of fun p hp=>I.pin p (List.mem_append_right _ (List.mem_cons_of_mem _ hp))
theorem Aw.cons {pins:List (Addr×Obj)} {a b:Addr} {o:Obj} (w:Aw X pins a) (h:b≠a):Aw X ((b,o) :: pins) a:=⟨w.loc,w.ab,w.cel,fun p hp=>by
 rcases List.mem_append.mp hp with q | q
 ·exact w.pin p (List.mem_append_left _ q)
 ·rcases List.mem_cons.mp q with rfl | q
  ·exact h
  ·exact w.pin p (List.mem_append_right _ q),w.fs⟩
end
end L2
namespace L2
open PySem PySem.Spec PyProof.Rows
end L2
namespace L2
open PySem PySem.Spec PyProof.Rows
theorem run_lam {P:Program} {w:World} {K:PySem.W.Frag} {mg:Str->Option Value} {base:Heap} {A:Around} {outer:List Env} {s:Shared} {H:Hp} {Q:VK} {f c':Addr} {scope:Scope} {name qual:Str} {params:Arguments} {body:Expr} {x:Str} {pm ctv:Value} {v:V} {u:Value} {t:TE} {k:Nat}
  (hr:Room k A) (e0:Env0 P w K mg base A outer s H) (ho:s.heap.get? f=some (PySem.W.kla_obj name qual params body scope [] pm c' ctv)) (hcd:s.heap.CodeRec (.ref c') qual) (S:FnScope [x] [x] scope)
  (hb:bindArgs (PySem.W.kla_fn name qual params body scope [] pm (.ref c') ctv) ⟨[u],[]⟩=pure [(x,u)]) (r:qCs v u)
  (ht:PE (cxOf CX0 P w K mg base [x] qual scope f (.ref c') A outer s H E0) body t) (hq:t (qEs [x] [v]) H Q) :
  codeAny (model P w) A (.call (.ref f) ⟨[u],[]⟩) (CR CX0 outer P w H s Q E0) s:=by
 have lim:s.heap.NoLimit:=e0.mod.nolimit.keeps fun b o e=>(e0.bs b o e).1
 refine PySem.W.kla_callFunE hr.depth ho rfl S.co S.gen rfl hcd ?_
 rw [hb]
 have hkind:∀ y∈[(x,u)],scope.names.lookup y.1=some .local\/(scope.names.lookup y.1=some .cell/\((cellsFrom (s.heap.objs.size+1) scope.names []).lookup y.1).isSome=true):=fun y hy=>by
  rw [List.mem_singleton] at hy
  subst hy
  rcases S.par x List.mem_cons_self with q | q
  ·exact .inl q
  ·exact .inr ⟨q,PySem.W.cellsFrom_some _ _ _ (.inl q)⟩
 refine wpAny_pure (wpAny_newFunctionEnv_cells S.kind hkind fun env he s1 y=>?_)
 subst he
 refine ⟨lim.keeps y.toInCall.keep,PySem.W.kla_codeExpr ?_⟩
 have I:Inv (cxOf CX0 P w K mg base [x] qual scope f (.ref c') A outer s H E0) [] (qEs [x] [v]) H s1:=inv_start S hr.hd e0 rfl (.cons r .nil) y
 refine wpAny_mono (ht [] s1 (qEs [x] [v]) H Q I hq) (fun u' s' ⟨v',H',J,rv,q⟩=>⟨v',H',J.os,J.bare,J.base,J.hok,rv,q⟩) fun e s' hs=>hs
end L2
namespace L2
open PySem PySem.Spec PyProof.Rows
def ExtB (P:Addr) (H H':Hp):Prop:=∀ b o,b≠P->H b=some o->H' b=some o
section
variable {X:Cx} {pins:List (Addr×Obj)} {σ:St} {H:Hp} {s:Shared}
theorem Inv.grown {P:Addr} {ps more:Array Value} {h':Heap} {tk:Nat} (I:Inv X pins σ H s) (hP:H P=some (.tbl ps)) (hx:Heap.ExtBut P s.heap h') (hg:h'.get? P=some { cls:=.none,data:=.fields (ps++more) }) :
  Inv X pins σ (upd H P (.tbl (ps++more))) { s with heap:=h',toks:=tk }:=by
 have ne:∀ b,H b=none->b≠P:=fun b n z=>by rw [z,hP] at n;cases n
 refine I.step (g':=s.gens) (d':=s.drawn) (ch:=[]) (fun _ z=>nomatch z) (fun b o _ _ _ e n=>hx b o (ne b n) e) (fun b o _ _ _ e n=>⟨o.slots,hx b o (ne b n) e⟩) (fun b o _ e n=>by rw [qAm (ne b n)];exact n) (fun b o _ e=>?_)
  (fun b xs q=>?_) (fun b o u q=>?_) (fun b qs q=>?_) (fun m hm=>hm.extBut hx (ne _ I.free)) (fun b u q=>?_) I.bare
 ·by_cases hb:b=P
  ·rw [hb];exact ⟨_,hg⟩
  ·exact ⟨o,hx b o hb e⟩
 ·have:b≠P:=fun z=>by rw [z,hP] at q;cases q
  rw [qAm this];exact q
 ·have:b≠P:=fun z=>by rw [z,hP] at q;cases q
  rw [qAm this];exact q
 ·by_cases hb:b=P
  ·subst hb
   rw [hP] at q;cases q
   exact ⟨more,upd_same⟩
  ·exact ⟨#[],by rw [qAm hb,q];simp⟩
 ·by_cases hb:b=P
  ·subst hb
   rw [upd_same] at q;cases q
   exact hg
  ·rw [qAm hb] at q
   refine (I.hok b u q).stay (fun c v hc r=>hx c v ?_ r) (fun c r=>?_) fun c xs r=>?_
   ·rcases hc with rfl | hc
    ·exact hb
    ·intro z;rw [z,hP] at hc;cases hc
   ·have:c≠P:=fun z=>by rw [z,hP] at r;cases r
    rw [qAm this];exact r
   ·have:c≠P:=fun z=>by rw [z,hP] at r;cases r
    rw [qAm this];exact r
end
structure LamAt (X:Cx) (c P:Addr):Prop where
 code:X.env.code = .ref c
 hd:PySem.W.CodeHd X.base c P
 bl:X.base.BuiltinsAt X.mg P
end L2
namespace L2
open PySem PySem.Spec PyProof.Rows
def OnlyT (T:Addr) (H:Hp):Prop:=∀ b,b≠T->H b=none\/∃ o xs,H b=some (.frz o (.lst xs))
theorem mem_lk {β:Type}:∀ {l:List (Addr×β)} {a:Addr} {b:β},l.lookup a=some b->(a,b)∈l
 | [],_,_,h=>by cases h
 | (k,v) :: l,a,b,h=>by
  rw [List.lookup_cons] at h
  by_cases e:(a == k)=true
  ·rw [e] at h
   cases h
   rw [beq_iff_eq.mp e]
   exact List.mem_cons_self
  ·rw [Bool.not_eq_true] at e
   rw [e] at h
   exact List.mem_cons_of_mem _ (mem_lk h)
theorem noTab {K:PySem.W.Frag} {h:Heap} {T:Addr} {ps:Array Value} (X:K.In h) (n:PySem.W.noTabs K=true) (e:h.get? T=some (PySem.W.tabObj ps)):K.lookup T=none:=by
 cases q:K.lookup T with
 | none=>rfl
 | some o =>
  have e2:=X T o q
  rw [e] at e2
  cases e2
  have m:=mem_lk q
  have:=List.all_eq_true.mp n _ m
  cases this
theorem law_callT {P:Program} {w:World} {K:PySem.W.Frag} {mg mb:Str->Option Value} {CX:CXT} {k:Nat} {fa a c T:Addr} {fd:FuncData} {x:Str} {sp:Sp} {s₁:Shared} {vs:List Value} {ns:List Int}
  (KX:K.In s₁.heap) (hns:s₁.heap.Ns mainGlobals mg) (hb:s₁.heap.Ns builtinsNs mb) (hbb:∀ x:Str,x≠"__name__"->mb x=bootBuiltins x) (hlim:s₁.heap.NoLimit) (hg:s₁.gens=#[])
  (ha:s₁.heap.get? a=some { cls:=.type "list",data:=.seq vs.toArray }) (hi:IntsAre vs ns) (hl:ns.length<=sizeLine) (hr:Room k callerA)
  (hC:PySem.W.CodeHd s₁.heap c T) (hT:s₁.heap.get? T=some (PySem.W.tabObj #[])) (hnt:PySem.W.noTabs K=true) (hB:s₁.heap.BuiltinsAt mg T)
  (F:∀ base:Heap,K.In base->base.Ns mainGlobals mg->PySem.W.CodeHd base c T->base.BuiltinsAt mg T->FnOk P w K mg base CX k fa fd [x] sp) (hbind:∀ (s:Shared) (u:Value),BindsTo s fd ⟨[u],[]⟩ [(x,u)])
  (hsp:∀ H:Hp,H T=some (.tbl #[])->SqL K H a (ns.map V.int)->sp [.ref a] H (fun v _=>v = .bl true) fun _ _ _=>False)
  (hCX:∀ H e s',CX [] H s₁ (fun _ _ _=>False) e s'->False) :
  codeAny (model P w) callerA (.call (.ref fa) ⟨[.ref a],[]⟩) (fun r s'=>r = .ok (.ret (.bool true))/\OldK s₁.heap s'.heap/\s'.os=s₁.os/\AllBare s'.gens) s₁:=by
 have rv:=qE4 hi
 have lenV:=hi.length
 have hKT:=noTab KX hnt hT
 have aT:a≠T:=fun z=>by rw [z,hT] at ha;cases ha
 have core:∀ H:Hp,OnlyT T H->H T=some (.tbl #[])->SqL K H a (ns.map V.int)->HOk P w H s₁.heap->(∀ b,H b≠none->b=a\/b=T)->(H a≠none->K.lookup a=none) ->
   codeAny (model P w) callerA (.call (.ref fa) ⟨[.ref a],[]⟩) (fun r s'=>r = .ok (.ret (.bool true))/\OldK s₁.heap s'.heap/\s'.os=s₁.os/\AllBare s'.gens) s₁:=by
  intro H hO hHT hS hok hA hK
  have base_of:∀ {b:Addr} {o:Obj},s₁.heap.get? b=some o->H b=none->(hidT s₁.heap H).get? b=some o:=fun e n=>hidT_get e n
  have noA:∀ {b:Addr} {o:Obj},s₁.heap.get? b=some o->(∀ vs n,o.data≠.seq vs n)->o≠PySem.W.tabObj #[]->H b=none:=fun {b o} e d1 d2=>by
   cases q:H b with
   | none=>rfl
   | some u =>
    rcases hA b (by rw [q];simp) with e' | e'
    ·subst e'
     rw [ha] at e;cases e
     exact absurd rfl (d1 _ _)
    ·subst e'
     rw [hT] at e
     exact absurd (Option.some.inj e).symm d2
  have nsK:∀ {b:Addr} {m:Str->Option Value},s₁.heap.Ns b m->(hidT s₁.heap H).Ns b m:=fun {b m} ⟨o,es,ep,e,d,r⟩=>⟨o,es,ep,base_of e (noA e (fun _ _ z=>by rw [d] at z;cases z) (fun z=>by rw [z] at d;cases d)),d,r⟩
  have hKb:K.In (hidT s₁.heap H):=fun b o e=>base_of (KX b o e) (by
   cases q:H b with
   | none=>rfl
   | some u =>
    rcases hA b (by rw [q];simp) with e' | e'
    ·subst e'
     rw [hK (by rw [q];simp)] at e;cases e
    ·subst e'
     rw [hKT] at e;cases e)
  have hM:Mod K mg (hidT s₁.heap H):=⟨hKb,nsK hns,⟨mb,nsK hb,hbb⟩,let ⟨mc,h1,h2⟩:=hlim;⟨mc,nsK h1,h2⟩⟩
  have hC':PySem.W.CodeHd (hidT s₁.heap H) c T:=by
   obtain ⟨o,vs',file,tf,flags,tg,inF,text,tt,e1,e2,e3,r⟩:=hC
   refine ⟨o,vs',file,tf,flags,tg,inF,text,tt,base_of e1 (noA e1 (fun _ _ z=>by rw [e3] at z;cases z) (fun z=>by rw [z] at e2;cases e2)),e2,e3,r⟩
  have hB':(hidT s₁.heap H).BuiltinsAt mg T:=by
   obtain ⟨bm,ob,b1,b2,b3,b4,b5,b6,b7,b8⟩:=hB
   exact ⟨bm,ob,b1,b2,b3,b4,base_of b5 (noA b5 (fun _ _ z=>by rw [b8] at z;cases z) (fun z=>by rw [z] at b8;cases b8)),b6,b7,b8⟩
  have e0:Env0 P w K mg (hidT s₁.heap H) callerA [] s₁ H:=⟨rfl,hM,fun b o e=>of_hidT e,Nat.le_of_eq (hidT_size _ _),trivial,fun b hb=>absurd (show b∈([]:List Addr) from hb) (by simp),hok,.of_eq hg⟩
  refine codeAny_mono ((F _ hKb (nsK hns) hC' hB').run callerA [] s₁ H ⟨[.ref a],[]⟩ [.ref a] [.ref a] _ _ hr e0 (hbind s₁ (.ref a)) (.cons rfl .nil) (hsp H hHT hS)) fun r s' h=>?_
  cases r with
  | error e=>exact (hCX H e s' h).elim
  | ok fl =>
   cases fl with
   | next=>exact False.elim h
   | brk=>exact False.elim h
   | cont=>exact False.elim h
   | ret u =>
    obtain ⟨v,H',os,bare,un,hok',r',q⟩:=h
    have q':v = .bl true:=q
    subst q'
    obtain rfl:u=Value.bool true:=r'
    obtain ⟨more,hmT⟩:=un.tbls T _ hHT
    have hTs:s'.heap.get? T=some { cls:=.none,data:=.fields (#[]++more) }:=hok' T _ hmT
    refine ⟨rfl,⟨fun b o e=>?_,fun b o e=>?_⟩,os,bare⟩
    ·by_cases hbT:b=T
     ·subst hbT
      rw [hT] at e;cases e
      exact .inr (.inl ⟨(hC.tab hT).isCodeTable,rfl,#[],more,rfl,hTs⟩)
     ·refine .inl ?_
      cases q:H b with
      | none=>exact un.keep b o e q (by intro z;exact absurd (show b∈([]:List Addr) from z) (by simp)) (by simp)
      | some u =>
       rcases hO b hbT with z | ⟨ob,xs,z⟩
       ·rw [q] at z;cases z
       ·have z2:=un.frzs b ob _ z
        obtain ⟨e1,_⟩:=hok b _ z
        obtain ⟨e2,_⟩:=hok' b _ z2
        rw [e] at e1;cases e1
        exact e2
    ·by_cases hbT:b=T
     ·rw [hbT];exact ⟨_,hTs⟩
     ·cases q:H b with
      | none=>exact ⟨o,un.keep b o e q (by intro z;exact absurd (show b∈([]:List Addr) from z) (by simp)) (by simp)⟩
      | some u =>
       rcases hO b hbT with z | ⟨ob,xs,z⟩
       ·rw [q] at z;cases z
       ·obtain ⟨e2,_⟩:=hok' b _ (un.frzs b ob _ z)
        exact ⟨_,e2⟩
 have tOk:∀ H:Hp,qC3 P w H s₁.heap T (.tbl #[]):=fun _=>hT
 cases hk:K.lookup a with
 | some o =>
  have e:=KX a o hk
  rw [ha] at e
  cases e
  refine core (fun b=>if b=T then some (.tbl #[]) else none) (fun b hb=>.inl (if_neg hb)) (if_pos rfl) (.inr ⟨_,vs.toArray,_,hk,rfl,rfl,rfl,by rw [List.size_toArray,lenV];exact hl,by simpa using rv⟩) (fun b u z=>?_) (fun b z=>?_) (fun z=>absurd (if_neg aT) z)
  ·by_cases hb:b=T
   ·have z':=(if_pos hb).symm.trans z
    cases z'
    subst hb
    exact tOk _
   ·have z':=(if_neg hb).symm.trans z
    cases z'
  ·by_cases hb:b=T
   ·exact .inr hb
   ·exact absurd (if_neg hb) z
 | none =>
  refine core (fun b=>if b=T then some (.tbl #[]) else if b=a then some (.frz { cls:=.type "list",data:=.seq vs.toArray } (.lst (ns.map V.int))) else none) (fun b hbT=>?_) (if_pos rfl) (.inl (.inr ⟨{ cls:=.type "list",data:=.seq vs.toArray },(if_neg aT).trans (if_pos rfl)⟩)) (fun b u z=>?_) (fun b z=>?_) fun _=>hk
  ·by_cases hb:b=a
   ·exact .inr ⟨_,_,(if_neg hbT).trans (if_pos hb)⟩
   ·exact .inl ((if_neg hbT).trans (if_neg hb))
  ·by_cases hbT:b=T
   ·have z':=(if_pos hbT).symm.trans z
    cases z'
    subst hbT
    exact tOk _
   ·have z:=(if_neg hbT).symm.trans z
    by_cases hb:b=a
    ·have z':=(if_pos hb).symm.trans z
     cases z'
     subst hb
     exact ⟨ha,by rw [List.length_map];exact hl,vs,_,rv,ha⟩
    ·have z':=(if_neg hb).symm.trans z
     cases z'
  ·by_cases hbT:b=T
   ·exact .inr hbT
   ·by_cases hb:b=a
    ·exact .inl hb
    ·exact absurd ((if_neg hbT).trans (if_neg hb)) z
theorem walk_ofT {l:PySem.W.OpenLaw} {n k:Nat} {q:Program} {loose:List Str} {XP:(Str->Option Value)->Heap->Prop} {YP:World->Heap->Prop} {d dr:DefRec} {K:Params->PySem.W.Frag} {CX:World->CXT} {sp:World->Addr->Sp} {x tx:Str}
  (hn:l.most=some n) (hn2:n<=sizeLine) (hdf:d.params.defaults=[]) (hr:Room k callerA)
  (hY:∀ (w:World) (h:Heap),YP w h->(K w.params).In h) (hrec:(recsOf q).find? (fun e=>e.name == tx)=some dr)
  (hK:∀ w:World,∃ c T,PySem.W.tabIn (K w.params) tx=some (c,T)/\PySem.W.noTabs (K w.params)=true)
  (F:∀ (w:World) (mg:Str->Option Value) (fa:Addr) (h:Heap) (c T:Addr),(K w.params).In h->h.Ns mainGlobals mg->mg d.name=some (.ref fa)->PySem.W.tabIn (K w.params) tx=some (c,T) ->
   ∃ fd:FuncData,(∀ (s:Shared) (u:Value),BindsTo s fd ⟨[u],[]⟩ [(x,u)]) /\
    ∀ base:Heap,(K w.params).In base->base.Ns mainGlobals mg->PySem.W.CodeHd base c T->base.BuiltinsAt mg T->FnOk l.prog w (K w.params) mg base (CX w) k fa fd [x] (sp w T))
  (hsp:∀ (w:World) (T:Addr) (H:Hp) (a:Addr) (ns:List Int),ns.length<=n->H T=some (.tbl #[])->SqL (K w.params) H a (ns.map V.int)->sp w T [.ref a] H (fun v _=>v = .bl true) fun _ _ _=>False)
  (hCX:∀ (w:World) (H:Hp) (s:Shared) (e:Value) (s':Shared),CX w [] H s (fun _ _ _=>False) e s'->False) :
  PySem.W.WalkO q loose XP YP l.row.toRowW d [] (fun f vs=>PySem.call f vs):=by
 refine Att.attach_call hn hdf fun w s₀ s₁ mg mb fa o pm cd doc a vs ns G Y ho hd hcd hmg hobj hints hlen hg=>?_
 have KX:=hY w _ Y
 obtain ⟨c,T,ht,hnt⟩:=hK w
 obtain ⟨hC,hT⟩:=PySem.W.tab_of G.T KX hrec ht
 obtain ⟨bm,ob,b1,b2,b3,b4,b5,b6⟩:=G.T.bmain
 have hbT:bm≠T:=fun z=>by rw [z,hT] at b3;cases b3;cases b4
 have hbG:bm≠mainGlobals:=fun z=>by
  obtain ⟨o',es,ep,e,hd',_⟩:=G.T.g
  rw [z,e] at b3;cases b3;rw [hd'] at b6;cases b6
 obtain ⟨fd,hb,hF⟩:=F w mg fa _ c T KX G.T.g hmg ht
 exact law_callT KX G.T.g G.T.b G.T.builtins G.T.nolimit hg hobj hints (Nat.le_trans hlen hn2) hr hC hT hnt ⟨bm,ob,b1,b2,hbG,hbT,b3,b4,b5,b6⟩ hF hb (fun H hO hS=>hsp w T H a ns hlen hO hS) fun H e s'=>hCX w H s₁ e s'
section
variable {P:Program} {w:World} {K:PySem.W.Frag} {mg:Str->Option Value} {base:Heap}
theorem Fun.okC {x qual:Str} {st:Stmt} {f:Addr} {fd:FuncData} {N ps:List Str} {k:Nat} {sp:Sp} (F:Fun K x qual st f fd) (S:FnScope N ps (qAc st)) (len:∀ vs H Q E,sp vs H Q E->vs.length=ps.length)
  (hbody:∀ (A:Around) (outer:List Env) (s:Shared) (H:Hp) (vs:List V) (Q:VK) (E:XK),Room k (A.deeper (envOfC qual (qAc st) s.heap.objs.size f fd.code))->sp vs H Q E ->
   ∃ t,PSs (cxOf CX0 P w K mg base N qual (qAc st) f fd.code A outer s H E).nox (qAp st) t/\t { nx:=fun _ H'=>Q .non H',rt:=Q } (qEs N vs) H):FnOk P w K mg base CX0 (k+1) f fd ps sp:=by
 obtain ⟨oc,od,kV,doc,pm,an,cdv,ct,osl,rfl,lk,hcd⟩:=F.ex
 refine fn_of lk hcd S len fun A outer s H vs Q E hr hsp=>?_
 obtain ⟨t,h,q⟩:=hbody A outer s H vs Q E hr hsp
 exact ⟨t,h.nox,q⟩
theorem code_of {x qual:Str} {st:Stmt} {f c T:Addr} {fd:FuncData} (F:Fun K x qual st f fd) (a:PySem.W.nsIn K mainGlobals x=some (some (.ref f))) (h:PySem.W.tabIn K x=some (c,T)):fd.code = .ref c:=by
 obtain ⟨oc,od,kV,doc,pm,an,cdv,ct,osl,rfl,lk,hcd⟩:=F.ex
 unfold PySem.W.tabIn at h
 rw [a] at h
 dsimp only at h
 rw [lk] at h
 dsimp only at h
 show cdv=_
 cases cdv with
 | ref c2 =>
  dsimp only at h
  split at h
  ·split at h
   ·cases h;rfl
   ·cases h
  ·cases h
 | _=>cases h
end
end L2
namespace L2
open PySem PySem.Spec PyProof.Rows
end L2
namespace L2
open PySem PySem.Spec PyProof.Rows
end L2
namespace L2
open PySem PySem.Spec PyProof.Rows
section
variable {X:Cx} {pins:List (Addr×Obj)} {σ:St} {H:Hp} {s:Shared}
theorem Inv.adoptX {a:Addr} {φ:Heap->Prop} (I:Inv X pins σ H s) (w:Aw X pins a) (hn:H a=none) (hφ:qC3 X.prog X.w (upd H a (.ext φ)) s.heap a (.ext φ)):Inv X pins σ (upd H a (.ext φ)) s:=by
 refine ⟨I.ok,I.os,I.bare,⟨I.base.keep,I.base.slot,fun b o q n' hx=>?_,I.base.there,fun b xs q=>?_,fun b o u q=>?_,fun b ps q=>?_⟩,I.loc,I.cell,?_,fun x c q=>?_,fun p hp=>?_,fun b u q=>?_,I.len⟩
 ·rw [qAm (Nat.ne_of_lt (Nat.lt_of_lt_of_le (Heap.lt_size q) w.ab))];exact I.base.free b o q n' hx
 ·have:=I.base.tups b xs q
  rw [qAm (qAl this hn)];exact this
 ·have:=I.base.frzs b o u q
  rw [qAm (qAl this hn)];exact this
 ·obtain ⟨m,this⟩:=I.base.tbls b ps q
  exact ⟨m,by rw [qAm (qAl this hn)];exact this⟩
 ·rw [qAm (Ne.symm w.loc)];exact I.free
 ·rw [qAm (w.cel x c q)];exact I.freeC x c q
 ·obtain ⟨h1,h2,h3⟩:=I.pin p hp
  exact ⟨h1,by rw [qAm (w.pin p hp)];exact h2,h3⟩
 ·by_cases hb:b=a
  ·subst hb
   rw [upd_same] at q;cases q
   exact hφ
  ·rw [qAm hb] at q
   exact (I.hok b u q).stay (fun c v _ r=>r) (fun c r=>by rw [qAm (qAl r hn)];exact r) fun c xs r=>by rw [qAm (qAl r hn)];exact r
end
def codeO (c:Addr) (q:Str):HO:=.ext fun h=>h.CodeRec (.ref c) q
theorem codeO_ok {P:Program} {w:World} {H:Hp} {h:Heap} {c:Addr} {q:Str} (r:h.CodeRec (.ref c) q):qC3 P w H h c (codeO c q):=by
 obtain ⟨c2,oc,vs,t,e,ho,hd,hv⟩:=id r
 cases e
 refine ⟨r,⟨oc,ho⟩,fun h1 h2 r1 k=>?_⟩
 obtain ⟨c3,oc',vs',t',e',ho',hd',hv'⟩:=r1
 cases e'
 exact ⟨c,oc',vs',t',rfl,k _ ho',hd',hv'⟩
def TabW (H:Hp) (P:Addr) (lpos:Pos) (q:Str):Prop:=H P=some (.tbl #[])\/∃ c',H P=some (.tbl #[rawInt lpos.line,rawInt lpos.col,.ref c'])/\H c'=some (codeO c' q)
theorem among3 (lpos:Pos) (v:Value):codeAmong lpos (#[rawInt lpos.line,rawInt lpos.col,v]:Array Value).toList=some v:=by
 show (if _ then _ else _)=_
 simp
theorem TabW.ext {H H':Hp} {P:Addr} {lpos:Pos} {q:Str} (h:TabW H P lpos q) (e:∀ b o,H b=some o->H' b=some o):TabW H' P lpos q:=by
 rcases h with h | ⟨c,h1,h2⟩
 ·exact .inl (e _ _ h)
 ·exact .inr ⟨c,e _ _ h1,e _ _ h2⟩
section
variable {X:Cx} {k:Nat}
theorem sq_B {K:PySem.W.Frag} {H H':Hp} {P l:Addr} {xs:List V} {ps:Array Value} (hP:H P=some (.tbl ps)) (e:ExtB P H H') (hq:SqL K H l xs):SqL K H' l xs:=by
 rcases hq with (hq | ⟨o,hq⟩) | hq
 ·exact .inl (.inl (e _ _ (fun z=>by rw [z,hP] at hq;cases hq) hq))
 ·exact .inl (.inr ⟨o,e _ _ (fun z=>by rw [z,hP] at hq;cases hq) hq⟩)
 ·exact .inr hq
end
end L2
namespace L2
open PySem PySem.Spec PyProof.Rows
def gallop':Bool->Keyed->Array Keyed->Nat->Nat->Nat->StateT SortSt Sem (Option Nat):=sortPriv% PySem.Builtin.gallop
def beyond' (left:Bool) (key:Keyed) (arr:Array Keyed) (base:Nat) (i:Nat):StateT SortSt Sem (Option Bool):=do
 let x ← elem' arr (base+i)
 if left then lt' x key else return (← lt' key x).map (!·)
def g3 (left:Bool) (key:Keyed) (arr:Array Keyed) (base n lo0 hi0:Nat):StateT SortSt Sem (Option Nat):=do
 let mut lo:=lo0
 let mut hi:=hi0
 for _ in [0:n] do
  if lo >= hi then break
  let m:=lo+(hi - lo) / 2
  let some more ← beyond' left key arr base m | return none
  if more then lo:=m+1 else hi:=m
 return some hi
theorem gallop'_eq (left:Bool) (key:Keyed) (arr:Array Keyed) (base n hint:Nat):gallop' left key arr base n hint=(do
 let mut lastofs:=0
 let mut ofs:=1
 let some right ← beyond' left key arr base hint | return none
 if right then
  let maxofs:=n - hint
  for _ in [0:n] do
   if ofs >= maxofs then break
   let some more ← beyond' left key arr base (hint+ofs) | return none
   if !more then break
   lastofs:=ofs
   ofs:=2*ofs+1
  g3 left key arr base n (hint+lastofs+1) (hint+min ofs maxofs)
 else
  let maxofs:=hint+1
  for _ in [0:n] do
   if ofs >= maxofs then break
   let some found ← beyond' left key arr base (hint - ofs) | return none
   if found then break
   lastofs:=ofs
   ofs:=2*ofs+1
  g3 left key arr base n (hint+1 - min ofs maxofs) (hint - lastofs)):=rfl
section
variable {prog:Program} {w:World} {A:Around} {E:Value->Shared->Prop} {s:Shared}
theorem wpS_gallop {left:Bool} {key:Keyed} {arr:Array Keyed} {base n hint:Nat} {Bd:Nat->Bool} {G:SortSt->Prop} {st:SortSt} {Q:Option Nat->SortSt->Prop}
  (hb:∀ i,i<n->∀ (st:SortSt) (Q:Option Bool->SortSt->Prop),G st->Q (some (Bd i)) st->wpS (model prog w) A E s (beyond' left key arr base i) Q st) (g:G st) (hh:hint<n) (mono:∀ i j,i<=j->j<n->Bd j=true->Bd i=true)
  (h:∀ k,k<=n->(∀ i,i<k->Bd i=true)->(∀ i,k<=i->i<n->Bd i=false)->Q (some k) st):wpS (model prog w) A E s (gallop' left key arr base n hint) Q st:=by
 rw [gallop'_eq]
 have third:∀ lo hi,lo<=hi->hi<=n->(∀ i,i<lo->Bd i=true)->(∀ i,hi<=i->i<n->Bd i=false)->wpS (model prog w) A E s (g3 left key arr base n lo hi) Q st:=fun lo hi h1 h2 h3 h4=>by
  unfold g3
  refine wpS_bind (wpS_mono (wpS_forRange (I:=fun x c st'=>∃ lo hi,c=(none,lo,hi)/\st'=st/\lo<=hi/\hi<=n/\hi - lo+x<=n/\(∀ i,i<lo->Bd i=true)/\∀ i,hi<=i->i<n->Bd i=false)
   (Q:=fun c st'=>∃ k,c=(none,k,k)/\st'=st/\k<=n/\(∀ i,i<k->Bd i=true)/\∀ i,k<=i->i<n->Bd i=false) ?_ ?_ ⟨lo,hi,rfl,rfl,h1,h2,by omega,h3,h4⟩) ?_)
  ·rintro x c st' _ hx ⟨lo,hi,rfl,rfl,h1,h2,h5,h3,h4⟩
   dsimp only
   split
   ·rename_i c
    have:lo=hi:=by omega
    subst this
    exact wpS_pure ⟨lo,rfl,rfl,h2,h3,h4⟩
   ·rename_i c
    refine wpS_bind (hb _ (by omega) st' _ g ?_)
    dsimp only
    split
    ·rename_i d
     exact wpS_pure ⟨_,hi,rfl,rfl,by omega,h2,by omega,fun i hi'=>mono i _ (by omega) (by omega) d,h4⟩
    ·rename_i d
     have d':Bd (lo+(hi - lo) / 2)=false:=by simpa using d
     refine wpS_pure ⟨lo,_,rfl,rfl,by omega,by omega,by omega,h3,fun i hi' hin=>?_⟩
     cases z:Bd i with
     | false=>rfl
     | true=>rw [mono _ i hi' hin z] at d';cases d'
  ·rintro c st' ⟨lo,hi,rfl,rfl,h1,h2,h5,h3,h4⟩
   have:lo=hi:=by omega
   subst this
   exact ⟨lo,rfl,rfl,h2,h3,h4⟩
  ·rintro c st' ⟨k,rfl,rfl,h1,h2,h3⟩
   exact wpS_pure (h k h1 h2 h3)
 refine wpS_bind (hb hint hh st _ g ?_)
 dsimp only
 split
 ·rename_i c0
  refine wpS_bind (wpS_mono (wpS_forRange (I:=fun x c st'=>∃ la of,c=(none,la,of)/\st'=st/\la<of/\hint+la<n/\Bd (hint+la)=true/\x<of)
   (Q:=fun c st'=>∃ la of,c=(none,la,of)/\st'=st/\la<of/\hint+la<n/\Bd (hint+la)=true/\(n - hint<=of\/(hint+of<n/\Bd (hint+of)=false))) ?_ ?_ ⟨0,1,rfl,rfl,by omega,by omega,c0,by omega⟩) ?_)
  ·rintro x c st' _ hx ⟨la,of,rfl,rfl,h1,h2,h3,h4⟩
   dsimp only
   split
   ·rename_i c
    exact wpS_pure ⟨la,of,rfl,rfl,h1,h2,h3,.inl c⟩
   ·rename_i c
    refine wpS_bind (hb _ (by omega) st' _ g ?_)
    dsimp only
    split
    ·rename_i d
     exact wpS_pure ⟨la,of,rfl,rfl,h1,h2,h3,.inr ⟨by omega,by simpa using d⟩⟩
    ·rename_i d
     exact wpS_pure ⟨of,2*of+1,rfl,rfl,by omega,by omega,by simpa using d,by omega⟩
  ·rintro c st' ⟨la,of,rfl,rfl,h1,h2,h3,h4⟩
   exact ⟨la,of,rfl,rfl,h1,h2,h3,.inl (by omega)⟩
  ·rintro c st' ⟨la,of,rfl,rfl,h1,h2,h3,h4⟩
   dsimp only
   refine third (hint+la+1) (hint+min of (n - hint)) ?_ (by omega) (fun i hi=>mono i _ (by omega) h2 h3) fun i hi hin=>?_
   ·rcases h4 with z | ⟨z,_⟩ <;> omega
   ·rcases h4 with z | ⟨z1,z2⟩
    ·omega
    ·cases z:Bd i with
     | false=>rfl
     | true=>rw [mono _ i (by omega) hin z] at z2;cases z2
 ·rename_i c0
  have c0':Bd hint=false:=by simpa using c0
  refine wpS_bind (wpS_mono (wpS_forRange (I:=fun x c st'=>∃ la of,c=(none,la,of)/\st'=st/\la<of/\la<=hint/\Bd (hint - la)=false/\x<of)
   (Q:=fun c st'=>∃ la of,c=(none,la,of)/\st'=st/\la<of/\la<=hint/\Bd (hint - la)=false/\(hint+1<=of\/(of<=hint/\Bd (hint - of)=true))) ?_ ?_ ⟨0,1,rfl,rfl,by omega,by omega,c0',by omega⟩) ?_)
  ·rintro x c st' _ hx ⟨la,of,rfl,rfl,h1,h2,h3,h4⟩
   dsimp only
   split
   ·rename_i c
    exact wpS_pure ⟨la,of,rfl,rfl,h1,h2,h3,.inl c⟩
   ·rename_i c
    refine wpS_bind (hb _ (by omega) st' _ g ?_)
    dsimp only
    split
    ·rename_i d
     exact wpS_pure ⟨la,of,rfl,rfl,h1,h2,h3,.inr ⟨by omega,by simpa using d⟩⟩
    ·rename_i d
     exact wpS_pure ⟨of,2*of+1,rfl,rfl,by omega,by omega,by simpa using d,by omega⟩
  ·rintro c st' ⟨la,of,rfl,rfl,h1,h2,h3,h4⟩
   exact ⟨la,of,rfl,rfl,h1,h2,h3,.inl (by omega)⟩
  ·rintro c st' ⟨la,of,rfl,rfl,h1,h2,h3,h4⟩
   dsimp only
   refine third (hint+1 - min of (hint+1)) (hint - la) ?_ (by omega) (fun i hi=>?_) fun i hi hin=>?_
   ·rcases h4 with z | ⟨z,_⟩ <;> omega
   ·rcases h4 with z | ⟨z1,z2⟩
    ·omega
    ·exact mono i _ (by omega) (by omega) z2
   ·cases z:Bd i with
    | false=>rfl
    | true=>rw [mono _ i hi hin z] at h3;cases h3
end
end L2
namespace L2
open PySem PySem.Spec PyProof.Rows
def qA9:Nat->StateT SortSt Sem Unit:=sortPriv% PySem.Builtin.setMinGallop
def mergeLo':Array Keyed->Array Keyed->StateT SortSt Sem (Array Keyed):=sortPriv% PySem.Builtin.mergeLo
def dnA (a b out:Array Keyed) (ia ib:Nat):Array Keyed:=out++a.extract ia a.size++b.extract ib b.size
def lsA (a b out:Array Keyed) (ia ib:Nat):Array Keyed:=out++b.extract ib b.size++a.extract ia a.size
theorem mergeLo'_eq (a b:Array Keyed):mergeLo' a b=(do
 rule "list.sort.merge-lo"
 let total:=a.size+b.size
 let mut out:Array Keyed:=#[<-elem' b 0]
 let mut ia:=0
 let mut ib:=1
 if ib == b.size then return dnA a b out ia ib
 if ia+1 == a.size then return lsA a b out ia ib
 let mut minGallop:=gallopOf (← get)
 for _ in [0:total] do
  let mut acount:=0
  let mut bcount:=0
  for _ in [0:total] do
   let some bWins ← lt' (← elem' b ib) (← elem' a ia) | return dnA a b out ia ib
   if bWins then
    out:=out.push (← elem' b ib);ib:=ib+1;bcount:=bcount+1;acount:=0
    if ib == b.size then return dnA a b out ia ib
    if bcount >= minGallop then break
   else
    out:=out.push (← elem' a ia);ia:=ia+1;acount:=acount+1;bcount:=0
    if ia+1 == a.size then return lsA a b out ia ib
    if acount >= minGallop then break
  rule "list.sort.gallop"
  minGallop:=minGallop+1
  for _ in [0:total] do
   if minGallop > 1 then minGallop:=minGallop - 1
   qA9 minGallop
   let some k ← gallop' false (← elem' b ib) a ia (a.size - ia) 0 | return dnA a b out ia ib
   acount:=k
   if k > 0 then
    out:=out++a.extract ia (ia+k);ia:=ia+k
    if ia+1 == a.size then return lsA a b out ia ib
    if ia == a.size then return dnA a b out ia ib
   out:=out.push (← elem' b ib);ib:=ib+1
   if ib == b.size then return dnA a b out ia ib
   let some k ← gallop' true (← elem' a ia) b ib (b.size - ib) 0 | return dnA a b out ia ib
   bcount:=k
   if k > 0 then
    out:=out++b.extract ib (ib+k);ib:=ib+k
    if ib == b.size then return dnA a b out ia ib
   out:=out.push (← elem' a ia);ia:=ia+1
   if ia+1 == a.size then return lsA a b out ia ib
   if acount<7 && bcount<7 then break
  minGallop:=minGallop+1
  qA9 minGallop
 unsupported "internal:list.sort.merge-bound"):=rfl
def Srd (rk:Keyed->Int) (l:List Keyed):Prop:=l.Pairwise fun x y=>rk x<=rk y
def Dn (rk:Keyed->Int) (all l:List Keyed):Prop:=l.Perm all/\Srd rk l
structure MI (rk:Keyed->Int) (all ra rb o:List Keyed):Prop where
 perm:(o++(ra++rb)).Perm all
 so:Srd rk o
 sa:Srd rk ra
 sb:Srd rk rb
 la:∀ x∈o,∀ y∈ra,rk x<=rk y
 lb:∀ x∈o,∀ y∈rb,rk x<=rk y
section
variable {rk:Keyed->Int} {all ra rb o xs:List Keyed}
theorem MI.symm (h:MI rk all ra rb o):MI rk all rb ra o:=⟨(List.perm_append_comm.append_left o).trans h.perm,h.so,h.sb,h.sa,h.lb,h.la⟩
theorem MI.as (h:MI rk all (xs++ra) rb o) (c:∀ x∈xs,∀ y∈rb,rk x<=rk y):MI rk all ra rb (o++xs):=by
 have p:=List.pairwise_append.mp h.sa
 refine ⟨by simpa [List.append_assoc] using h.perm,List.pairwise_append.mpr ⟨h.so,p.1,fun x hx y hy=>h.la x hx y (List.mem_append_left _ hy)⟩,p.2.1,h.sb,fun x hx y hy=>?_,fun x hx y hy=>?_⟩
 ·rcases List.mem_append.mp hx with z | z
  ·exact h.la x z y (List.mem_append_right _ hy)
  ·exact p.2.2 x z y hy
 ·rcases List.mem_append.mp hx with z | z
  ·exact h.lb x z y hy
  ·exact c x z y hy
theorem MI.bs (h:MI rk all ra (xs++rb) o) (c:∀ x∈xs,∀ y∈ra,rk x<=rk y):MI rk all ra rb (o++xs):=(h.symm.as c).symm
theorem MI.fin (h:MI rk all ra rb o) (c:∀ x∈ra,∀ y∈rb,rk x<=rk y):Dn rk all (o++(ra++rb)):=by
 refine ⟨h.perm,List.pairwise_append.mpr ⟨h.so,List.pairwise_append.mpr ⟨h.sa,h.sb,c⟩,fun x hx y hy=>?_⟩⟩
 rcases List.mem_append.mp hy with z | z
 ·exact h.la x hx y z
 ·exact h.lb x hx y z
theorem MI.len (h:MI rk all ra rb o):o.length+(ra.length+rb.length)=all.length:=by
 have:=h.perm.length_eq
 simpa using this
theorem qCe {x:Keyed} {l:List Keyed} (h:Srd rk (x :: l)):∀ y∈x :: l,rk x<=rk y:=fun y hy=>by
 rcases List.mem_cons.mp hy with z | z
 ·rw [z];exact Int.le_refl _
 ·exact (List.pairwise_cons.mp h).1 y z
end
def Gal (st st':SortSt):Prop:=kindOf st'=kindOf st/\arrOf st'=arrOf st/\pendingOf st'=pendingOf st/\failedOf st'=failedOf st
theorem Gal.refl (st:SortSt):Gal st st:=⟨rfl,rfl,rfl,rfl⟩
theorem Gal.trans {a b c:SortSt} (h:Gal a b) (k:Gal b c):Gal a c:=⟨k.1.trans h.1,k.2.1.trans h.2.1,k.2.2.1.trans h.2.2.1,k.2.2.2.trans h.2.2.2⟩
theorem qDi (a:Array Keyed) (i j:Nat):(a.extract i j).toList=(a.toList.drop i).take (j - i):=by
 rw [Array.toList_extract]
theorem ext_end (a:Array Keyed) (i:Nat):(a.extract i a.size).toList=a.toList.drop i:=by
 rw [qDi,List.take_of_length_le (by simp)]
theorem dnA_list (a b out:Array Keyed) (ia ib:Nat):(dnA a b out ia ib).toList=out.toList++(a.toList.drop ia++b.toList.drop ib):=by
 unfold dnA
 rw [Array.toList_append,Array.toList_append,ext_end,ext_end,List.append_assoc]
theorem lsA_list (a b out:Array Keyed) (ia ib:Nat):(lsA a b out ia ib).toList=out.toList++(b.toList.drop ib++a.toList.drop ia):=by
 unfold lsA
 rw [Array.toList_append,Array.toList_append,ext_end,ext_end,List.append_assoc]
section
variable {prog:Program} {w:World} {A:Around} {E:Value->Shared->Prop} {s:Shared} {rk:Keyed->Int} {kd:SortKind} {D:Keyed->Prop}
def qGb (prog:Program) (w:World) (A:Around) (E:Value->Shared->Prop) (s:Shared) (rk:Keyed->Int) (kd:SortKind) (D:Keyed->Prop):Prop :=
 ∀ x y,D x->D y->∀ (st:SortSt) (Q:Option Bool->SortSt->Prop),kindOf st=kd->Q (some (decide (rk x<rk y))) st->wpS (model prog w) A E s (lt' x y) Q st
theorem qA0 {arr:Array Keyed} {i:Nat} {p:Keyed} {Q:Keyed->SortSt->Prop} {st:SortSt} (e:arr[i]?=some p) (h:Q p st):wpS (model prog w) A E s (elem' arr i) Q st:=by
 rw [elem'_eq,e];exact wpS_pure h
def gP (rk:Keyed->Int) (left:Bool) (key x:Keyed):Bool:=if left then decide (rk x<rk key) else !decide (rk key<rk x)
theorem wpS_beyond (ak:qGb prog w A E s rk kd D) {left:Bool} {key x:Keyed} {arr:Array Keyed} {base i:Nat} {Q:Option Bool->SortSt->Prop} {st:SortSt} (hk:kindOf st=kd) (dk:D key) (dx:D x) (e:arr[base+i]?=some x)
  (h:Q (some (gP rk left key x)) st):wpS (model prog w) A E s (beyond' left key arr base i) Q st:=by
 unfold beyond'
 refine wpS_bind (qA0 e ?_)
 cases left with
 | true=>exact ak x key dx dk st Q hk h
 | false=>exact wpS_bind (ak key x dk dx st _ hk (wpS_pure h))
theorem qD4 (ak:qGb prog w A E s rk kd D) {left:Bool} {key:Keyed} {arr:Array Keyed} {base n hint:Nat} {l:List Keyed} {Q:Option Nat->SortSt->Prop} {st:SortSt} (hk:kindOf st=kd) (dk:D key) (hl:(arr.toList.drop base).take n=l) (hn:l.length=n)
  (dl:∀ x∈l,D x) (sl:Srd rk l) (hh:hint<n) (h:∀ l1 l2,l=l1++l2->(∀ x∈l1,gP rk left key x=true)->(∀ x∈l2,gP rk left key x=false)->Q (some l1.length) st) :
  wpS (model prog w) A E s (gallop' left key arr base n hint) Q st:=by
 have at_:∀ i,(hi:i<n)->arr[base+i]?=some (l[i]'(by omega)):=fun i hi=>by
  subst hl
  rw [<-Array.getElem?_toList]
  rw [List.getElem_take,List.getElem_drop,List.getElem?_eq_getElem]
 refine wpS_gallop (Bd:=fun i=>if c:i<l.length then gP rk left key (l[i]'c) else false) (G:=fun st=>kindOf st=kd) (fun i hi st Q g q=>?_) hk hh (fun i j hij hj q=>?_) fun k hk1 h1 h2=>?_
 ·refine wpS_beyond ak g dk (dl _ (List.getElem_mem (by omega))) (at_ i hi) ?_
  rw [dif_pos (by omega)] at q
  exact q
 ·rw [dif_pos (by omega)] at q ⊢
  by_cases e:i=j
  ·subst e;exact q
  ·have:=List.pairwise_iff_getElem.mp sl i j (by omega) (by omega) (by omega)
   unfold gP at q ⊢
   cases left
   ·simp at q ⊢;omega
   ·simp at q ⊢;omega
 ·have e:=h (l.take k) (l.drop k) (List.take_append_drop k l).symm (fun x hx=>?_) fun x hx=>?_
  ·rw [List.length_take,Nat.min_eq_left (by omega)] at e
   exact e
  ·obtain ⟨i,hi,rfl⟩:=List.mem_iff_getElem.mp hx
   rw [List.length_take] at hi
   have:=h1 i (by omega)
   rw [dif_pos (by omega)] at this
   rw [List.getElem_take];exact this
  ·obtain ⟨i,hi,rfl⟩:=List.mem_iff_getElem.mp hx
   rw [List.length_drop] at hi
   have:=h2 (k+i) (by omega) (by omega)
   rw [dif_pos (by omega)] at this
   rw [List.getElem_drop];exact this
theorem qEt (g:Nat):qA9 g=modify fun st=>SortSt.mk' (kindOf st) (arrOf st) (pendingOf st) g (failedOf st):=rfl
theorem qEv {g:Nat} {st:SortSt} {Q:Unit->SortSt->Prop} (h:∀ st',Gal st st'->Q () st'):wpS (model prog w) A E s (qA9 g) Q st:=by
 rw [qEt]
 exact wpS_modify (h _ ⟨rfl,rfl,rfl,rfl⟩)
abbrev G7:=ForInStep (Option (Array Keyed)×Array Keyed×Nat×Nat×Nat×Nat×Nat)
def gl4 (a b:Array Keyed) (ac bc mg:Nat) (out:Array Keyed) (ia ib:Nat):StateT SortSt Sem G7:=do
 let x ← elem' a ia
 if (ia+1+1 == a.size)=true then pure (.done (some (lsA a b (out.push x) (ia+1) ib),out.push x,ia+1,ib,mg,ac,bc))
 else if (decide (ac<7) && decide (bc<7))=true then pure (.done (none,out.push x,ia+1,ib,mg,ac,bc))
 else pure (.yield (none,out.push x,ia+1,ib,mg,ac,bc))
def gl3 (a b:Array Keyed) (ac mg:Nat) (out:Array Keyed) (ia ib bc0:Nat):StateT SortSt Sem G7:=do
 let y ← elem' b ib
 if (ib+1 == b.size)=true then pure (.done (some (dnA a b (out.push y) ia (ib+1)),out.push y,ia,ib+1,mg,ac,bc0))
 else
  let x ← elem' a ia
  let some k ← gallop' true x b (ib+1) (b.size - (ib+1)) 0 | pure (.done (some (dnA a b (out.push y) ia (ib+1)),out.push y,ia,ib+1,mg,ac,bc0))
  if k > 0 then
    if (ib+1+k == b.size)=true then pure (.done (some (dnA a b (out.push y++b.extract (ib+1) (ib+1+k)) ia (ib+1+k)),out.push y++b.extract (ib+1) (ib+1+k),ia,ib+1+k,mg,ac,k))
    else gl4 a b ac k mg (out.push y++b.extract (ib+1) (ib+1+k)) ia (ib+1+k)
  else gl4 a b ac k mg (out.push y) ia (ib+1)
def gl2 (a b:Array Keyed) (mg:Nat) (out:Array Keyed) (ia ib ac0 bc0:Nat):StateT SortSt Sem G7:=do
 qA9 mg
 let y ← elem' b ib
 let some k ← gallop' false y a ia (a.size - ia) 0 | pure (.done (some (dnA a b out ia ib),out,ia,ib,mg,ac0,bc0))
 if k > 0 then
   if (ia+k+1 == a.size)=true then pure (.done (some (lsA a b (out++a.extract ia (ia+k)) (ia+k) ib),out++a.extract ia (ia+k),ia+k,ib,mg,k,bc0))
   else if (ia+k == a.size)=true then pure (.done (some (dnA a b (out++a.extract ia (ia+k)) (ia+k) ib),out++a.extract ia (ia+k),ia+k,ib,mg,k,bc0))
   else gl3 a b k mg (out++a.extract ia (ia+k)) (ia+k) ib bc0
 else gl3 a b k mg out ia ib bc0
def glT (a b:Array Keyed) (c:Option (Array Keyed)×Array Keyed×Nat×Nat×Nat×Nat×Nat):StateT SortSt Sem G7 :=
 if c.2.2.2.2.1 > 1 then gl2 a b (c.2.2.2.2.1 - 1) c.2.1 c.2.2.1 c.2.2.2.1 c.2.2.2.2.2.1 c.2.2.2.2.2.2 else gl2 a b c.2.2.2.2.1 c.2.1 c.2.2.1 c.2.2.2.1 c.2.2.2.2.2.1 c.2.2.2.2.2.2
theorem qEq (a:Array Keyed) {i:Nat} (h:i<a.size):∃ x,a[i]?=some x/\x∈a.toList/\a.toList.drop i=x :: a.toList.drop (i+1):=by
 refine ⟨a[i],by simp [h],by simp,?_⟩
 rw [List.drop_eq_getElem_cons (by simpa using h)]
 simp
structure Lo (rk:Keyed->Int) (a b out:Array Keyed) (ia ib:Nat):Prop where
 mi:MI rk (a.toList++b.toList) (a.toList.drop ia) (b.toList.drop ib) out.toList
 ha:ia+1<a.size
 hb:ib<b.size
def LoT (rk:Keyed->Int) (a b:Array Keyed) (st:SortSt) (r:Array Keyed) (st':SortSt):Prop:=Gal st st'/\Dn rk (a.toList++b.toList) r.toList
theorem Lo.dn {a b out:Array Keyed} {ia ib:Nat} (m:MI rk (a.toList++b.toList) (a.toList.drop ia) (b.toList.drop ib) out.toList) (h:a.size<=ia\/b.size<=ib):Dn rk (a.toList++b.toList) (dnA a b out ia ib).toList:=by
 rw [dnA_list]
 refine m.fin fun x hx y hy=>?_
 rcases h with h | h
 ·rw [List.drop_eq_nil_of_le (by simpa using h)] at hx;cases hx
 ·rw [List.drop_eq_nil_of_le (by simpa using h)] at hy;cases hy
theorem Lo.ls {a b out:Array Keyed} {ia ib:Nat} (m:MI rk (a.toList++b.toList) (a.toList.drop ia) (b.toList.drop ib) out.toList) (h:ia+1=a.size) (hi:∀ x∈a.toList.drop (a.size - 1),∀ y∈b.toList,rk y<=rk x):Dn rk (a.toList++b.toList) (lsA a b out ia ib).toList:=by
 rw [lsA_list]
 refine m.symm.fin fun y hy x hx=>hi x ?_ y (List.mem_of_mem_drop hy)
 rw [show a.size - 1=ia by omega];exact hx
theorem wp_gl4 {a b out:Array Keyed} {ac bc mg ia ib:Nat} {st st0:SortSt} {Q:G7->SortSt->Prop} (L:Lo rk a b out ia ib) (lt:∀ x,a[ia]?=some x->∀ y∈b.toList.drop ib,rk x<=rk y) (hi:∀ x∈a.toList.drop (a.size - 1),∀ y∈b.toList,rk y<=rk x) (g:Gal st0 st)
  (hd:∀ r c,LoT rk a b st0 r st->Q (.done (some r,c)) st) (hn:∀ out' ia' mg ac bc,Lo rk a b out' ia' ib->out.size<out'.size->Q (.done (none,out',ia',ib,mg,ac,bc)) st/\Q (.yield (none,out',ia',ib,mg,ac,bc)) st) :
  wpS (model prog w) A E s (gl4 a b ac bc mg out ia ib) Q st:=by
 obtain ⟨x,e,ex,ed⟩:=qEq a (i:=ia) (by have:=L.ha;omega)
 have m:MI rk (a.toList++b.toList) (a.toList.drop (ia+1)) (b.toList.drop ib) (out.push x).toList:=by
  have m:=L.mi
  rw [ed] at m
  rw [Array.toList_push]
  exact MI.as (xs:=[x]) m fun z hz y hy=>by
   rw [List.mem_singleton.mp hz]
   exact lt x e y hy
 unfold gl4
 refine wpS_bind (qA0 e ?_)
 have h1:=L.ha
 by_cases c:(ia+1+1 == a.size)=true
 ·rw [if_pos c]
  exact wpS_pure (hd _ _ ⟨g,Lo.ls m (by simpa using c) hi⟩)
 ·rw [if_neg c]
  have c':ia+1+1≠a.size:=by simpa using c
  have:=hn (out.push x) (ia+1) mg ac bc ⟨m,by omega,L.hb⟩ (by simp)
  split
  ·exact wpS_pure this.1
  ·exact wpS_pure this.2
theorem beq_ge {i n:Nat} (h:(i == n)=true):n<=i:=Nat.le_of_eq (eq_of_beq h).symm
theorem ext_app {b:Array Keyed} {i:Nat} {l1 l2:List Keyed} (e:b.toList.drop i=l1++l2):(b.extract i (i+l1.length)).toList=l1/\b.toList.drop (i+l1.length)=l2:=by
 refine ⟨?_,?_⟩
 ·rw [qDi,e,show i+l1.length - i=l1.length by omega,List.take_left']
  rfl
 ·rw [<-List.drop_drop,e,List.drop_left']
  rfl
theorem wp_gl3 (ak:qGb prog w A E s rk kd D) {a b out:Array Keyed} {ac mg bc0 ia ib:Nat} {st st0:SortSt} {Q:G7->SortSt->Prop} (hk:kindOf st=kd) (da:∀ x∈a.toList,D x) (db:∀ x∈b.toList,D x) (L:Lo rk a b out ia ib) (lt:∀ y,b[ib]?=some y->∀ x∈a.toList.drop ia,rk y<=rk x) (hi:∀ x∈a.toList.drop (a.size - 1),∀ y∈b.toList,rk y<=rk x) (g:Gal st0 st)
  (hd:∀ r c,LoT rk a b st0 r st->Q (.done (some r,c)) st) (hn:∀ out' ia' ib' mg ac bc,Lo rk a b out' ia' ib'->out.size<out'.size->Q (.done (none,out',ia',ib',mg,ac,bc)) st/\Q (.yield (none,out',ia',ib',mg,ac,bc)) st) :
  wpS (model prog w) A E s (gl3 a b ac mg out ia ib bc0) Q st:=by
 have h1:=L.ha
 have h2:=L.hb
 obtain ⟨y,e,ey,ed⟩:=qEq b (i:=ib) h2
 obtain ⟨x,f,fx,fd⟩:=qEq a (i:=ia) (by omega)
 have m:MI rk (a.toList++b.toList) (a.toList.drop ia) (b.toList.drop (ib+1)) (out.push y).toList:=by
  have m:=L.mi
  rw [ed] at m
  rw [Array.toList_push]
  exact MI.bs (xs:=[y]) m fun z hz x hx=>by
   rw [List.mem_singleton.mp hz]
   exact lt y e x hx
 have sh:=qCe (fd▸m.sa)
 unfold gl3
 refine wpS_bind (qA0 e ?_)
 by_cases c:(ib+1 == b.size)=true
 ·rw [if_pos c]
  exact wpS_pure (hd _ _ ⟨g,Lo.dn m (.inr (beq_ge c))⟩)
 ·rw [if_neg c]
  have c':ib+1≠b.size:=by simpa using c
  refine wpS_bind (qA0 f ?_)
  refine wpS_bind (qD4 ak (l:=b.toList.drop (ib+1)) hk (da x fx) (List.take_of_length_le (by simp)) (by simp) (fun z hz=>db z (List.mem_of_mem_drop hz)) m.sb (by omega) fun l1 l2 el p1 p2=>?_)
  have q1:∀ z∈l1,rk z<rk x:=fun z hz=>by simpa [gP] using p1 z hz
  have q2:∀ z∈l2,rk x<=rk z:=fun z hz=>by
   have:=p2 z hz
   simp [gP] at this
   exact this
  have X:=ext_app el
  dsimp only
  by_cases k0:l1.length > 0
  ·rw [if_pos k0]
   have m2:MI rk (a.toList++b.toList) (a.toList.drop ia) (b.toList.drop (ib+1+l1.length)) (out.push y++b.extract (ib+1) (ib+1+l1.length)).toList:=by
    rw [Array.toList_append,X.1,X.2]
    rw [el] at m
    exact m.bs fun z hz x' hx'=>by
     have a1:=q1 z hz
     have a2:=sh x' (fd▸hx')
     omega
   by_cases d:(ib+1+l1.length == b.size)=true
   ·rw [if_pos d]
    exact wpS_pure (hd _ _ ⟨g,Lo.dn m2 (.inr (beq_ge d))⟩)
   ·rw [if_neg d]
    have d':ib+1+l1.length≠b.size:=by simpa using d
    have ll:(b.toList.drop (ib+1)).length=l1.length+l2.length:=by rw [el];simp
    rw [List.length_drop] at ll
    have ll':b.size - (ib+1)=l1.length+l2.length:=by simpa using ll
    refine wp_gl4 ⟨m2,h1,by omega⟩ (fun z hz y hy=>?_) hi g hd fun o i mg ac bc L' hs=>hn o i _ mg ac bc L' ?_
    ·rw [X.2] at hy
     rw [f] at hz
     cases hz
     exact q2 y hy
    ·simp at hs;omega
  ·rw [if_neg k0]
   have n1:l1=[]:=List.length_eq_zero_iff.mp (by omega)
   subst n1
   refine wp_gl4 ⟨m,h1,by omega⟩ (fun z hz y hy=>?_) hi g hd fun o i mg ac bc L' hs=>hn o i _ mg ac bc L' ?_
   ·rw [el] at hy
    rw [f] at hz
    cases hz
    exact q2 y hy
   ·simp at hs;omega
theorem wp_gl2 (ak:qGb prog w A E s rk kd D) {a b out:Array Keyed} {mg ac0 bc0 ia ib:Nat} {st st0:SortSt} {Q:G7->SortSt->Prop} (hk:kindOf st0=kd) (da:∀ x∈a.toList,D x) (db:∀ x∈b.toList,D x) (L:Lo rk a b out ia ib) (hi:∀ x∈a.toList.drop (a.size - 1),∀ y∈b.toList,rk y<=rk x) (g:Gal st0 st)
  (hd:∀ r c st,LoT rk a b st0 r st->Q (.done (some r,c)) st) (hn:∀ out' ia' ib' mg ac bc st,Gal st0 st->Lo rk a b out' ia' ib'->out.size<out'.size->Q (.done (none,out',ia',ib',mg,ac,bc)) st/\Q (.yield (none,out',ia',ib',mg,ac,bc)) st) :
  wpS (model prog w) A E s (gl2 a b mg out ia ib ac0 bc0) Q st:=by
 have h1:=L.ha
 have h2:=L.hb
 have m:=L.mi
 obtain ⟨y,e,ey,ed⟩:=qEq b (i:=ib) h2
 have sh:=qCe (ed▸m.sb)
 unfold gl2
 refine wpS_bind (qEv fun st1 g1=>?_)
 have g':=g.trans g1
 refine wpS_bind (qA0 e ?_)
 refine wpS_bind (qD4 ak (l:=a.toList.drop ia) (g'.1.trans hk) (db y ey) (List.take_of_length_le (by simp)) (by simp) (fun z hz=>da z (List.mem_of_mem_drop hz)) m.sa (by omega) fun l1 l2 el p1 p2=>?_)
 have q1:∀ z∈l1,rk z<=rk y:=fun z hz=>by simpa [gP] using p1 z hz
 have q2:∀ z∈l2,rk y<rk z:=fun z hz=>by simpa [gP] using p2 z hz
 have X:=ext_app el
 dsimp only
 by_cases k0:l1.length > 0
 ·rw [if_pos k0]
  have m2:MI rk (a.toList++b.toList) (a.toList.drop (ia+l1.length)) (b.toList.drop ib) (out++a.extract ia (ia+l1.length)).toList:=by
   rw [Array.toList_append,X.1,X.2]
   rw [el] at m
   exact m.as fun z hz x' hx'=>by
    have a1:=q1 z hz
    have a2:=sh x' (ed▸hx')
    omega
  by_cases d:(ia+l1.length+1 == a.size)=true
  ·rw [if_pos d]
   exact wpS_pure (hd _ _ _ ⟨g',Lo.ls m2 (by simpa using d) hi⟩)
  ·rw [if_neg d]
   by_cases d2:(ia+l1.length == a.size)=true
   ·rw [if_pos d2]
    exact wpS_pure (hd _ _ _ ⟨g',Lo.dn m2 (.inl (beq_ge d2))⟩)
   ·rw [if_neg d2]
    have d':ia+l1.length+1≠a.size:=by simpa using d
    have d2':ia+l1.length≠a.size:=by simpa using d2
    have ll:(a.toList.drop ia).length=l1.length+l2.length:=by rw [el];simp
    rw [List.length_drop] at ll
    have ll':a.size - ia=l1.length+l2.length:=by simpa using ll
    refine wp_gl3 ak (g'.1.trans hk) da db ⟨m2,by omega,h2⟩ (fun z hz x hx=>?_) hi g' (fun r c=>hd r c _) fun o i j mg ac bc L' hs=>hn o i j mg ac bc _ g' L' ?_
    ·rw [X.2] at hx
     rw [e] at hz
     cases hz
     exact Int.le_of_lt (q2 x hx)
    ·simp at hs;omega
 ·rw [if_neg k0]
  have n1:l1=[]:=List.length_eq_zero_iff.mp (by omega)
  subst n1
  refine wp_gl3 ak (g'.1.trans hk) da db L (fun z hz x hx=>?_) hi g' (fun r c=>hd r c _) fun o i j mg ac bc L' hs=>hn o i j mg ac bc _ g' L' hs
  rw [el] at hx
  rw [e] at hz
  cases hz
  exact Int.le_of_lt (q2 x hx)
theorem wpS_mergeLo (ak:qGb prog w A E s rk kd D) {a b:Array Keyed} {st:SortSt} {Q:Array Keyed->SortSt->Prop} (hk:kindOf st=kd) (da:∀ x∈a.toList,D x) (db:∀ x∈b.toList,D x) (sa:Srd rk a.toList) (sb:Srd rk b.toList) (h1:1<=a.size) (h2:1<=b.size)
  (lo:∀ y∈b.toList.take 1,∀ x∈a.toList,rk y<=rk x) (hi:∀ x∈a.toList.drop (a.size - 1),∀ y∈b.toList,rk y<=rk x) (h:∀ r st',Gal st st'->Dn rk (a.toList++b.toList) r.toList->Q r st'):wpS (model prog w) A E s (mergeLo' a b) Q st:=by
 rw [mergeLo'_eq]
 refine wpS_bind (wpS_lift (wpAny_rule ⟨rfl,?_⟩))
 obtain ⟨y,e,ey,ed⟩:=qEq b (i:=0) h2
 refine wpS_bind (qA0 e ?_)
 have m:MI rk (a.toList++b.toList) (a.toList.drop 0) (b.toList.drop (0+1)) (#[y]:Array Keyed).toList:=by
  have m0:MI rk (a.toList++b.toList) (a.toList.drop 0) (b.toList.drop 0) []:=⟨by simp,List.Pairwise.nil,by simpa using sa,by simpa using sb,fun x hx=>(by cases hx),fun x hx=>(by cases hx)⟩
  rw [ed] at m0
  refine MI.bs (xs:=[y]) m0 fun z hz x hx=>?_
  rw [List.mem_singleton.mp hz]
  refine lo y ?_ x (List.mem_of_mem_drop hx)
  rw [List.drop_zero] at ed
  rw [ed]
  exact List.mem_cons_self ..
 by_cases e1:(1 == b.size)=true
 ·rw [if_pos e1]
  exact wpS_pure (h _ _ (Gal.refl _) (Lo.dn m (.inr (beq_ge e1))))
 rw [if_neg e1]
 by_cases e2:(0+1 == a.size)=true
 ·rw [if_pos e2]
  exact wpS_pure (h _ _ (Gal.refl _) (Lo.ls m (by simpa using e2) hi))
 rw [if_neg e2]
 have e1':1≠b.size:=by simpa using e1
 have e2':0+1≠a.size:=by simpa using e2
 refine wpS_bind (wpS_get ?_)
 have tot:∀ {o:Array Keyed} {i j:Nat},Lo rk a b o i j->o.size+3<=a.size+b.size:=fun {o i j} L=>by
  have:=L.mi.len
  have:=L.ha
  have:=L.hb
  simp at *
  omega
 refine wpS_bind (wpS_mono (wpS_forRange (I:=fun x c st'=>∃ out ia ib mg,c=(none,out,ia,ib,mg)/\Lo rk a b out ia ib/\x+1<=out.size/\Gal st st')
  (Q:=fun c st'=>∃ r c',c=(some r,c')/\LoT rk a b st r st') ?_ ?_ ⟨_,_,_,_,rfl,⟨m,by omega,by omega⟩,by simp,Gal.refl _⟩) ?_)
 ·rintro x c st1 _ hx ⟨out,ia,ib,mg,rfl,L,hs,g⟩
  refine wpS_bind (wpS_mono (wpS_forRange (I:=fun y c st'=>∃ o ia ib ac bc,c=(none,o,ia,ib,ac,bc)/\Lo rk a b o ia ib/\out.size+y<=o.size/\Gal st st')
   (Q:=fun c st'=>(∃ r c',c=(some r,c')/\LoT rk a b st r st')\/∃ o ia ib ac bc,c=(none,o,ia,ib,ac,bc)/\Lo rk a b o ia ib/\out.size<o.size/\Gal st st') ?_ ?_ ⟨_,_,_,_,_,rfl,L,Nat.le_refl _,g⟩) ?_)
  ·rintro y c st2 _ hy ⟨o,ja,jb,ac,bc,rfl,L2,hs2,g2⟩
   have h1:=L2.ha
   have h2:=L2.hb
   have m:=L2.mi
   obtain ⟨v,f,fv,fd⟩:=qEq b (i:=jb) h2
   obtain ⟨u,p,pu,pd⟩:=qEq a (i:=ja) (by omega)
   refine wpS_bind (qA0 f ?_)
   refine wpS_bind (qA0 p ?_)
   refine wpS_bind (ak v u (db v fv) (da u pu) _ _ (g2.1.trans hk) ?_)
   have sv:=qCe (fd▸m.sb)
   have su:=qCe (pd▸m.sa)
   by_cases c:rk v<rk u
   ·rw [decide_eq_true c]
    have m2:MI rk (a.toList++b.toList) (a.toList.drop ja) (b.toList.drop (jb+1)) (o.push v).toList:=by
     rw [fd] at m
     rw [Array.toList_push]
     refine MI.bs (xs:=[v]) m fun z hz x hx=>?_
     rw [List.mem_singleton.mp hz]
     have:=su x (pd▸hx)
     omega
    dsimp only
    rw [if_pos rfl]
    refine wpS_bind (qA0 f ?_)
    by_cases q:(jb+1 == b.size)=true
    ·rw [if_pos q]
     exact wpS_pure (.inl ⟨_,_,rfl,g2,Lo.dn m2 (.inr (beq_ge q))⟩)
    ·rw [if_neg q]
     have q':jb+1≠b.size:=by simpa using q
     split
     ·exact wpS_pure (.inr ⟨_,_,_,_,_,rfl,⟨m2,h1,by omega⟩,by simp;omega,g2⟩)
     ·exact wpS_pure ⟨_,_,_,_,_,rfl,⟨m2,h1,by omega⟩,by simp;omega,g2⟩
   ·rw [decide_eq_false c]
    have m2:MI rk (a.toList++b.toList) (a.toList.drop (ja+1)) (b.toList.drop jb) (o.push u).toList:=by
     rw [pd] at m
     rw [Array.toList_push]
     refine MI.as (xs:=[u]) m fun z hz x hx=>?_
     rw [List.mem_singleton.mp hz]
     have:=sv x (fd▸hx)
     omega
    dsimp only
    rw [if_neg (by decide)]
    refine wpS_bind (qA0 p ?_)
    by_cases q:(ja+1+1 == a.size)=true
    ·rw [if_pos q]
     exact wpS_pure (.inl ⟨_,_,rfl,g2,Lo.ls m2 (eq_of_beq q) hi⟩)
    ·rw [if_neg q]
     have q':ja+1+1≠a.size:=by simpa using q
     split
     ·exact wpS_pure (.inr ⟨_,_,_,_,_,rfl,⟨m2,by omega,h2⟩,by simp;omega,g2⟩)
     ·exact wpS_pure ⟨_,_,_,_,_,rfl,⟨m2,by omega,h2⟩,by simp;omega,g2⟩
  ·rintro c st2 ⟨o,ja,jb,ac,bc,rfl,L2,hs2,g2⟩
   have:=tot L2
   omega
  ·rintro c st2 (⟨r,c',rfl,hr⟩ | ⟨o,ja,jb,ac,bc,rfl,L2,hs2,g2⟩)
   ·exact wpS_pure ⟨r,_,rfl,hr⟩
   ·refine wpS_bind (wpS_lift (wpAny_rule ⟨rfl,?_⟩))
    refine wpS_bind (wpS_mono (wpS_forRange (I:=fun y c st'=>∃ o' ia ib mg ac bc,c=(none,o',ia,ib,mg,ac,bc)/\Lo rk a b o' ia ib/\o.size+y<=o'.size/\Gal st st')
     (Q:=fun c st'=>(∃ r c',c=(some r,c')/\LoT rk a b st r st')\/∃ o' ia ib mg ac bc,c=(none,o',ia,ib,mg,ac,bc)/\Lo rk a b o' ia ib/\o.size<=o'.size/\Gal st st') ?_ ?_ ⟨_,_,_,_,_,_,rfl,L2,Nat.le_refl _,g2⟩) ?_)
    ·rintro y c st3 _ hy ⟨o',ka,kb,mg',ac',bc',rfl,L3,hs3,g3⟩
     have one:∀ mg,wpS (model prog w) A E s (gl2 a b mg o' ka kb ac' bc') (fun r st'=>match r with | .done c'=>(∃ r c'',c'=(some r,c'')/\LoT rk a b st r st')\/∃ o' ia ib mg ac bc,c'=(none,o',ia,ib,mg,ac,bc)/\Lo rk a b o' ia ib/\o.size<=o'.size/\Gal st st' | .yield c'=>∃ o' ia ib mg ac bc,c'=(none,o',ia,ib,mg,ac,bc)/\Lo rk a b o' ia ib/\o.size+(y+1)<=o'.size/\Gal st st') st3:=fun mg =>
      wp_gl2 ak hk da db L3 hi g3 (fun r c st5 hr=>.inl ⟨r,c,rfl,hr⟩) fun o6 i j mg6 ac6 bc6 st6 g6 L6 hs6=>⟨.inr ⟨_,_,_,_,_,_,rfl,L6,by omega,g6⟩,⟨_,_,_,_,_,_,rfl,L6,by omega,g6⟩⟩
     refine wpS_mono (m:=glT a b (none,o',ka,kb,mg',ac',bc')) ?_ (fun r st' hr=>?_) (Q:=fun r st'=>match r with | .done c'=>(∃ r c'',c'=(some r,c'')/\LoT rk a b st r st')\/∃ o' ia ib mg ac bc,c'=(none,o',ia,ib,mg,ac,bc)/\Lo rk a b o' ia ib/\o.size<=o'.size/\Gal st st' | .yield c'=>∃ o' ia ib mg ac bc,c'=(none,o',ia,ib,mg,ac,bc)/\Lo rk a b o' ia ib/\o.size+(y+1)<=o'.size/\Gal st st')
     ·unfold glT
      split
      ·exact one _
      ·exact one _
     ·cases r with
      | done c'=>exact hr
      | yield c'=>exact hr
    ·rintro c st3 ⟨o',ka,kb,mg',ac',bc',rfl,L3,hs3,g3⟩
     have:=tot L3
     omega
    ·rintro c st3 (⟨r,c',rfl,hr⟩ | ⟨o',ka,kb,mg',ac',bc',rfl,L3,hs3,g3⟩)
     ·exact wpS_pure ⟨r,_,rfl,hr⟩
     ·refine wpS_bind (qEv fun st4 g4=>?_)
      exact wpS_pure ⟨_,_,_,_,rfl,L3,by show _<=o'.size;omega,g3.trans g4⟩
 ·rintro c st1 ⟨out,ia,ib,mg,rfl,L,hs,g⟩
  have:=tot L
  omega
 ·rintro c st1 ⟨r,c',rfl,hr⟩
  exact wpS_pure (h _ _ hr.1 hr.2)
end
end L2
namespace L2
open PySem PySem.Spec PyProof.Rows
def mergeHi':Array Keyed->Array Keyed->StateT SortSt Sem (Array Keyed):=sortPriv% PySem.Builtin.mergeHi
def dnH (a b out:Array Keyed) (na nb:Nat):Array Keyed:=a.extract 0 na++b.extract 0 nb++out.reverse
def fsH (a b out:Array Keyed) (na nb:Nat):Array Keyed:=b.extract 0 nb++a.extract 0 na++out.reverse
theorem mergeHi'_eq (a b:Array Keyed):mergeHi' a b=(do
 rule "list.sort.merge-hi"
 let total:=a.size+b.size
 let mut na:=a.size - 1
 let mut nb:=b.size
 let mut out:Array Keyed:=#[<-elem' a na]
 if na == 0 then return dnH a b out na nb
 if nb == 1 then return fsH a b out na nb
 let mut minGallop:=gallopOf (← get)
 for _ in [0:total] do
  let mut acount:=0
  let mut bcount:=0
  for _ in [0:total] do
   let some aWins ← lt' (← elem' b (nb - 1)) (← elem' a (na - 1)) | return dnH a b out na nb
   if aWins then
    na:=na - 1;out:=out.push (← elem' a na);acount:=acount+1;bcount:=0
    if na == 0 then return dnH a b out na nb
    if acount >= minGallop then break
   else
    nb:=nb - 1;out:=out.push (← elem' b nb);bcount:=bcount+1;acount:=0
    if nb == 1 then return fsH a b out na nb
    if bcount >= minGallop then break
  rule "list.sort.gallop"
  minGallop:=minGallop+1
  for _ in [0:total] do
   if minGallop > 1 then minGallop:=minGallop - 1
   qA9 minGallop
   let some at_ ← gallop' false (← elem' b (nb - 1)) a 0 na (na - 1) | return dnH a b out na nb
   let k:=na - at_
   acount:=k
   if k > 0 then
    out:=out++(a.extract at_ na).reverse;na:=at_
    if na == 0 then return dnH a b out na nb
   nb:=nb - 1;out:=out.push (← elem' b nb)
   if nb == 1 then return fsH a b out na nb
   let some at_ ← gallop' true (← elem' a (na - 1)) b 0 nb (nb - 1) | return dnH a b out na nb
   let k:=nb - at_
   bcount:=k
   if k > 0 then
    out:=out++(b.extract at_ nb).reverse;nb:=at_
    if nb == 1 then return fsH a b out na nb
    if nb == 0 then return dnH a b out na nb
   na:=na - 1;out:=out.push (← elem' a na)
   if na == 0 then return dnH a b out na nb
   if acount<7 && bcount<7 then break
  minGallop:=minGallop+1
  qA9 minGallop
 unsupported "internal:list.sort.merge-bound"):=rfl
def ng (rk:Keyed->Int) (x:Keyed):Int:=-rk x
theorem Dn.turn {rk:Keyed->Int} {all l:List Keyed} (h:Dn (ng rk) all l):Dn rk all l.reverse:=by
 refine ⟨(List.reverse_perm l).trans h.1,List.pairwise_reverse.mpr (h.2.imp fun {x y} q=>?_)⟩
 unfold ng at q
 omega
theorem Srd.turn {rk:Keyed->Int} {l:List Keyed} (h:Srd rk l):Srd (ng rk) l.reverse:=by
 refine List.pairwise_reverse.mpr (h.imp fun {x y} q=>?_)
 unfold ng
 omega
theorem ext_from (a:Array Keyed) (n:Nat):(a.extract 0 n).toList=a.toList.take n:=by
 rw [qDi,List.drop_zero,Nat.sub_zero]
theorem dnH_list (a b out:Array Keyed) (na nb:Nat):(dnH a b out na nb).toList=(out.toList++((b.toList.take nb).reverse++(a.toList.take na).reverse)).reverse:=by
 unfold dnH
 simp [ext_from]
theorem fsH_list (a b out:Array Keyed) (na nb:Nat):(fsH a b out na nb).toList=(out.toList++((a.toList.take na).reverse++(b.toList.take nb).reverse)).reverse:=by
 unfold fsH
 simp [ext_from]
theorem qDp (a:Array Keyed) {n:Nat} (h:n<a.size):∃ x,a[n]?=some x/\x∈a.toList/\(a.toList.take (n+1)).reverse=x :: (a.toList.take n).reverse:=by
 refine ⟨a[n],by simp [h],by simp,?_⟩
 rw [List.take_succ_eq_append_getElem (by simpa using h)]
 simp
theorem ext_hi {a:Array Keyed} {n:Nat} {l1 l2:List Keyed} (hn:n<=a.size) (e:a.toList.take n=l1++l2):(a.extract l1.length n).toList=l2/\a.toList.take l1.length=l1/\l1.length+l2.length=n:=by
 have ln:l1.length+l2.length=n:=by
  have:(a.toList.take n).length=l1.length+l2.length:=by rw [e];simp
  rw [List.length_take] at this
  simp at this
  omega
 refine ⟨?_,?_,ln⟩
 ·rw [qDi,<-List.drop_take,e,List.drop_left']
  rfl
 ·have:(a.toList.take n).take l1.length=l1:=by rw [e,List.take_left'];rfl
  rw [List.take_take,Nat.min_eq_left (by omega)] at this
  exact this
section
variable {prog:Program} {w:World} {A:Around} {E:Value->Shared->Prop} {s:Shared} {rk:Keyed->Int} {kd:SortKind} {D:Keyed->Prop}
abbrev H7:=ForInStep (Option (Array Keyed)×Nat×Nat×Array Keyed×Nat×Nat×Nat)
def gh4 (a b:Array Keyed) (ac bc mg:Nat) (out:Array Keyed) (na nb:Nat):StateT SortSt Sem H7:=do
 let x ← elem' a (na - 1)
 if (na - 1 == 0)=true then pure (.done (some (dnH a b (out.push x) (na - 1) nb),na - 1,nb,out.push x,mg,ac,bc))
 else if (decide (ac<7) && decide (bc<7))=true then pure (.done (none,na - 1,nb,out.push x,mg,ac,bc))
 else pure (.yield (none,na - 1,nb,out.push x,mg,ac,bc))
def gh3 (a b:Array Keyed) (ac mg:Nat) (out:Array Keyed) (na nb bc0:Nat):StateT SortSt Sem H7:=do
 let y ← elem' b (nb - 1)
 if (nb - 1 == 1)=true then pure (.done (some (fsH a b (out.push y) na (nb - 1)),na,nb - 1,out.push y,mg,ac,bc0))
 else
  let x ← elem' a (na - 1)
  let some k ← gallop' true x b 0 (nb - 1) (nb - 1 - 1) | pure (.done (some (dnH a b (out.push y) na (nb - 1)),na,nb - 1,out.push y,mg,ac,bc0))
  if nb - 1 - k > 0 then
    if (k == 1)=true then pure (.done (some (fsH a b (out.push y++(b.extract k (nb - 1)).reverse) na k),na,k,out.push y++(b.extract k (nb - 1)).reverse,mg,ac,nb - 1 - k))
    else if (k == 0)=true then pure (.done (some (dnH a b (out.push y++(b.extract k (nb - 1)).reverse) na k),na,k,out.push y++(b.extract k (nb - 1)).reverse,mg,ac,nb - 1 - k))
    else gh4 a b ac (nb - 1 - k) mg (out.push y++(b.extract k (nb - 1)).reverse) na k
  else gh4 a b ac (nb - 1 - k) mg (out.push y) na (nb - 1)
def gh2 (a b:Array Keyed) (mg:Nat) (out:Array Keyed) (na nb ac0 bc0:Nat):StateT SortSt Sem H7:=do
 qA9 mg
 let y ← elem' b (nb - 1)
 let some k ← gallop' false y a 0 na (na - 1) | pure (.done (some (dnH a b out na nb),na,nb,out,mg,ac0,bc0))
 if na - k > 0 then
   if (k == 0)=true then pure (.done (some (dnH a b (out++(a.extract k na).reverse) k nb),k,nb,out++(a.extract k na).reverse,mg,na - k,bc0))
   else gh3 a b (na - k) mg (out++(a.extract k na).reverse) k nb bc0
 else gh3 a b (na - k) mg out na nb bc0
def ghT (a b:Array Keyed) (c:Option (Array Keyed)×Nat×Nat×Array Keyed×Nat×Nat×Nat):StateT SortSt Sem H7 :=
 if c.2.2.2.2.1 > 1 then gh2 a b (c.2.2.2.2.1 - 1) c.2.2.2.1 c.2.1 c.2.2.1 c.2.2.2.2.2.1 c.2.2.2.2.2.2 else gh2 a b c.2.2.2.2.1 c.2.2.2.1 c.2.1 c.2.2.1 c.2.2.2.2.2.1 c.2.2.2.2.2.2
abbrev HM (rk:Keyed->Int) (a b out:Array Keyed) (na nb:Nat):Prop:=MI (ng rk) (a.toList++b.toList) (a.toList.take na).reverse (b.toList.take nb).reverse out.toList
structure Hi (rk:Keyed->Int) (a b out:Array Keyed) (na nb:Nat):Prop where
 mi:HM rk a b out na nb
 ha:0<na
 hb:1<nb
 za:na<=a.size
 zb:nb<=b.size
theorem Hi.dn {a b out:Array Keyed} {na nb:Nat} (m:HM rk a b out na nb) (h:na=0\/nb=0):Dn rk (a.toList++b.toList) (dnH a b out na nb).toList:=by
 rw [dnH_list]
 refine Dn.turn (m.symm.fin fun x hx y hy=>?_)
 rcases h with h | h
 ·subst h;cases hy
 ·subst h;cases hx
theorem Hi.fs {a b out:Array Keyed} {na nb:Nat} (m:HM rk a b out na nb) (h:nb=1) (lo:∀ y∈b.toList.take 1,∀ x∈a.toList,rk y<=rk x):Dn rk (a.toList++b.toList) (fsH a b out na nb).toList:=by
 rw [fsH_list]
 refine Dn.turn (m.fin fun x hx y hy=>?_)
 subst h
 have:=lo y (List.mem_reverse.mp hy) x (List.mem_of_mem_take (List.mem_reverse.mp hx))
 unfold ng
 omega
theorem wp_gh4 {a b out:Array Keyed} {ac bc mg na nb:Nat} {st st0:SortSt} {Q:H7->SortSt->Prop} (L:Hi rk a b out na nb) (lt:∀ x,a[na - 1]?=some x->∀ y∈b.toList.take nb,rk y<=rk x) (g:Gal st0 st)
  (hd:∀ r c,LoT rk a b st0 r st->Q (.done (some r,c)) st) (hn:∀ out' na' mg ac bc,Hi rk a b out' na' nb->out.size<out'.size->Q (.done (none,na',nb,out',mg,ac,bc)) st/\Q (.yield (none,na',nb,out',mg,ac,bc)) st) :
  wpS (model prog w) A E s (gh4 a b ac bc mg out na nb) Q st:=by
 have h1:=L.ha
 have h3:=L.za
 obtain ⟨x,e,ex,ed⟩:=qDp a (n:=na - 1) (by omega)
 rw [show na - 1+1=na by omega] at ed
 have m:HM rk a b (out.push x) (na - 1) nb:=by
  have m:=L.mi
  unfold HM at m ⊢
  rw [ed] at m
  rw [Array.toList_push]
  exact MI.as (xs:=[x]) m fun z hz y hy=>by
   rw [List.mem_singleton.mp hz]
   have:=lt x e y (List.mem_reverse.mp hy)
   unfold ng
   omega
 unfold gh4
 refine wpS_bind (qA0 e ?_)
 by_cases c:(na - 1 == 0)=true
 ·rw [if_pos c]
  exact wpS_pure (hd _ _ ⟨g,Hi.dn m (.inl (eq_of_beq c))⟩)
 ·rw [if_neg c]
  have c':na - 1≠0:=by simpa using c
  have:=hn (out.push x) (na - 1) mg ac bc ⟨m,by omega,L.hb,by omega,L.zb⟩ (by simp)
  split
  ·exact wpS_pure this.1
  ·exact wpS_pure this.2
theorem wp_gh3 (ak:qGb prog w A E s rk kd D) {a b out:Array Keyed} {ac mg bc0 na nb:Nat} {st st0:SortSt} {Q:H7->SortSt->Prop} (hk:kindOf st=kd) (da:∀ x∈a.toList,D x) (db:∀ x∈b.toList,D x) (sb:Srd rk b.toList) (L:Hi rk a b out na nb) (lt:∀ y,b[nb - 1]?=some y->∀ x∈a.toList.take na,rk x<=rk y) (lo:∀ y∈b.toList.take 1,∀ x∈a.toList,rk y<=rk x) (g:Gal st0 st)
  (hd:∀ r c,LoT rk a b st0 r st->Q (.done (some r,c)) st) (hn:∀ out' na' nb' mg ac bc,Hi rk a b out' na' nb'->out.size<out'.size->Q (.done (none,na',nb',out',mg,ac,bc)) st/\Q (.yield (none,na',nb',out',mg,ac,bc)) st) :
  wpS (model prog w) A E s (gh3 a b ac mg out na nb bc0) Q st:=by
 have h1:=L.ha
 have h2:=L.hb
 have h3:=L.za
 have h4:=L.zb
 obtain ⟨y,e,ey,ed⟩:=qDp b (n:=nb - 1) (by omega)
 rw [show nb - 1+1=nb by omega] at ed
 obtain ⟨x,f,fx,fd⟩:=qDp a (n:=na - 1) (by omega)
 rw [show na - 1+1=na by omega] at fd
 have m:HM rk a b (out.push y) na (nb - 1):=by
  have m:=L.mi
  unfold HM at m ⊢
  rw [ed] at m
  rw [Array.toList_push]
  exact MI.bs (xs:=[y]) m fun z hz x hx=>by
   rw [List.mem_singleton.mp hz]
   have:=lt y e x (List.mem_reverse.mp hx)
   unfold ng
   omega
 have sh:=qCe (fd▸m.sa)
 unfold gh3
 refine wpS_bind (qA0 e ?_)
 by_cases c:(nb - 1 == 1)=true
 ·rw [if_pos c]
  exact wpS_pure (hd _ _ ⟨g,Hi.fs m (eq_of_beq c) lo⟩)
 ·rw [if_neg c]
  have c':nb - 1≠1:=by simpa using c
  refine wpS_bind (qA0 f ?_)
  refine wpS_bind (qD4 ak (l:=b.toList.take (nb - 1)) hk (da x fx) (by rw [List.drop_zero]) (by simp;omega) (fun z hz=>db z (List.mem_of_mem_take hz)) (List.Pairwise.sublist (List.take_sublist _ _) sb) (by omega) fun l1 l2 el p1 p2=>?_)
  have q1:∀ z∈l1,rk z<rk x:=fun z hz=>by simpa [gP] using p1 z hz
  have q2:∀ z∈l2,rk x<=rk z:=fun z hz=>by
   have:=p2 z hz
   simp [gP] at this
   exact this
  obtain ⟨X1,X2,X3⟩:=ext_hi (by omega) el
  dsimp only
  by_cases k0:nb - 1 - l1.length > 0
  ·rw [if_pos k0]
   have m2:HM rk a b (out.push y++(b.extract l1.length (nb - 1)).reverse) na l1.length:=by
    unfold HM at m ⊢
    rw [Array.toList_append,Array.toList_reverse,X1,X2]
    rw [el,List.reverse_append] at m
    exact m.bs fun z hz x' hx'=>by
     have a1:=q2 z (List.mem_reverse.mp hz)
     have a2:=sh x' (fd▸hx')
     unfold ng at a2 ⊢
     omega
   by_cases d:(l1.length == 1)=true
   ·rw [if_pos d]
    exact wpS_pure (hd _ _ ⟨g,Hi.fs m2 (eq_of_beq d) lo⟩)
   ·rw [if_neg d]
    by_cases d2:(l1.length == 0)=true
    ·rw [if_pos d2]
     exact wpS_pure (hd _ _ ⟨g,Hi.dn m2 (.inr (eq_of_beq d2))⟩)
    ·rw [if_neg d2]
     have d':l1.length≠1:=by simpa using d
     have d2':l1.length≠0:=fun z=>d2 (by rw [z];rfl)
     refine wp_gh4 ⟨m2,h1,by omega,h3,by omega⟩ (fun z hz y hy=>?_) g hd fun o i mg ac bc L' hs=>hn o i _ mg ac bc L' ?_
     ·rw [X2] at hy
      rw [f] at hz
      cases hz
      exact Int.le_of_lt (q1 y hy)
     ·simp at hs;omega
  ·rw [if_neg k0]
   have n1:l2=[]:=List.length_eq_zero_iff.mp (by omega)
   subst n1
   refine wp_gh4 ⟨m,h1,by omega,h3,by omega⟩ (fun z hz y hy=>?_) g hd fun o i mg ac bc L' hs=>hn o i _ mg ac bc L' ?_
   ·rw [el,List.append_nil] at hy
    rw [f] at hz
    cases hz
    exact Int.le_of_lt (q1 y hy)
   ·simp at hs;omega
theorem wp_gh2 (ak:qGb prog w A E s rk kd D) {a b out:Array Keyed} {mg ac0 bc0 na nb:Nat} {st st0:SortSt} {Q:H7->SortSt->Prop} (hk:kindOf st0=kd) (da:∀ x∈a.toList,D x) (db:∀ x∈b.toList,D x) (sa:Srd rk a.toList) (sb:Srd rk b.toList) (L:Hi rk a b out na nb) (lo:∀ y∈b.toList.take 1,∀ x∈a.toList,rk y<=rk x) (g:Gal st0 st)
  (hd:∀ r c st,LoT rk a b st0 r st->Q (.done (some r,c)) st) (hn:∀ out' na' nb' mg ac bc st,Gal st0 st->Hi rk a b out' na' nb'->out.size<out'.size->Q (.done (none,na',nb',out',mg,ac,bc)) st/\Q (.yield (none,na',nb',out',mg,ac,bc)) st) :
  wpS (model prog w) A E s (gh2 a b mg out na nb ac0 bc0) Q st:=by
 have h1:=L.ha
 have h2:=L.hb
 have h3:=L.za
 have h4:=L.zb
 have m:=L.mi
 obtain ⟨y,e,ey,ed⟩:=qDp b (n:=nb - 1) (by omega)
 rw [show nb - 1+1=nb by omega] at ed
 have sh:=qCe (ed▸m.sb)
 unfold gh2
 refine wpS_bind (qEv fun st1 g1=>?_)
 have g':=g.trans g1
 refine wpS_bind (qA0 e ?_)
 refine wpS_bind (qD4 ak (l:=a.toList.take na) (g'.1.trans hk) (db y ey) (by rw [List.drop_zero]) (by simp;omega) (fun z hz=>da z (List.mem_of_mem_take hz)) (List.Pairwise.sublist (List.take_sublist _ _) sa) (by omega) fun l1 l2 el p1 p2=>?_)
 have q1:∀ z∈l1,rk z<=rk y:=fun z hz=>by simpa [gP] using p1 z hz
 have q2:∀ z∈l2,rk y<rk z:=fun z hz=>by simpa [gP] using p2 z hz
 obtain ⟨X1,X2,X3⟩:=ext_hi (by omega) el
 dsimp only
 by_cases k0:na - l1.length > 0
 ·rw [if_pos k0]
  have m2:HM rk a b (out++(a.extract l1.length na).reverse) l1.length nb:=by
   unfold HM at m ⊢
   rw [Array.toList_append,Array.toList_reverse,X1,X2]
   rw [el,List.reverse_append] at m
   exact m.as fun z hz x' hx'=>by
    have a1:=q2 z (List.mem_reverse.mp hz)
    have a2:=sh x' (ed▸hx')
    unfold ng at a2 ⊢
    omega
  by_cases d2:(l1.length == 0)=true
  ·rw [if_pos d2]
   exact wpS_pure (hd _ _ _ ⟨g',Hi.dn m2 (.inl (eq_of_beq d2))⟩)
  ·rw [if_neg d2]
   have d2':l1.length≠0:=fun z=>d2 (by rw [z];rfl)
   refine wp_gh3 ak (g'.1.trans hk) da db sb ⟨m2,by omega,h2,by omega,h4⟩ (fun z hz x hx=>?_) lo g' (fun r c=>hd r c _) fun o i j mg ac bc L' hs=>hn o i j mg ac bc _ g' L' ?_
   ·rw [X2] at hx
    rw [e] at hz
    cases hz
    exact q1 x hx
   ·simp at hs;omega
 ·rw [if_neg k0]
  have n1:l2=[]:=List.length_eq_zero_iff.mp (by omega)
  subst n1
  refine wp_gh3 ak (g'.1.trans hk) da db sb L (fun z hz x hx=>?_) lo g' (fun r c=>hd r c _) fun o i j mg ac bc L' hs=>hn o i j mg ac bc _ g' L' hs
  rw [el,List.append_nil] at hx
  rw [e] at hz
  cases hz
  exact q1 x hx
theorem wpS_mergeHi (ak:qGb prog w A E s rk kd D) {a b:Array Keyed} {st:SortSt} {Q:Array Keyed->SortSt->Prop} (hk:kindOf st=kd) (da:∀ x∈a.toList,D x) (db:∀ x∈b.toList,D x) (sa:Srd rk a.toList) (sb:Srd rk b.toList) (h1:1<=a.size) (h2:1<=b.size)
  (lo:∀ y∈b.toList.take 1,∀ x∈a.toList,rk y<=rk x) (hi:∀ x∈a.toList.drop (a.size - 1),∀ y∈b.toList,rk y<=rk x) (h:∀ r st',Gal st st'->Dn rk (a.toList++b.toList) r.toList->Q r st'):wpS (model prog w) A E s (mergeHi' a b) Q st:=by
 rw [mergeHi'_eq]
 refine wpS_bind (wpS_lift (wpAny_rule ⟨rfl,?_⟩))
 obtain ⟨x,e,ex,ed⟩:=qDp a (n:=a.size - 1) (by omega)
 rw [show a.size - 1+1=a.size by omega] at ed
 refine wpS_bind (qA0 e ?_)
 have m:HM rk a b #[x] (a.size - 1) b.size:=by
  have m0:MI (ng rk) (a.toList++b.toList) (a.toList.take a.size).reverse (b.toList.take b.size).reverse []:=by
   have ea:a.toList.take a.size=a.toList:=List.take_of_length_le (by simp)
   have eb:b.toList.take b.size=b.toList:=List.take_of_length_le (by simp)
   rw [ea,eb]
   refine ⟨?_,List.Pairwise.nil,sa.turn,sb.turn,fun x hx=>(by cases hx),fun x hx=>(by cases hx)⟩
   exact ((List.reverse_perm _).append (List.reverse_perm _))
  rw [ed] at m0
  refine MI.as (xs:=[x]) m0 fun z hz y hy=>?_
  rw [List.mem_singleton.mp hz]
  have:=hi x ?_ y (List.mem_of_mem_take (List.mem_reverse.mp hy))
  ·unfold ng;omega
  ·obtain ⟨x',e',_,ed'⟩:=qEq a (i:=a.size - 1) (by omega)
   rw [e] at e'
   cases e'
   rw [ed']
   exact List.mem_cons_self ..
 by_cases e1:(a.size - 1 == 0)=true
 ·rw [if_pos e1]
  exact wpS_pure (h _ _ (Gal.refl _) (Hi.dn m (.inl (eq_of_beq e1))))
 rw [if_neg e1]
 by_cases e2:(b.size == 1)=true
 ·rw [if_pos e2]
  exact wpS_pure (h _ _ (Gal.refl _) (Hi.fs m (eq_of_beq e2) lo))
 rw [if_neg e2]
 have e1':a.size - 1≠0:=fun z=>e1 (by rw [z];rfl)
 have e2':b.size≠1:=fun z=>e2 (by rw [z];rfl)
 refine wpS_bind (wpS_get ?_)
 have tot:∀ {o:Array Keyed} {i j:Nat},Hi rk a b o i j->o.size+3<=a.size+b.size:=fun {o i j} L=>by
  have:=L.mi.len
  have:=L.ha
  have:=L.hb
  have:=L.za
  have:=L.zb
  simp at *
  omega
 refine wpS_bind (wpS_mono (wpS_forRange (I:=fun x c st'=>∃ out na nb mg,c=(none,na,nb,out,mg)/\Hi rk a b out na nb/\x+1<=out.size/\Gal st st')
  (Q:=fun c st'=>∃ r c',c=(some r,c')/\LoT rk a b st r st') ?_ ?_ ⟨_,_,_,_,rfl,⟨m,by omega,by omega,by omega,Nat.le_refl _⟩,by simp,Gal.refl _⟩) ?_)
 ·rintro x c st1 _ hx ⟨out,ia,ib,mg,rfl,L,hs,g⟩
  refine wpS_bind (wpS_mono (wpS_forRange (I:=fun y c st'=>∃ o ia ib ac bc,c=(none,ia,ib,o,ac,bc)/\Hi rk a b o ia ib/\out.size+y<=o.size/\Gal st st')
   (Q:=fun c st'=>(∃ r c',c=(some r,c')/\LoT rk a b st r st')\/∃ o ia ib ac bc,c=(none,ia,ib,o,ac,bc)/\Hi rk a b o ia ib/\out.size<o.size/\Gal st st') ?_ ?_ ⟨_,_,_,_,_,rfl,L,Nat.le_refl _,g⟩) ?_)
  ·rintro y c st2 _ hy ⟨o,ja,jb,ac,bc,rfl,L2,hs2,g2⟩
   have h1:=L2.ha
   have h2:=L2.hb
   have h3:=L2.za
   have h4:=L2.zb
   have m:=L2.mi
   obtain ⟨v,f,fv,fd⟩:=qDp b (n:=jb - 1) (by omega)
   rw [show jb - 1+1=jb by omega] at fd
   obtain ⟨u,p,pu,pd⟩:=qDp a (n:=ja - 1) (by omega)
   rw [show ja - 1+1=ja by omega] at pd
   refine wpS_bind (qA0 f ?_)
   refine wpS_bind (qA0 p ?_)
   refine wpS_bind (ak v u (db v fv) (da u pu) _ _ (g2.1.trans hk) ?_)
   have sv:=qCe (fd▸m.sb)
   have su:=qCe (pd▸m.sa)
   unfold ng at sv su
   by_cases c:rk v<rk u
   ·rw [decide_eq_true c]
    have m2:HM rk a b (o.push u) (ja - 1) jb:=by
     unfold HM at m ⊢
     rw [pd] at m
     rw [Array.toList_push]
     refine MI.as (xs:=[u]) m fun z hz x hx=>?_
     rw [List.mem_singleton.mp hz]
     have:=sv x (fd▸hx)
     unfold ng
     omega
    dsimp only
    rw [if_pos rfl]
    refine wpS_bind (qA0 p ?_)
    by_cases q:(ja - 1 == 0)=true
    ·rw [if_pos q]
     exact wpS_pure (.inl ⟨_,_,rfl,g2,Hi.dn m2 (.inl (eq_of_beq q))⟩)
    ·rw [if_neg q]
     have q':ja - 1≠0:=fun z=>q (by rw [z];rfl)
     split
     ·exact wpS_pure (.inr ⟨_,_,_,_,_,rfl,⟨m2,by omega,h2,by omega,h4⟩,by simp;omega,g2⟩)
     ·exact wpS_pure ⟨_,_,_,_,_,rfl,⟨m2,by omega,h2,by omega,h4⟩,by simp;omega,g2⟩
   ·rw [decide_eq_false c]
    have m2:HM rk a b (o.push v) ja (jb - 1):=by
     unfold HM at m ⊢
     rw [fd] at m
     rw [Array.toList_push]
     refine MI.bs (xs:=[v]) m fun z hz x hx=>?_
     rw [List.mem_singleton.mp hz]
     have:=su x (pd▸hx)
     unfold ng
     omega
    dsimp only
    rw [if_neg (by decide)]
    refine wpS_bind (qA0 f ?_)
    by_cases q:(jb - 1 == 1)=true
    ·rw [if_pos q]
     exact wpS_pure (.inl ⟨_,_,rfl,g2,Hi.fs m2 (eq_of_beq q) lo⟩)
    ·rw [if_neg q]
     have q':jb - 1≠1:=fun z=>q (by rw [z];rfl)
     split
     ·exact wpS_pure (.inr ⟨_,_,_,_,_,rfl,⟨m2,h1,by omega,h3,by omega⟩,by simp;omega,g2⟩)
     ·exact wpS_pure ⟨_,_,_,_,_,rfl,⟨m2,h1,by omega,h3,by omega⟩,by simp;omega,g2⟩
  ·rintro c st2 ⟨o,ja,jb,ac,bc,rfl,L2,hs2,g2⟩
   have:=tot L2
   omega
  ·rintro c st2 (⟨r,c',rfl,hr⟩ | ⟨o,ja,jb,ac,bc,rfl,L2,hs2,g2⟩)
   ·exact wpS_pure ⟨r,_,rfl,hr⟩
   ·refine wpS_bind (wpS_lift (wpAny_rule ⟨rfl,?_⟩))
    refine wpS_bind (wpS_mono (wpS_forRange (I:=fun y c st'=>∃ o' ia ib mg ac bc,c=(none,ia,ib,o',mg,ac,bc)/\Hi rk a b o' ia ib/\o.size+y<=o'.size/\Gal st st')
     (Q:=fun c st'=>(∃ r c',c=(some r,c')/\LoT rk a b st r st')\/∃ o' ia ib mg ac bc,c=(none,ia,ib,o',mg,ac,bc)/\Hi rk a b o' ia ib/\o.size<=o'.size/\Gal st st') ?_ ?_ ⟨_,_,_,_,_,_,rfl,L2,Nat.le_refl _,g2⟩) ?_)
    ·rintro y c st3 _ hy ⟨o',ka,kb,mg',ac',bc',rfl,L3,hs3,g3⟩
     have one:∀ mg,wpS (model prog w) A E s (gh2 a b mg o' ka kb ac' bc') (fun r st'=>match r with | .done c'=>(∃ r c'',c'=(some r,c'')/\LoT rk a b st r st')\/∃ o' ia ib mg ac bc,c'=(none,ia,ib,o',mg,ac,bc)/\Hi rk a b o' ia ib/\o.size<=o'.size/\Gal st st' | .yield c'=>∃ o' ia ib mg ac bc,c'=(none,ia,ib,o',mg,ac,bc)/\Hi rk a b o' ia ib/\o.size+(y+1)<=o'.size/\Gal st st') st3:=fun mg =>
      wp_gh2 ak hk da db sa sb L3 lo g3 (fun r c st5 hr=>.inl ⟨r,c,rfl,hr⟩) fun o6 i j mg6 ac6 bc6 st6 g6 L6 hs6=>⟨.inr ⟨_,_,_,_,_,_,rfl,L6,by omega,g6⟩,⟨_,_,_,_,_,_,rfl,L6,by omega,g6⟩⟩
     refine wpS_mono (m:=ghT a b (none,ka,kb,o',mg',ac',bc')) ?_ (fun r st' hr=>?_) (Q:=fun r st'=>match r with | .done c'=>(∃ r c'',c'=(some r,c'')/\LoT rk a b st r st')\/∃ o' ia ib mg ac bc,c'=(none,ia,ib,o',mg,ac,bc)/\Hi rk a b o' ia ib/\o.size<=o'.size/\Gal st st' | .yield c'=>∃ o' ia ib mg ac bc,c'=(none,ia,ib,o',mg,ac,bc)/\Hi rk a b o' ia ib/\o.size+(y+1)<=o'.size/\Gal st st')
     ·unfold ghT
      split
      ·exact one _
      ·exact one _
     ·cases r with
      | done c'=>exact hr
      | yield c'=>exact hr
    ·rintro c st3 ⟨o',ka,kb,mg',ac',bc',rfl,L3,hs3,g3⟩
     have:=tot L3
     omega
    ·rintro c st3 (⟨r,c',rfl,hr⟩ | ⟨o',ka,kb,mg',ac',bc',rfl,L3,hs3,g3⟩)
     ·exact wpS_pure ⟨r,_,rfl,hr⟩
     ·refine wpS_bind (qEv fun st4 g4=>?_)
      exact wpS_pure ⟨_,_,_,_,rfl,L3,by show _<=o'.size;omega,g3.trans g4⟩
 ·rintro c st1 ⟨out,ia,ib,mg,rfl,L,hs,g⟩
  have:=tot L
  omega
 ·rintro c st1 ⟨r,c',rfl,hr⟩
  exact wpS_pure (h _ _ hr.1 hr.2)
end
end L2
namespace L2
open PySem PySem.Spec PyProof.Rows
def wrA (m:Array Keyed) (s:Nat) (a:Array Keyed):Array Keyed:=m.toList.zipIdx.foldl (fun a (p,j)=>a.setIfInBounds (s+j) p) a
theorem mergeAt'_eq (i:Nat):mergeAt' i=(do
 let s ← get
 let (some (sa,na,power),some (sb,nb,_)):=((pendingOf s)[i]?,(pendingOf s)[i+1]?) | unsupported "internal:list.sort.pending"
 set (setPending s (((pendingOf s).setIfInBounds i (sa,na+nb,power)).eraseIdxIfInBounds (i+1)))
 let some k ← gallop' false (← elem' (arrOf s) sb) (arrOf s) sa na 0 | return false
 let (sa,na):=(sa+k,na - k)
 if na == 0 then return true
 let some nb ← gallop' true (← elem' (arrOf s) (sa+na - 1)) (arrOf s) sb nb (nb - 1) | return false
 if nb == 0 then return true
 let x:=(arrOf s).extract sa sb
 let y:=(arrOf s).extract sb (sb+nb)
 let merged ← if na<=nb then mergeLo' x y else mergeHi' x y
 modify fun s=>setArr s (wrA merged sa (arrOf s))
 return (failedOf (← get)).isNone):=rfl
theorem wr_list (s:Nat):∀ (l:List Keyed) (k:Nat) (a:Array Keyed),s+k+l.length<=a.size->((l.zipIdx k).foldl (fun a (p,j)=>a.setIfInBounds (s+j) p) a).toList=a.toList.take (s+k)++(l++a.toList.drop (s+k+l.length))
 | [],k,a,h=>by simp
 | p :: l,k,a,h=>by
  rw [List.zipIdx_cons,List.foldl_cons]
  have hl:s+k+(l.length+1)<=a.size:=h
  rw [wr_list s l (k+1) _ (by simp;omega)]
  have e:(a.setIfInBounds (s+k) p).toList=a.toList.set (s+k) p:=Array.toList_setIfInBounds ..
  rw [e]
  have hs:s+k<a.toList.length:=by simp;omega
  have e1:(a.toList.set (s+k) p).take (s+(k+1))=a.toList.take (s+k)++[p]:=by
   rw [show s+(k+1)=s+k+1 by omega,List.take_succ_eq_append_getElem (by simpa using hs),List.take_set_of_le (Nat.le_refl _)]
   simp
  have e2:(a.toList.set (s+k) p).drop (s+(k+1)+l.length)=a.toList.drop (s+k+(p :: l).length):=by
   rw [List.drop_set_of_lt (by omega)]
   congr 1
   simp
   omega
  rw [e1,e2]
  simp
theorem wr_app {P X S M:List Keyed} {a m:Array Keyed} (e:a.toList=P++(X++S)) (hm:m.toList=M) (hl:M.length=X.length):(wrA m P.length a).toList=P++(M++S):=by
 subst hm
 have sz:a.size=P.length+(X.length+S.length):=by
  rw [<-Array.length_toList,e];simp
 unfold wrA
 rw [wr_list P.length m.toList 0 a (by omega),e,Nat.add_zero,List.take_left',hl]
 ·congr 2
  rw [<-List.append_assoc,List.drop_left']
  simp
 ·rfl
section
variable {prog:Program} {w:World} {A:Around} {E:Value->Shared->Prop} {s:Shared} {rk:Keyed->Int} {kd:SortKind} {D:Keyed->Prop}
theorem wpS_set {σ:Type} {M:Model} {st st':σ} {Q:PUnit->σ->Prop} (h:Q ⟨⟩ st'):wpS M A E s (set st':StateT σ Sem PUnit) Q st:=by
 unfold wpS;rw [StateT.run_set];exact wpAny_pure ⟨rfl,h⟩
theorem at_app {a:Array Keyed} {P S:List Keyed} {x:Keyed} (e:a.toList=P++x :: S):a[P.length]?=some x:=by
 rw [<-Array.getElem?_toList,e,List.getElem?_append_right (Nat.le_refl _)]
 simp
theorem wpS_mergeAt (ak:qGb prog w A E s rk kd D) {i:Nat} {st:SortSt} {Q:Bool->SortSt->Prop} {P X Y S:List Keyed} {pw q:Nat} (hk:kindOf st=kd) (hf:failedOf st=none) (e:(arrOf st).toList=P++(X++(Y++S))) (d:∀ x∈(arrOf st).toList,D x)
  (p1:(pendingOf st)[i]?=some (P.length,X.length,pw)) (p2:(pendingOf st)[i+1]?=some (P.length+X.length,Y.length,q)) (sX:Srd rk X) (sY:Srd rk Y) (nX:X≠[]) (nY:Y≠[])
  (h:∀ st' M,kindOf st'=kd->failedOf st'=none->pendingOf st'=((pendingOf st).setIfInBounds i (P.length,X.length+Y.length,pw)).eraseIdxIfInBounds (i+1)->(arrOf st').toList=P++(M++S)->Dn rk (X++Y) M->Q true st'):wpS (model prog w) A E s (mergeAt' i) Q st:=by
 rw [mergeAt'_eq]
 refine wpS_bind (wpS_get ?_)
 rw [p1,p2]
 dsimp only
 refine wpS_bind (wpS_set ?_)
 obtain ⟨b0,Y',eY⟩:=List.exists_cons_of_ne_nil nY
 have sb0:=qCe (eY▸sY)
 rw [<-eY] at sb0
 have eb:(arrOf st)[P.length+X.length]?=some b0:=by
  have:=at_app (a:=arrOf st) (P:=P++X) (x:=b0) (S:=Y'++S) (by rw [e,eY];simp)
  simpa using this
 have dX:∀ x∈X,D x:=fun x hx=>d x (by rw [e];simp [hx])
 have dY:∀ x∈Y,D x:=fun x hx=>d x (by rw [e];simp [hx])
 have mb:b0∈Y:=by rw [eY];exact List.mem_cons_self ..
 refine wpS_bind (qA0 eb ?_)
 refine wpS_bind (qD4 ak (l:=X) hk (dY _ mb) (by rw [e,List.drop_left' rfl,List.take_left' rfl]) rfl dX sX (List.length_pos_iff.mpr nX) fun l1 l2 el q1 q2=>?_)
 have r1:∀ z∈l1,rk z<=rk b0:=fun z hz=>by simpa [gP] using q1 z hz
 have r2:∀ z∈l2,rk b0<rk z:=fun z hz=>by simpa [gP] using q2 z hz
 have lX:X.length=l1.length+l2.length:=by rw [el];simp
 have plain:(∀ x∈X,∀ y∈Y,rk x<=rk y)->Dn rk (X++Y) (X++Y):=fun c=>⟨List.Perm.refl _,List.pairwise_append.mpr ⟨sX,sY,c⟩⟩
 dsimp only
 by_cases c:(X.length - l1.length == 0)=true
 ·rw [if_pos c]
  have c':X.length - l1.length=0:=eq_of_beq c
  have n2:l2=[]:=List.length_eq_zero_iff.mp (by omega)
  rw [n2,List.append_nil] at el
  exact wpS_pure (h _ (X++Y) hk hf rfl (by rw [List.append_assoc];exact e) (plain fun x hx y hy=>Int.le_trans (r1 x (el▸hx)) (sb0 y hy)))
 ·rw [if_neg c]
  have c':X.length - l1.length≠0:=fun z=>c (by rw [z];rfl)
  obtain ⟨l3,z,e3⟩:∃ l3 z,l2=l3++[z]:=by
   rcases List.eq_nil_or_concat l2 with z | ⟨l3,z,hz⟩
   ·rw [z] at lX;simp at lX;omega
   ·exact ⟨l3,z,by simpa using hz⟩
  have ez:(arrOf st)[P.length+l1.length+(X.length - l1.length) - 1]?=some z:=by
   have:=at_app (a:=arrOf st) (P:=P++l1++l3) (x:=z) (S:=Y++S) (by rw [e,el,e3];simp)
   rw [<-this]
   congr 1
   have:l2.length=l3.length+1:=by rw [e3];simp
   simp
   omega
  have mz:z∈X:=by rw [el,e3];simp
  have topz:∀ x∈X,rk x<=rk z:=fun x hx=>by
   have e4:X=(l1++l3)++[z]:=by rw [el,e3];simp
   rw [e4] at hx sX
   rcases List.mem_append.mp hx with hx | hx
   ·exact (List.pairwise_append.mp sX).2.2 x hx z (List.mem_singleton.mpr rfl)
   ·rw [List.mem_singleton.mp hx];exact Int.le_refl _
  refine wpS_bind (qA0 ez ?_)
  refine wpS_bind (qD4 ak (l:=Y) hk (dX _ mz) (by rw [e,<-List.append_assoc,List.drop_left' (by simp),List.take_left' rfl]) rfl dY sY (by have:=List.length_pos_iff.mpr nY;omega) fun m1 m2 em t1 t2=>?_)
  have u1:∀ y∈m1,rk y<rk z:=fun y hy=>by simpa [gP] using t1 y hy
  have u2:∀ y∈m2,rk z<=rk y:=fun y hy=>by
   have:=t2 y hy
   simp [gP] at this
   exact this
  dsimp only
  by_cases f:(m1.length == 0)=true
  ·rw [if_pos f]
   have n1:m1=[]:=List.length_eq_zero_iff.mp (eq_of_beq f)
   rw [n1,List.nil_append] at em
   exact wpS_pure (h _ (X++Y) hk hf rfl (by rw [List.append_assoc];exact e) (plain fun x hx y hy=>Int.le_trans (topz x hx) (u2 y (em▸hy))))
  ·rw [if_neg f]
   have f':m1.length≠0:=fun z=>f (by rw [z];rfl)
   have ex:((arrOf st).extract (P.length+l1.length) (P.length+X.length)).toList=l2:=by
    rw [qDi,e,el,show P++((l1++l2)++(Y++S))=(P++l1)++(l2++(Y++S)) by simp,List.drop_left' (by simp),List.take_left' (by simp;omega)]
   have ey:((arrOf st).extract (P.length+X.length) (P.length+X.length+m1.length)).toList=m1:=by
    rw [qDi,e,em,show P++(X++((m1++m2)++S))=(P++X)++(m1++(m2++S)) by simp,List.drop_left' (by simp),List.take_left' (by omega)]
   have sx:((arrOf st).extract (P.length+l1.length) (P.length+X.length)).size=l2.length:=by rw [<-Array.length_toList,ex]
   have sy:((arrOf st).extract (P.length+X.length) (P.length+X.length+m1.length)).size=m1.length:=by rw [<-Array.length_toList,ey]
   have s2:Srd rk l2:=(List.pairwise_append.mp (el▸sX)).2.1
   have t2':Srd rk m1:=(List.pairwise_append.mp (em▸sY)).1
   have i1:∀ x∈l2,x∈X:=fun x hx=>by rw [el];exact List.mem_append_right _ hx
   have i2:∀ x∈m1,x∈Y:=fun x hx=>by rw [em];exact List.mem_append_left _ hx
   have lo:∀ y∈m1.take 1,∀ x∈l2,rk y<=rk x:=fun y hy x hx=>by
    have:y=b0:=by
     cases m1 with
     | nil=>cases hy
     | cons v m1 =>
      rw [eY] at em
      injection em with e5 _
      rw [e5]
      simpa using hy
    rw [this]
    exact Int.le_of_lt (r2 x hx)
   have hi:∀ x∈l2.drop (l2.length - 1),∀ y∈m1,rk y<=rk x:=fun x hx y hy=>by
    have:x=z:=by
     rw [e3] at hx
     simpa using hx
    rw [this]
    exact Int.le_of_lt (u1 y hy)
   have post:∀ (r:Array Keyed) (st':SortSt),Gal (setPending st (((pendingOf st).setIfInBounds i (P.length,X.length+Y.length,pw)).eraseIdxIfInBounds (i+1))) st'->Dn rk (l2++m1) r.toList->wpS (model prog w) A E s (do modify fun s=>setArr s (wrA r (P.length+l1.length) (arrOf s));return (failedOf (← get)).isNone) Q st':=fun r st' g dn=>by
    refine wpS_bind (wpS_modify ?_)
    refine wpS_bind (wpS_get ?_)
    have ef:failedOf st'=none:=g.2.2.2.trans hf
    have ea:(arrOf st').toList=(P++l1)++((l2++m1)++(m2++S)):=by
     rw [g.2.1]
     show (arrOf st).toList=_
     rw [e,el,em];simp
    have ew:=wr_app (m:=r) ea rfl dn.1.length_eq
    rw [List.length_append] at ew
    have fin:=h (setArr st' (wrA r (P.length+l1.length) (arrOf st'))) (l1++(r.toList++m2)) (g.1.trans hk) ef g.2.2.1 (by
     show (wrA r (P.length+l1.length) (arrOf st')).toList=_
     rw [ew];simp) ?_
    ·have et:(failedOf (setArr st' (wrA r (P.length+l1.length) (arrOf st')))).isNone=true:=by
      show (failedOf st').isNone=true
      rw [ef];rfl
     rw [et]
     exact wpS_pure fin
    ·refine ⟨?_,?_⟩
     ·rw [el,em,List.append_assoc]
      refine List.Perm.append_left l1 ?_
      rw [<-List.append_assoc]
      exact List.Perm.append_right m2 dn.1
     ·have mem:∀ x∈r.toList,x∈l2\/x∈m1:=fun x hx=>List.mem_append.mp (dn.1.mem_iff.mp hx)
      have sp:=List.pairwise_append.mp (el▸sX)
      have sq:=List.pairwise_append.mp (em▸sY)
      have am:∀ y∈m2,y∈Y:=fun y hy=>by rw [em];exact List.mem_append_right _ hy
      refine List.pairwise_append.mpr ⟨sp.1,List.pairwise_append.mpr ⟨dn.2,sq.2.1,fun x hx y hy=>?_⟩,fun x hx y hy=>?_⟩
      ·rcases mem x hx with k | k
       ·exact Int.le_trans (topz x (i1 x k)) (u2 y hy)
       ·exact sq.2.2 x k y hy
      ·rcases List.mem_append.mp hy with k | k
       ·rcases mem y k with k | k
        ·exact sp.2.2 x hx y k
        ·exact Int.le_trans (r1 x hx) (sb0 y (i2 y k))
       ·exact Int.le_trans (r1 x hx) (sb0 y (am y k))
   by_cases sm:X.length - l1.length<=m1.length
   ·rw [if_pos sm]
    refine wpS_bind (wpS_mergeLo ak hk (fun x hx=>dX x (i1 x (ex▸hx))) (fun x hx=>dY x (i2 x (ey▸hx))) (ex.symm▸s2) (ey.symm▸t2') (by omega) (by omega) (by rw [ex,ey];exact lo) (by rw [ex,ey,sx];exact hi) fun r st' g dn=>?_)
    rw [ex,ey] at dn
    exact post r st' g dn
   ·rw [if_neg sm]
    refine wpS_bind (wpS_mergeHi ak hk (fun x hx=>dX x (i1 x (ex▸hx))) (fun x hx=>dY x (i2 x (ey▸hx))) (ex.symm▸s2) (ey.symm▸t2') (by omega) (by omega) (by rw [ex,ey];exact lo) (by rw [ex,ey,sx];exact hi) fun r st' g dn=>?_)
    rw [ex,ey] at dn
    exact post r st' g dn
end
end L2
namespace L2
open PySem PySem.Spec PyProof.Rows
def kr (rk:Keyed->Int) (xs:Array Keyed) (i:Nat):Int:=match xs[i]? with
 | some p=>rk p
 | none=>0
theorem kr_congr {rk:Keyed->Int} {xs ys:Array Keyed} {i j:Nat} (h:xs[i]?=ys[j]?):kr rk xs i=kr rk ys j:=by unfold kr;rw [h]
theorem kr_rev {rk:Keyed->Int} {xs:Array Keyed} {i j:Nat} (hj:j<=xs.size) (k:Nat):kr rk (mirror xs i j ((j - i) / 2)) k=if i<=k/\k<j then kr rk xs (i+j - 1 - k) else kr rk xs k:=by
 have e:=getElem?_mirror_all (i:=i) hj k
 split
 ·rename_i h;rw [if_pos h] at e;exact kr_congr e
 ·rename_i h;rw [if_neg h] at e;exact kr_congr e
theorem kr_bub {rk:Keyed->Int} {xs:Array Keyed} {src d:Nat} (hs:src<xs.size) (hd:d<=src) (k:Nat):kr rk (bubble xs src d) k=if k=src - d then kr rk xs src else if src - d<k/\k<=src then kr rk xs (k - 1) else kr rk xs k:=by
 have e:=getElem?_bubble hs d hd k
 split
 ·rename_i h;rw [if_pos h] at e;exact kr_congr e
 ·rename_i h
  rw [if_neg h] at e
  split
  ·rename_i h;rw [if_pos h] at e;exact kr_congr e
  ·rename_i h;rw [if_neg h] at e;exact kr_congr e
def Up (rk:Keyed->Int) (xs:Array Keyed) (lo n:Nat):Prop:=∀ i j,i<=j->j<n->kr rk xs (lo+i)<=kr rk xs (lo+j)
def Dw (rk:Keyed->Int) (xs:Array Keyed) (lo n:Nat):Prop:=∀ i j,i<=j->j<n->kr rk xs (lo+j)<=kr rk xs (lo+i)
structure Sf (a₀:Array Keyed) (lo:Nat) (kd:SortKind) (pd:Array (Nat×Nat×Nat)) (st:SortSt):Prop where
 perm:(arrOf st).Perm a₀
 kind:kindOf st=kd
 failed:failedOf st=none
 pend:pendingOf st=pd
 low:∀ i,i<lo->(arrOf st)[i]?=a₀[i]?
section
variable {prog:Program} {w:World} {A:Around} {E:Value->Shared->Prop} {s:Shared} {rk:Keyed->Int} {kd:SortKind} {D:Keyed->Prop} {a₀:Array Keyed} {lo:Nat} {pd:Array (Nat×Nat×Nat)}
theorem Sf.size {st:SortSt} (h:Sf a₀ lo kd pd st):(arrOf st).size=a₀.size:=h.perm.size_eq
theorem Sf.arr {st:SortSt} (h:Sf a₀ lo kd pd st) {xs:Array Keyed} (p:xs.Perm (arrOf st)) (l:∀ i,i<lo->xs[i]?=(arrOf st)[i]?):Sf a₀ lo kd pd (setArr st xs):=⟨p.trans h.perm,h.kind,h.failed,h.pend,fun i hi=>(l i hi).trans (h.low i hi)⟩
theorem Sf.rev {st:SortSt} (h:Sf a₀ lo kd pd st) {i j:Nat} (hi:lo<=i) (hj:j<=a₀.size):Sf a₀ lo kd pd (setArr st (mirror (arrOf st) i j ((j - i) / 2))):=h.arr (mirror_perm _ _ _ _) fun k hk=>by
 rw [getElem?_mirror_all (by rw [h.size];exact hj),if_neg (by omega)]
theorem qE2 (ak:qGb prog w A E s rk kd D) (d:∀ x∈a₀.toList,D x) {st:SortSt} {i j:Nat} {Q:Option Bool->SortSt->Prop} (F:Sf a₀ lo kd pd st) (hi:i<a₀.size) (hj:j<a₀.size)
  (h:Q (some (decide (kr rk (arrOf st) i<kr rk (arrOf st) j))) st):wpS (model prog w) A E s (ltAt' i j) Q st:=by
 have get:∀ k,k<a₀.size->∃ p,(arrOf st)[k]?=some p/\D p:=fun k hk=>by
  have hk':k<(arrOf st).size:=by rw [F.size];exact hk
  exact ⟨(arrOf st)[k],getElem?_pos _ k hk',d _ ((Array.perm_iff_toList_perm.mp F.perm).mem_iff.mp (by simp))⟩
 obtain ⟨p,e1,d1⟩:=get i hi
 obtain ⟨q,e2,d2⟩:=get j hj
 rw [ltAt'_eq]
 refine wpS_bind (wpS_get ?_)
 refine wpS_bind (qA0 e1 ?_)
 refine wpS_bind (qA0 e2 ?_)
 refine ak p q d1 d2 st Q F.kind ?_
 unfold kr at h
 rw [e1,e2] at h
 exact h
def ascO (lo a nrem:Nat):StateT SortSt Sem AscSt :=
 forIn [a:nrem] ((none,a):AscSt) fun _ c=>do
  let some smaller ← ltAt' (lo+c.2) (lo+c.2 - 1) | pure (ForInStep.done (some none,c.2))
  if smaller then pure (ForInStep.done (none,c.2)) else pure (ForInStep.yield (none,c.2+1))
def tailO (lo n0 nrem:Nat):StateT SortSt Sem (Option Nat):=do
 reverseSlice' lo (lo+n0)
 let mut n:=n0
 for _ in [n:nrem] do
  let some smaller ← ltAt' (lo+n) (lo+n - 1) | return none
  if smaller then break
  n:=n+1
 return some n
def descO (lo n0 nrem:Nat):StateT SortSt Sem (Option Nat):=do
 rule "list.sort.descending-run"
 let mut n:=n0+1
 let mut neq:=0
 for _ in [n:nrem] do
  let some smaller ← ltAt' (lo+n) (lo+n - 1) | return none
  if smaller then
   if neq > 0 then reverseSlice' (lo+n - (neq+1)) (lo+n)
   neq:=0
  else
   let some larger ← ltAt' (lo+n - 1) (lo+n) | return none
   if larger then break
   neq:=neq+1
  n:=n+1
 if neq > 0 then reverseSlice' (lo+n - (neq+1)) (lo+n)
 reverseSlice' lo (lo+n)
 for _ in [n:nrem] do
  let some smaller ← ltAt' (lo+n) (lo+n - 1) | return none
  if smaller then break
  n:=n+1
 return some n
theorem wp_ascO (ak:qGb prog w A E s rk kd D) (d:∀ x∈a₀.toList,D x) {st:SortSt} {a nrem:Nat} {Q:AscSt->SortSt->Prop} (hn:lo+nrem<=a₀.size) (ha:1<=a) (han:a<=nrem) (F:Sf a₀ lo kd pd st) (u:Up rk (arrOf st) lo a)
  (h:∀ n,a<=n->n<=nrem->Up rk (arrOf st) lo n->(n=nrem\/kr rk (arrOf st) (lo+n)<kr rk (arrOf st) (lo+(n - 1)))->Q (none,n) st):wpS (model prog w) A E s (ascO lo a nrem) Q st:=by
 unfold ascO
 refine wpS_forRange (I:=fun x c st'=>st'=st/\c=(none,x)/\Up rk (arrOf st) lo x) ?step ?fin ⟨rfl,rfl,u⟩
 case fin =>
  rintro c st' ⟨rfl,rfl,u'⟩
  rw [show max a nrem=nrem by omega] at u' ⊢
  exact h nrem han (Nat.le_refl _) u' (.inl rfl)
 case step =>
  rintro x c st' hax hxn ⟨rfl,rfl,u'⟩
  refine wpS_bind (qE2 ak d F (by show lo+x<_;omega) (by show lo+x - 1<_;omega) ?_)
  dsimp only
  rw [show lo+x - 1=lo+(x - 1) by omega]
  by_cases c:kr rk (arrOf st') (lo+x)<kr rk (arrOf st') (lo+(x - 1))
  ·rw [decide_eq_true c]
   exact wpS_pure (h x hax (by omega) u' (.inr c))
  ·rw [decide_eq_false c]
   refine wpS_pure ⟨rfl,rfl,fun i j hij hj=>?_⟩
   by_cases e:j<x
   ·exact u' i j hij e
   ·have e':j=x:=by omega
    subst e'
    by_cases e2:i=j
    ·subst e2;exact Int.le_refl _
    ·have:=u' i (j - 1) (by omega) (by omega)
     omega
theorem wp_tailO (ak:qGb prog w A E s rk kd D) (d:∀ x∈a₀.toList,D x) {st:SortSt} {n nrem:Nat} {Q:Option Nat->SortSt->Prop} (hn:lo+nrem<=a₀.size) (h1:1<=n) (hnn:n<=nrem) (F:Sf a₀ lo kd pd st) (u:Dw rk (arrOf st) lo n)
  (h:∀ m st',Sf a₀ lo kd pd st'->1<=m->m<=nrem->Up rk (arrOf st') lo m->Q (some m) st'):wpS (model prog w) A E s (tailO lo n nrem) Q st:=by
 unfold tailO
 have sz:=F.size
 refine wpS_bind (wpS_reverse ?_)
 have F':=F.rev (i:=lo) (j:=lo+n) (Nat.le_refl _) (by omega)
 refine wpS_bind (wpS_mono (m:=ascO lo n nrem) (wp_ascO ak d (Q:=fun c st'=>∃ m,c=(none,m)/\Sf a₀ lo kd pd st'/\1<=m/\m<=nrem/\Up rk (arrOf st') lo m) hn h1 hnn F' (fun i j hij hj=>?_) fun m hm1 hm2 hu _=>⟨m,rfl,F',by omega,hm2,hu⟩) ?_)
 ·show kr rk (mirror (arrOf st) lo (lo+n) ((lo+n - lo) / 2)) _<=kr rk (mirror (arrOf st) lo (lo+n) ((lo+n - lo) / 2)) _
  rw [kr_rev (by omega),kr_rev (by omega),if_pos (by omega),if_pos (by omega)]
  have:=u (n - 1 - j) (n - 1 - i) (by omega) (by omega)
  rw [show lo+(lo+n) - 1 - (lo+i)=lo+(n - 1 - i) by omega,show lo+(lo+n) - 1 - (lo+j)=lo+(n - 1 - j) by omega]
  exact this
 ·rintro c st' ⟨m,rfl,F2,a1,a2,a3⟩
  exact wpS_pure (h m st' F2 a1 a2 a3)
theorem dw_snoc {xs:Array Keyed} {n:Nat} (u:Dw rk xs lo n) (h1:1<=n) (h:kr rk xs (lo+n)<=kr rk xs (lo+(n - 1))):Dw rk xs lo (n+1):=fun i j hij hj=>by
 by_cases e:j<n
 ·exact u i j hij e
 ·have e':j=n:=by omega
  subst e'
  by_cases e2:i=j
  ·subst e2;exact Int.le_refl _
  ·have:=u i (j - 1) (by omega) (by omega)
   omega
theorem qFv {xs:Array Keyed} {i j:Nat} (hj:j<=xs.size) (h:∀ k,i<=k->k<j->kr rk xs k=kr rk xs (j - 1)) (k:Nat):kr rk (mirror xs i j ((j - i) / 2)) k=kr rk xs k:=by
 rw [kr_rev hj]
 split
 ·rw [h _ (by omega) (by omega),h k (by omega) (by omega)]
 ·rfl
theorem wp_descO (ak:qGb prog w A E s rk kd D) (d:∀ x∈a₀.toList,D x) {st:SortSt} {n nrem:Nat} {Q:Option Nat->SortSt->Prop} (hn:lo+nrem<=a₀.size) (hnn:n+1<=nrem) (F:Sf a₀ lo kd pd st) (u:Dw rk (arrOf st) lo (n+1))
  (h:∀ m st',Sf a₀ lo kd pd st'->1<=m->m<=nrem->Up rk (arrOf st') lo m->Q (some m) st'):wpS (model prog w) A E s (descO lo n nrem) Q st:=by
 unfold descO
 refine wpS_bind (wpS_lift (wpAny_rule ⟨rfl,?_⟩))
 refine wpS_bind (wpS_mono (wpS_forRange (I:=fun x c st'=>∃ neq,c=(none,x,neq)/\Sf a₀ lo kd pd st'/\1<=x/\x<=nrem/\Dw rk (arrOf st') lo x/\neq+1<=x/\∀ k,lo+x - (neq+1)<=k->k<lo+x->kr rk (arrOf st') k=kr rk (arrOf st') (lo+x - 1))
  (Q:=fun c st'=>∃ x neq,c=(none,x,neq)/\Sf a₀ lo kd pd st'/\1<=x/\x<=nrem/\Dw rk (arrOf st') lo x/\neq+1<=x/\∀ k,lo+x - (neq+1)<=k->k<lo+x->kr rk (arrOf st') k=kr rk (arrOf st') (lo+x - 1)) ?_ ?_ ⟨0,rfl,F,by omega,hnn,u,by omega,fun k k1 k2=>by congr 1;omega⟩) ?_)
 ·rintro x c st' hx1 hx2 ⟨neq,rfl,F',x1,xn,u',q1,q2⟩
  have sz:=F'.size
  refine wpS_bind (qE2 ak d F' (by show lo+x<_;omega) (by show lo+x - 1<_;omega) ?_)
  dsimp only
  have ex:lo+x - 1=lo+(x - 1):=by omega
  by_cases c:kr rk (arrOf st') (lo+x)<kr rk (arrOf st') (lo+x - 1)
  ·rw [decide_eq_true c]
   have u2:∀ ys:Array Keyed,(∀ k,kr rk ys k=kr rk (arrOf st') k)->Dw rk ys lo (x+1):=fun ys hy i j hij hj=>by
    rw [hy,hy]
    exact dw_snoc u' x1 (by rw [<-ex];omega) i j hij hj
   show wpS _ _ _ _ (if neq > 0 then _ else _) _ _
   by_cases n0:neq > 0
   ·rw [if_pos n0]
    refine wpS_bind (wpS_reverse (wpS_pure ⟨0,rfl,F'.rev (by omega) (by omega),by omega,by omega,u2 _ (qFv (by omega) q2),by omega,fun k k1 k2=>by congr 1;omega⟩))
   ·rw [if_neg n0]
    exact wpS_pure ⟨0,rfl,F',by omega,by omega,u2 _ (fun _=>rfl),by omega,fun k k1 k2=>by congr 1;omega⟩
  ·rw [decide_eq_false c]
   refine wpS_bind (qE2 ak d F' (by show lo+x - 1<_;omega) (by show lo+x<_;omega) ?_)
   dsimp only
   by_cases c2:kr rk (arrOf st') (lo+x - 1)<kr rk (arrOf st') (lo+x)
   ·rw [decide_eq_true c2]
    exact wpS_pure ⟨x,neq,rfl,F',x1,xn,u',q1,q2⟩
   ·rw [decide_eq_false c2]
    have e:kr rk (arrOf st') (lo+x)=kr rk (arrOf st') (lo+x - 1):=by omega
    refine wpS_pure ⟨neq+1,rfl,F',by omega,by omega,dw_snoc u' x1 (by rw [<-ex];omega),by omega,fun k k1 k2=>?_⟩
    rw [show lo+(x+1) - 1=lo+x by omega]
    by_cases ek:k=lo+x
    ·subst ek;rfl
    ·rw [e];exact q2 k (by omega) (by omega)
 ·rintro c st' ⟨neq,rfl,F',x1,xn,u',q1,q2⟩
  exact ⟨_,neq,rfl,F',x1,xn,u',q1,q2⟩
 ·rintro c st' ⟨x,neq,rfl,F',x1,xn,u',q1,q2⟩
  have sz:=F'.size
  show wpS _ _ _ _ (if neq > 0 then _ else _) _ _
  by_cases n0:neq > 0
  ·rw [if_pos n0]
   refine wpS_bind (wpS_reverse ?_)
   refine wpS_mono (m:=tailO lo x nrem) (wp_tailO ak d hn x1 xn (F'.rev (i:=lo+x - (neq+1)) (j:=lo+x) (by omega) (by omega)) (fun i j hij hj=>?_) h) fun _ _ q=>q
   show kr rk (mirror (arrOf st') _ _ _) _<=kr rk (mirror (arrOf st') _ _ _) _
   rw [qFv (i:=lo+x - (neq+1)) (j:=lo+x) (by omega) q2,qFv (i:=lo+x - (neq+1)) (j:=lo+x) (by omega) q2]
   exact u' i j hij hj
  ·rw [if_neg n0]
   exact wpS_mono (m:=tailO lo x nrem) (wp_tailO ak d hn x1 xn F' u' h) fun _ _ q=>q
theorem wp_count (ak:qGb prog w A E s rk kd D) (d:∀ x∈a₀.toList,D x) {st:SortSt} {nrem:Nat} {Q:Option Nat->SortSt->Prop} (hn:lo+nrem<=a₀.size) (h1:1<=nrem) (F:Sf a₀ lo kd pd st)
  (h:∀ m st',Sf a₀ lo kd pd st'->1<=m->m<=nrem->Up rk (arrOf st') lo m->Q (some m) st'):wpS (model prog w) A E s (countRun' lo nrem) Q st:=by
 rw [countRun'_eq]
 have sz:=F.size
 refine wpS_bind (wpS_mono (m:=ascO lo 1 nrem) (wp_ascO ak d (Q:=fun c st'=>st'=st/\∃ n,c=(none,n)/\1<=n/\n<=nrem/\Up rk (arrOf st) lo n/\(n=nrem\/kr rk (arrOf st) (lo+n)<kr rk (arrOf st) (lo+(n - 1)))) hn (Nat.le_refl _) h1 F (fun i j hij hj=>?_) fun n a1 a2 a3 a4=>⟨rfl,n,rfl,a1,a2,a3,a4⟩) ?_)
 ·have:i=j:=by omega
  subst this;exact Int.le_refl _
 rintro c st' ⟨rfl,n,rfl,n1,n2,u,hor⟩
 show wpS _ _ _ _ (if (n == nrem)=true then _ else _) _ _
 by_cases e:(n == nrem)=true
 ·rw [if_pos e]
  exact wpS_pure (h n _ F n1 n2 u)
 ·rw [if_neg e]
  have e':n≠nrem:=by simpa using e
  have lt:=hor.resolve_left e'
  by_cases g:n > 1
  ·show wpS _ _ _ _ (if n > 1 then _ else _) _ _
   rw [if_pos g]
   refine wpS_bind (qE2 ak d F (by omega) (by omega) ?_)
   have ex:lo+n - 1=lo+(n - 1):=by omega
   by_cases c:kr rk (arrOf st') lo<kr rk (arrOf st') (lo+n - 1)
   ·rw [decide_eq_true c]
    exact wpS_pure (h n _ F n1 n2 u)
   ·rw [decide_eq_false c]
    have all:∀ k,lo<=k->k<lo+n->kr rk (arrOf st') k=kr rk (arrOf st') (lo+n - 1):=fun k k1 k2=>by
     have a1:=u 0 (k - lo) (by omega) (by omega)
     have a2:=u (k - lo) (n - 1) (by omega) (by omega)
     rw [show lo+(k - lo)=k by omega] at a1 a2
     rw [Nat.add_zero] at a1
     rw [ex] at c ⊢
     omega
    refine wpS_bind (wpS_reverse ?_)
    refine wpS_mono (m:=descO lo n nrem) (wp_descO ak d hn (by omega) (F.rev (Nat.le_refl _) (by omega)) (fun i j hij hj=>?_) h) fun _ _ q=>q
    show kr rk (mirror (arrOf st') _ _ _) _<=kr rk (mirror (arrOf st') _ _ _) _
    rw [qFv (i:=lo) (j:=lo+n) (by omega) all,qFv (i:=lo) (j:=lo+n) (by omega) all]
    by_cases ej:j<n
    ·rw [all (lo+i) (by omega) (by omega),all (lo+j) (by omega) (by omega)];exact Int.le_refl _
    ·have ej':j=n:=by omega
     subst ej'
     by_cases ei:i=j
     ·subst ei;exact Int.le_refl _
     ·rw [all (lo+i) (by omega) (by omega),ex];omega
  ·show wpS _ _ _ _ (if n > 1 then _ else _) _ _
   rw [if_neg g]
   have e1:n=1:=by omega
   subst e1
   refine wpS_mono (m:=descO lo 1 nrem) (wp_descO ak d hn (by omega) F (fun i j hij hj=>?_) h) fun _ _ q=>q
   by_cases ei:i=j
   ·subst ei;exact Int.le_refl _
   ·have ei':i=0:=by omega
    have ej':j=1:=by omega
    subst ei' ej'
    exact Int.le_of_lt lt
theorem wp_bins (ak:qGb prog w A E s rk kd D) (d:∀ x∈a₀.toList,D x) {st:SortSt} {n ok:Nat} {Q:Bool->SortSt->Prop} (hn:lo+n<=a₀.size) (hok:ok<=n) (F:Sf a₀ lo kd pd st) (u:Up rk (arrOf st) lo ok)
  (h:∀ st',Sf a₀ lo kd pd st'->Up rk (arrOf st') lo n->Q true st'):wpS (model prog w) A E s (binarySort' lo n ok) Q st:=by
 rw [binarySort'_eq]
 refine wpS_bind (wpS_mono (wpS_forRange (I:=fun k c st'=>c=(none,())/\Sf a₀ lo kd pd st'/\Up rk (arrOf st') lo (min k n))
  (Q:=fun c st'=>c=(none,())/\Sf a₀ lo kd pd st'/\Up rk (arrOf st') lo n) ?_ ?_ ⟨rfl,F,fun i j hij hj=>?_⟩) ?_)
 ·rintro k c st' hak hkn ⟨rfl,F',u'⟩
  rw [show min k n=k by omega] at u'
  have sz:=F'.size
  refine wpS_bind (wpS_mono (wpS_forRange (I:=fun x c st''=>st''=st'/\∃ l r,c=(none,l,r)/\l<=r/\r<=k/\r - l<=k - x/\(∀ i,i<l->kr rk (arrOf st') (lo+i)<=kr rk (arrOf st') (lo+k))/\(∀ i,r<=i->i<k->kr rk (arrOf st') (lo+k)<kr rk (arrOf st') (lo+i)))
   (Q:=fun c st''=>st''=st'/\∃ l r,c=(none,l,r)/\l<=k/\(∀ i,i<l->kr rk (arrOf st') (lo+i)<=kr rk (arrOf st') (lo+k))/\(∀ i,l<=i->i<k->kr rk (arrOf st') (lo+k)<kr rk (arrOf st') (lo+i))) ?_ ?_ ⟨rfl,0,k,rfl,by omega,by omega,by omega,fun i hi=>by omega,fun i h1 h2=>by omega⟩) ?_)
  ·rintro x c st2 _ hx ⟨rfl,l,r,rfl,lr,rk',m,a1,a2⟩
   show wpS _ _ _ _ (if l >= r then _ else _) _ _
   by_cases g:l >= r
   ·rw [if_pos g]
    have:l=r:=by omega
    subst this
    exact wpS_pure ⟨rfl,l,l,rfl,rk',a1,a2⟩
   ·rw [if_neg g]
    refine wpS_bind (qE2 ak d F' (by omega) (by show lo+(l+r) / 2<_;omega) ?_)
    dsimp only
    by_cases c:kr rk (arrOf st2) (lo+k)<kr rk (arrOf st2) (lo+(l+r) / 2)
    ·rw [decide_eq_true c]
     refine wpS_pure ⟨rfl,l,(l+r) / 2,rfl,by omega,by omega,by omega,a1,fun i h1 h2=>?_⟩
     exact Int.lt_of_lt_of_le c (u' _ _ h1 h2)
    ·rw [decide_eq_false c]
     refine wpS_pure ⟨rfl,(l+r) / 2+1,r,rfl,by omega,by omega,by omega,fun i h1=>?_,a2⟩
     exact Int.le_trans (u' i ((l+r) / 2) (by omega) (by omega)) (Int.not_lt.mp c)
  ·rintro c st2 ⟨rfl,l,r,rfl,lr,rk',m,a1,a2⟩
   have:l=r:=by omega
   subst this
   exact ⟨rfl,l,l,rfl,rk',a1,a2⟩
  ·rintro c st2 ⟨rfl,l,r,rfl,lk,a1,a2⟩
   show wpS _ _ _ _ (do moveDown' (lo+k) (lo+l);pure (ForInStep.yield (none,()))) _ _
   rw [moveDown'_eq]
   have ed:lo+k - (lo+l)=k - l:=by omega
   refine wpS_bind (wpS_modify (wpS_pure ⟨rfl,F'.arr (bubble_perm _ _ _) fun i hi=>?_,fun i j hij hj=>?_⟩))
   ·rw [getElem?_bubble (by omega) _ (by omega),if_neg (by omega),if_neg (by omega)]
   ·rw [show min (k+1) n=k+1 by omega] at hj
    show kr rk (bubble (arrOf st2) (lo+k) (lo+k - (lo+l))) _<=kr rk (bubble (arrOf st2) (lo+k) (lo+k - (lo+l))) _
    rw [kr_bub (by omega) (by omega),kr_bub (by omega) (by omega),ed,show lo+k - (k - l)=lo+l by omega]
    have p1:∀ z,z<k+1->lo+z - 1=lo+(z - 1)\/z=0:=fun z hz=>by omega
    by_cases ej:j=l
    ·subst ej
     rw [if_pos rfl]
     by_cases ei:i=j
     ·subst ei;rw [if_pos rfl];exact Int.le_refl _
     ·rw [if_neg (by omega),if_neg (by omega)]
      exact a1 i (by omega)
    ·rw [if_neg (c:=lo+j=lo+l) (by omega)]
     by_cases ej2:l<j
     ·rw [if_pos (c:=lo+l<lo+j/\lo+j<=lo+k) (by omega),show lo+j - 1=lo+(j - 1) by omega]
      by_cases ei:i=l
      ·subst ei
       rw [if_pos rfl]
       exact Int.le_of_lt (a2 _ (by omega) (by omega))
      ·rw [if_neg (c:=lo+i=lo+l) (by omega)]
       by_cases ei2:l<i
       ·rw [if_pos (by omega),show lo+i - 1=lo+(i - 1) by omega]
        exact u' _ _ (by omega) (by omega)
       ·rw [if_neg (by omega)]
        exact u' _ _ (by omega) (by omega)
     ·rw [if_neg (c:=lo+l<lo+j/\lo+j<=lo+k) (by omega),if_neg (by omega),if_neg (by omega)]
      exact u' _ _ (by omega) (by omega)
 ·rintro c st' ⟨hc,F',u'⟩
  refine ⟨hc,F',?_⟩
  rwa [show min (max (max ok 1) n) n=n by omega] at u'
 ·by_cases o0:ok=0
  ·have:i=j:=by omega
   subst this;exact Int.le_refl _
  ·exact u i j hij (by omega)
 ·rintro c st' ⟨rfl,F',u'⟩
  exact wpS_pure (h st' F' u')
end
end L2
namespace L2
open PySem PySem.Spec PyProof.Rows
def offs:Nat->List (List Keyed)->List (Nat×Nat)
 | _,[]=>[]
 | k,R :: Rs=>(k,R.length) :: offs (k+R.length) Rs
theorem qEy:∀ (k:Nat) (U V:List (List Keyed)),offs k (U++V)=offs k U++offs (k+U.flatten.length) V
 | k,[],V=>by simp [offs]
 | k,R :: U,V=>by
  show (k,R.length) :: offs (k+R.length) (U++V)=(k,R.length) :: (offs (k+R.length) U++_)
  rw [qEy (k+R.length) U V]
  congr 3
  simp
  omega
theorem offs_len:∀ (k:Nat) (U:List (List Keyed)),(offs k U).length=U.length
 | _,[]=>rfl
 | k,R :: U=>by simp [offs,offs_len]
def pr2 (t:Nat×Nat×Nat):Nat×Nat:=(t.1,t.2.1)
def RI (rk:Keyed->Int) (kd:SortKind) (a₀:Array Keyed) (rest:List Keyed) (m:Nat) (st:SortSt):Prop:=∃ Rs:List (List Keyed),(arrOf st).toList=Rs.flatten++rest/\(pendingOf st).toList.map pr2=offs 0 Rs/\(∀ R∈Rs,R≠[]/\Srd rk R)/\Rs.length=m/\kindOf st=kd/\failedOf st=none/\(arrOf st).toList.Perm a₀.toList
section
variable {prog:Program} {w:World} {A:Around} {E:Value->Shared->Prop} {s:Shared} {rk:Keyed->Int} {kd:SortKind} {D:Keyed->Prop} {a₀:Array Keyed} {rest:List Keyed}
theorem RI.psize {m:Nat} {st:SortSt} (h:RI rk kd a₀ rest m st):(pendingOf st).size=m:=by
 obtain ⟨Rs,_,e,_,rfl,_⟩:=h
 have:=congrArg List.length e
 rw [offs_len] at this
 simpa using this
theorem qD3 (ak:qGb prog w A E s rk kd D) (d:∀ x∈a₀.toList,D x) {i m:Nat} {st:SortSt} {Q:Bool->SortSt->Prop} (h:RI rk kd a₀ rest m st) (hi:i+1<m) (hq:∀ st',RI rk kd a₀ rest (m - 1) st'->Q true st'):wpS (model prog w) A E s (mergeAt' i) Q st:=by
 obtain ⟨Rs,e,ep,hR,rfl,hk,hf,hp⟩:=h
 obtain ⟨U,X,Y,V,rfl,hU⟩:∃ U X Y V,Rs=U++X :: Y :: V/\U.length=i:=by
  refine ⟨Rs.take i,Rs[i],Rs[i+1],Rs.drop (i+2),?_,by simp;omega⟩
  rw [<-List.drop_eq_getElem_cons,<-List.drop_eq_getElem_cons,List.take_append_drop]
 rw [qEy] at ep
 obtain ⟨pu,pt,ept,epu,e2⟩:=List.map_eq_append_iff.mp ep
 obtain ⟨p,pt2,rfl,ep1,e3⟩:=List.map_eq_cons_iff.mp e2
 obtain ⟨q,pv,rfl,eq1,e4⟩:=List.map_eq_cons_iff.mp e3
 obtain ⟨a,b,c⟩:=p
 obtain ⟨a',b',c'⟩:=q
 injection ep1 with ea eb
 injection eq1 with ea' eb'
 have eb:b=X.length:=eb
 have ea:a=0+U.flatten.length:=ea
 have ea':a'=0+U.flatten.length+X.length:=ea'
 have eb':b'=Y.length:=eb'
 rw [Nat.zero_add] at ea ea'
 subst ea eb ea' eb'
 have lu:pu.length=i:=by
  have:=congrArg List.length epu
  rw [offs_len] at this
  simpa [hU] using this
 have g1:(pendingOf st)[i]?=some (U.flatten.length,X.length,c):=by
  rw [<-Array.getElem?_toList,ept,List.getElem?_append_right (by omega),lu,Nat.sub_self]
  rfl
 have g2:(pendingOf st)[i+1]?=some (U.flatten.length+X.length,Y.length,c'):=by
  rw [<-Array.getElem?_toList,ept,List.getElem?_append_right (by omega),lu,show i+1 - i=1 by omega]
  rfl
 have hX:=hR X (by simp)
 have hY:=hR Y (by simp)
 refine wpS_mergeAt ak (P:=U.flatten) (X:=X) (Y:=Y) (S:=V.flatten++rest) hk hf (by rw [e];simp) (fun x hx=>d x (hp.mem_iff.mp hx)) g1 g2 hX.2 hY.2 hX.1 hY.1 fun st' M hk' hf' hp' ea' dn=>?_
 refine hq st' ⟨U++M :: V,by rw [ea'];simp,?_,fun R hR'=>?_,by simp,hk',hf',?_⟩
 ·rw [hp',Array.toList_eraseIdxIfInBounds,Array.toList_setIfInBounds,ept,qEy,List.set_append_right _ _ (by omega),lu,Nat.sub_self,List.eraseIdx_append_of_length_le (by omega),lu,show i+1 - i=1 by omega]
  rw [List.map_append,epu]
  congr 1
  show (pr2 (U.flatten.length,X.length+Y.length,c)) :: pv.map pr2=(0+U.flatten.length,M.length) :: offs (0+U.flatten.length+M.length) V
  have lm:M.length=X.length+Y.length:=by rw [dn.1.length_eq];simp
  rw [e4,lm]
  unfold pr2
  rw [Nat.zero_add,Nat.add_assoc]
 ·rcases List.mem_append.mp hR' with z | z
  ·exact hR R (by simp [z])
  ·rcases List.mem_cons.mp z with z | z
   ·subst z
    refine ⟨fun z=>hX.1 ?_,dn.2⟩
    have:=dn.1.length_eq
    rw [z] at this
    simp at this
    exact List.length_eq_zero_iff.mp (by omega)
   ·exact hR R (by simp [z])
 ·rw [ea']
  refine List.Perm.trans ?_ hp
  rw [e]
  have:(U++X :: Y :: V).flatten++rest=U.flatten++((X++Y)++(V.flatten++rest)):=by simp
  rw [this]
  exact List.Perm.append_left _ (List.Perm.append_right _ dn.1)
theorem up_srd {xs:Array Keyed} {P T:List Keyed} {n:Nat} (e:xs.toList=P++T) (u:Up rk xs P.length n) (hn:n<=T.length):Srd rk (T.take n):=by
 refine List.pairwise_iff_getElem.mpr fun i j hi hj hij=>?_
 rw [List.length_take] at hi hj
 have g:∀ k,(h:k<T.length)->kr rk xs (P.length+k)=rk T[k]:=fun k h=>by
  unfold kr
  rw [<-Array.getElem?_toList,e,List.getElem?_append_right (by omega),show P.length+k - P.length=k by omega,List.getElem?_eq_getElem h]
 have:=u i j (by omega) (by omega)
 rw [g i (by omega),g j (by omega)] at this
 rw [List.getElem_take,List.getElem_take]
 exact this
theorem RI.found {m n:Nat} {st st':SortSt} {pd:Array (Nat×Nat×Nat)} {lo:Nat} (h:RI rk kd a₀ rest m st) (hl:lo+rest.length=a₀.size) (F:Sf (arrOf st) lo kd (pendingOf st) st') (u:Up rk (arrOf st') lo n) (hn:n<=rest.length) :
  ∃ rest',RI rk kd a₀ rest' m st'/\rest'.length=rest.length/\Srd rk (rest'.take n):=by
 obtain ⟨Rs,e,ep,hR,rfl,hk,hf,hp⟩:=h
 have sz:(arrOf st).toList.length=a₀.size:=by rw [hp.length_eq];simp
 have lf:Rs.flatten.length=lo:=by rw [e] at sz;simp at sz ⊢;omega
 have et:(arrOf st').toList.take lo=Rs.flatten:=by
  refine List.ext_getElem? fun k=>?_
  by_cases c:k<lo
  ·rw [List.getElem?_take_of_lt c,Array.getElem?_toList,F.low k c,<-Array.getElem?_toList,e,List.getElem?_append_left (by omega)]
  ·rw [List.getElem?_take_eq_none (by omega),List.getElem?_eq_none (by omega)]
 have ed:(arrOf st').toList=Rs.flatten++(arrOf st').toList.drop lo:=by rw [<-et,List.take_append_drop]
 have pt:(arrOf st').toList.Perm (arrOf st).toList:=Array.perm_iff_toList_perm.mp F.perm
 have ld:((arrOf st').toList.drop lo).length=rest.length:=by
  have:=pt.length_eq
  rw [List.length_drop,this,sz]
  omega
 refine ⟨(arrOf st').toList.drop lo,⟨Rs,ed,by rw [F.pend];exact ep,hR,rfl,F.kind,F.failed,pt.trans hp⟩,ld,?_⟩
 exact up_srd (P:=Rs.flatten) ed (by rw [lf];exact u) (by rw [ld];exact hn)
theorem RI.pushed {m n:Nat} {st:SortSt} {lo:Nat} (h:RI rk kd a₀ rest m st) (hl:lo+rest.length=a₀.size) (sr:Srd rk (rest.take n)) (h1:1<=n) (hn:n<=rest.length):RI rk kd a₀ (rest.drop n) (m+1) (setPending st ((pendingOf st).push (lo,n,0))):=by
 obtain ⟨Rs,e,ep,hR,rfl,hk,hf,hp⟩:=h
 have sz:(arrOf st).toList.length=a₀.size:=by rw [hp.length_eq];simp
 have lf:Rs.flatten.length=lo:=by rw [e] at sz;simp at sz ⊢;omega
 refine ⟨Rs++[rest.take n],?_,?_,fun R hR'=>?_,by simp,hk,hf,hp⟩
 ·show (arrOf st).toList=_
  rw [e];simp
 ·show ((pendingOf st).push (lo,n,0)).toList.map pr2=_
  rw [Array.toList_push,List.map_append,ep,qEy,lf]
  simp [offs,pr2]
  try omega
 ·rcases List.mem_append.mp hR' with z | z
  ·exact hR R z
  ·rw [List.mem_singleton.mp z]
   refine ⟨fun z=>?_,sr⟩
   have:=congrArg List.length z
   rw [List.length_take,List.length_nil] at this
   omega
theorem RI.power {m pw:Nat} {st:SortSt} (h:RI rk kd a₀ rest m st):RI rk kd a₀ rest m (setPending st ((pendingOf st).modify ((pendingOf st).size - 1) fun (st,len,_)=>(st,len,pw))):=by
 obtain ⟨Rs,e,ep,hR,rfl,hk,hf,hp⟩:=h
 refine ⟨Rs,e,?_,hR,rfl,hk,hf,hp⟩
 rw [<-ep]
 show ((pendingOf st).modify ((pendingOf st).size - 1) fun (st,len,_)=>(st,len,pw)).toList.map pr2=_
 refine List.ext_getElem? fun k=>?_
 rw [List.getElem?_map,List.getElem?_map,Array.getElem?_toList,Array.getElem?_toList,Array.getElem?_modify]
 split
 ·rename_i z
  cases (pendingOf st)[k]? with
  | none=>rfl
  | some t=>rfl
 ·rfl
theorem qGv:∀ (f n r:Nat),1<=n->1<=minRun' f n r
 | 0,n,r,h=>by show 1<=n+r;omega
 | f+1,n,r,h=>by
  rw [minRun'_succ]
  split
  ·omega
  ·exact qGv f _ _ (by omega)
theorem wp_sortRuns (ak:qGb prog w A E s rk kd D) (d:∀ x∈a₀.toList,D x) {st:SortSt} {Q:Unit->SortSt->Prop} (h0:arrOf st=a₀) (hk:kindOf st=kd) (hf:failedOf st=none) (hp:pendingOf st=#[])
  (h:∀ st',failedOf st'=none->Dn rk a₀.toList (arrOf st').toList->Q () st'):wpS (model prog w) A E s sortRuns' Q st:=by
 rw [sortRuns'_eq]
 refine wpS_bind (wpS_get ?_)
 rw [h0]
 have I0:RI rk kd a₀ a₀.toList 0 st:=⟨[],by rw [h0];rfl,by rw [hp];rfl,fun R hR=>(by cases hR),rfl,hk,hf,by rw [h0]⟩
 refine wpS_bind (wpS_mono (wpS_forRange (I:=fun x c st'=>∃ rest m lo,c=(none,lo)/\RI rk kd a₀ rest m st'/\lo+rest.length=a₀.size/\x<=lo)
  (Q:=fun c st'=>∃ m lo,c=(none,lo)/\RI rk kd a₀ [] m st') ?_ ?_ ⟨_,0,0,rfl,I0,by simp,Nat.le_refl _⟩) ?_)
 ·rintro x c st' _ hx ⟨rest,m,lo,rfl,R,hl,hxl⟩
  by_cases g:lo >= a₀.size
  ·show wpS _ _ _ _ (if lo >= a₀.size then _ else _) _ _
   rw [if_pos g]
   have:rest=[]:=List.length_eq_zero_iff.mp (by omega)
   subst this
   exact wpS_pure ⟨m,lo,rfl,R⟩
  ·show wpS _ _ _ _ (if lo >= a₀.size then _ else _) _ _
   rw [if_neg g]
   obtain ⟨Rs,eR,ep,hR,eM,hk',hf',hp'⟩:=R
   have R:RI rk kd a₀ rest m st':=⟨Rs,eR,ep,hR,eM,hk',hf',hp'⟩
   have sz:(arrOf st').size=a₀.size:=by
    have:=hp'.length_eq
    simpa using this
   have F:Sf (arrOf st') lo kd (pendingOf st') st':=⟨Array.Perm.refl _,hk',hf',rfl,fun _ _=>rfl⟩
   refine wpS_bind (wp_count ak (fun x hx=>d x (hp'.mem_iff.mp hx)) (lo:=lo) (nrem:=a₀.size - lo) (by omega) (by omega) F fun n st2 F2 n1 n2 u2=>?_)
   have mp:=qGv a₀.size a₀.size 0 (by omega)
   have key:∀ (n:Nat) (st2:SortSt),Sf (arrOf st') lo kd (pendingOf st') st2->Up rk (arrOf st2) lo n->1<=n->n<=rest.length->∃ rest',RI rk kd a₀ rest' m st2/\rest'.length=rest.length/\Srd rk (rest'.take n)/\1<=n/\n<=rest'.length:=fun n st2 F2 u2 h1 hn=>by
    obtain ⟨rest',R2,l2,s2⟩:=R.found (pd:=#[]) hl F2 u2 hn
    exact ⟨rest',R2,l2,s2,h1,by omega⟩
   by_cases c:n<minRun' a₀.size a₀.size 0
   ·show wpS _ _ _ _ (if n<minRun' a₀.size a₀.size 0 then _ else _) _ _
    rw [if_pos c]
    refine wpS_bind (wpS_lift (wpAny_rule ⟨rfl,?_⟩))
    refine wpS_bind (wp_bins ak (fun x hx=>d x (hp'.mem_iff.mp hx)) (lo:=lo) (n:=min (a₀.size - lo) (minRun' a₀.size a₀.size 0)) (by omega) (by omega) F2 u2 fun st3 F3 u3=>?_)
    rw [if_neg (by decide)]
    obtain ⟨rest',R2,l2,s2,b1,b2⟩:=key _ st3 F3 u3 (by omega) (by omega)
    dsimp only
    generalize min (a₀.size - lo) (minRun' a₀.size a₀.size 0)=nn at s2 b1 b2 ⊢
    refine wpS_bind (wpS_get ?_)
    have fin:∀ (m':Nat) (st4:SortSt),RI rk kd a₀ rest' m' st4->∃ rest m lo',((none,lo+nn):Option Unit×Nat)=(none,lo')/\RI rk kd a₀ rest m (setPending st4 ((pendingOf st4).push (lo,nn,0)))/\lo'+rest.length=a₀.size/\x+1<=lo':=fun m' st4 R4=>⟨_,_,_,rfl,RI.pushed R4 (by omega) s2 b1 b2,by rw [List.length_drop];omega,by omega⟩
    generalize (pendingOf st3).back?=bk
    rcases bk with _ | ⟨s1,n1,p3⟩
    ·refine wpS_bind (wpS_modify ?_)
     exact wpS_pure (fin _ _ R2)
    ·dsimp only
     refine wpS_bind (wpS_mono (wpS_forRange (I:=fun _ c st'=>c=(none,())/\∃ m,RI rk kd a₀ rest' m st') (Q:=fun c st'=>c=(none,())/\∃ m,RI rk kd a₀ rest' m st') ?_ (fun _ _ z=>z) ⟨rfl,m,R2⟩) ?_)
     ·rintro x c st5 _ hx ⟨rfl,m',R'⟩
      refine wpS_bind (wpS_get ?_)
      have sz:=R'.psize
      have m2:∀ t,(if (pendingOf st5).size > 1 then (pendingOf st5)[(pendingOf st5).size - 2]? else none)=some t->2<=m':=fun t eo=>by
       rcases Nat.lt_or_ge 1 (pendingOf st5).size with z | z
       ·omega
       ·rw [if_neg (by omega)] at eo;cases eo
      revert m2
      generalize (if (pendingOf st5).size > 1 then (pendingOf st5)[(pendingOf st5).size - 2]? else none)=bo
      intro m2
      rcases bo with _ | ⟨q1,q2,older⟩
      ·exact wpS_pure ⟨rfl,m',R'⟩
      ·dsimp only
       split
       ·exact wpS_pure ⟨rfl,m',R'⟩
       ·have:=m2 _ rfl
        refine wpS_bind (qD3 ak d R' (by omega) fun st2 R2=>?_)
        rw [if_neg (by decide)]
        exact wpS_pure ⟨rfl,m' - 1,R2⟩
     ·rintro c st5 ⟨rfl,m',R'⟩
      refine wpS_bind (wpS_modify ?_)
      refine wpS_bind (wpS_modify ?_)
      exact wpS_pure (fin _ _ R'.power)
   ·show wpS _ _ _ _ (if n<minRun' a₀.size a₀.size 0 then _ else _) _ _
    rw [if_neg c]
    obtain ⟨rest',R2,l2,s2,b1,b2⟩:=key _ st2 F2 u2 (by omega) (by omega)
    dsimp only
    refine wpS_bind (wpS_get ?_)
    have fin:∀ (m':Nat) (st4:SortSt),RI rk kd a₀ rest' m' st4->∃ rest m lo',((none,lo+n):Option Unit×Nat)=(none,lo')/\RI rk kd a₀ rest m (setPending st4 ((pendingOf st4).push (lo,n,0)))/\lo'+rest.length=a₀.size/\x+1<=lo':=fun m' st4 R4=>⟨_,_,_,rfl,RI.pushed R4 (by omega) s2 b1 b2,by rw [List.length_drop];omega,by omega⟩
    generalize (pendingOf st2).back?=bk
    rcases bk with _ | ⟨s1,n1,p3⟩
    ·refine wpS_bind (wpS_modify ?_)
     exact wpS_pure (fin _ _ R2)
    ·dsimp only
     refine wpS_bind (wpS_mono (wpS_forRange (I:=fun _ c st'=>c=(none,())/\∃ m,RI rk kd a₀ rest' m st') (Q:=fun c st'=>c=(none,())/\∃ m,RI rk kd a₀ rest' m st') ?_ (fun _ _ z=>z) ⟨rfl,m,R2⟩) ?_)
     ·rintro x c st3 _ hx ⟨rfl,m',R'⟩
      refine wpS_bind (wpS_get ?_)
      have sz:=R'.psize
      have m2:∀ t,(if (pendingOf st3).size > 1 then (pendingOf st3)[(pendingOf st3).size - 2]? else none)=some t->2<=m':=fun t eo=>by
       rcases Nat.lt_or_ge 1 (pendingOf st3).size with z | z
       ·omega
       ·rw [if_neg (by omega)] at eo;cases eo
      revert m2
      generalize (if (pendingOf st3).size > 1 then (pendingOf st3)[(pendingOf st3).size - 2]? else none)=bo
      intro m2
      rcases bo with _ | ⟨q1,q2,older⟩
      ·exact wpS_pure ⟨rfl,m',R'⟩
      ·dsimp only
       split
       ·exact wpS_pure ⟨rfl,m',R'⟩
       ·have:=m2 _ rfl
        refine wpS_bind (qD3 ak d R' (by omega) fun st2 R2=>?_)
        rw [if_neg (by decide)]
        exact wpS_pure ⟨rfl,m' - 1,R2⟩
     ·rintro c st3 ⟨rfl,m',R'⟩
      refine wpS_bind (wpS_modify ?_)
      refine wpS_bind (wpS_modify ?_)
      exact wpS_pure (fin _ _ R'.power)
 ·rintro c st' ⟨rest,m,lo,rfl,R,hl,hxl⟩
  have:rest=[]:=List.length_eq_zero_iff.mp (by omega)
  subst this
  exact ⟨m,lo,rfl,R⟩
 ·rintro c st' ⟨m,lo,rfl,R⟩
  have mle:m<=a₀.size:=by
   obtain ⟨Rs,eR,ep,hR,rfl,hk',hf',hp'⟩:=R
   have:∀ (L:List (List Keyed)),(∀ R∈L,R≠[])->L.length<=L.flatten.length:=fun L=>by
    induction L with
    | nil=>intro _;simp
    | cons a L ih =>
     intro h
     have:=ih fun R hR=>h R (List.mem_cons_of_mem _ hR)
     have:=List.length_pos_iff.mpr (h a (List.mem_cons_self ..))
     simp at *
     omega
   have h1:=this Rs fun R hR'=>(hR R hR').1
   have h2:=hp'.length_eq
   rw [eR] at h2
   simp at h1 h2
   omega
  refine wpS_bind (wpS_mono (wpS_forRange (I:=fun x c st'=>c=(none,())/\∃ m,RI rk kd a₀ [] m st'/\(m+x<=a₀.size\/m<=1)) (Q:=fun c st'=>c=(none,())/\∃ m,RI rk kd a₀ [] m st'/\m<=1) ?_ ?_ ⟨rfl,m,R,.inl (by omega)⟩) ?_)
  ·rintro x c st2 _ hx ⟨rfl,m',R',hm⟩
   have sz:=R'.psize
   refine wpS_bind (wpS_get ?_)
   show wpS _ _ _ _ (if (pendingOf st2).size<=1 then _ else _) _ _
   by_cases g:(pendingOf st2).size<=1
   ·rw [if_pos g]
    exact wpS_pure ⟨rfl,m',R',by omega⟩
   ·rw [if_neg g]
    refine wpS_bind (qD3 ak d R' ?_ fun st3 R3=>?_)
    ·have le:∀ (c:Prop) [Decidable c] (i:Nat),(if c then i - 1 else i)<=i:=fun c _ i=>by split <;> omega
     exact Nat.lt_of_le_of_lt (Nat.succ_le_succ (le _ _)) (by omega)
    ·exact wpS_pure ⟨rfl,m' - 1,R3,by omega⟩
  ·rintro c st2 ⟨rfl,m',R',hm⟩
   exact ⟨rfl,m',R',by omega⟩
  ·rintro c st2 ⟨rfl,m',R',hm⟩
   refine wpS_pure (h _ ?_ ?_)
   ·obtain ⟨Rs,eR,ep,hR,eM,hk',hf',hp'⟩:=R'
    exact hf'
   ·obtain ⟨Rs,eR,ep,hR,rfl,hk',hf',hp'⟩:=R'
    refine ⟨hp',?_⟩
    rw [eR]
    match Rs,hm,hR with
    | [],_,_=>exact List.Pairwise.nil
    | [X],_,hR=>simpa using (hR X (by simp)).2
    | _ :: _ :: _,hm,_=>simp at hm
end
end L2
namespace L2
open PySem PySem.Spec PyProof.Rows PySem.W
section
variable {P:Program} {w:World} {A:Around} {E:Value->Shared->Prop} {s:Shared} {rk:Keyed->Int} {kd:SortKind} {D:Keyed->Prop}
theorem asks_of (h:∀ x y:Keyed,D x->D y->∀ Q:Bool->Shared->Prop,Q (decide (rk x<rk y)) s->wpAny (model P w) A (keyLt' kd x.1 y.1) Q (fun _ _=>False) s):qGb P w A E s rk kd D:=fun x y dx dy st Q hk hq=>by
 rw [lt'_eq]
 refine wpS_bind (wpS_get ?_)
 rw [hk]
 refine wpS_bind (wpS_lift (wpAny_attempt (wpAny_mono (h x y dx dy (fun b s'=>s'=s/\b=decide (rk x<rk y)) ⟨rfl,rfl⟩) (fun b s' z=>?_) fun _ _ (z:False)=>z.elim)))
 obtain ⟨rfl,rfl⟩:=z
 exact ⟨rfl,wpS_pure hq⟩
theorem run_sort (ak:qGb P w A E s rk kd D) {pz:Array Keyed} (d:∀ x∈pz.toList,D x) {Q:Unit×SortSt->Shared->Prop} (h:∀ st',failedOf st'=none->Dn rk pz.toList (arrOf st').toList->Q ((),st') s) :
  wpAny (model P w) A (sortRuns'.run (SortSt.mk' kd pz #[] 7 none)) Q E s:=by
 have:=wp_sortRuns (a₀:=pz) (st:=SortSt.mk' kd pz #[] 7 none) (Q:=fun _ st'=>Q ((),st') s) ak d rfl rfl rfl rfl h
 unfold wpS at this
 exact wpAny_mono this (fun r s' ⟨e,q⟩=>by subst e;exact q) fun _ _ e=>e
end
def kLt (x y:List Str):Bool:=decide (x.length<y.length) || (decide (x.length=y.length) && ltL x y)
theorem kLt_irr (x:List Str):kLt x x=false:=by simp [kLt,ltL_irr]
theorem kLt_trans {x y z:List Str} (h:kLt x y=true) (h':kLt y z=true):kLt x z=true:=by
 simp only [kLt,Bool.or_eq_true,Bool.and_eq_true,decide_eq_true_eq] at *
 rcases h with h | ⟨h,q⟩
 ·rcases h' with h' | ⟨h',q'⟩
  ·exact .inl (by omega)
  ·exact .inl (by omega)
 ·rcases h' with h' | ⟨h',q'⟩
  ·exact .inl (by omega)
  ·exact .inr ⟨by omega,qD0 _ _ _ q q'⟩
theorem kLt_tri (x y:List Str):kLt x y=true\/x=y\/kLt y x=true:=by
 simp only [kLt,Bool.or_eq_true,Bool.and_eq_true,decide_eq_true_eq]
 rcases Nat.lt_trichotomy x.length y.length with h | h | h
 ·exact .inl (.inl h)
 ·rcases ltL_tri x y with q | q | q
  ·exact .inl (.inr ⟨h,q⟩)
  ·exact .inr (.inl q)
  ·exact .inr (.inr (.inr ⟨h.symm,q⟩))
 ·exact .inr (.inr (.inl h))
theorem cnt_le {α:Type} {p q:α->Bool}:∀ (l:List α),(∀ x∈l,p x=true->q x=true)->l.countP p<=l.countP q
 | [],_=>Nat.le_refl _
 | a :: l,h=>by
  rw [List.countP_cons,List.countP_cons]
  have:=cnt_le l fun x hx=>h x (List.mem_cons_of_mem _ hx)
  have:=h a (List.mem_cons_self ..)
  cases hp:p a <;> cases hq:q a <;> simp_all <;> omega
theorem cnt_lt {α:Type} {p q:α->Bool}:∀ (l:List α),(∀ x∈l,p x=true->q x=true)->(∃ x∈l,q x=true/\p x=false)->l.countP p<l.countP q
 | [],_,⟨_,h,_⟩=>by cases h
 | a :: l,h,⟨x,hx,h1,h2⟩=>by
  rw [List.countP_cons,List.countP_cons]
  have le:=cnt_le l fun x hx=>h x (List.mem_cons_of_mem _ hx)
  have ha:=h a (List.mem_cons_self ..)
  rcases List.mem_cons.mp hx with e | e
  ·subst e
   rw [h1,h2]
   simp
   omega
  ·have:=cnt_lt l (fun x hx=>h x (List.mem_cons_of_mem _ hx)) ⟨x,e,h1,h2⟩
   cases hp:p a <;> cases hq:q a <;> simp_all <;> omega
def rankT (ts:List (List Str)) (t:List Str):Nat:=ts.countP fun u=>kLt u t
theorem rankT_lt {ts:List (List Str)} {x y:List Str} (hx:x∈ts) (h:kLt x y=true):rankT ts x<rankT ts y:=cnt_lt ts (fun u _ q=>kLt_trans q h) ⟨x,hx,h,kLt_irr x⟩
theorem rankT_eq {ts:List (List Str)} {x y:List Str} (hx:x∈ts) (hy:y∈ts):decide ((rankT ts x:Int)<(rankT ts y:Int))=kLt x y:=by
 rcases kLt_tri x y with h | h | h
 ·have:=rankT_lt hx h
  rw [h];simp;omega
 ·subst h
  rw [kLt_irr];simp
 ·have:=rankT_lt hy h
  have z:kLt x y=false:=by
   cases q:kLt x y with
   | false=>rfl
   | true=>have:=kLt_trans q h;rw [kLt_irr] at this;cases this
  rw [z];simp;omega
theorem perm_lift {α β:Type} {f:α->β} {m l0:List β} (h:m.Perm l0):∀ l:List α,l0=l.map f->∃ l':List α,l'.Perm l/\l'.map f=m:=by
 induction h with
 | nil =>
  intro l e
  cases l with
  | nil=>exact ⟨[],List.Perm.nil,rfl⟩
  | cons _ _=>cases e
 | cons x p ih =>
  intro l e
  cases l with
  | nil=>cases e
  | cons a l =>
   injection e with e1 e2
   obtain ⟨l',p',q⟩:=ih l e2
   exact ⟨a :: l',p'.cons a,by rw [List.map_cons,q,<-e1]⟩
 | swap x y l1 =>
  intro l e
  match l,e with
  | a :: b :: l,e =>
   injection e with e1 e2
   injection e2 with e2 e3
   exact ⟨b :: a :: l,List.Perm.swap a b l,by rw [List.map_cons,List.map_cons,<-e1,<-e2,e3]⟩
 | trans p1 p2 ih1 ih2 =>
  intro l e
  obtain ⟨l1,q1,q2⟩:=ih2 l e
  obtain ⟨l2,q3,q4⟩:=ih1 l1 q2.symm
  exact ⟨l2,q3.trans q1,q4⟩
def qEg (h:Heap) (v:Value) (t:List Str):Prop:=∃ (k a:Addr) (tok:Tok) (its:Array Value),v = .ref k/\IsTup h k #[.int t.length tok,.ref a]/\h.IsList a its/\StrsAre its.toList t
theorem qEg.uniq {h:Heap} {v:Value} {t u:List Str} (a:qEg h v t) (b:qEg h v u):t=u:=by
 obtain ⟨k,p,tok,its,rfl,⟨o,e,c,n,d⟩,⟨o1,e1,c1,n1,d1⟩,st⟩:=a
 obtain ⟨k2,p2,tok2,its2,ek,⟨o',e',c',n',d'⟩,⟨o2,e2,c2,n2,d2⟩,st2⟩:=b
 cases ek
 rw [e] at e';cases e'
 rw [d] at d'
 injection d' with d' _
 have:[Value.int t.length tok,Value.ref p]=[Value.int u.length tok2,Value.ref p2]:=congrArg Array.toList d'
 injection this with _ h2
 injection h2 with h2 _
 cases h2
 rw [e1] at e2;cases e2
 rw [d1] at d2
 injection d2 with d2 _
 subst d2
 rw [<-st.strs,<-st2.strs]
section
variable {P:Program} {w:World} {A:Around} {E:Value->Shared->Prop} {s:Shared}
open SeqAt in
theorem eqAt_strs {a b:Addr} {i1 i2:Array Value} {x y:List Str} (hu:A.units<cLine) (ha:s.heap.IsList a i1) (hb:s.heap.IsList b i2) (hx:StrsAre i1.toList x) (hy:StrsAre i2.toList y):EqAt A s (.ref a) (.ref b) (decide (x=y)):=by
 by_cases e:a=b
 ·subst e
  obtain ⟨o1,e1,c1,n1,d1⟩:=ha
  obtain ⟨o2,e2,c2,n2,d2⟩:=hb
  rw [e1] at e2;cases e2
  rw [d1] at d2
  injection d2 with d2 _
  subst d2
  have:x=y:=by rw [<-hx.strs,<-hy.strs]
  rw [decide_eq_true this]
  exact EqAt.same _
 ·have l1:i1.size=x.length:=by rw [<-hx.strs];simp
  have l2:i2.size=y.length:=by rw [<-hy.strs];simp
  by_cases hs:i1.size=i2.size
  ·have q:=RcAt.lists (e:=fun j=>x.getD j "" == y.getD j "") ha hb hs hu fun j h1 h2=>by
    obtain ⟨t1,q1⟩:=strs_at hx (i:=j) (by simpa using h1)
    obtain ⟨t2,q2⟩:=strs_at hy (i:=j) (by simpa using h2)
    rw [Array.getElem?_toList,Array.getElem?_eq_getElem h1] at q1
    rw [Array.getElem?_toList,Array.getElem?_eq_getElem h2] at q2
    rw [Option.some.inj q1,Option.some.inj q2]
    exact EqAt.str_str _ _ _ _
   have eb:(List.range i1.size).all (fun j=>x.getD j "" == y.getD j "")=decide (x=y):=by
    rw [Bool.eq_iff_iff]
    simp only [List.all_eq_true,List.mem_range,beq_iff_eq,decide_eq_true_eq]
    constructor
    ·intro h
     refine List.ext_getElem (by omega) fun j h1 h2=>?_
     have:=h j (by omega)
     rw [List.getD_eq_getElem?_getD,List.getD_eq_getElem?_getD,List.getElem?_eq_getElem h1,List.getElem?_eq_getElem h2] at this
     exact this
    ·intro h j _;rw [h]
   rw [eb] at q
   exact EqAt.of_refs e q
  ·have ne:x≠y:=fun z=>hs (by rw [l1,l2,z])
   rw [decide_eq_false ne]
   exact EqAt.of_refs e (RcAt.lists_lengths ha hb (by simpa using hs) hu)
theorem ltAt_strs {l b:Addr} {items items2:Array Value} {x y:List Str} {Q:Bool->Shared->Prop} (hu:A.units<cLine) (hl:s.heap.IsList l items) (hb:s.heap.IsList b items2) (hx:StrsAre items.toList x) (hy:StrsAre items2.toList y)
  (h:Q (ltL x y) s):wpAny (model P w) A (oneLt' false (.ref l) (.ref b)) Q E s:=by
 obtain ⟨⟨cls,dd,data,sl⟩,ho,hc,n,hd⟩:=hl
 obtain ⟨⟨cls2,dd2,data2,sl2⟩,ho2,hc2,n2,hd2⟩:=hb
 simp only at hc hd hc2 hd2
 subst hc hd hc2 hd2
 rw [oneLt'_eq]
 simp only [Bool.false_eq_true,if_false]
 refine wpAny_bind (richCompare_meets_room (op:=.Lt) ⟨_,ho,rfl⟩ ⟨_,ho2,rfl⟩ F.slot_list_lt F.entry_list_lt (F.args_list_lt_2 _ _) (list_ltS l b items items2 n n2 dd dd2 sl sl2 x y hx hy) ⟨⟨ho,ho2⟩,?_⟩ hu)
 refine ⟨(fun z=>nomatch z),?_⟩
 exact wpAny_truthy_bool h
theorem keyLt_T {x y:Value} {t u:List Str} {Q:Bool->Shared->Prop} (hu:A.units<cLine) (hx:qEg s.heap x t) (hy:qEg s.heap y u) (h:Q (kLt t u) s):wpAny (model P w) A (keyLt' (tuples' true) x y) Q E s:=by
 obtain ⟨k,a,tok,its,rfl,⟨o,e,c,n,d⟩,ha,st⟩:=hx
 obtain ⟨k2,a2,tok2,its2,rfl,⟨o',e',c',n',d'⟩,ha2,st2⟩:=hy
 refine kat_lt e d e' d' (kat_cons (wpAny_eqBool_int (kat_go (fun q=>kat_yes (kat_cons (eqAt_strs hu ha ha2 st st2 _ _ _ _ (kat_go (fun q2=>kat_yes (kat_nil ?_)) fun q2=>kat_no ?_)))) fun q=>kat_no ?_)))
 ·have e1:t.length=u.length:=Int.ofNat.inj (eq_of_beq q)
  have e2:t=u:=of_decide_eq_true q2
  subst e2
  rw [kLt_irr] at h
  exact h
 ·have e1:t.length=u.length:=Int.ofNat.inj (eq_of_beq q)
  refine ltAt_strs hu ha ha2 st st2 ?_
  have:kLt t u=ltL t u:=by simp [kLt,e1]
  rw [this] at h
  exact h
 ·have e1:t.length≠u.length:=by
   intro z
   rw [z] at q
   simp at q
  refine oneLt_int ?_
  have:kLt t u=decide ((t.length:Int)<(u.length:Int)):=by
   simp only [kLt]
   rw [decide_eq_false e1]
   simp
  rw [this] at h
  exact h
end
end L2
namespace L2
open PySem PySem.Spec PyProof.Rows PySem.W
def ExtH (H H':Hp):Prop:=∀ b o,H b=some o->H' b=some o
theorem sq_ext {K:PySem.W.Frag} {H H':Hp} {l:Addr} {xs:List V} (e:ExtH H H') (hq:SqL K H l xs):SqL K H' l xs:=by
 rcases hq with (hq | ⟨o,hq⟩) | hq
 ·exact .inl (.inl (e _ _ hq))
 ·exact .inl (.inr ⟨o,e _ _ hq⟩)
 ·exact .inr hq
theorem qEa {α β:Type} {R:α->β->Prop}:∀ {l:List α} {m:List β},Paired R l m->l.length=m.length
 | _,_,.nil=>rfl
 | _,_,.cons _ t=>by rw [List.length_cons,List.length_cons,qEa t]
theorem qGs {α β:Type} {R R':α->β->Prop} (h:∀ a b,R a b->R' a b):∀ {l:List α} {m:List β},Paired R l m->Paired R' l m
 | _,_,.nil=>.nil
 | _,_,.cons a t=>.cons (h _ _ a) (qGs h t)
theorem paired_mem {α β:Type} {R R':α->β->Prop}:∀ {l:List α} {m:List β},Paired R l m->(∀ a b,b∈m->R a b->R' a b)->Paired R' l m
 | _,_,.nil,_=>.nil
 | _,_,.cons a t,h=>.cons (h _ _ (List.mem_cons_self ..) a) (paired_mem t fun a b hb=>h a b (List.mem_cons_of_mem _ hb))
theorem qFq {α β:Type} {R:α->β->Prop} {a:α} {b:β}:∀ {l:List α} {m:List β},Paired R l m->R a b->Paired R (l++[a]) (m++[b])
 | _,_,.nil,h=>.cons h .nil
 | _,_,.cons q t,h=>.cons q (qFq t h)
theorem qDh {α β:Type} {R:α->β->Prop}:∀ {l:List α} {m:List β},Paired R l m->∀ z∈l.zip m,R z.1 z.2
 | _,_,.nil,z,h=>by cases h
 | _,_,.cons q t,z,h=>by
  rcases List.mem_cons.mp h with e | e
  ·rw [e];exact q
  ·exact qDh t z e
theorem qFw {h:Heap}:∀ {kA:List Value} {ps:List (Addr×List Str)},Paired (fun v p=>qEg h v p.2) kA ps->∃ fs:List Value,KatTups h kA fs/\fs.length=kA.length/\∀ f∈fs,∃ n t,f=Value.int n t
 | _,_,.nil=>⟨[],KatTups.nil,rfl,fun f hf=>by cases hf⟩
 | _,_,.cons a t=>by
  obtain ⟨fs,k1,k2,k3⟩:=qFw t
  obtain ⟨k,p,tok,its,rfl,⟨o,e,c,n,d⟩,_,_⟩:=a
  refine ⟨_ :: fs,KatTups.cons e c d rfl k1,by rw [List.length_cons,List.length_cons,k2],fun f hf=>?_⟩
  rcases List.mem_cons.mp hf with z | z
  ·exact ⟨_,tok,z⟩
  ·exact k3 f z
section
variable {X:Cx}
theorem sk_endT {pins:List (Addr×Obj)} {σ:St} {H:Hp} {s:Shared} {a kS:Addr} {e1:Nat} {kA:List Value} {ps:List (Addr×List Str)} {P:PySem.Fin->Shared->Prop} {A:Around} {E':Value->Shared->Prop} {en:Nat}
  (I:Inv X ((kS,seqObj "list" kA.toArray en) :: (a,seqObj "list" #[] e1) :: pins) σ H s) (hk:kS≠a) (Hk:H kS=none) (Ha:H a=none) (wa:Aw X pins a) (wk:Aw X pins kS) (hu:A.units<cLine)
  (keys:Paired (fun v p=>qEg s.heap v p.2) kA ps) (hn:ps.length<=5000)
  (h:∀ (s':Shared) (ps':List (Addr×List Str)),ps'.Perm ps->ps'.Pairwise (fun p q=>kLt q.2 p.2=false)->Inv X pins σ (upd H a (.lst (ps'.map fun p=>V.ref p.1))) s'->P (.done (.ret .none)) s') :
  wpAny (model X.prog X.w) A (ksk_end a false (ps.map fun p=>Value.ref p.1).toArray e1 (.ref kS) kA.toArray) P E' s:=by
 have lk:=qEa keys
 have ok:s.heap.get? kS=some (seqObj "list" kA.toArray en):=(I.pin (kS,_) (List.mem_append_right _ (.head _))).1
 have ez:(kA.toArray.zip (ps.map fun p=>Value.ref p.1).toArray).toList=(kA.zip ps).map fun z=>((z.1,Value.ref z.2.1):Keyed):=by
  rw [Array.toList_zip]
  show kA.zip (ps.map fun p=>Value.ref p.1)=_
  rw [List.zip_map_right]
  rfl
 have fin:∀ (st:SortSt) (Z:List (Value×(Addr×List Str))),(arrOf st).toList=Z.map (fun z=>((z.1,Value.ref z.2.1):Keyed))->Z.Perm (kA.zip ps)->(Z.map Prod.snd).Pairwise (fun p q=>kLt q.2 p.2=false)->failedOf st=none->wpAny (model X.prog X.w) A (ksk_tail a false e1 (.ref kS) st) P E' s:=by
  intro st Z hZ hp ho hf
  have lz:Z.length=ps.length:=by rw [hp.length_eq,List.length_zip];omega
  have es:((arrOf st).map (·.2)).toList=(Z.map Prod.snd).map fun p=>Value.ref p.1:=by
   rw [Array.toList_map,hZ,List.map_map,List.map_map]
   rfl
  have sz:(arrOf st).size=ps.length:=by rw [<-Array.length_toList,hZ,List.length_map,lz]
  obtain ⟨n1,I1,_⟩:=Inv.repinL (fun _=>(#[]:Array Value)) I.unpin (wk.cons (Ne.symm hk)) Hk ok
  have oa1:(s.heap.update kS (Obj.mapSeq fun _=>(#[]:Array Value))).get? a=some (seqObj "list" #[] e1):=(I1.pin (a,_) (List.mem_append_right _ (.head _))).1
  obtain ⟨n2,I2,oa2⟩:=Inv.repinL (s:={ s with heap:=s.heap.update kS (Obj.mapSeq fun _=>(#[]:Array Value)) }) (fun _=>(arrOf st).map (·.2)) I1.unpin wa Ha oa1
  unfold ksk_tail
  try dsimp only
  refine wpAny_bind (listUpdate_at ok rfl ?_ (by rw [List.size_toArray,sizeLine_eq];omega) (Nat.zero_le _))
  refine wpAny_bind (wpAny_letGo ?_)
  refine wpAny_bind (seqEpoch_at oa1 rfl ?_)
  refine wpAny_bind (listUpdate_at oa1 rfl ?_ (Nat.zero_le _) (by simp only [Bool.false_eq_true,if_false,Array.size_map];rw [sz,sizeLine_eq];omega))
  rw [hf]
  simp only [bne_self_eq_false,Bool.false_eq_true,if_false]
  refine wpAny_pure (h _ (Z.map Prod.snd) ?_ ho ?_)
  ·have:=hp.map Prod.snd
   rw [List.map_snd_zip (by omega)] at this
   exact this
  ·refine I2.adoptL (its:=(Z.map Prod.snd).map fun p=>Value.ref p.1) (n:=n2) wa Ha ?_ (by rw [List.length_map,List.length_map,lz,sizeLine_eq];omega) ?_
   ·have:=qE3 ((Z.map Prod.snd).map Prod.fst)
    rw [List.map_map,List.map_map (g:=Value.ref)] at this
    exact this
   ·rw [<-es,Array.toArray_toList];exact oa2
 unfold ksk_end
 try dsimp only
 simp only [Bool.false_eq_true,if_false]
 by_cases h2:((ps.map fun p=>Value.ref p.1).toArray).size<2
 ·rw [if_pos h2,if_pos h2]
  refine wpAny_bind (wpAny_pure ?_)
  rw [StateT.run_pure]
  refine wpAny_bind (wpAny_pure ?_)
  try dsimp only
  refine fin (SortSt.mk' general' (kA.toArray.zip (ps.map fun p=>Value.ref p.1).toArray) #[] 7 none) (kA.zip ps) ez (List.Perm.refl _) ?_ rfl
  rw [List.map_snd_zip (by omega)]
  rw [List.size_toArray,List.length_map] at h2
  match ps,h2 with
  | [],_=>exact List.Pairwise.nil
  | [p],_=>exact List.pairwise_singleton ..
 ·rw [if_neg h2,if_neg h2]
  rw [List.size_toArray,List.length_map] at h2
  obtain ⟨fs,kt,fl,fa⟩:=qFw keys
  refine wpAny_bind (kat_kind (T:=.type "int") kt (by omega) (fun v hv=>?_) (by decide) ?_)
  ·obtain ⟨x,t,rfl⟩:=fa v hv
   exact .now
  show wpAny _ _ (sortRuns'.run (SortSt.mk' (tuples' true) _ #[] 7 none) >>= _) _ _ _
  have ex:∀ x:Keyed,∃ r:Int,∀ t,qEg s.heap x.1 t->r=(rankT (ps.map Prod.snd) t:Int):=fun x=>by
   by_cases c:∃ t,qEg s.heap x.1 t
   ·obtain ⟨t,ht⟩:=c
    exact ⟨(rankT (ps.map Prod.snd) t:Int),fun u hu=>by rw [ht.uniq hu]⟩
   ·exact ⟨0,fun t ht=>absurd ⟨t,ht⟩ c⟩
  obtain ⟨rk,hrk⟩:∃ rk:Keyed->Int,∀ x t,qEg s.heap x.1 t->rk x=(rankT (ps.map Prod.snd) t:Int):=⟨fun x=>Classical.choose (ex x),fun x=>Classical.choose_spec (ex x)⟩
  have at_:∀ z∈kA.zip ps,qEg s.heap z.1 z.2.2/\z.2.2∈ps.map Prod.snd:=fun z hz=>⟨qDh keys z hz,List.mem_map.mpr ⟨z.2,(List.of_mem_zip hz).2,rfl⟩⟩
  have ak:qGb X.prog X.w A E' s rk (tuples' true) (fun x=>∃ t∈ps.map Prod.snd,qEg s.heap x.1 t):=asks_of fun x y ⟨t,ht,kx⟩ ⟨u,hu',ky⟩ Q hq=>by
   rw [hrk x t kx,hrk y u ky,rankT_eq ht hu'] at hq
   exact keyLt_T hu kx ky hq
  refine wpAny_bind (run_sort ak (fun x hx=>?_) fun st' hf dn=>?_)
  ·rw [ez] at hx
   obtain ⟨z,hz,rfl⟩:=List.mem_map.mp hx
   exact ⟨_,(at_ z hz).2,(at_ z hz).1⟩
  ·obtain ⟨Z,pZ,eZ⟩:=perm_lift dn.1 (kA.zip ps) ez
   refine fin st' Z eZ.symm pZ ?_ hf
   have so:=dn.2
   rw [<-eZ] at so
   have so:=List.pairwise_map.mp so
   refine List.pairwise_map.mpr (so.imp_of_mem fun {x y} hx hy le=>?_)
   have ax:=at_ x (pZ.mem_iff.mp hx)
   have ay:=at_ y (pZ.mem_iff.mp hy)
   rw [hrk _ _ ax.1,hrk _ _ ay.1] at le
   cases c:kLt y.2.2 x.2.2 with
   | false=>rfl
   | true =>
    have:=rankT_lt ay.2 c
    omega
theorem sortKeyT_core {pins:List (Addr×Obj)} {σ:St} {H1:Hp} {s1:Shared} {l f:Addr} {ps:List (Addr×List Str)} {Q:VK} (I1:Inv X pins σ H1 s1) (hq:SqL X.K H1 l (ps.map fun p=>V.ref p.1)) (hrow:∀ p∈ps,SqL X.K H1 p.1 (p.2.map V.str)) (hn:ps.length<=5000) (hu:X.A.in1.in1.units<cLine)
  (hcall:∀ p∈ps,∀ (pins':List (Addr×Obj)) (s':Shared) (H':Hp),(∀ q∈pins,q∈pins')->ExtH H1 H'->Inv X pins' σ H' s'->wpAny (model X.prog X.w) X.A.in1.in1 (call (.ref f) [.ref p.1]) (EP X pins' σ (fun v H2=>∃ k,v = .ref k/\H' k=none/\H2=upd H' k (.tup [.int p.2.length,.ref p.1]))) (fun _ _=>False) s')
  (q:∀ (r:Addr) (ps':List (Addr×List Str)) (H2:Hp),H1 r=none->ExtH H1 H2->H2 r=some (.lst (ps'.map fun p=>V.ref p.1))->ps'.Perm ps->ps'.Pairwise (fun p q=>kLt q.2 p.2=false)->Q (.ref r) H2) :
  wpAny (model X.prog X.w) X.A (call (.builtin "sorted") [.ref l] [(Str.ofString "key",.ref f)]) (EP X pins σ Q) X.xe s1:=by
 obtain ⟨its,rv,pl,hz⟩:=I1.list hq
 have ei:its=ps.map fun p=>Value.ref p.1:=by
  have rv':qBc ((ps.map Prod.fst).map V.ref) its:=by rw [List.map_map];exact rv
  have:=refs_of rv'
  rw [List.map_map] at this
  exact this
 have hl:its.length=ps.length:=by rw [ei,List.length_map]
 refine call_function_entry_kw kind_sorted plain_sorted entry_sorted (ksk_s1 _ _) ?_
 unfold Builtin.«sorted»
 refine wpAny_bind (m:=checkCount "sorted" 1 1 _) (wpAny_pure ?_)
 refine wpAny_bind (collect_list pl.isList ?_ (by rw [sizeLine_eq];omega))
 refine wpAny_bind (wpAny_newList ?_ (by rw [sizeLine_eq];omega))
 have hsz:((s1.heap.push (seqObj "list" #[] 0)).update s1.heap.objs.size (Obj.mapSeq (·++its.toArray))).objs.size=s1.heap.objs.size+1:=by
  rw [Heap.size_update,size_push']
 have keep:∀ b o,s1.heap.get? b=some o->((s1.heap.push (seqObj "list" #[] 0)).update s1.heap.objs.size (Obj.mapSeq (·++its.toArray))).get? b=some o:=fun b o q=>by
  have hlt:b<s1.heap.objs.size:=Heap.lt_size q
  rw [Heap.get?_update_ne _ _ _ _ (Nat.ne_of_lt hlt),Heap.get?_push_ne _ _ _ (Nat.ne_of_lt hlt)]
  exact q
 have hoL:(((s1.heap.push (seqObj "list" #[] 0)).update s1.heap.objs.size (Obj.mapSeq (·++its.toArray))).push (seqObj "list" its.toArray 0)).get? (s1.heap.objs.size+1)=some (seqObj "list" its.toArray 0):=by
  rw [<-hsz];exact Heap.get?_push_size _ rfl
 have I2:Inv X pins σ H1 { s1 with heap:=((s1.heap.push (seqObj "list" #[] 0)).update s1.heap.objs.size (Obj.mapSeq (·++its.toArray))).push (seqObj "list" its.toArray 0) } :=
  I1.kept (t':=s1.toks) fun b o q=>Heap.get?_push_of_some _ (keep b o q)
 show wpAny _ _ _ _ _ { s1 with heap:=((s1.heap.push (seqObj "list" #[] 0)).update s1.heap.objs.size (Obj.mapSeq (·++its.toArray))).push (seqObj "list" its.toArray 0) }
 rw [hsz]
 have nA:H1 (s1.heap.objs.size+1)=none:=I1.hok.fresh (Nat.le_succ _)
 have wA:Aw X pins (s1.heap.objs.size+1):=I1.aw (Nat.le_succ _)
 generalize s1.heap.objs.size+1=a at hoL nA wA
 generalize hS:({ s1 with heap:=((s1.heap.push (seqObj "list" #[] 0)).update s1.heap.objs.size (Obj.mapSeq (·++its.toArray))).push (seqObj "list" its.toArray 0) }:Shared)=s2 at I2
 have ho2:s2.heap.get? a=some (seqObj "list" its.toArray 0):=by rw [<-hS];exact hoL
 clear hoL hS
 refine wpAny_bind (wpAny_holding (wpAny_call_entry_kw slot_list_sort ⟨_,ho2,rfl⟩ entry_list_sort ?body (ksk_l1 _ _)))
 show wpAny (model X.prog X.w) X.A.in1.in1 (Builtin.«list.sort» ⟨[.ref a],[(Str.ofString "key",.ref f)]⟩) _ _ _
 rw [ksk_t1]
 unfold ksk_tree
 refine wpAny_bind (listItems_at ho2 rfl ?_)
 refine wpAny_bind (listUpdate_at ho2 rfl ?_ (by rw [List.size_toArray,sizeLine_eq];omega) (Nat.zero_le _))
 obtain ⟨e1,I3,ho3⟩:=I2.repinL (fun _=>#[]) wA nA ho2
 refine wpAny_bind (seqEpoch_at ho3 rfl ?_)
 refine wpAny_bind (wpAny_newTuple ?_ (by show its.length<=_;rw [sizeLine_eq];omega))
 refine wpAny_bind (wpAny_newList ?_ (Nat.zero_le _))
 refine wpAny_holding ?_
 have I4:Inv X pins σ H1 { s2 with heap:=((s2.heap.update a (Obj.mapSeq fun _=>(#[]:Array Value))).push (seqObj "tuple" its.toArray 0)) }:=I3.kept (t':=s2.toks) fun b o q=>Heap.get?_push_of_some _ q
 have nK:=I4.fresh
 have wK:=I4.aw (Nat.le_refl _)
 have ho4:((s2.heap.update a (Obj.mapSeq fun _=>(#[]:Array Value))).push (seqObj "tuple" its.toArray 0)).get? a=some (seqObj "list" #[] e1):=Heap.get?_push_of_some _ ho3
 have nka:((s2.heap.update a (Obj.mapSeq fun _=>(#[]:Array Value))).push (seqObj "tuple" its.toArray 0)).objs.size≠a:=Nat.ne_of_gt (Heap.lt_size ho4)
 have I5:Inv X pins σ H1 { s2 with heap:=((s2.heap.update a (Obj.mapSeq fun _=>(#[]:Array Value))).push (seqObj "tuple" its.toArray 0)).push (seqObj "list" #[] 0) }:=I4.kept (t':=s2.toks) fun b o q=>Heap.get?_push_of_some _ q
 have ho5:(((s2.heap.update a (Obj.mapSeq fun _=>(#[]:Array Value))).push (seqObj "tuple" its.toArray 0)).push (seqObj "list" #[] 0)).get? a=some (seqObj "list" #[] e1):=Heap.get?_push_of_some _ ho4
 have hk5:(((s2.heap.update a (Obj.mapSeq fun _=>(#[]:Array Value))).push (seqObj "tuple" its.toArray 0)).push (seqObj "list" #[] 0)).get? ((s2.heap.update a (Obj.mapSeq fun _=>(#[]:Array Value))).push (seqObj "tuple" its.toArray 0)).objs.size=some (seqObj "list" #[] 0):=Heap.get?_push_size _ rfl
 show wpAny _ _ (ksk_rest a (.ref f) false its.toArray e1 (.ref ((s2.heap.update a (Obj.mapSeq fun _=>(#[]:Array Value))).push (seqObj "tuple" its.toArray 0)).objs.size)) _ _ { s2 with heap:=((s2.heap.update a (Obj.mapSeq fun _=>(#[]:Array Value))).push (seqObj "tuple" its.toArray 0)).push (seqObj "list" #[] 0) }
 change H1 ((s2.heap.update a (Obj.mapSeq fun _=>(#[]:Array Value))).push (seqObj "tuple" its.toArray 0)).objs.size=none at nK
 change Aw X pins ((s2.heap.update a (Obj.mapSeq fun _=>(#[]:Array Value))).push (seqObj "tuple" its.toArray 0)).objs.size at wK
 have I6:=(I5.pinL wA nA ho5).pinL (wK.cons (Ne.symm nka)) nK hk5
 generalize ((s2.heap.update a (Obj.mapSeq fun _=>(#[]:Array Value))).push (seqObj "tuple" its.toArray 0)).objs.size=kS at nK wK nka I6 ⊢
 generalize ({ s2 with heap:=((s2.heap.update a (Obj.mapSeq fun _=>(#[]:Array Value))).push (seqObj "tuple" its.toArray 0)).push (seqObj "list" #[] 0) }:Shared)=s6 at I6 ⊢
 unfold ksk_rest
 refine wpAny_bind (wpAny_rule ?_)
 first
  | rw [List.forIn_toArray]
  | (rw [<-Array.forIn_toList];simp only [List.toList_toArray])
  | rw [<-Array.forIn_toList]
 refine wpAny_bind (ksk_fold (fun i s'=>∃ (kA:List Value) (e:Nat) (H':Hp),Inv X ((kS,seqObj "list" kA.toArray e) :: (a,seqObj "list" #[] e1) :: pins) σ H' s'/\ExtH H1 H'/\Paired (fun v p=>∃ k,v=Value.ref k/\H' k=some (.tup [.int (p.2.length:Int),.ref p.1])) kA (ps.take i)) its 0 s6 ⟨[],0,H1,I6,fun _ _ z=>z,by simpa using Paired.nil⟩ ?step ?done)
 case step =>
  rintro j x s' hx ⟨kA,e,H',I',ex,hk⟩
  simp only [Nat.zero_add] at hk ⊢
  have hj:j<its.length:=(List.getElem?_eq_some_iff.mp hx).1
  have hjn:j<ps.length:=by omega
  have hxe:x = .ref ps[j].1:=by
   rw [ei,List.getElem?_map,List.getElem?_eq_getElem hjn] at hx
   exact (Option.some.inj hx).symm
  subst hxe
  have hz:kA.length<=its.length:=by
   have h1:=qEa hk
   rw [List.length_take] at h1
   omega
  refine wpAny_bind (wpAny_attempt (wpAny_mono (hcall ps[j] (List.getElem_mem hjn) _ s' H' (fun p hp=>List.mem_cons_of_mem _ (List.mem_cons_of_mem _ hp)) ex I') (fun v s'' he=>?_) fun _ _ (hF:False)=>hF.elim))
  obtain ⟨w,H'',I8,rw',k,rfl,nk,e8⟩:=he
  cases rw'
  subst e8
  try dsimp only
  have ok2:s''.heap.get? kS=some (seqObj "list" kA.toArray e):=(I8.pin (kS,_) (List.mem_append_right _ (.head _))).1
  have nK8:upd H' k (.tup [.int ps[j].2.length,.ref ps[j].1]) kS=none:=(I8.pin (kS,_) (List.mem_append_right _ (.head _))).2.1
  obtain ⟨n3,I3,ok3⟩:=I8.unpin.repinL (·.push (.ref k)) (wK.cons (Ne.symm nka)) nK8 ok2
  have ek:ps.take (j+1)=ps.take j++[ps[j]]:=by rw [List.take_add_one,List.getElem?_eq_getElem hjn];rfl
  refine wpAny_bind (listUpdate_at ok2 rfl ?_ (by rw [List.size_toArray,sizeLine_eq];omega) (Nat.le_trans (Nat.le_of_eq (Array.size_push ..)) (by rw [List.size_toArray,sizeLine_eq];omega)))
  have ea:kA.toArray.push (Value.ref k)=(kA++[Value.ref k]).toArray:=by simp
  rw [ea] at ok3
  refine wpAny_pure ⟨rfl,kA++[.ref k],n3,_,I3.pinL (wK.cons (Ne.symm nka)) nK8 ok3,fun b o z=>?_,?_⟩
  ·have:=ex b o z
   rw [qAm (qAl this nk)];exact this
  ·rw [ek]
   refine qFq (qGs (fun v p ⟨k2,z1,z2⟩=>⟨k2,z1,?_⟩) hk) ⟨k,rfl,upd_same⟩
   rw [qAm (qAl z2 nk)];exact z2
 case done =>
  rintro s' ⟨kA,e,H',I',ex,hk⟩
  have e3:ps.take (0+its.length)=ps:=List.take_of_length_le (by omega)
  rw [e3] at hk
  have ok2:s'.heap.get? kS=some (seqObj "list" kA.toArray e):=(I'.pin (kS,_) (List.mem_append_right _ (.head _))).1
  have nK':H' kS=none:=(I'.pin (kS,_) (List.mem_append_right _ (.head _))).2.1
  have nA':H' a=none:=(I'.pin (a,_) (List.mem_append_right _ (.tail _ (.head _)))).2.1
  try dsimp only
  refine wpAny_bind (listItems_at ok2 rfl ?_)
  have keys:Paired (fun v p=>qEg s'.heap v p.2) kA ps:=paired_mem hk fun v p hp ⟨k,ev,hH⟩=>by
   obtain ⟨i1,r1,t1,_⟩:=I'.tuple (Or.inl (.inl hH))
   obtain ⟨i2,r2,⟨o,n,g1,g2,_,g4⟩,_⟩:=I'.list (sq_ext ex (hrow p hp))
   cases r1 with
   | cons r1 rr =>
    cases rr with
    | cons r3 rr =>
     cases rr
     obtain ⟨tok,rfl⟩:=r1
     cases r3
     exact ⟨k,p.1,tok,i2.toArray,ev,t1,⟨o,g1,g2,n,g4⟩,by simpa using qDf r2⟩
  subst ei
  refine sk_endT I' nka nK' nA' wA wK hu keys hn fun s7 ps' hp ho I7=>⟨_,rfl,?_⟩
  refine wpAny_pure ⟨_,rfl,⟨.ref a,_,I7,rfl,q a ps' _ nA (fun b o z=>?_) upd_same hp ho⟩⟩
  have:=ex b o z
  rw [qAm (qAl this nA')];exact this
end
end L2
namespace L2
open PySem PySem.Spec PyProof.Rows PySem.W
theorem zip_dup:∀ vs:List Value,vs.zip vs=vs.map fun v=>((v,v):Keyed)
 | []=>rfl
 | v :: vs=>by rw [List.zip_cons_cons,List.map_cons,zip_dup vs]
section
variable {P:Program} {w:World} {A:Around} {E:Value->Shared->Prop} {s:Shared}
theorem sort_intsN {a:Addr} {vs:List Value} {ns:List Int} {n:Nat} {R:PySem.Fin->Shared->Prop} (ho:s.heap.get? a=some (seqObj "list" vs.toArray n)) (hi:IntsAre vs ns) (hn:vs.length<=5000)
  (h:∀ (out:List Value),out.Perm vs->(out.map numOf).Pairwise (·<=·)->R (.done (.ret .none)) { s with heap:=sortedHeap s.heap a vs out.toArray }):wpAny (model P w) A (Builtin.«list.sort» ⟨[.ref a],[]⟩) R E s:=by
 rw [list_sort_plain]
 have ha:a<s.heap.objs.size:=Heap.lt_size ho
 refine wpAny_bind (listItems_at ho rfl (wpAny_bind (listUpdate_at ho rfl ?_ (by rw [List.size_toArray,sizeLine_eq];omega) (Nat.zero_le _))))
 obtain ⟨e1,ho1⟩:∃ e1,(s.heap.update a (Obj.mapSeq fun _=>#[])).get? a=some (seqObj "list" #[] e1):=⟨_,get?_update_seq ho (fun _=>#[])⟩
 refine wpAny_bind (seqEpoch_at ho1 rfl (wpAny_bind (wpAny_newTuple ?_ (by show vs.length<=_;rw [sizeLine_eq];omega))))
 refine wpAny_bind (wpAny_newList ?_ (Nat.zero_le _))
 refine wpAny_holding ?_
 have ho6:(((s.heap.update a (Obj.mapSeq fun _=>#[])).push (seqObj "tuple" vs.toArray 0)).push (seqObj "list" #[] 0)).get? a=some (seqObj "list" #[] e1):=Heap.get?_push_of_some _ (Heap.get?_push_of_some _ ho1)
 have keep:∀ b o,b≠a->s.heap.get? b=some o->(((s.heap.update a (Obj.mapSeq fun _=>#[])).push (seqObj "tuple" vs.toArray 0)).push (seqObj "list" #[] 0)).get? b=some o:=fun b o hb e=>by
  refine Heap.get?_push_of_some _ (Heap.get?_push_of_some _ ?_)
  rw [Heap.get?_update_ne _ _ _ _ hb];exact e
 show wpAny (model P w) A _ R E { s with heap:=((s.heap.update a (Obj.mapSeq fun _=>#[])).push (seqObj "tuple" vs.toArray 0)).push (seqObj "list" #[] 0) }
 dsimp only
 have fin:∀ (st':SortSt) (out:List Value),(arrOf st').map (·.2)=out.toArray->failedOf st'=none->out.Perm vs->(out.map numOf).Pairwise (·<=·)->wpAny (model P w) A (do
   let touched:=(← seqEpoch a) != e1
   Builtin.List.listUpdate (.ref a) fun _=>(arrOf st').map (·.2)
   if let some e:=failedOf st' then rule "list.sort.comparison-raised";throw e
   if touched then rule "list.sort.modified";raiseError "ValueError" "list modified during sort"
   ret .none) R E { s with heap:=((s.heap.update a (Obj.mapSeq fun _=>#[])).push (seqObj "tuple" vs.toArray 0)).push (seqObj "list" #[] 0) }:=by
  intro st' out e hf hp hs
  refine wpAny_bind (seqEpoch_at ho6 rfl ?_)
  refine wpAny_bind (listUpdate_at ho6 rfl ?_ (Nat.zero_le _) (by rw [e,List.size_toArray,hp.length_eq,sizeLine_eq];omega))
  rw [hf]
  simp only [bne_self_eq_false,Bool.false_eq_true,if_false]
  rw [e]
  exact wpAny_pure (h out hp hs)
 have ez:(vs.toArray.zip vs.toArray).toList=vs.map fun v=>((v,v):Keyed):=by
  rw [Array.toList_zip]
  exact zip_dup vs
 by_cases h2:vs.toArray.size<2
 ·rw [if_pos h2,if_pos h2]
  refine wpAny_bind (wpAny_pure ?_)
  rw [StateT.run_pure]
  refine wpAny_bind (wpAny_pure (fin _ vs ?_ rfl (List.Perm.refl _) ?_))
  ·show (vs.toArray.zip vs.toArray).map (·.2)=vs.toArray
   apply Array.toList_inj.mp
   rw [Array.toList_map,Array.toList_zip]
   exact List.map_snd_zip (Nat.le_refl _)
  ·rw [List.size_toArray] at h2
   match vs,h2 with
   | [],_=>exact List.Pairwise.nil
   | [p],_=>exact List.pairwise_singleton ..
 ·rw [if_neg h2,if_neg h2]
  have hl2:2<=vs.length:=by rw [List.size_toArray] at h2;omega
  rw [ksk_kind (keys:=vs.toArray) (kz:=ns) (by simpa using hi) (by rw [List.size_toArray];omega)]
  refine wpAny_bind (wpAny_pure ?_)
  have ak:qGb P w A E { s with heap:=((s.heap.update a (Obj.mapSeq fun _=>#[])).push (seqObj "tuple" vs.toArray 0)).push (seqObj "list" #[] 0) } (fun x=>numOf x.1) oneType' (fun x=>∃ n t,x.1=Value.int n t):=asks_of fun x y ⟨n,t,ex⟩ ⟨m,u,ey⟩ Q hq=>by
   rw [ex,ey] at hq
   rw [ex,ey,keyLt'_oneType]
   exact oneLt_int hq
  refine wpAny_bind (run_sort ak (fun x hx=>?_) fun st' hf dn=>?_)
  ·rw [ez] at hx
   obtain ⟨v,hv,rfl⟩:=List.mem_map.mp hx
   exact hi.all v hv
  ·obtain ⟨L,pL,eL⟩:=perm_lift dn.1 vs ez
   refine fin st' L ?_ hf pL ?_
   ·apply Array.toList_inj.mp
    rw [Array.toList_map,<-eL,List.map_map]
    show L.map _=L
    exact List.map_id' L
   ·have so:=dn.2
    rw [<-eL] at so
    have so2:=List.pairwise_map.mp so
    exact List.pairwise_map.mpr so2
end
section
variable {X:Cx}
theorem call_sortedN:qCw X (.builtin "sorted") (fun xs H Q=>∃ (p:Addr) (ns:List Int),xs=[.ref p]/\SqL X.K H p (ns.map V.int)/\ns.length<=5000/\∀ (r:Addr) (ns':List Int),H r=none->ns'.Perm ns->ns'.Pairwise (·<=·)->Q (.ref r) (upd H r (.lst (ns'.map V.int)))):=by
 intro pins s σ H xs us Q I r h
 obtain ⟨p,ns,rfl,hq,hn,q⟩:=h
 obtain ⟨u,rfl,rx⟩:=qCx r
 cases rx
 obtain ⟨its,rv,pl,hz⟩:=I.list hq
 have hi:=qFz rv
 have hl:=hi.length
 refine Calls.call_function_entry kind_sorted plain_sorted entry_sorted (args_sorted1 _) ?_
 unfold Builtin.«sorted»
 refine wpAny_bind (m:=checkCount "sorted" 1 1 _) (wpAny_pure (wpAny_bind (collect_list pl.isList ?_ (by rw [sizeLine_eq];omega))))
 refine wpAny_bind (wpAny_newList ?_ (by rw [sizeLine_eq];omega))
 have hsz:((s.heap.push (seqObj "list" #[] 0)).update s.heap.objs.size (Obj.mapSeq (·++its.toArray))).objs.size=s.heap.objs.size+1:=by rw [Heap.size_update,size_push']
 have hoL:(((s.heap.push (seqObj "list" #[] 0)).update s.heap.objs.size (Obj.mapSeq (·++its.toArray))).push (seqObj "list" its.toArray 0)).get? (s.heap.objs.size+1)=some (seqObj "list" its.toArray 0):=by
  rw [<-hsz];exact Heap.get?_push_size _ rfl
 have keep:∀ b o,s.heap.get? b=some o->(((s.heap.push (seqObj "list" #[] 0)).update s.heap.objs.size (Obj.mapSeq (·++its.toArray))).push (seqObj "list" its.toArray 0)).get? b=some o:=fun b o e=>by
  have hlt:b<s.heap.objs.size:=Heap.lt_size e
  rw [Heap.get?_push_ne _ _ _ (by rw [hsz];exact Nat.ne_of_lt (Nat.lt_succ_of_lt hlt)),Heap.get?_update_ne _ _ _ _ (Nat.ne_of_lt hlt),Heap.get?_push_ne _ _ _ (Nat.ne_of_lt hlt)]
  exact e
 show wpAny _ _ _ _ _ { s with heap:=((s.heap.push (seqObj "list" #[] 0)).update s.heap.objs.size (Obj.mapSeq (·++its.toArray))).push (seqObj "list" its.toArray 0) }
 rw [hsz]
 refine wpAny_bind (wpAny_holding (wpAny_call_entry slot_list_sort ⟨_,hoL,rfl⟩ entry_list_sort (sort_intsN hoL hi (by omega) fun out hp hs=>⟨_,rfl,?_⟩) (args_list_sort _)))
 have nz:H (s.heap.objs.size+1)=none:=I.hok.fresh (Nat.le_succ _)
 obtain ⟨e,he⟩:=sortedAll_at s.heap its out.toArray
 have ho:IntsAre out (out.map numOf):=intsAre_map out fun v hv=>hi.all v (hp.mem_iff.mp hv)
 have hpn:(out.map numOf).Perm ns:=by
  have:=hp.map numOf
  rw [hi.nums] at this
  exact this
 refine wpAny_pure ⟨_,rfl,.ref (s.heap.objs.size+1),_,I.laid (t':=s.toks) (a:=s.heap.objs.size+1) (o:=.lst ((out.map numOf).map V.int)) (h':=sortedAll s.heap its out.toArray) (fun b o eb=>sortedAll_old eb) (Nat.le_succ _) ⟨?_,out,e,qE4 ho,he⟩,rfl,q _ (out.map numOf) nz hpn hs⟩
 rw [List.length_map,List.length_map,hp.length_eq,sizeLine_eq]
 omega
end
def tSortLamT (K:PySem.W.Frag) (P:Addr) (lpos:Pos) (q:Str) (t:TA):TE:=fun σ H Q=>t σ H fun vs H1=>∃ (p:Addr) (ps:List (Addr×List Str)),vs=[.ref p]/\SqL K H1 p (ps.map fun p=>V.ref p.1)/\(∀ x∈ps,SqL K H1 x.1 (x.2.map V.str))/\ps.length<=5000/\TabW H1 P lpos q /\
 ∀ (r:Addr) (ps':List (Addr×List Str)) (H2:Hp),H1 r=none->ExtB P H1 H2->H2 r=some (.lst (ps'.map fun p=>V.ref p.1))->ps'.Perm ps->ps'.Pairwise (fun p q=>kLt q.2 p.2=false)->TabW H2 P lpos q->Q (.ref r) H2
section
variable {X:Cx} {k:Nat}
theorem pe_sortLamT {e body:Expr} {params:Arguments} {scope:Scope} {t:TA} {te:TE} {p pos kp lpos:Pos} {x:Str} {c P:Addr} (L:LamAt X c P) (hr:Room (k+2) X.A) (hg:Gl X "sorted") (hm:X.mg "sorted" = none) (ha:PA X [e] t)
  (S:FnScope [x] [x] scope) (hcl:closureFor scope X.env=pure []) (hdef:defaultsOf params X.env=([],[]))
  (hb:∀ (nm ql:Str) (pm cd ct u:Value),bindArgs { name:=nm,qualname:=ql,params,body:=.expr body,scope,globals:=mainGlobals,closure:=[],defaults:=.none,kwdefaults:=.none,doc:=.none,pyModule:=pm,annotations:=none,code:=cd,closureTuple:=ct,builtins:=builtinsNs } ⟨[u],[]⟩=pure [(x,u)])
  (hbody:∀ (A:Around) (s:Shared) (H:Hp) (f:Addr) (cd:Value) (qual:Str),PE (cxOf CX0 X.prog X.w X.K X.mg X.base [x] qual scope f cd A X.stack s H E0) body te)
  (hte:∀ (a:Addr) (t:List Str) (H:Hp) (Q:VK),SqL X.K H a (t.map V.str)->(∀ k,H k=none->Q (.ref k) (upd H k (.tup [.int t.length,.ref a])))->te [some (.ref a)] H Q)
  (he:backTo pos (starEach [e] X.env)=(false,eval e X.env) :: backTo pos (starEach [] X.env):=by rfl)
  (hplain:(backTo pos (starEach [e] X.env)).any (·.1)=false:=by rfl):PE X (.Call (.Name "sorted" p) [e] [⟨some "key",.Lambda params body scope lpos,kp⟩] pos) (tSortLamT X.K P lpos (X.env.qual++"<lambda>") t):=by
 intro pins s σ H Q I h
 refine wpAny_Call_Name_kw (qFu I hg hm (by decide +kernel:bootBuiltins "sorted" = some (.builtin "sorted")) ?_ (by decide) (by decide))
 refine PyProof.Rows.callWith_kw (thn (ha pos pins s σ H _ I h) fun us s1 ⟨vs,H1,I1,r1,q1⟩=>?_) he hplain
 obtain ⟨l,ps,rfl,hq,hrow,hn,tw,q⟩:=q1
 obtain ⟨u,rfl,rx⟩:=qCx r1
 cases rx
 have hgs:s1.heap.Ns mainGlobals X.mg:=I1.ok.mod.glob.keeps I1.bk
 obtain ⟨bm,ob,b1,b2,b3,b4,b5,b6⟩:=L.bl
 have rest:∀ (c':Addr) (ctv:Value) (h':Heap) (tk:Nat) (H2:Hp),Inv X pins σ H2 { s1 with heap:=h'.push (PySem.W.kla_obj "<lambda>" (X.env.qual++"<lambda>") params body scope [] ((X.mg "__name__").getD .none) c' ctv),toks:=tk }->H2 c'=some (codeO c' (X.env.qual++"<lambda>"))->H2 h'.objs.size=none->Aw X pins h'.objs.size->(∃ ps,H1 P=some (.tbl ps))->ExtB P H1 H2->TabW H2 P lpos (X.env.qual++"<lambda>")->(∀ r,H2 r=none->H1 r=none) ->
   wpAny (model X.prog X.w) X.A (call (.builtin "sorted") [.ref l] [(Str.ofString "key",.ref h'.objs.size)]) (EP X pins σ Q) X.xe { s1 with heap:=h'.push (PySem.W.kla_obj "<lambda>" (X.env.qual++"<lambda>") params body scope [] ((X.mg "__name__").getD .none) c' ctv),toks:=tk }:=by
  intro c' ctv h' tk H2 I2 hc' nF wF ⟨ps,hP⟩ eB tw2 back
  have I3:Inv X ((h'.objs.size,PySem.W.kla_obj "<lambda>" (X.env.qual++"<lambda>") params body scope [] ((X.mg "__name__").getD .none) c' ctv) :: pins) σ H2
    { s1 with heap:=h'.push (PySem.W.kla_obj "<lambda>" (X.env.qual++"<lambda>") params body scope [] ((X.mg "__name__").getD .none) c' ctv),toks:=tk }:=I2.pins_of fun p hp=>by
   rcases List.mem_cons.mp hp with rfl | hp
   ·exact ⟨Heap.get?_push_size _ rfl,nF,wF.loc,wF.fs,fun v z=>by cases z⟩
   ·exact I2.pin p (List.mem_append_right _ hp)
  refine wpAny_mono (sortKeyT_core (Q:=Q) I3 (sq_B hP eB hq) (fun p hp=>sq_B hP eB (hrow p hp)) hn (by have:=(Room.in1 (Room.in1 hr)).un;omega) (fun p hp pins' s' H' sub ex I'=>?_) (fun r ps' H3 nr ex e3 hp ho=>?_)) (fun v s' ⟨y,H',J,ry,qq⟩=>⟨y,H',J.unpin,ry,qq⟩) fun _ _ z=>z
  ·have ho:=(I'.pin _ (List.mem_append_right _ (sub _ (.head _)))).1
   have hcr:s'.heap.CodeRec (.ref c') (X.env.qual++"<lambda>"):=(I'.hok c' _ (ex _ _ hc')).1
   refine wpAny_call (codeAny_mono (run_lam (v:=.ref p.1) (t:=te) (Q:=fun v H2=>∃ k,v = .ref k/\H' k=none/\H2=upd H' k (.tup [.int p.2.length,.ref p.1])) (Room.in1 (Room.in1 hr)) I'.env0.in1.in1 ho hcr S (hb _ _ _ _ _ _) rfl (hbody _ _ _ _ _ _) (hte p.1 p.2 H' _ (sq_ext ex (sq_B hP eB (hrow p hp))) fun k nk=>⟨k,rfl,nk,rfl⟩)) fun r s'' hq=>?_)
   cases r with
   | error e=>exact False.elim hq
   | ok fl =>
    cases fl with
    | ret u=>exact I'.after hq
    | next=>exact False.elim hq
    | brk=>exact False.elim hq
    | cont=>exact False.elim hq
  ·exact q r ps' H3 (back r nr) (fun b o hb e=>ex b o (eB b o hb e)) e3 hp ho (tw2.ext ex)
 rcases tw with hP | ⟨c',hP,hc'⟩
 ·have hPh:s1.heap.get? P=some (PySem.W.tabObj #[]):=I1.hok P _ hP
  have hgP:mainGlobals≠P:=fun z=>by
   obtain ⟨o,es,ep,e1,hd,_⟩:=hgs
   rw [z,hPh] at e1;cases e1;cases hd
  refine PyProof.Rows.kws_cons (PySem.W.kla_eval hdef (PySem.W.kla_makeFunction (mg:=X.mg) hcl I1.ok.glob hgs L.code (L.hd.keeps I1.bk) hPh trivial rfl hgP ⟨bm,ob,b1,b2,b3,b4,I1.bk _ _ b5,b6⟩ fun c' ctv h' tk hx hge hlt hrec htb=>PyProof.Rows.kws_nil ?_))
  have hsz:s1.heap.objs.size<=h'.objs.size:=Nat.le_of_lt (Nat.lt_of_le_of_lt hge hlt)
  have I2:=I1.grown (more:=#[rawInt lpos.line,rawInt lpos.col,.ref c']) (tk:=tk) (h':=h'.push (PySem.W.kla_obj "<lambda>" (X.env.qual++"<lambda>") params body scope [] ((X.mg "__name__").getD .none) c' ctv)) hP (fun b o hb e=>Heap.get?_push_of_some _ (hx b o hb e)) (Heap.get?_push_of_some _ htb)
  have hPlt:P<s1.heap.objs.size:=Heap.lt_size hPh
  have nC1:H1 c'=none:=I1.hok.fresh hge
  have nC:upd H1 P (.tbl (#[]++#[rawInt lpos.line,rawInt lpos.col,.ref c'])) c'=none:=by
   rw [qAm (Nat.ne_of_gt (Nat.lt_of_lt_of_le hPlt hge))];exact nC1
  have wC:Aw X pins c':=I1.aw hge
  have I3:=I2.adoptX wC nC (codeO_ok (hrec.keeps fun b o e=>Heap.get?_push_of_some _ e))
  have nF1:H1 h'.objs.size=none:=I1.hok.fresh hsz
  refine rest c' ctv h' tk _ I3 upd_same ?_ (I1.aw hsz) ⟨_,hP⟩ (fun b o hb e=>?_) (.inr ⟨c',?_,upd_same⟩) fun r hr0=>?_
  ·rw [qAm (Nat.ne_of_gt hlt),qAm (Nat.ne_of_gt (Nat.lt_of_lt_of_le hPlt hsz))];exact nF1
  ·rw [qAm (qAl e nC1),qAm hb];exact e
  ·rw [qAm (Nat.ne_of_lt (Nat.lt_of_lt_of_le hPlt hge)),upd_same];simp
  ·by_cases h1:r=c'
   ·rw [h1];exact nC1
   ·rw [qAm h1] at hr0
    by_cases h2:r=P
    ·rw [h2,upd_same] at hr0;cases hr0
    ·rw [qAm h2] at hr0;exact hr0
 ·have hPh:s1.heap.get? P=some (PySem.W.tabObj #[rawInt lpos.line,rawInt lpos.col,.ref c']):=I1.hok P _ hP
  refine PyProof.Rows.kws_cons (PySem.W.kla_eval hdef (PySem.W.kla_makeFunctionHit (mg:=X.mg) hcl I1.ok.glob hgs L.code (L.hd.keeps I1.bk) hPh ?tri (among3 lpos _) ⟨bm,ob,b1,b2,b3,b4,I1.bk _ _ b5,b6⟩ fun ctv h' tk hk hsz=>PyProof.Rows.kws_nil ?_))
  case tri=>trivial
  have I2:Inv X pins σ H1 { s1 with heap:=h'.push (PySem.W.kla_obj "<lambda>" (X.env.qual++"<lambda>") params body scope [] ((X.mg "__name__").getD .none) c' ctv),toks:=tk }:=I1.kept (t':=tk) fun b o e=>Heap.get?_push_of_some _ (hk b o e)
  exact rest c' ctv h' tk H1 I2 hc' (I1.hok.fresh hsz) (I1.aw hsz) ⟨_,hP⟩ (fun b o _ e=>e) (.inr ⟨c',hP,hc'⟩) fun r z=>z
end
end L2
namespace L2
open PySem PySem.Spec PyProof.Rows
end L2
namespace L2
open PySem PySem.Spec PyProof.Rows PySem.SeqAt
section
variable {X:Cx}
theorem op_isnB:OpR X (compareOp .IsNot) (fun x y H Q=>∃ a b,x = .bl a/\y = .bl b/\Q (.bl (!decide (a=b))) H):=by
 intro pins s σ H x y v u Q I rx ry h
 obtain ⟨a,b,rfl,rfl,q⟩:=h
 cases rx;cases ry
 exact wpAny_isNot_plain rfl (fin_bl I q (by cases a <;> cases b <;> rfl))
end
end L2
namespace My
open PySem L2
def sumF (N:List Nat):List Nat:=N.foldl (fun S x=>S++S.map fun z=>z^^^x) [0]
theorem qDv (N:List Nat) (x:Nat):sumF (N++[x])=sumF N++(sumF N).map fun z=>z^^^x:=by unfold sumF;rw [List.foldl_append];rfl
theorem spn_snoc {l:List Nat} {x z:Nat}:Spn (l++[x]) z↔Spn l z\/Spn l (z^^^x):=by
 constructor
 ·intro h
  induction h with
  | zero=>exact .inl .zero
  | add hm _ ih =>
   rename_i m y _
   rcases List.mem_append.mp hm with w | w
   ·rcases ih with i | i
    ·exact .inl (.add w i)
    ·refine .inr ?_
     have:=Spn.add w i
     rw [<-Nat.xor_assoc] at this
     exact this
   ·rw [List.mem_singleton] at w
    subst w
    rcases ih with i | i
    ·refine .inr ?_
     rw [Nat.xor_comm m y,qBq];exact i
    ·refine .inl ?_
     rw [Nat.xor_comm m y];exact i
 ·have up:∀ {y},Spn l y->Spn (l++[x]) y:=fun hy=>hy.mono fun u hu=>.mem (List.mem_append_left _ hu)
  rintro (h | h)
  ·exact up h
  ·have:=(up h).xor (Spn.mem (by simp:x∈l++[x]))
   rw [qBq] at this
   exact this
theorem qBr (N:List Nat):∀ z,z∈sumF N↔Spn N z:=by
 refine qFb (P:=fun N=>∀ z,z∈sumF N↔Spn N z) (fun z=>?_) (fun l x ih z=>?_) N
 ·constructor
  ·intro h
   have:z=0:=by simpa [sumF] using h
   rw [this];exact .zero
  ·intro h
   have:z=0:=by
    cases h with
    | zero=>rfl
    | add hm _=>cases hm
   rw [this];simp [sumF]
 ·rw [qDv,List.mem_append,spn_snoc,ih,List.mem_map]
  refine or_congr Iff.rfl ⟨fun ⟨y,hy,e⟩=>?_,fun h=>⟨z^^^x,(ih _).mpr h,qBq z x⟩⟩
  rw [<-e,qBq];exact (ih y).mp hy
theorem qCn (N:List Nat):(sumF N).length=2^N.length:=by
 refine qFb (P:=fun N=>(sumF N).length=2^N.length) rfl (fun l x ih=>?_) N
 rw [qDv,List.length_append,List.length_map,ih,List.length_append]
 show _=2^(l.length+1)
 rw [Nat.pow_succ];omega
theorem len_lt {l:List Nat} (nd:l.Nodup) {m:Nat} (h:∀ x∈l,x<m):l.length<=m:=by
 have p:l.Perm ((List.range m).filter fun x=>decide (x∈l)):=(List.perm_ext_iff_of_nodup nd (List.nodup_range.sublist List.filter_sublist)).mpr fun a=>by
  rw [List.mem_filter,List.mem_range,decide_eq_true_iff]
  exact ⟨fun ha=>⟨h a ha,ha⟩,fun ha=>ha.2⟩
 rw [p.length_eq]
 exact Nat.le_trans (List.length_filter_le _ _) (by rw [List.length_range];exact Nat.le_refl _)
abbrev RwO (F:List (List Str)):Prop:=F.Pairwise fun a b=>kLt b a=false
theorem rwo_uniq:∀ {F D:List (List Str)},RwO F->RwO D->F.Perm D->F=D
 | [],D,_,_,p=>(List.Perm.nil_eq p)
 | a :: F,[],_,_,p=>absurd p.symm.nil_eq (by simp)
 | a :: F,b :: D,hF,hD,p=>by
  have e:a=b:=by
   have ha:a∈b :: D:=p.mem_iff.mp List.mem_cons_self
   have hb:b∈a :: F:=p.mem_iff.mpr List.mem_cons_self
   rcases List.mem_cons.mp ha with h | h
   ·exact h
   ·rcases List.mem_cons.mp hb with h' | h'
    ·exact h'.symm
    ·have h1:=(List.pairwise_cons.mp hD).1 a h
     have h2:=(List.pairwise_cons.mp hF).1 b h'
     rcases kLt_tri a b with q | q | q
     ·rw [h1] at q;cases q
     ·exact q
     ·rw [h2] at q;cases q
  subst e
  rw [rwo_uniq (List.pairwise_cons.mp hF).2 (List.pairwise_cons.mp hD).2 p.cons_inv]
structure Kp (H H':Hp):Prop where
 k:∀ b o,(∀ ps,o≠.tbl ps)->H b=some o->H' b=some o
 n:∀ b,H' b=none->H b=none
theorem Kp.refl (H:Hp):Kp H H:=⟨fun _ _ _ h=>h,fun _ h=>h⟩
theorem Kp.trans {H H1 H2:Hp} (a:Kp H H1) (b:Kp H1 H2):Kp H H2:=⟨fun c o n h=>b.k c o n (a.k c o n h),fun c h=>a.n c (b.n c h)⟩
theorem Ext.kp {H H':Hp} (e:Ext H H'):Kp H H':=⟨fun b o _ h=>e b o h,fun b h=>e.none h⟩
theorem kp_B {P:Addr} {H H':Hp} {ps ps':Array Value} (e:ExtB P H H') (h:H P=some (.tbl ps)) (h':H' P=some (.tbl ps')):Kp H H':=by
 refine ⟨fun b o n q=>e b o (fun z=>by rw [z,h] at q;cases q;exact n _ rfl) q,fun b q=>?_⟩
 cases r:H b with
 | none=>rfl
 | some o =>
  have:=e b o (fun z=>by rw [z,h'] at q;cases q) r
  rw [q] at this;cases this
theorem Kp.ls {H H':Hp} (e:Kp H H') {a:Addr} {r:List Str} (h:LsS H a r):LsS H' a r:=e.k _ _ (fun _ z=>by cases z) h
theorem Kp.lst {H H':Hp} (e:Kp H H') {a:Addr} {r:List V} (h:H a=some (.lst r)):H' a=some (.lst r):=e.k _ _ (fun _ z=>by cases z) h
theorem Kp.rows {H H':Hp} (e:Kp H H') {p:Addr} {F:List (List Str)} (h:qCo H p F):qCo H' p F:=by
 obtain ⟨as,h1,h2⟩:=h
 exact ⟨as,e.lst h1,Paired.mapP h2 fun a r z=>e.ls z⟩
theorem Kp.tab {H H':Hp} (e:Kp H H') {T:Addr} {names:List Str} {rows:List (List Str)} (h:qCv H T names rows):qCv H' T names rows:=by
 obtain ⟨a,b,h1,h2,h3⟩:=h
 exact ⟨a,b,e.k _ _ (fun _ z=>by cases z) h1,e.ls h2,e.rows h3⟩
end My
namespace My
open PySem L2
def Inn (z k:Nat):Prop:=∀ i,z.testBit i=true->k.testBit i=true
theorem inn_of {z k:Nat} (h:z&&&k=z):Inn z k:=fun i hi=>by
 rw [<-h,Nat.testBit_and,Bool.and_eq_true] at hi
 exact hi.2
theorem inn_and {z k:Nat} (h:Inn z k):z&&&k=z:=Nat.eq_of_testBit_eq fun i=>by
 rw [Nat.testBit_and]
 cases q:z.testBit i with
 | false=>rfl
 | true=>rw [h i q];rfl
theorem inn_trans {a b c:Nat} (h:Inn a b) (h':Inn b c):Inn a c:=fun i hi=>h' i (h i hi)
def Lst (N:List Nat) (t:Nat):Prop:=Spn N t/\t≠0/\∀ o,Spn N o->o≠0->Inn o t->o=t
theorem qD5 (S:List Nat):RR S->(sumF S).Nodup:=by
 refine qFb (P:=fun S=>RR S->(sumF S).Nodup) (fun _=>by show [0].Nodup;simp) (fun l x ih r=>?_) S
 have rl:RR l:=⟨fun s hs=>r.nz s (List.mem_append_left _ hs),r.ap.sublist (List.sublist_append_left l [x])⟩
 have hx:x∈l++[x]:=List.mem_append_right _ (List.mem_singleton.mpr rfl)
 have hap:=List.pairwise_append.mp r.ap
 have bit:∀ s∈l,s.testBit x.log2=false:=fun s hs=>(hap.2.2 s hs x (List.mem_singleton.mpr rfl)).2
 have sb:∀ z∈sumF l,z.testBit x.log2=false:=fun z hz=>spn_bit bit ((qBr l z).mp hz)
 rw [qDv,List.nodup_append]
 refine ⟨ih rl,?_,fun a ha b hb e=>?_⟩
 ·refine List.pairwise_map.mpr ((ih rl).imp fun {a b} ne e=>ne ?_)
  have:=congrArg (fun z=>z^^^x) e
  simp only [qBq] at this
  exact this
 ·obtain ⟨c,hc,rfl⟩:=List.mem_map.mp hb
  have h1:=sb a ha
  rw [e,Nat.testBit_xor,sb c hc,r.self hx] at h1
  cases h1
def rmOk (told:List Nat) (m:Nat):Bool:=!decide (m=0) && !(told.any fun o=>decide (o&&&m=o))
def rmS (told:List Nat) (m:Nat):List Nat:=if rmOk told m=true then told++[m] else told
def rmF (L:List Nat):List Nat:=L.foldl rmS []
theorem qEx (L:List Nat) (m:Nat):rmF (L++[m])=rmS (rmF L) m:=by unfold rmF;rw [List.foldl_append];rfl
theorem rmF_len (L:List Nat):(rmF L).length<=L.length:=by
 refine qFb (P:=fun L=>(rmF L).length<=L.length) (Nat.le_refl _) (fun l m ih=>?_) L
 rw [qEx]
 unfold rmS
 split
 ·rw [List.length_append,List.length_append];exact Nat.add_le_add_right ih 1
 ·rw [List.length_append];omega
theorem inn_le {a b:Nat} (h:Inn a b):a<=b:=by
 have:=inn_and h
 rw [<-this]
 exact Nat.and_le_right
theorem rmF_sub (L:List Nat):(rmF L).Sublist L:=by
 refine qFb (P:=fun L=>(rmF L).Sublist L) (List.Sublist.refl _) (fun l m ih=>?_) L
 rw [qEx]
 unfold rmS
 split
 ·exact ih.append (List.Sublist.refl _)
 ·exact ih.trans (List.sublist_append_left _ _)
theorem least_ex (P:List Nat):∀ (n y:Nat),y<n->y∈P->y≠0->∃ z∈P,z≠0/\Inn z y/\∀ w∈P,w≠0->Inn w z->w=z
 | 0,y,h,_,_=>absurd h (Nat.not_lt_zero _)
 | n+1,y,h,hy,nz=>by
  by_cases c:∀ w∈P,w≠0->Inn w y->w=y
  ·exact ⟨y,hy,nz,fun _ z=>z,c⟩
  ·obtain ⟨w,hw⟩:=Classical.not_forall.mp c
   have hw:w∈P/\w≠0/\Inn w y/\w≠y:=by
    by_cases a:w∈P
    ·by_cases b:w≠0
     ·by_cases d:Inn w y
      ·exact ⟨a,b,d,fun e=>hw fun _ _ _=>e⟩
      ·exact absurd (fun _ _ q=>absurd q d) hw
     ·exact absurd (fun _ q _=>absurd q b) hw
    ·exact absurd (fun q _ _=>absurd q a) hw
   have lt:w<y:=Nat.lt_of_le_of_ne (inn_le hw.2.2.1) hw.2.2.2
   obtain ⟨z,z1,z2,z3,z4⟩:=least_ex P n w (by omega) hw.1 hw.2.1
   exact ⟨z,z1,z2,inn_trans z3 hw.2.2.1,z4⟩
theorem mem_rmF (L:List Nat):L.Pairwise (· < ·)->∀ z,z∈rmF L↔z∈L/\z≠0/\∀ y∈L,y≠0->Inn y z->y=z:=by
 refine qFb (P:=fun L=>L.Pairwise (· < ·)->∀ z,z∈rmF L↔z∈L/\z≠0/\∀ y∈L,y≠0->Inn y z->y=z) (fun _ z=>⟨fun h=>(by cases h),fun h=>(by cases h.1)⟩) (fun l m ih hp z=>?_) L
 obtain ⟨p1,_,p3⟩:=List.pairwise_append.mp hp
 have below:∀ y∈l,y<m:=fun y hy=>p3 y hy m (List.mem_singleton.mpr rfl)
 have ih:=ih p1
 have any:(rmF l).any (fun o=>decide (o&&&m=o))=true↔∃ o∈rmF l,Inn o m:=by
  rw [List.any_eq_true]
  exact ⟨fun ⟨o,h1,h2⟩=>⟨o,h1,inn_of (of_decide_eq_true h2)⟩,fun ⟨o,h1,h2⟩=>⟨o,h1,decide_eq_true (inn_and h2)⟩⟩
 have ok:rmOk (rmF l) m=true↔m≠0/\¬∃ o∈rmF l,Inn o m:=by
  unfold rmOk
  rw [Bool.and_eq_true,<-any]
  simp
 have hS:z∈rmS (rmF l) m↔z∈rmF l\/(z=m/\rmOk (rmF l) m=true):=by
  unfold rmS
  split
  ·rename_i c
   rw [List.mem_append,List.mem_singleton]
   exact ⟨fun h=>h.imp id fun e=>⟨e,c⟩,fun h=>h.imp id fun e=>e.1⟩
  ·rename_i c
   exact ⟨fun h=>.inl h,fun h=>h.elim id fun e=>absurd e.2 c⟩
 rw [qEx,hS,ok]
 constructor
 ·rintro (h | ⟨rfl,h1,h2⟩)
  ·obtain ⟨a,b,c⟩:=(ih z).mp h
   refine ⟨List.mem_append_left _ a,b,fun y hy nz hi=>?_⟩
   rcases List.mem_append.mp hy with q | q
   ·exact c y q nz hi
   ·rw [List.mem_singleton.mp q] at hi
    have:=inn_le hi
    have:=below z a
    omega
  ·refine ⟨by simp,h1,fun y hy nz hi=>?_⟩
   rcases List.mem_append.mp hy with q | q
   ·obtain ⟨w,w1,w2,w3,w4⟩:=least_ex l (y+1) y (by omega) q nz
    exact absurd ⟨w,(ih w).mpr ⟨w1,w2,w4⟩,inn_trans w3 hi⟩ h2
   ·exact List.mem_singleton.mp q
 ·rintro ⟨a,b,c⟩
  rcases List.mem_append.mp a with q | q
  ·exact .inl ((ih z).mpr ⟨q,b,fun y hy=>c y (List.mem_append_left _ hy)⟩)
  ·have e:=List.mem_singleton.mp q
   subst e
   refine .inr ⟨rfl,b,?_⟩
   rintro ⟨o,h1,h2⟩
   obtain ⟨o1,o2,_⟩:=(ih o).mp h1
   have:=c o (List.mem_append_left _ o1) o2 h2
   have:=below o o1
   omega
theorem qF0 (a b x:Nat):(a^^^b)&&&x=(a&&&x)^^^(b&&&x):=Nat.eq_of_testBit_eq fun i=>by
 simp only [Nat.testBit_and,Nat.testBit_xor]
 cases a.testBit i <;> cases b.testBit i <;> cases x.testBit i <;> rfl
theorem qF1 {S:List Nat} {x u:Nat}:Spn (S.map fun z=>z&&&x) u↔∃ z,Spn S z/\z&&&x=u:=by
 constructor
 ·intro h
  induction h with
  | zero=>exact ⟨0,.zero,Nat.zero_and x⟩
  | add hm _ ih =>
   obtain ⟨z,h1,h2⟩:=ih
   obtain ⟨s,hs,rfl⟩:=List.mem_map.mp hm
   exact ⟨s^^^z,.add hs h1,by rw [qF0,h2]⟩
 ·rintro ⟨z,h,rfl⟩
  induction h with
  | zero=>rw [Nat.zero_and];exact .zero
  | add hm _ ih =>
   rw [qF0]
   exact .add (List.mem_map_of_mem (f:=fun z=>z&&&x) hm) ih
theorem qFx {S:List Nat} {x k:Nat}:Spn ((sumF S).filter fun z=>decide (z&&&x=0)) k↔Spn S k/\k&&&x=0:=by
 constructor
 ·intro h
  induction h with
  | zero=>exact ⟨.zero,Nat.zero_and x⟩
  | add hm _ ih =>
   obtain ⟨h1,h2⟩:=List.mem_filter.mp hm
   refine ⟨Spn.xor ((qBr S _).mp h1) ih.1,?_⟩
   rw [qF0,of_decide_eq_true h2,ih.2];rfl
 ·rintro ⟨h1,h2⟩
  exact .mem (List.mem_filter.mpr ⟨(qBr S k).mpr h1,decide_eq_true h2⟩)
theorem flat_len {α β:Type} {g:α->List β} {c:Nat}:∀ {l:List α},(∀ a∈l,(g a).length=c)->(l.flatMap g).length=l.length*c
 | [],_=>by simp
 | a :: l,h=>by
  rw [List.flatMap_cons,List.length_append,h a List.mem_cons_self,flat_len fun b hb=>h b (List.mem_cons_of_mem _ hb),List.length_cons,Nat.succ_mul]
  omega
theorem rank_null {S:List Nat} (r:RR S) (x:Nat):(red (S.map fun z=>z&&&x)).length+(red ((sumF S).filter fun z=>decide (z&&&x=0))).length=S.length:=by
 have nR:=qD5 _ (qC4 (S.map fun z=>z&&&x))
 have nK:=qD5 _ (qC4 ((sumF S).filter fun z=>decide (z&&&x=0)))
 have nS:=qD5 _ r
 have mR:∀ u,u∈sumF (red (S.map fun z=>z&&&x))↔∃ z,Spn S z/\z&&&x=u:=fun u=>(qBr _ u).trans ((qCa _ u).trans qF1)
 have mK:∀ k,k∈sumF (red ((sumF S).filter fun z=>decide (z&&&x=0)))↔Spn S k/\k&&&x=0:=fun k=>(qBr _ k).trans ((qCa _ k).trans qFx)
 have lR:=qCn (red (S.map fun z=>z&&&x))
 have lK:=qCn (red ((sumF S).filter fun z=>decide (z&&&x=0)))
 have lS:=qCn S
 revert nR nK mR mK lR lK
 generalize sumF (red (S.map fun z=>z&&&x))=A
 generalize sumF (red ((sumF S).filter fun z=>decide (z&&&x=0)))=B
 intro nR nK mR mK lR lK
 have ch:∃ p:Nat->Nat,∀ u∈A,Spn S (p u)/\p u&&&x=u:=by
  refine ⟨fun u=>Classical.epsilon fun z=>Spn S z/\z&&&x=u,fun u hu=>?_⟩
  exact Classical.epsilon_spec ((mR u).mp hu)
 obtain ⟨p,hp⟩:=ch
 have perm:(A.flatMap fun u=>B.map fun k=>p u^^^k).Perm (sumF S):=by
  refine (List.perm_ext_iff_of_nodup ?_ nS).mpr fun z=>?_
  ·refine List.pairwise_flatMap.mpr ⟨fun u hu=>?_,?_⟩
   ·refine List.pairwise_map.mpr (nK.imp fun {a b} ne e=>ne ?_)
    have:=congrArg (fun z=>p u^^^z) e
    simp only [<-Nat.xor_assoc,Nat.xor_self,Nat.zero_xor] at this
    exact this
   ·have:A.Pairwise fun a b=>a∈A/\b∈A/\a≠b:=by
     refine List.Pairwise.imp_of_mem (fun {a b} ha hb ne=>⟨ha,hb,ne⟩) nR
    refine this.imp fun {u v} h c hc d hd e=>h.2.2 ?_
    obtain ⟨k,hk,rfl⟩:=List.mem_map.mp hc
    obtain ⟨k',hk',rfl⟩:=List.mem_map.mp hd
    have:=congrArg (fun z=>z&&&x) e
    simp only [qF0,(hp u h.1).2,(hp v h.2.1).2,((mK k).mp hk).2,((mK k').mp hk').2,Nat.xor_zero] at this
    exact this
  ·rw [List.mem_flatMap,qBr]
   constructor
   ·rintro ⟨u,hu,hz⟩
    obtain ⟨k,hk,rfl⟩:=List.mem_map.mp hz
    exact Spn.xor (hp u hu).1 ((mK k).mp hk).1
   ·intro hz
    have hu:z&&&x∈A:=(mR _).mpr ⟨z,hz,rfl⟩
    refine ⟨_,hu,List.mem_map.mpr ⟨p (z&&&x)^^^z,(mK _).mpr ⟨Spn.xor (hp _ hu).1 hz,?_⟩,?_⟩⟩
    ·rw [qF0,(hp _ hu).2,Nat.xor_self]
    ·rw [<-Nat.xor_assoc,Nat.xor_self,Nat.zero_xor]
 have:=perm.length_eq
 rw [flat_len (c:=B.length) (fun a _=>List.length_map _),lR,lK,lS,<-Nat.pow_add] at this
 exact Nat.le_antisymm ((Nat.pow_le_pow_iff_right (by decide)).mp (Nat.le_of_eq this)) ((Nat.pow_le_pow_iff_right (by decide)).mp (Nat.le_of_eq this.symm))
theorem rr_same {a b:List Nat} (ha:RR a) (hb:RR b) (h:∀ y,Spn a y↔Spn b y):a.Perm b :=
 (List.perm_ext_iff_of_nodup ha.nd hb.nd).mpr fun s=>⟨rr_uniq ha hb h s,rr_uniq hb ha (fun y=>(h y).symm) s⟩
theorem perm_spn {a b:List Nat} (p:a.Perm b) (y:Nat):Spn a y↔Spn b y:=⟨fun h=>h.mono fun u hu=>.mem (p.mem_iff.mp hu),fun h=>h.mono fun u hu=>.mem (p.mem_iff.mpr hu)⟩
theorem rr_bij {a b:List Nat} (ha:RR a) (hb:RR b) {f:Nat->Nat} (inj:∀ y y',Spn a y->Spn a y'->f y=f y'->y=y') (to:∀ y,Spn a y->Spn b (f y)) (on:∀ z,Spn b z->∃ y,Spn a y/\f y=z):a.length=b.length:=by
 have p:((sumF a).map f).Perm (sumF b):=by
  refine (List.perm_ext_iff_of_nodup ?_ (qD5 b hb)).mpr fun z=>?_
  ·refine List.pairwise_map.mpr ((qD5 a ha).imp_of_mem fun {x y} hx hy ne e=>ne ?_)
   exact inj x y ((qBr a x).mp hx) ((qBr a y).mp hy) e
  ·rw [List.mem_map,qBr]
   constructor
   ·rintro ⟨y,hy,rfl⟩
    exact to y ((qBr a y).mp hy)
   ·intro hz
    obtain ⟨y,h1,h2⟩:=on z hz
    exact ⟨y,(qBr a y).mpr h1,h2⟩
 have:=p.length_eq
 rw [List.length_map,qCn,qCn] at this
 exact Nat.le_antisymm ((Nat.pow_le_pow_iff_right (by decide)).mp (Nat.le_of_eq this)) ((Nat.pow_le_pow_iff_right (by decide)).mp (Nat.le_of_eq this.symm))
open Classical in
theorem rr_one {a:List Nat} (ha:RR a) {c:Nat} (hc:c≠0) (h:∀ y,Spn a y->y=0\/y=c):a.length=if Spn a c then 1 else 0:=by
 match a,ha,h with
 | [],_,_ =>
  rw [if_neg]
  ·rfl
  ·intro z
   have:∀ y,Spn [] y->y=0:=fun y hy=>by
    induction hy with
    | zero=>rfl
    | add m=>cases m
   exact hc (this c z)
 | [x],ha,h =>
  have e:x=c:=(h x (.mem List.mem_cons_self)).resolve_left (ha.nz x List.mem_cons_self)
  rw [if_pos (by rw [<-e];exact .mem List.mem_cons_self)]
  rfl
 | x :: y :: l,ha,h =>
  have e1:x=c:=(h x (.mem List.mem_cons_self)).resolve_left (ha.nz x List.mem_cons_self)
  have e2:y=c:=(h y (.mem (by simp))).resolve_left (ha.nz y (by simp))
  have nd:=ha.nd
  rw [e1,e2] at nd
  simp at nd
def qC1 (q:Nat) (b:Bool) (y:Nat):Nat:=(y&&&(2^q - 1)) ||| ((y >>> q) <<< (q+1)) ||| (if b=true then 2^q else 0)
theorem qA5 (q:Nat) (b:Bool) (y j:Nat):(qC1 q b y).testBit j=if j<q then y.testBit j else if j=q then b else y.testBit (j - 1):=by
 unfold qC1
 rw [Nat.testBit_or,Nat.testBit_or,Nat.testBit_and,Nat.testBit_two_pow_sub_one,Nat.testBit_shiftLeft,Nat.testBit_shiftRight]
 have hb:(if b=true then 2^q else 0).testBit j=(b && decide (q=j)):=by
  cases b
  ·rw [if_neg (by decide)];simp
  ·rw [if_pos rfl,Nat.testBit_two_pow];simp
 rw [hb]
 by_cases h:j<q
 ·rw [if_pos h,decide_eq_true h,decide_eq_false (by omega),decide_eq_false (by omega)];simp
 ·rw [if_neg h,decide_eq_false h]
  by_cases e:j=q
  ·rw [if_pos e,decide_eq_false (by omega),decide_eq_true e.symm];simp
  ·rw [if_neg e,decide_eq_true (by omega),decide_eq_false (Ne.symm e),show q+(j - (q+1))=j - 1 by omega];simp
theorem qBm (q:Nat) (b:Bool) (y:Nat):delB q (qC1 q b y)=y:=Nat.eq_of_testBit_eq fun j=>by
 rw [qA6,qA5,qA5]
 by_cases h:j<q
 ·rw [if_pos h,if_pos h]
 ·rw [if_neg h,if_neg (by omega),if_neg (by omega),Nat.add_sub_cancel]
theorem qB0 (q z:Nat):qC1 q (z.testBit q) (delB q z)=z:=Nat.eq_of_testBit_eq fun j=>by
 rw [qA5,qA6,qA6]
 by_cases h:j<q
 ·rw [if_pos h,if_pos h]
 ·rw [if_neg h]
  by_cases e:j=q
  ·rw [if_pos e,e]
  ·rw [if_neg e,if_neg (by omega),show j - 1+1=j by omega]
theorem insB_lt {q m y:Nat} (b:Bool) (hq:q<=m) (hy:y<2^m):qC1 q b y<2^(m+1):=Nat.lt_pow_two_of_testBit _ fun i hi=>by
 rw [qA5,if_neg (by omega),if_neg (by omega)]
 exact qEr hy (by omega)
theorem delB_xor (q y z:Nat):delB q (y^^^z)=delB q y^^^delB q z:=Nat.eq_of_testBit_eq fun j=>by
 rw [Nat.testBit_xor,qA6,qA6,qA6]
 split <;> rw [Nat.testBit_xor]
theorem qE1 {q z m:Nat} (h:z<2^(m+1)):delB q z<2^m\/m<q:=by
 by_cases c:q<=m
 ·exact .inl (Nat.lt_pow_two_of_testBit _ fun i hi=>by rw [qA6,if_neg (by omega)];exact qEr h (by omega))
 ·exact .inr (by omega)
theorem xsum_ins {f:Nat->Bool}:∀ {m q:Nat},q<=m->xsum (m+1) f=(f q ^^ xsum m fun j=>if j<q then f j else f (j+1))
 | 0,q,h=>by
  have:q=0:=by omega
  subst this
  simp [xsum]
 | m+1,q,h=>by
  by_cases e:q=m+1
  ·subst e
   show (xsum (m+1) f ^^ f (m+1))=_
   rw [Bool.xor_comm]
   congr 1
   exact qBt fun j hj=>by rw [if_pos hj]
  ·show (xsum (m+1) f ^^ f (m+1))=(f q ^^ (xsum m (fun j=>if j<q then f j else f (j+1)) ^^ (if m<q then f m else f (m+1))))
   rw [xsum_ins (m:=m) (q:=q) (by omega),if_neg (by omega),Bool.xor_assoc]
theorem qEe {q m:Nat} (h:q<=m) (z:Nat) (b:Bool) (y:Nat):dot (m+1) z (qC1 q b y)=((z.testBit q && b) ^^ dot m (delB q z) y):=by
 unfold dot
 rw [xsum_ins h]
 congr 1
 ·rw [qA5,if_neg (Nat.lt_irrefl q),if_pos rfl]
 ·refine qBt fun j _=>?_
  rw [qA6]
  by_cases c:j<q
  ·rw [if_pos c,if_pos c,qA5,if_pos c]
  ·rw [if_neg c,if_neg c,qA5,if_neg (by omega),if_neg (by omega),Nat.add_sub_cancel]
theorem qC6 (m x y:Nat):dot m x y=dot m y x:=qBt fun j _=>Bool.and_comm _ _
theorem map_spn {S:List Nat} {q u:Nat}:Spn (S.map (delB q)) u↔∃ z,Spn S z/\delB q z=u:=by
 have z0:delB q 0=0:=Nat.eq_of_testBit_eq fun j=>by rw [qA6];simp
 constructor
 ·intro h
  induction h with
  | zero=>exact ⟨0,.zero,z0⟩
  | add hm _ ih =>
   obtain ⟨z,h1,h2⟩:=ih
   obtain ⟨s,hs,rfl⟩:=List.mem_map.mp hm
   exact ⟨s^^^z,.add hs h1,by rw [delB_xor,h2]⟩
 ·rintro ⟨z,h,rfl⟩
  induction h with
  | zero=>rw [z0];exact .zero
  | add hm _ ih =>
   rw [delB_xor]
   exact .add (List.mem_map_of_mem (f:=delB q) hm) ih
theorem tak_spn (S:List Nat) (q y:Nat):Spn ((lackF S q).map (delB q)) y↔Spn S (qC1 q false y):=by
 rw [map_spn]
 constructor
 ·rintro ⟨z,h,rfl⟩
  obtain ⟨h1,h2⟩:=(lack_spn S q z).mp h
  rw [<-h2,qB0];exact h1
 ·intro h
  refine ⟨qC1 q false y,(lack_spn S q _).mpr ⟨h,?_⟩,qBm _ _ _⟩
  rw [qA5,if_neg (Nat.lt_irrefl q),if_pos rfl]
theorem shr_spn (S:List Nat) (q y:Nat):Spn (S.map (delB q)) y↔∃ b,Spn S (qC1 q b y):=by
 rw [map_spn]
 constructor
 ·rintro ⟨z,h,rfl⟩
  exact ⟨z.testBit q,by rw [qB0];exact h⟩
 ·rintro ⟨b,h⟩
  exact ⟨_,h,qBm _ _ _⟩
def Crs (k:Nat) (S C:List Nat):Prop:=∀ y,Spn C y↔y<2^k/\∀ s,Spn S s->dot k y s=false
theorem crs_of {k:Nat} {S C:List Nat} (r:RR S) (lt:∀ s∈S,s<2^k) (h:∀ y,Spn C y↔Spn (crAll S k) y):Crs k S C:=fun y=>by
 rw [h,cr_spn r lt]
 exact ⟨fun ⟨a,b⟩=>⟨a,fun s hs=>spn_dot b hs⟩,fun ⟨a,b⟩=>⟨a,fun s hs=>b s (.mem hs)⟩⟩
theorem cross_tak {m q:Nat} (hq:q<=m) {S C T C1:List Nat} (hC:Crs (m+1) S C) (lt:∀ s∈S,s<2^(m+1)) (hT:∀ y,Spn T y↔Spn S (qC1 q false y)) (hC1:Crs m T C1) (y:Nat):Spn C1 y↔∃ b,Spn C (qC1 q b y):=by
 rw [hC1]
 constructor
 ·rintro ⟨yl,ho⟩
  by_cases c:∃ s,Spn S s/\s.testBit q=true
  ·obtain ⟨s0,h0,b0⟩:=c
   refine ⟨dot m (delB q s0) y,(hC _).mpr ⟨insB_lt _ hq yl,fun s hs=>?_⟩⟩
   rw [qC6,qEe hq]
   cases bs:s.testBit q with
   | false =>
    have:=ho (delB q s) ((hT _).mpr (by rw [<-bs,qB0];exact hs))
    rw [qC6] at this
    rw [this];rfl
   | true =>
    have:=ho (delB q (s^^^s0)) ((hT _).mpr (by
     have e:(s^^^s0).testBit q=false:=by rw [Nat.testBit_xor,bs,b0];rfl
     rw [<-e,qB0];exact hs.xor h0))
    rw [qC6,delB_xor,qE0] at this
    rw [Bool.true_and,Bool.xor_comm]
    exact this
  ·refine ⟨false,(hC _).mpr ⟨insB_lt _ hq yl,fun s hs=>?_⟩⟩
   have bs:s.testBit q=false:=by
    cases e:s.testBit q with
    | false=>rfl
    | true=>exact absurd ⟨s,hs,e⟩ c
   rw [qC6,qEe hq,bs]
   have:=ho (delB q s) ((hT _).mpr (by rw [<-bs,qB0];exact hs))
   rw [qC6] at this
   rw [this];rfl
 ·rintro ⟨b,h⟩
  obtain ⟨hl,ho⟩:=(hC _).mp h
  have yl:y<2^m:=by
   have:=qE1 (q:=q) hl
   rw [qBm] at this
   exact this.resolve_right (by omega)
  refine ⟨yl,fun t ht=>?_⟩
  have:=ho _ ((hT t).mp ht)
  rw [qC6,qEe hq,qA5,if_neg (Nat.lt_irrefl q),if_pos rfl,qBm,Bool.false_and,Bool.false_xor,qC6] at this
  exact this
theorem cross_shr {m q:Nat} (hq:q<=m) {S C T C2:List Nat} (hC:Crs (m+1) S C) (hT:∀ y,Spn T y↔∃ b,Spn S (qC1 q b y)) (hC2:Crs m T C2) (y:Nat):Spn C2 y↔Spn C (qC1 q false y):=by
 rw [hC2,hC]
 constructor
 ·rintro ⟨yl,ho⟩
  refine ⟨insB_lt _ hq yl,fun s hs=>?_⟩
  have:=ho (delB q s) ((hT _).mpr ⟨s.testBit q,by rw [qB0];exact hs⟩)
  rw [qC6,qEe hq,Bool.and_false,Bool.false_xor,qC6]
  exact this
 ·rintro ⟨hl,ho⟩
  have yl:y<2^m:=by
   have:=qE1 (q:=q) hl
   rw [qBm] at this
   exact this.resolve_right (by omega)
  refine ⟨yl,fun t ht=>?_⟩
  obtain ⟨b,hb⟩:=(hT t).mp ht
  have:=ho _ hb
  rw [qC6,qEe hq,qBm,Bool.and_false,Bool.false_xor,qC6] at this
  exact this
open Classical in
theorem dim_tak {q:Nat} {S T:List Nat} (rS:RR S) (rT:RR T) (hT:∀ y,Spn T y↔Spn S (qC1 q false y)):T.length+(if ∃ z,Spn S z/\z.testBit q=true then 1 else 0)=S.length:=by
 have rn:=rank_null rS (2^q)
 have tb:∀ z:Nat,z&&&2^q=if z.testBit q=true then 2^q else 0:=fun z=>Nat.eq_of_testBit_eq fun j=>by
  rw [Nat.testBit_and,Nat.testBit_two_pow]
  by_cases e:q=j
  ·subst e
   cases z.testBit q <;> simp
  ·cases z.testBit q <;> simp [e]
 have l1:=rr_one (qC4 (S.map fun z=>z&&&2^q)) (c:=2^q) (Nat.ne_of_gt (Nat.two_pow_pos q)) fun y hy=>by
  obtain ⟨z,_,rfl⟩:=qF1.mp ((qCa _ y).mp hy)
  rw [tb]
  split
  ·exact .inr rfl
  ·exact .inl rfl
 have e1:Spn (red (S.map fun z=>z&&&2^q)) (2^q)↔∃ z,Spn S z/\z.testBit q=true:=by
  rw [qCa,qF1]
  constructor
  ·rintro ⟨z,h1,h2⟩
   refine ⟨z,h1,?_⟩
   rw [tb] at h2
   split at h2
   ·assumption
   ·exact absurd h2.symm (Nat.ne_of_gt (Nat.two_pow_pos q))
  ·rintro ⟨z,h1,h2⟩
   exact ⟨z,h1,by rw [tb,if_pos h2]⟩
 have l2:T.length=(red ((sumF S).filter fun z=>decide (z&&&2^q=0))).length:=by
  refine rr_bij rT (qC4 _) (f:=qC1 q false) (fun y y' _ _ e=>?_) (fun y hy=>?_) fun z hz=>?_
  ·have:=congrArg (delB q) e
   rw [qBm,qBm] at this
   exact this
  ·rw [qCa,qFx]
   refine ⟨(hT y).mp hy,?_⟩
   rw [tb,qA5,if_neg (Nat.lt_irrefl q),if_pos rfl,if_neg (by decide)]
  ·obtain ⟨h1,h2⟩:=qFx.mp ((qCa _ z).mp hz)
   have bz:z.testBit q=false:=by
    rw [tb] at h2
    split at h2
    ·exact absurd h2 (Nat.ne_of_gt (Nat.two_pow_pos q))
    ·rename_i c;simpa using c
   refine ⟨delB q z,(hT _).mpr ?_,?_⟩
   ·rw [<-bz,qB0];exact h1
   ·rw [<-bz,qB0]
 rw [l1,<-l2] at rn
 by_cases c:∃ z,Spn S z/\z.testBit q=true
 ·rw [if_pos (e1.mpr c)] at rn;rw [if_pos c];omega
 ·rw [if_neg (fun z=>c (e1.mp z))] at rn;rw [if_neg c];omega
open Classical in
theorem dim_shr {m q:Nat} (hq:q<=m) {S T:List Nat} (rS:RR S) (lt:∀ s∈S,s<2^(m+1)) (rT:RR T) (hT:∀ y,Spn T y↔∃ b,Spn S (qC1 q b y)):T.length+(if Spn S (2^q) then 1 else 0)=S.length:=by
 have rn:=rank_null rS ((2^(m+1) - 1)^^^2^q)
 have tb:∀ z:Nat,z<2^(m+1)->z&&&((2^(m+1) - 1)^^^2^q)=qC1 q false (delB q z):=fun z hz=>Nat.eq_of_testBit_eq fun j=>by
  rw [Nat.testBit_and,Nat.testBit_xor,Nat.testBit_two_pow_sub_one,Nat.testBit_two_pow,qA5,qA6,qA6]
  by_cases c:j<q
  ·rw [if_pos c,if_pos c,decide_eq_true (by omega),decide_eq_false (by omega)];simp
  ·rw [if_neg c]
   by_cases e:j=q
   ·rw [if_pos e,decide_eq_true (by omega),decide_eq_true e.symm];simp
   ·rw [if_neg e,if_neg (by omega),decide_eq_false (Ne.symm e),show j - 1+1=j by omega]
    by_cases l:j<m+1
    ·rw [decide_eq_true l];simp
    ·rw [qEr hz (by omega)];simp
 have two:∀ z:Nat,qC1 q false (delB q z)=0->z=0\/z=2^q:=fun z e=>by
  have d0:delB q z=0:=by
   have:=congrArg (delB q) e
   rw [qBm] at this
   rw [this]
   exact Nat.eq_of_testBit_eq fun j=>by rw [qA6];simp
  rw [<-qB0 q z,d0]
  cases z.testBit q with
  | false=>exact .inl (Nat.eq_of_testBit_eq fun j=>by rw [qA5];split <;> (try split) <;> simp)
  | true =>
   refine .inr (Nat.eq_of_testBit_eq fun j=>?_)
   rw [qA5,Nat.testBit_two_pow]
   by_cases c:j<q
   ·rw [if_pos c,decide_eq_false (by omega)];simp
   ·rw [if_neg c]
    by_cases e:j=q
    ·rw [if_pos e,decide_eq_true e.symm]
    ·rw [if_neg e,decide_eq_false (Ne.symm e)];simp
 have p2:qC1 q false (delB q (2^q))=0:=Nat.eq_of_testBit_eq fun j=>by
  rw [qA5,qA6,qA6,Nat.testBit_two_pow,Nat.testBit_two_pow]
  by_cases c:j<q
  ·rw [if_pos c,if_pos c,decide_eq_false (by omega)];simp
  ·rw [if_neg c]
   by_cases e:j=q
   ·rw [if_pos e];simp
   ·rw [if_neg e,if_neg (by omega),Nat.testBit_two_pow,decide_eq_false (by omega)];simp
 have q2:2^q<2^(m+1):=Nat.pow_lt_pow_right (by decide) (by omega)
 have l1:=rr_one (qC4 ((sumF S).filter fun z=>decide (z&&&((2^(m+1) - 1)^^^2^q)=0))) (c:=2^q) (Nat.ne_of_gt (Nat.two_pow_pos q)) fun y hy=>by
  obtain ⟨h1,h2⟩:=qFx.mp ((qCa _ y).mp hy)
  rw [tb y (Spn.lt lt h1)] at h2
  exact two y h2
 have e1:Spn (red ((sumF S).filter fun z=>decide (z&&&((2^(m+1) - 1)^^^2^q)=0))) (2^q)↔Spn S (2^q):=by
  rw [qCa,qFx]
  exact ⟨fun h=>h.1,fun h=>⟨h,by rw [tb _ q2,p2]⟩⟩
 have l2:T.length=(red (S.map fun z=>z&&&((2^(m+1) - 1)^^^2^q))).length:=by
  refine rr_bij rT (qC4 _) (f:=qC1 q false) (fun y y' _ _ e=>?_) (fun y hy=>?_) fun z hz=>?_
  ·have:=congrArg (delB q) e
   rw [qBm,qBm] at this
   exact this
  ·rw [qCa,qF1]
   obtain ⟨b,hb⟩:=(hT y).mp hy
   exact ⟨_,hb,by rw [tb _ (Spn.lt lt hb),qBm]⟩
  ·obtain ⟨u,h1,h2⟩:=qF1.mp ((qCa _ z).mp hz)
   refine ⟨delB q u,(hT _).mpr ⟨u.testBit q,by rw [qB0];exact h1⟩,?_⟩
   rw [<-h2,tb u (Spn.lt lt h1)]
 rw [l1,<-l2] at rn
 by_cases c:Spn S (2^q)
 ·rw [if_pos (e1.mpr c)] at rn;rw [if_pos c];omega
 ·rw [if_neg (fun z=>c (e1.mp z))] at rn;rw [if_neg c];omega
end My
namespace L2
open PySem PySem.Spec PyProof.Rows PySem.SeqAt
def rInD (K:PySem.W.Frag):R2:=fun x y H Q=>∃ ds d,DR K H y (.list ds)/\DR K H x d/\shaped (.list ds)=true/\shaped d=true/\Q (.bl (ds.any fun z=>PyData.eqv z d)) H
theorem op_inD {X:Cx} (hu:X.A.units+65<cLine):OpR X (compareOp .In) (rInD X.K):=by
 intro pins s σ H x y v u Q I rx ry h
 obtain ⟨ds,d,hy,hx,sy,sx,q⟩:=h
 obtain ⟨a1,r1⟩:=DR.reads I hx rx
 obtain ⟨a2,r2⟩:=DR.reads I hy ry
 exact in_list_reads r2 r1 (canLay_of_shaped sy) (canLay_of_shaped sx) (room_in_shaped sx hu) ⟨.bl _,H,I,rfl,q⟩
def rNotInD (K:PySem.W.Frag):R2:=fun x y H Q=>∃ ds d,DR K H y (.list ds)/\DR K H x d/\shaped (.list ds)=true/\shaped d=true/\Q (.bl (!ds.any fun z=>PyData.eqv z d)) H
theorem op_notInD {X:Cx} (hu:X.A.units+65<cLine):OpR X (compareOp .NotIn) (rNotInD X.K):=by
 intro pins s σ H x y v u Q I rx ry h
 obtain ⟨ds,d,hy,hx,sy,sx,q⟩:=h
 obtain ⟨a1,r1⟩:=DR.reads I hx rx
 obtain ⟨a2,r2⟩:=DR.reads I hy ry
 exact notIn_list_reads r2 r1 (canLay_of_shaped sy) (canLay_of_shaped sx) (room_in_shaped sx hu) ⟨.bl _,H,I,rfl,q⟩
end L2
namespace My
open PySem L2
def spSums:Sp:=fun vs H Q _=>∃ (p:Addr) (N:List Nat),vs=[.ref p]/\LsN H p N/\N.length<=12/\∀ r H',Ext H H'->H r=none->LsN H' r (sumF N)->Q (.ref r) H'
def lpI:Pos:=match (qAp qEm).getD 0 (.Pass ⟨0,0,0,0⟩) with
 | .Return (some (.Call _ _ [⟨_,.Lambda _ _ _ p,_⟩] _)) _=>p
 | _=>⟨0,0,0,0⟩
abbrev qI:Str:=("in_order" : Str)++".<locals>."++"<lambda>"
theorem Ext.toB {P:Addr} {H H':Hp} (e:Ext H H'):ExtB P H H':=fun b o _ h=>e b o h
theorem _root_.L2.ExtB.trans {P:Addr} {H H1 H2:Hp} (a:ExtB P H H1) (b:ExtB P H1 H2):ExtB P H H2:=fun c o n h=>b c o n (a c o n h)
theorem TabW.extE {H H':Hp} {P:Addr} {lpos:Pos} {q:Str} (h:TabW H P lpos q) (e:Ext H H'):TabW H' P lpos q:=h.ext e
theorem TabW.tb {H:Hp} {P:Addr} {lpos:Pos} {q:Str} (h:TabW H P lpos q):∃ ps,H P=some (.tbl ps):=by
 rcases h with h | ⟨c,h,_⟩
 ·exact ⟨_,h⟩
 ·exact ⟨_,h⟩
def spInOrd (Pt:Addr):Sp:=fun vs H Q _=>∃ (p:Addr) (F:List (List Str)),vs=[.ref p]/\qCo H p F/\F.length<=5000/\TabW H Pt lpI qI/\∀ (r:Addr) (F':List (List Str)) (H':Hp),ExtB Pt H H'->H r=none->qCo H' r F'->F'.Perm F->RwO F'->TabW H' Pt lpI qI->Q (.ref r) H'
theorem nat_ints {ns:List Int} {ms:List Nat} (p:ns.Perm (ms.map fun n:Nat=>(n:Int))):∃ hs:List Nat,ns=hs.map (fun n:Nat=>(n:Int))/\hs.Perm ms:=by
 refine ⟨ns.map Int.toNat,?_,?_⟩
 ·rw [List.map_map]
  refine (List.map_id' ns).symm.trans (List.map_congr_left fun x hx=>?_)
  obtain ⟨n,_,rfl⟩:=List.mem_map.mp (p.mem_iff.mp hx)
  rfl
 ·have:=p.map Int.toNat
  rw [List.map_map] at this
  refine this.trans (List.Perm.of_eq ?_)
  exact (List.map_congr_left fun x _=>(Int.toNat_natCast x)).trans (List.map_id' ms)
theorem Ext.over' {H H':Hp} {p:Addr} {o:HO} (e:Ext (upd H p o) H') (h:H p=Option.none):Ext H H':=fun b u q=>e b u (by rw [qAm (qAl q h)];exact q)
def spRMas:Sp:=fun vs H Q _=>∃ (p:Addr) (ms:List Nat),vs=[.ref p]/\LsN H p ms/\ms.length<=12/\∀ (r:Addr) (L:List Nat) (H':Hp),Ext H H'->H r=none->L.Perm (sumF ms)->L.Pairwise (·<=·)->LsN H' r (rmF L)->Q (.ref r) H'
def spRounds (Pt:Addr):Sp:=fun vs H Q _=>∃ (T:Addr) (names:List Str) (rows:List (List Str)),vs=[.ref T]/\qCv H T names rows/\names.length<=12/\rows.length<=24/\TabW H Pt lpI qI/\∀ (r:Addr) (M L:List Nat) (F:List (List Str)) (H':Hp),ExtB Pt H H'->H r=none->qCo H' r F->M.Perm (red (rows.map (qA2 names)))->L.Perm (sumF M)->L.Pairwise (·<=·)->F.Perm ((rmF L).map (qBw names))->RwO F->TabW H' Pt lpI qI->Q (.ref r) H'
def spWalls (Pt:Addr):Sp:=fun vs H Q _=>∃ (T:Addr) (names:List Str) (rows:List (List Str)),vs=[.ref T]/\qCv H T names rows/\names.length<=12/\rows.length<=24/\TabW H Pt lpI qI/\∀ (r:Addr) (S C M L:List Nat) (F:List (List Str)) (H':Hp),ExtB Pt H H'->H r=none->qCo H' r F->S.Perm (red (rows.map (qA2 names)))->C.Perm (red (crAll S names.length))->M.Perm (red ((C.map (qBw names)).map (qA2 names)))->L.Perm (sumF M)->L.Pairwise (·<=·)->F.Perm ((rmF L).map (qBw names))->RwO F->TabW H' Pt lpI qI->Q (.ref r) H'
def rLenS (K:PySem.W.Frag):List V->Hp->VK->Prop:=fun xs H Q=>∃ p ys,xs=[.ref p]/\(SqL K H p ys\/SqT K H p ys)/\Q (.int ys.length) H
theorem lam_te (K:PySem.W.Frag) (a:Addr) (t:List Str) (H:Hp) (Q:VK) (hs:SqL K H a (t.map V.str)) (q:∀ k,H k=none->Q (.ref k) (upd H k (.tup [.int t.length,.ref a]))):(tTup (qF7 (tCB (rLenS K) (qF7 (tVar 0) tNil)) (qF7 (tVar 0) tNil))) [some (.ref a)] H Q:=by
 refine ⟨_,rfl,a,_,rfl,.inl hs,_,rfl,(by show 2<=sizeLine;decide),fun k hk=>?_⟩
 rw [List.length_map]
 exact q k hk
theorem qGq {α β:Type} {R:α->β->Prop}:∀ {l:List (α×β)},(∀ x∈l,R x.1 x.2)->Paired R (l.map Prod.fst) (l.map Prod.snd)
 | [],_=>.nil
 | x :: l,h=>.cons (h x List.mem_cons_self) (qGq fun y hy=>h y (List.mem_cons_of_mem _ hy))
theorem rr_len {M:List Nat} {m:Nat} (h:RR M) (lt:∀ x∈M,x<2^m):M.length<=m:=by
 have:=len_lt (ld_nd h) (m:=m) fun x hx=>by
  obtain ⟨s,hs,rfl⟩:=List.mem_map.mp hx
  exact (Nat.log2_lt (h.nz s hs)).mpr (lt s hs)
 rw [List.length_map] at this
 exact this
theorem qCz {names:List Str} (rows:List (List Str)):∀ x∈rows.map (qA2 names),x<2^names.length:=fun x hx=>by
 obtain ⟨r,_,rfl⟩:=List.mem_map.mp hx
 exact maskF_lt names r
theorem step_rr {names:List Str} {rows:List (List Str)} {M:List Nat} (p:M.Perm (red (rows.map (qA2 names)))):RR M/\(∀ x∈M,x<2^names.length)/\M.length<=names.length:=by
 have rr:RR M:=(qC4 _).perm p
 have lt:∀ x∈M,x<2^names.length:=fun x hx=>red_lt (qCz rows) x (p.mem_iff.mp hx)
 exact ⟨rr,lt,rr_len rr lt⟩
def spStps:Sp:=fun vs H Q _=>∃ (T:Addr) (names:List Str) (rows:List (List Str)),vs=[.ref T]/\qCv H T names rows/\names.length<=12/\rows.length<=24/\∀ (r:Addr) (M:List Nat) (H':Hp),Ext H H'->H r=none->RowsY H H' r (M.map (qBw names))->M.Perm (red (rows.map (qA2 names)))->M.Pairwise (fun a b=>b<=a)->Q (.ref r) H'
def spAlk:Sp:=fun vs H Q _=>∃ (T1 T2:Addr) (n1 n2:List Str) (r1 r2:List (List Str)),vs=[.ref T1,.ref T2]/\qCv H T1 n1 r1/\qCv H T2 n2 r2/\n1.length<=12/\n2.length<=12/\r1.length<=24/\r2.length<=24/\SOk n1/\SOk n2 /\
 ∀ (b:Bool) (H':Hp),Ext H H'->(n1≠n2->b=false)->(n1=n2->∃ M1 M2:List Nat,M1.Perm (red (r1.map (qA2 n1)))/\M1.Pairwise (fun a b=>b<=a)/\M2.Perm (red (r2.map (qA2 n2)))/\M2.Pairwise (fun a b=>b<=a)/\b=decide (M1.map (qBw n1)=M2.map (qBw n2)))->Q (.bl b) H'
theorem room65 {k:Nat} {A:Around} (hr:Room k A):A.units+65<cLine:=by have:=hr.un;omega
theorem any_rows (F:List (List Str)) (r:List Str):((F.map qEn).any fun z=>PyData.eqv z (qEn r))=decide (r∈F):=by
 rw [List.any_map,Bool.eq_iff_iff,List.any_eq_true,decide_eq_true_iff]
 constructor
 ·rintro ⟨x,hx,e⟩
  have e':PyData.eqv (qEn x) (qEn r)=true:=e
  rw [eqv_row] at e'
  rw [<-of_decide_eq_true e'];exact hx
 ·intro h
  exact ⟨r,h,by show PyData.eqv (qEn r) (qEn r)=true;rw [eqv_row];exact decide_eq_true rfl⟩
theorem sok_rowM {names:List Str} (h:SOk names) (x:Nat):SOk (qBw names x):=fun n hn=>by
 obtain ⟨i,_,hi⟩:=List.mem_filterMap.mp hn
 split at hi
 ·exact h n (List.mem_of_getElem? hi)
 ·cases hi
section
variable {P:Program} {w:World} {K:PySem.W.Frag} {mg:Str->Option Value} {base:Heap} {f f1 f2 f3 f4 c Pt:Addr} {fd fd1 fd2 fd3 fd4:FuncData}
abbrev suN:List Str:=["masks","told","mask"]
theorem scSums:FnScope suN ["masks"] (qAc sSums):=⟨rfl,rfl,rfl,by decide +kernel,rfl,by decide +kernel,by decide +kernel⟩
theorem ok_sums (F:Fun K "sums" "sums" sSums f fd):FnOk P w K mg base CX0 1 f fd ["masks"] spSums:=by
 refine F.ok scSums (fun vs H Q E h=>?_) (fun cdv A outer s H vs Q E hr h=>?_)
 ·obtain ⟨p,N,rfl,_⟩:=h
  rfl
 obtain ⟨p,N,rfl,hN,lN,q⟩:=h
 refine ⟨_,qAb (qAj (i:=1) scSums.nd rfl (Or.inl rfl) (qBa (qAa qAe qAd))) (qAb (qBi PassesOwn.never rfl (qAr (pv 0)) (qAi (i:=2) scSums.nd rfl (Or.inr rfl)) (qAf (qAj (i:=1) scSums.nd rfl (Or.inl rfl) (qAh qDm (pv 1) (qBx (N:=suN) (sc:=qAc sSums) (N':=["one","mask"]) (sub:=[none,some 2]) rfl rfl (CmpOk.of (by decide +kernel)) rfl (qAr (pv 1)) (fun C s H fp=>⟨qAi (i:=0) (by show (["one","mask"]:List Str).Nodup;decide) rfl (Or.inl rfl),qBb,(qAh qDj (pv 0) (pv 1))⟩)))))) (qAf (qAw (pv 1)))),?_⟩
 refine ⟨(by show 1<=sizeLine;decide),fun s0 hs0=>?_⟩
 have X3:=Ext.new hs0 (.lst [V.int 0])
 refine ⟨_,rfl,p,rfl,⟨_,SqL.of (X3 _ _ hN)⟩,?_⟩
 refine qBs (xs:=N.map iV) (fun i σ H'=>∃ (ps:Addr) (x2:Option V),σ=[some (.ref p),some (.ref ps),x2]/\Ext H H'/\H ps=none/\LsN H' ps (sumF (N.take i))) ⟨s0,none,rfl,X3,hs0,upd_same⟩ (fun i σ H' _ h=>by obtain ⟨_,_,_,e,_⟩:=h;exact SqL.of (e _ _ hN)) ?_ ?_
 ·rintro i v σ H' hx ⟨ps,x2,rfl,e,ps0,hps⟩
  obtain ⟨y,rfl,hy⟩:=qBz hx
  have hi:=qA7 hy
  have lS:(sumF (N.take i)).length<=2048:=by
   rw [qCn,List.length_take]
   exact Nat.le_trans (Nat.pow_le_pow_right (by decide) (show min i N.length<=11 by omega)) (by decide)
  refine ⟨_,rfl,_,rfl,ps,rfl,⟨_,SqL.of hps⟩,?_⟩
  refine qAu (xs:=(sumF (N.take i)).map iV) (fun j ys H2=>H2=H'/\ys=(((sumF (N.take i)).take j).map fun z=>z^^^y).map iV) ⟨rfl,rfl⟩ (fun j ys H2 _ h=>by rw [h.1];exact SqL.of hps) ?_ ?_
  ·rintro j v ys H3 hx3 ⟨rfl,rfl⟩
   obtain ⟨z,rfl,hz⟩:=qBz hx3
   have hj:=qA7 hz
   refine ⟨Sle.set _ (Sle.refl _) (fun u z=>by cases z),iteT (B:=False) ⟨_,rfl,_,rfl,_,_,rfl,rfl,?_⟩⟩
   refine ⟨by rw [List.length_map,List.length_map,List.length_take];exact qBo (by omega),nxt (qA7 hx3) ⟨rfl,?_⟩⟩
   rw [qAn hz,List.map_append,List.map_append]
   show _++[V.int (Builtin.bitXor (z:Int) (y:Int))]=_
   rw [qCh];rfl
  ·rintro ys H3 ⟨rfl,rfl⟩ l hl
   rw [List.length_map,List.take_of_length_le (Nat.le_refl _)]
   have Xl:=Ext.new hl (.lst (((sumF (N.take i)).map fun z=>z^^^y).map iV))
   refine ⟨ps,l,_,_,rfl,rfl,Xl _ _ hps,upd_same,by rw [List.length_map,List.length_map,List.length_map];exact Nat.le_of_lt (qBo (by omega)),fun l3 hl3=>?_⟩
   have X4:=Ext.new hl3 (.lst ((sumF (N.take i)).map iV++((sumF (N.take i)).map fun z=>z^^^y).map iV))
   refine ⟨l3,_,rfl,(e.trans Xl).trans X4,(e.trans Xl).none hl3,?_⟩
   unfold LsN
   rw [upd_same,qAn hy,qDv,List.map_append]
 rintro σ H3 ⟨ps,x2,rfl,e3,ps0,hps⟩
 rw [List.length_map,List.take_of_length_le (Nat.le_refl _)] at hps
 exact ⟨_,rfl,q ps H3 e3 ps0 hps⟩
theorem scInOrd:FnScope ["rows"] ["rows"] (qAc qEm):=⟨rfl,rfl,rfl,by decide +kernel,rfl,by decide +kernel,by decide +kernel⟩
theorem ok_inOrd (F:Fun K "in_order" "in_order" qEm f fd) (hcode:fd.code = .ref c) (hC:PySem.W.CodeHd base c Pt) (hB:base.BuiltinsAt mg Pt) (ml:mg "len" = none) (mso:mg "sorted" = none):FnOk P w K mg base CX0 3 f fd ["rows"] (spInOrd Pt):=by
 refine F.okC scInOrd (fun vs H Q E h=>?_) (fun A outer s H vs Q E hr2 h=>?_)
 ·obtain ⟨p,F,rfl,_⟩:=h
  rfl
 obtain ⟨p,F,rfl,⟨as,hp,pr⟩,lF,tw,q⟩:=h
 have L:LamAt ((cxOf CX0 P w K mg base ["rows"] "in_order" (qAc qEm) f fd.code A outer s H E).nox) c Pt:=⟨hcode,hC,hB⟩
 refine ⟨_,qAf (qAw (pe_sortLamT (k:=0) (x:="row") (te:=(tTup (qF7 (tCB (rLenS K) (qF7 (tVar 0) tNil)) (qF7 (tVar 0) tNil)))) L hr2 rfl mso (qAa (pv 0) qAd) ⟨rfl,rfl,rfl,by decide +kernel,rfl,by decide +kernel,by decide +kernel⟩ rfl rfl (fun _ _ _ _ _ _=>rfl) (fun _ _ _ _ _ _=>(show PE _ _ (tTup (qF7 (tCB (rLenS K) (qF7 (tVar 0) tNil)) (qF7 (tVar 0) tNil))) from (qCm (qAa (qAs (show qCw _ (.builtin "len") (rLenS K) from qAv) rfl ml PySem.boot_len (qAa (pv 0) qAd)) (qAa (pv 0) qAd))))) (lam_te K))),?_⟩
 have la:as.length=F.length:=pr.length
 have e1:(as.zip F).map (fun p=>V.ref p.1)=as.map V.ref:=by
  have:(as.zip F).map Prod.fst=as:=List.map_fst_zip (by omega)
  rw [show (fun p:Addr×List Str=>V.ref p.1)=V.ref∘Prod.fst from rfl,<-List.map_map,this]
 obtain ⟨tb,hP⟩:=My.TabW.tb tw
 refine ⟨_,rfl,p,as.zip F,rfl,SqL.of (by rw [e1];exact hp),fun x hx=>SqL.of (qDh pr x hx),by rw [List.length_zip];omega,tw,fun r ps' H2 r0 eB hr' pm so tw2=>?_⟩
 have mem:∀ x∈ps',LsS H2 x.1 x.2:=fun x hx=>by
  have h1:LsS H x.1 x.2:=qDh pr x (pm.mem_iff.mp hx)
  exact eB _ _ (fun z=>by rw [z] at h1;unfold LsS at h1;rw [hP] at h1;cases h1) h1
 refine q r (ps'.map Prod.snd) H2 eB r0 ⟨ps'.map Prod.fst,by rw [List.map_map];exact hr',qGq mem⟩ ?_ (List.pairwise_map.mpr so) tw2
 have:=pm.map Prod.snd
 rw [List.map_snd_zip (by omega)] at this
 exact this
abbrev rmN:List Str:=["steps","told","mask"]
theorem scRMas:FnScope rmN ["steps"] (qAc sRMas):=⟨rfl,rfl,rfl,by decide +kernel,rfl,by decide +kernel,by decide +kernel⟩
theorem ok_rmas (F:Fun K "round_masks" "round_masks" sRMas f fd)
  (G1:FnOk P w K mg base CX0 1 f1 fd1 ["masks"] spSums) (bG1:qA1 K fd1 ["masks"] []) (kG1:PySem.W.keepIn K (.ref f1)=true) (mG1:mg "sums" = some (.ref f1))
  (mso:mg "sorted" = none) (man:mg "any" = none):FnOk P w K mg base CX0 2 f fd ["steps"] spRMas:=by
 refine F.ok scRMas (fun vs H Q E h=>?_) (fun cdv A outer s H vs Q E hr1 h=>?_)
 ·obtain ⟨p,ms,rfl,_⟩:=h
  rfl
 obtain ⟨p,ms,rfl,hm,lm,q⟩:=h
 refine ⟨_,qAb (qAj (i:=1) scRMas.nd rfl (Or.inl rfl) (qBa qAd)) (qAb (qBi PassesOwn.never rfl (qAr (qAs call_sortedN rfl mso qB8 (qAa (qAg G1 hr1 rfl mG1 kG1 bG1 .nil qAt (qAa (pv 0) qAd)) qAd))) (qAi (i:=2) scRMas.nd rfl (Or.inr rfl)) (qAf (qB6 (PW.pt (pw_and (qAo qFr (pv 2) qAe (qAx _)) (qFo (pt_not (pt_val (qAs (call_anyB rfl) rfl man boot_any' (qAa (qBx (N:=rmN) (sc:=qAc sRMas) (N':=["one","mask"]) (sub:=[none,some 2]) rfl rfl (CmpOk.of (by decide +kernel)) rfl (qAr (pv 1)) (fun C s H fp=>⟨qAi (i:=0) (by show (["one","mask"]:List Str).Nodup;decide) rfl (Or.inl rfl),qBb,(qFp qDt (qAh qBy (pv 0) (pv 1)) (pv 0) (qAx _))⟩)) qAd))))))) (qAf (qCl (qD9 PySem.F.plainAttrs_list PySem.F.slot_list_append PySem.F.type_list_append qBp (pv 1) (qAa (pv 2) qAd)))) qA8))) (qAf (qAw (pv 1)))),?_⟩
 refine ⟨Nat.zero_le _,fun tl htl=>?_⟩
 have X0:=Ext.new htl (.lst [])
 refine ⟨_,rfl,p,ms,rfl,X0 _ _ hm,lm,fun sp H1 e1 _ hs1=>?_⟩
 have lS:(sumF ms).length<=4096:=by
  rw [qCn]
  exact Nat.le_trans (Nat.pow_le_pow_right (by decide) lm) (by decide)
 refine ⟨sp,(sumF ms).map (fun n:Nat=>(n:Int)),rfl,SqL.of (by rw [<-qC0];exact hs1),by rw [List.length_map];omega,fun rl ns' hrl pm so=>?_⟩
 obtain ⟨L,rfl,pL⟩:=nat_ints pm
 have so':L.Pairwise (·<=·):=(List.pairwise_map.mp so).imp fun {a b} z=>Int.ofNat_le.mp z
 have lL:L.length<=4096:=by rw [pL.length_eq];exact lS
 have X2:=Ext.new hrl (.lst ((L.map fun n:Nat=>(n:Int)).map V.int))
 have hr2:LsN (upd H1 rl (.lst ((L.map fun n:Nat=>(n:Int)).map V.int))) rl L:=by unfold LsN;rw [upd_same,qC0]
 have ht2:LsN (upd H1 rl (.lst ((L.map fun n:Nat=>(n:Int)).map V.int))) tl []:=X2 _ _ (e1 _ _ upd_same)
 have E2:=(e1.trans X2).over' htl
 revert hr2 ht2 E2
 generalize upd H1 rl (.lst ((L.map fun n:Nat=>(n:Int)).map V.int))=H2
 intro hr2 ht2 E2
 have tr:tl≠rl:=fun z=>by
  have h1:=e1 _ _ (show upd H tl (.lst []) tl=some (.lst []) from upd_same)
  rw [z,hrl] at h1;cases h1
 refine ⟨rl,rfl,⟨_,SqL.of hr2⟩,?_⟩
 refine qBs (xs:=L.map iV) (fun i σ H'=>∃ x2:Option V,σ=[some (.ref p),some (.ref tl),x2]/\Ext H H'/\LsN H' rl L/\LsN H' tl (rmF (L.take i))) ⟨none,rfl,E2,hr2,ht2⟩ (fun i σ H' _ h=>by obtain ⟨_,_,_,h,_⟩:=h;exact SqL.of h) ?_ ?_
 ·rintro i v σ H' hx ⟨x2,rfl,e,hr',ht'⟩
  obtain ⟨m,rfl,hmi⟩:=qBz hx
  have hi:=qA7 hmi
  have sz:(rmF (L.take i)).length<=4096:=by
   have:=rmF_len (L.take i)
   rw [List.length_take] at this
   omega
  rw [qAn hmi,qEx]
  have nz:(!decide (V.int (m:Int)=V.int 0))=!decide (m=0):=by
   congr 1
   exact decide_eq_decide.mpr ⟨fun h=>by have:=V.int.inj h;omega,fun h=>by rw [h];rfl⟩
  refine ⟨_,rfl,rfl,_,rfl,?_⟩
  rw [nz]
  cases m0:decide (m=0) with
  | true =>
   have:rmS (rmF (L.take i)) m=rmF (L.take i):=by
    unfold rmS rmOk
    rw [m0];rfl
   rw [this]
   rw [if_neg (by decide)]
   exact iteF ⟨_,rfl,e,hr',ht'⟩
  | false =>
   rw [if_pos (by decide)]
   refine ⟨_,rfl,tl,rfl,⟨_,SqL.of ht'⟩,?_⟩
   refine qAu (xs:=(rmF (L.take i)).map iV) (fun j ys H3=>H3=H'/\ys=(((rmF (L.take i)).take j).map fun o=>decide (o&&&m=o)).map V.bl) ⟨rfl,rfl⟩ (fun j ys H3 _ h=>by rw [h.1];exact SqL.of ht') ?_ ?_
   ·rintro j v ys H3 hx3 ⟨rfl,rfl⟩
    obtain ⟨o,rfl,ho⟩:=qBz hx3
    have hj:=qA7 ho
    refine ⟨Sle.set _ (Sle.refl _) (fun u z=>by cases z),iteT (B:=False) ⟨_,rfl,_,rfl,_,_,rfl,rfl,_,rfl,rfl,?_⟩⟩
    refine ⟨by rw [List.length_map,List.length_map,List.length_take];exact qBo (by omega),nxt (qA7 hx3) ⟨rfl,?_⟩⟩
    rw [qAn ho,List.map_append,List.map_append]
    show _++[V.bl (decide (V.int (Builtin.bitAnd (o:Int) (m:Int))=V.int (o:Int)))]=_
    have eo:decide (V.int ((o&&&m:Nat):Int)=V.int (o:Int))=decide (o&&&m=o):=decide_eq_decide.mpr ⟨fun h=>Int.ofNat.inj (V.int.inj h),fun h=>by rw [h]⟩
    rw [qB3,eo]
    rfl
   ·rintro ys H3 ⟨rfl,rfl⟩ bl hbl
    rw [List.length_map,List.take_of_length_le (Nat.le_refl _)]
    have Xb:=Ext.new hbl (.lst (((rmF (L.take i)).map fun o=>decide (o&&&m=o)).map V.bl))
    refine ⟨bl,_,rfl,SqL.of upd_same,_,rfl,?_⟩
    have ea:((rmF (L.take i)).map fun o=>decide (o&&&m=o)).any id=(rmF (L.take i)).any fun o=>decide (o&&&m=o):=by rw [List.any_map];rfl
    rw [ea]
    have ok:rmOk (rmF (L.take i)) m=!((rmF (L.take i)).any fun o=>decide (o&&&m=o)):=by
     unfold rmOk
     rw [m0];rfl
    refine qCg (fun c=>?_) (fun c=>?_)
    ·refine ⟨_,rfl,.inl ⟨rfl,_,SqL.of (Xb _ _ ht')⟩,_,rfl,tl,_,_,rfl,rfl,Xb _ _ ht',(by rw [List.length_map];exact qBo (by omega)),?_⟩
     refine ⟨_,rfl,(e.trans Xb).over htl _,?_,?_⟩
     ·unfold LsN
      rw [qAm (Ne.symm tr)];exact Xb _ _ hr'
     ·unfold LsN rmS
      rw [upd_same,ok,if_pos c,List.map_append];rfl
    ·refine ⟨_,rfl,e.trans Xb,Xb _ _ hr',?_⟩
     unfold rmS
     rw [ok,if_neg c]
     exact Xb _ _ ht'
 rintro σ H3 ⟨x2,rfl,e3,hr3,ht3⟩
 rw [List.length_map,List.take_of_length_le (Nat.le_refl _)] at ht3
 exact ⟨_,rfl,q tl L H3 e3 htl pL so' ht3⟩
theorem scRounds:FnScope ["table"] ["table"] (qAc qDq):=⟨rfl,rfl,rfl,by decide +kernel,rfl,by decide +kernel,by decide +kernel⟩
theorem ok_rounds (F:Fun K "rounds" "rounds" qDq f fd)
  (G1:FnOk P w K mg base CX0 3 f1 fd1 ["rows"] (spInOrd Pt)) (bG1:qA1 K fd1 ["rows"] []) (kG1:PySem.W.keepIn K (.ref f1)=true) (mG1:mg "in_order" = some (.ref f1))
  (G2:FnOk P w K mg base CX0 2 f2 fd2 ["steps"] spRMas) (bG2:qA1 K fd2 ["steps"] []) (kG2:PySem.W.keepIn K (.ref f2)=true) (mG2:mg "round_masks" = some (.ref f2))
  (G3:FnOk P w K mg base CX0 3 f3 fd3 ["table"] qE9) (bG3:qA1 K fd3 ["table"] []) (kG3:PySem.W.keepIn K (.ref f3)=true) (mG3:mg "step_masks" = some (.ref f3))
  (G4:FnOk P w K mg base CX0 1 f4 fd4 ["names","mask"] qFa) (bG4:qA1 K fd4 ["names","mask"] []) (kG4:PySem.W.keepIn K (.ref f4)=true) (mG4:mg "row_of" = some (.ref f4)):FnOk P w K mg base CX0 4 f fd ["table"] (spRounds Pt):=by
 refine F.ok scRounds (fun vs H Q E h=>?_) (fun cdv A outer s H vs Q E hr3 h=>?_)
 ·obtain ⟨T,names,rows,rfl,_⟩:=h
  rfl
 obtain ⟨T,names,rows,rfl,ti,ln,lr,tw,q⟩:=h
 have hr1:=hr3.mono (j:=1) (by decide)
 have hr2:=hr3.mono (j:=2) (by decide)
 refine ⟨_,qAf (qAw (qAg G1 hr3 rfl mG1 kG1 bG1 .nil qAt (qAa (qBx (N:=["table"]) (sc:=qAc qDq) (N':=["mask","table"]) (sub:=[none,some 0]) rfl rfl (CmpOk.of (by decide +kernel)) rfl (qAr (qAg G2 hr2 rfl mG2 kG2 bG2 .nil qAt (qAa (qAg G3 hr3 rfl mG3 kG3 bG3 .nil qAt (qAa (pv 0) qAd)) qAd))) (fun C s H fp=>⟨qAi (i:=0) (by show (["mask","table"]:List Str).Nodup;decide) rfl (Or.inl rfl),qBb,(qAg G4 hr1 rfl mG4 kG4 bG4 .nil qAt (qAa (qBg (show IxR _ (rIxT K) from qBl) (pv 1) qAe (fun _ _=>rfl)) (qAa (pv 0) qAd)))⟩)) qAd))),?_⟩
 obtain ⟨na,nb,hT,hna,_⟩:=id ti
 refine ⟨_,rfl,T,names,rows,rfl,ti,lr,fun sm M H1 e1 _ hM pM dM=>?_⟩
 obtain ⟨_,_,lM⟩:=step_rr pM
 refine ⟨sm,M,rfl,hM,by omega,fun rm L H2 e2 _ pL so hL=>?_⟩
 have E2:=e1.trans e2
 have lL:(rmF L).length<=4096:=by
  refine Nat.le_trans (rmF_len L) ?_
  rw [pL.length_eq,qCn]
  exact Nat.le_trans (Nat.pow_le_pow_right (by decide) (show M.length<=12 by omega)) (by decide)
 refine ⟨rm,rfl,⟨_,SqL.of hL⟩,?_⟩
 refine qAu (xs:=(rmF L).map iV) (fun j ys H3=>Ext H2 H3/\∃ as,ys=as.map V.ref/\Paired (LsS H3) as (((rmF L).take j).map (qBw names))) ⟨Ext.refl _,[],rfl,.nil⟩ (fun j ys H3 _ h=>SqL.of (h.1 _ _ hL)) ?_ ?_
 ·rintro j v ys H3 hx ⟨e3,as,rfl,pr⟩
  obtain ⟨x,rfl,hx'⟩:=qBz hx
  have hj:=qA7 hx'
  have la:as.length=_:=pr.length
  rw [List.length_map,List.length_take] at la
  have E3:=E2.trans e3
  refine ⟨Sle.set _ (Sle.refl _) (fun u z=>by cases z),iteT (B:=False) ⟨_,rfl,T,_,_,_,rfl,rfl,SqT.of (E3 _ _ hT),(by exact qAy (j:=0) rfl),_,rfl,na,names,x,rfl,E3 _ _ hna,ln,fun r4 H4 e4 r40 h4=>⟨?_,nxt (qA7 hx) ⟨e3.trans e4,as++[r4],by rw [List.map_append];rfl,?_⟩⟩⟩⟩
  ·rw [List.length_map];exact qBo (by omega)
  ·rw [qAn hx',List.map_append]
   exact Paired.snoc (Paired.mapP pr fun a t z=>e4 _ _ z) h4
 ·rintro ys H3 ⟨e3,as,rfl,pr⟩ b hb
  rw [List.length_map,List.take_of_length_le (Nat.le_refl _)] at pr
  have Xb:=Ext.new hb (.lst (as.map V.ref))
  have E4:=(E2.trans e3).trans Xb
  refine ⟨b,(rmF L).map (qBw names),rfl,⟨as,upd_same,Paired.mapP pr fun a t z=>Xb _ _ z⟩,by rw [List.length_map];omega,My.TabW.extE tw E4,fun r F H5 eB r0 hr' pF soF tw5=>?_⟩
  exact q r M L F H5 (ExtB.trans E4.toB eB) (E4.none r0) hr' pM pL so pF soF tw5
theorem scWalls:FnScope ["table"] ["table"] (qAc qGg):=⟨rfl,rfl,rfl,by decide +kernel,rfl,by decide +kernel,by decide +kernel⟩
theorem ok_walls (F:Fun K "walls" "walls" qGg f fd)
  (G1:FnOk P w K mg base CX0 4 f1 fd1 ["table"] (spRounds Pt)) (bG1:qA1 K fd1 ["table"] []) (kG1:PySem.W.keepIn K (.ref f1)=true) (mG1:mg "rounds" = some (.ref f1))
  (G2:FnOk P w K mg base CX0 4 f2 fd2 ["table"] spCross) (bG2:qA1 K fd2 ["table"] []) (kG2:PySem.W.keepIn K (.ref f2)=true) (mG2:mg "crossed" = some (.ref f2)):FnOk P w K mg base CX0 5 f fd ["table"] (spWalls Pt):=by
 refine F.ok scWalls (fun vs H Q E h=>?_) (fun cdv A outer s H vs Q E hr4 h=>?_)
 ·obtain ⟨T,names,rows,rfl,_⟩:=h
  rfl
 obtain ⟨T,names,rows,rfl,ti,ln,lr,tw,q⟩:=h
 refine ⟨_,qAf (qAw (qAg G1 hr4 rfl mG1 kG1 bG1 .nil qAt (qAa (qAg G2 hr4 rfl mG2 kG2 bG2 .nil qAt (qAa (pv 0) qAd)) qAd))),?_⟩
 refine ⟨_,rfl,T,names,rows,rfl,ti,ln,lr,fun T2 S C H1 e1 t0 tf pS pC dC=>?_⟩
 obtain ⟨rrS,ltS,_⟩:=step_rr pS
 have lc:∀ x∈crAll S names.length,x<2^names.length:=fun x hx=>((cr_spn rrS ltS x).mp (.mem hx)).1
 have lC:C.length<=names.length:=rr_len ((qC4 _).perm pC) fun x hx=>red_lt lc x (pC.mem_iff.mp hx)
 refine ⟨T2,names,C.map (qBw names),rfl,tf.tin,ln,by rw [List.length_map];omega,My.TabW.extE tw e1,fun r M L F H2 eB r0 hr' pM pL so pF soF tw2=>?_⟩
 exact q r S C M L F H2 (ExtB.trans e1.toB eB) (e1.none r0) hr' pS pC pM pL so pF soF tw2
theorem scStps:FnScope ["table","names"] ["table"] (qAc sStps):=⟨rfl,rfl,rfl,by decide +kernel,rfl,by decide +kernel,by decide +kernel⟩
theorem ok_stps (F:Fun K "steps" "steps" sStps f fd) (G1:FnOk P w K mg base CX0 1 f1 fd1 ["names","mask"] qFa) (bG1:qA1 K fd1 ["names","mask"] []) (kG1:PySem.W.keepIn K (.ref f1)=true) (mG1:mg "row_of" = some (.ref f1))
  (G2:FnOk P w K mg base CX0 3 f2 fd2 ["table"] qE9) (bG2:qA1 K fd2 ["table"] []) (kG2:PySem.W.keepIn K (.ref f2)=true) (mG2:mg "step_masks" = some (.ref f2)):FnOk P w K mg base CX0 4 f fd ["table"] spStps:=by
 refine F.ok scStps (fun vs H Q E h=>?_) (fun cdv A outer s H vs Q E hr h=>?_)
 ·obtain ⟨T,names,rows,rfl,_⟩:=h
  rfl
 obtain ⟨T,names,rows,rfl,ti,ln,lr,q⟩:=h
 have hr1:=hr.mono (j:=1) (by decide)
 obtain ⟨a,b,hT,ha,hb⟩:=id ti
 refine ⟨_,qAb (qAj (i:=1) scStps.nd rfl (Or.inr rfl) (qBg qBl (pv 0) qAe (fun _ _=>rfl)))
  (qAf (qAw (qBx (N:=["table","names"]) (sc:=qAc sStps) (N':=["mask","names"]) (sub:=[none,some 1]) rfl rfl (CmpOk.of (by decide +kernel)) rfl (qAr (qAg G2 hr rfl mG2 kG2 bG2 .nil qAt (qAa (pv 0) qAd)))
   (fun C s H fp=>⟨qAi (i:=0) (by show (["mask","names"]:List Str).Nodup;decide) rfl (Or.inl rfl),qBb,qAg G1 hr1 rfl mG1 kG1 bG1 .nil qAt (qAa (pv 1) (qAa (pv 0) qAd))⟩)))),?_⟩
 refine ⟨_,rfl,T,_,_,_,rfl,rfl,SqT.of hT,(by exact qAy (j:=0) rfl),?_⟩
 refine ⟨_,rfl,T,names,rows,rfl,ti,lr,fun r M H1 e1 r0 hM pM dM=>?_⟩
 have lM:M.length<=24:=by rw [pM.length_eq];exact Nat.le_trans (qGm _) (by rw [List.length_map];exact lr)
 refine ⟨r,rfl,⟨_,SqL.of hM⟩,?_⟩
 refine qAu (xs:=M.map iV) (fun j ys H2=>Ext H1 H2/\∃ as,ys=as.map V.ref/\Paired (fun a r=>LsS H2 a r/\H a=none) as ((M.take j).map (qBw names))) ⟨Ext.refl _,[],rfl,.nil⟩ (fun j ys H2 _ h=>SqL.of (h.1 _ _ hM)) ?_ ?_
 ·rintro j v ys H2 hx ⟨e2,as,rfl,pr⟩
  obtain ⟨x,rfl,hx'⟩:=qBz hx
  have hj:=qA7 hx'
  have la:as.length=_:=pr.length
  rw [List.length_map,List.length_take] at la
  refine ⟨Sle.set _ (Sle.refl _) (fun u z=>by cases z),iteT (B:=False) ⟨_,rfl,_,rfl,a,names,x,rfl,(e1.trans e2) _ _ ha,ln,fun r3 H3 e3 r30 h3=>⟨?_,nxt (qA7 hx) ⟨e2.trans e3,as++[r3],by rw [List.map_append];rfl,?_⟩⟩⟩⟩
  ·rw [List.length_map];exact qAk (by omega)
  ·rw [qAn hx',List.map_append]
   exact Paired.snoc (Paired.mapP pr fun a t z=>⟨e3 _ _ z.1,z.2⟩) ⟨h3,(e1.trans e2).none r30⟩
 ·rintro ys H2 ⟨e2,as,rfl,pr⟩ l hl
  rw [List.length_map,List.take_of_length_le (Nat.le_refl _)] at pr
  have E2:=e1.trans e2
  have Xb:=Ext.new hl (.lst (as.map V.ref))
  exact q l M _ (E2.trans Xb) (E2.none hl) ⟨as,upd_same,Paired.mapP pr fun a t z=>⟨Xb _ _ z.1,z.2,qAl z.1 hl⟩⟩ pM dM
theorem scAlk:FnScope ["one","other"] ["one","other"] (qAc sAlk):=⟨rfl,rfl,rfl,by decide +kernel,rfl,by decide +kernel,by decide +kernel⟩
theorem ok_alk (F:Fun K "alike" "alike" sAlk f fd) (G:FnOk P w K mg base CX0 4 f1 fd1 ["table"] spStps) (bG:qA1 K fd1 ["table"] []) (kG:PySem.W.keepIn K (.ref f1)=true) (mG:mg "steps" = some (.ref f1)):FnOk P w K mg base CX0 5 f fd ["one","other"] spAlk:=by
 refine F.ok scAlk (fun vs H Q E h=>?_) (fun cdv A outer s H vs Q E hr h=>?_)
 ·obtain ⟨T1,T2,n1,n2,r1,r2,rfl,_⟩:=h
  rfl
 obtain ⟨T1,T2,n1,n2,r1,r2,rfl,t1,t2,l1,l2,lr1,lr2,ok1,ok2,q⟩:=h
 refine ⟨_,qAf (qAw (pe_and (qFp (op_eqD (room64 hr)) (qBg qBl (pv 0) qAe (fun _ _=>rfl)) (qBg qBl (pv 1) qAe (fun _ _=>rfl)) (qAx _))
  (pe_one (qFp (op_eqD (room64 hr)) (qAg G hr rfl mG kG bG .nil qAt (qAa (pv 0) qAd)) (qAg G hr rfl mG kG bG .nil qAt (qAa (pv 1) qAd)) (qAx _))))),?_⟩
 obtain ⟨a1,b1,h1,ha1,_⟩:=id t1
 obtain ⟨a2,b2,h2,ha2,_⟩:=id t2
 refine ⟨_,rfl,T1,_,_,_,rfl,rfl,SqT.of h1,(by exact qAy (j:=0) rfl),_,rfl,T2,_,_,_,rfl,rfl,SqT.of h2,(by exact qAy (j:=0) rfl),qEn n1,qEn n2,dr_row ha1,dr_row ha2,qDg ok1,qDg ok2,_,rfl,?_⟩
 rw [if_neg (show ¬(false=true) by decide),eqv_row]
 refine qCg (fun c=>?_) (fun c=>?_)
 ·have e:n1=n2:=of_decide_eq_true c
  refine ⟨_,rfl,T1,n1,r1,rfl,t1,l1,lr1,fun p1 M1 H1 e1 _ y1 pM1 dM1=>?_⟩
  refine ⟨_,rfl,T2,n2,r2,rfl,t2.ext e1,l2,lr2,fun p2 M2 H2 e2 _ y2 pM2 dM2=>?_⟩
  have k1:∀ r∈M1.map (qBw n1),SOk r:=fun r hr=>by obtain ⟨x,_,rfl⟩:=List.mem_map.mp hr;exact sok_rowM ok1 x
  have k2:∀ r∈M2.map (qBw n2),SOk r:=fun r hr=>by obtain ⟨x,_,rfl⟩:=List.mem_map.mp hr;exact sok_rowM ok2 x
  refine ⟨_,_,qC9 (y1.rows.ext e2),qC9 y2.rows,qBh k1,qBh k2,?_⟩
  rw [if_neg (show ¬(false=true) by decide),eqv_rows]
  exact q _ H2 (e1.trans e2) (fun ne=>absurd e ne) fun _=>⟨M1,M2,pM1,dM1,pM2,dM2,rfl⟩
 ·exact q false H (Ext.refl _) (fun _=>rfl) fun e=>absurd (decide_eq_true e) c
end
end My
namespace My
open PySem L2
theorem qEw {α:Type}:∀ {l a b:List α},l.Nodup->a.Sublist l->b.Sublist l->(∀ x,x∈a↔x∈b)->a=b
 | [],a,b,_,ha,hb,_=>by rw [List.sublist_nil.mp ha,List.sublist_nil.mp hb]
 | y :: l,a,b,nd,ha,hb,h=>by
  obtain ⟨ny,nl⟩:=List.nodup_cons.mp nd
  rcases List.sublist_cons_iff.mp ha with ha2 | ⟨a',ea,ha2⟩
  ·rcases List.sublist_cons_iff.mp hb with hb2 | ⟨b',eb,hb2⟩
   ·exact qEw nl ha2 hb2 h
   ·exact absurd (ha2.subset ((h y).mpr (by rw [eb];exact List.mem_cons_self))) ny
  ·rcases List.sublist_cons_iff.mp hb with hb2 | ⟨b',eb,hb2⟩
   ·exact absurd (hb2.subset ((h y).mp (by rw [ea];exact List.mem_cons_self))) ny
   ·rw [ea,eb] at h ⊢
    have e:a'=b':=qEw nl ha2 hb2 fun x=>by
     constructor
     ·intro hx
      rcases List.mem_cons.mp ((h x).mp (List.mem_cons_of_mem _ hx)) with e | e
      ·exact absurd (by rw [<-e];exact ha2.subset hx) ny
      ·exact e
     ·intro hx
      rcases List.mem_cons.mp ((h x).mpr (List.mem_cons_of_mem _ hx)) with e | e
      ·exact absurd (by rw [<-e];exact hb2.subset hx) ny
      ·exact e
    rw [e]
theorem range_get {α:Type} (l:List α):∀ j,j<=l.length->(List.range j).filterMap (fun i=>l[i]?)=l.take j
 | 0,_=>rfl
 | j+1,h=>by
  rw [List.range_succ,List.filterMap_append,range_get l j (by omega),List.take_succ]
  have e:=List.getElem?_eq_getElem (l:=l) (i:=j) (by omega)
  simp [e]
theorem qB2 {α β:Type} (c:α->Prop) [DecidablePred c] (f:α->Option β):∀ l:List α,(l.filterMap fun i=>if c i then f i else none).Sublist (l.filterMap f)
 | []=>List.Sublist.refl _
 | a :: l=>by
  rw [List.filterMap_cons,List.filterMap_cons]
  by_cases h:c a
  ·rw [if_pos h]
   cases f a with
   | none=>exact qB2 c f l
   | some b=>exact (qB2 c f l).cons_cons b
  ·rw [if_neg h]
   cases f a with
   | none=>exact qB2 c f l
   | some b=>exact (qB2 c f l).cons b
theorem qFi (names:List Str) (z:Nat):(qBw names z).Sublist names:=by
 unfold qBw
 have h:=qB2 (fun i=>z.testBit (names.length - 1 - i)=true) (fun i=>names[i]?) (List.range names.length)
 rw [range_get names _ (Nat.le_refl _),List.take_of_length_le (Nat.le_refl _)] at h
 exact h
structure Nm (names:List Str) (n:Str) (m q:Nat):Prop where
 nd:names.Nodup
 at':names[m - q]?=some n
 ln:names.length=m+1
 le:q<=m
theorem nm_of {names:List Str} (nd:names.Nodup) {n:Str} (h:n∈names):∃ m q,Nm names n m q:=by
 obtain ⟨p,hp,e⟩:=List.getElem_of_mem h
 refine ⟨names.length - 1,names.length - 1 - p,nd,?_,by omega,by omega⟩
 rw [show names.length - 1 - (names.length - 1 - p)=p by omega,List.getElem?_eq_getElem hp,e]
section
variable {names:List Str} {n:Str} {m q:Nat}
theorem Nm.rl (h:Nm names n m q):(restF names [n]).length=m:=by
 rw [rest_len h.nd h.at',h.ln];rfl
theorem Nm.rnd (h:Nm names n m q):(restF names [n]).Nodup:=h.nd.sublist List.filter_sublist
theorem Nm.bit (h:Nm names n m q):qA2 names [n]=2^q:=Nat.eq_of_testBit_eq fun j=>by
 rw [qCu,Nat.testBit_two_pow,h.ln]
 have hl:=h.le
 by_cases e:q=j
 ·subst e
  rw [decide_eq_true (by omega),decide_eq_true rfl,decide_eq_true ⟨n,by rw [show m+1 - 1 - q=m - q by omega];exact h.at',by simp⟩];rfl
 ·rw [decide_eq_false e]
  by_cases l:j<m+1
  ·rw [decide_eq_true l,Bool.true_and]
   refine decide_eq_false ?_
   rintro ⟨u,h1,h2⟩
   rw [List.mem_singleton] at h2
   subst h2
   have:=idx_one h.nd h1 h.at'
   omega
  ·rw [decide_eq_false l];rfl
theorem Nm.lack (h:Nm names n m q) (S:List Nat):lackA names S [n]=lackF S q:=by
 show lackF S (qA2 names [n]).log2=_
 rw [h.bit,Nat.log2_two_pow]
theorem Nm.ch (h:Nm names n m q) (z:Nat):decide (n∈qBw names z)=z.testBit q:=by
 have:=chi_at h.nd (z:=z) h.at'
 rw [h.ln,show m+1 - 1 - (m - q)=q by have:=h.le;omega] at this
 exact this
theorem Nm.pi (h:Nm names n m q) {z:Nat} (hz:z<2^names.length):piM names (restF names [n]) z=delB q z:=by
 have hp:=pi_del h.nd h.at' (z:=rv names.length z) (rv_lt _ _)
 rw [rv_rv hz] at hp
 rw [hp,h.ln]
 have hl:=h.le
 refine Nat.eq_of_testBit_eq fun j=>?_
 rw [qCk,qA6,qA6,qCk,qCk]
 rw [h.ln] at hz
 by_cases l:j<m
 ·rw [decide_eq_true (show j<m+1 - 1 by omega),Bool.true_and]
  by_cases c:j<q
  ·rw [if_neg (by omega),if_pos c,decide_eq_true (by omega),Bool.true_and]
   congr 1;omega
  ·rw [if_pos (by omega),if_neg c,decide_eq_true (by omega),Bool.true_and]
   congr 1;omega
 ·rw [decide_eq_false (by omega),Bool.false_and]
  split
  ·omega
  ·exact (qEr hz (by omega)).symm
theorem Nm.row (h:Nm names n m q) {z:Nat} (hz:z<2^names.length) (b:z.testBit q=false):qBw (restF names [n]) (delB q z)=qBw names z:=by
 have nr:=h.rnd
 refine qEw h.nd ((qFi _ _).trans List.filter_sublist) (qFi _ _) fun x=>?_
 constructor
 ·intro hx
  have xr:=rowM_sub hx
  have:=chi_mask nr (qBw names z) xr
  rw [show qA2 (restF names [n]) (qBw names z)=delB q z from h.pi hz] at this
  have this:decide (x∈qBw (restF names [n]) (delB q z))=decide (x∈qBw names z):=this
  rw [decide_eq_true hx] at this
  exact of_decide_eq_true this.symm
 ·intro hx
  have xn:x≠n:=fun e=>by
   rw [e] at hx
   have:=h.ch z
   rw [decide_eq_true hx,b] at this
   cases this
  have xr:x∈restF names [n]:=List.mem_filter.mpr ⟨rowM_sub hx,by simpa using xn⟩
  have:=chi_mask nr (qBw names z) xr
  rw [show qA2 (restF names [n]) (qBw names z)=delB q z from h.pi hz,decide_eq_true hx] at this
  exact of_decide_eq_true this
structure StM (k:Nat) (S:List Nat):Prop where
 rr:RR S
 lt:∀ s∈S,s<2^k
theorem qE8 {k:Nat} {xs S:List Nat} (p:S.Perm (red xs)) (lt:∀ x∈xs,x<2^k):StM k S/\∀ y,Spn S y↔Spn xs y :=
 ⟨⟨(qC4 _).perm p,fun s hs=>red_lt lt s (p.mem_iff.mp hs)⟩,fun y=>by rw [perm_spn p,qCa]⟩
theorem StM.told {nm:List Str} (nd:nm.Nodup) {M S:List Nat} (h:StM nm.length M) (p:S.Perm (red ((M.map (qBw nm)).map (qA2 nm)))):StM nm.length S/\∀ y,Spn S y↔Spn M y:=by
 have e:(M.map (qBw nm)).map (qA2 nm)=M:=by
  rw [List.map_map]
  conv=>rhs;rw [<-List.map_id M]
  exact List.map_congr_left fun c hc=>qFt nd (h.lt c hc)
 rw [e] at p
 exact qE8 p h.lt
theorem StM.len {k:Nat} {S:List Nat} (h:StM k S):S.length<=k:=rr_len h.rr h.lt
theorem st_tak (h:Nm names n m q) {S M:List Nat} (hS:StM names.length S) (pM:M.Perm (red ((lackA names S [n]).map (piM names (restF names [n]))))):StM (restF names [n]).length M/\∀ y,Spn M y↔Spn S (qC1 q false y):=by
 have lt:∀ x∈lackA names S [n],x<2^names.length:=fun x hx=>by
  rw [h.lack] at hx
  exact Spn.lt hS.lt ((lack_spn S q x).mp (.mem hx)).1
 have e:(lackA names S [n]).map (piM names (restF names [n]))=(lackF S q).map (delB q):=by
  rw [<-h.lack]
  exact List.map_congr_left fun x hx=>h.pi (lt x hx)
 rw [e] at pM
 obtain ⟨a,b⟩:=qE8 (k:=(restF names [n]).length) pM fun x hx=>by
  obtain ⟨y,hy,rfl⟩:=List.mem_map.mp hx
  rw [h.rl]
  rw [<-h.lack] at hy
  have:=lt y hy
  rw [h.ln] at this
  exact (qE1 this).resolve_right (by have:=h.le;omega)
 exact ⟨a,fun y=>by rw [b,tak_spn]⟩
theorem st_shr (h:Nm names n m q) {S M:List Nat} (hS:StM names.length S) (pM:M.Perm (red (S.map (piM names (restF names [n]))))):StM (restF names [n]).length M/\∀ y,Spn M y↔∃ b,Spn S (qC1 q b y):=by
 have e:S.map (piM names (restF names [n]))=S.map (delB q):=List.map_congr_left fun x hx=>h.pi (hS.lt x hx)
 rw [e] at pM
 obtain ⟨a,b⟩:=qE8 (k:=(restF names [n]).length) pM fun x hx=>by
  obtain ⟨y,hy,rfl⟩:=List.mem_map.mp hx
  rw [h.rl]
  have:=hS.lt y hy
  rw [h.ln] at this
  exact (qE1 this).resolve_right (by have:=h.le;omega)
 exact ⟨a,fun y=>by rw [b,shr_spn]⟩
theorem st_crs {k:Nat} {S M:List Nat} (hS:StM k S) (pM:M.Perm (red (crAll S k))):StM k M/\Crs k S M:=by
 obtain ⟨a,b⟩:=qE8 (k:=k) pM fun x hx=>((cr_spn hS.rr hS.lt x).mp (.mem hx)).1
 exact ⟨a,crs_of hS.rr hS.lt b⟩
theorem Crs.same {k:Nat} {S S' C:List Nat} (h:Crs k S C) (e:∀ y,Spn S y↔Spn S' y):Crs k S' C:=fun y=>by
 rw [h y]
 exact and_congr_right fun _=>⟨fun a s hs=>a s ((e s).mpr hs),fun a s hs=>a s ((e s).mp hs)⟩
theorem alike_same {k:Nat} {nm:List Str} {A B:List Nat} (hA:StM k A) (hB:StM k B) (dA:A.Pairwise fun a b=>b<=a) (dB:B.Pairwise fun a b=>b<=a) (h:∀ y,Spn A y↔Spn B y):A.map (qBw nm)=B.map (qBw nm):=by
 rw [desc_uniq dA dB (rr_same hA.rr hB.rr h)]
theorem rank_of {nm:List Str} (nd:nm.Nodup) {S M:List Nat} (hS:StM nm.length S) (pM:M.Perm (red ((lackA nm S (restF nm nm)).map (piM nm (restF nm (restF nm nm++[])))))):M.length=S.length:=by
 have e1:restF nm nm=[]:=List.filter_eq_nil_iff.mpr fun x hx=>by simp [hx]
 have e2:restF nm []=nm:=List.filter_eq_self.mpr fun x _=>by simp
 rw [e1] at pM
 have e3:(lackA nm S []).map (piM nm (restF nm ([]++[])))=S:=by
  show S.map (piM nm (restF nm []))=S
  rw [e2]
  conv=>rhs;rw [<-List.map_id S]
  exact List.map_congr_left fun x hx=>qFt nd (hS.lt x hx)
 rw [e3] at pM
 obtain ⟨a,b⟩:=qE8 pM hS.lt
 exact (rr_same a.rr hS.rr b).length_eq
theorem rnd_mem {k:Nat} {M L:List Nat} (hM:StM k M) (pL:L.Perm (sumF M)) (so:L.Pairwise (·<=·)):(rmF L).Nodup/\∀ z,z∈rmF L↔Lst M z:=by
 have ndL:L.Nodup:=pL.nodup_iff.mpr (qD5 M hM.rr)
 have lt:L.Pairwise (· < ·):=(so.and ndL).imp fun {a b} h=>Nat.lt_of_le_of_ne h.1 h.2
 refine ⟨ndL.sublist (rmF_sub L),fun z=>?_⟩
 rw [mem_rmF L lt]
 have mL:∀ z,z∈L↔Spn M z:=fun z=>pL.mem_iff.trans (qBr M z)
 unfold Lst
 rw [mL]
 exact ⟨fun ⟨a,b,c⟩=>⟨a,b,fun o ho=>c o ((mL o).mpr ho)⟩,fun ⟨a,b,c⟩=>⟨a,b,fun o ho=>c o ((mL o).mp ho)⟩⟩
theorem Lst.same {A B:List Nat} (h:∀ y,Spn A y↔Spn B y) (z:Nat):Lst A z↔Lst B z:=by
 unfold Lst
 rw [h z]
 exact ⟨fun ⟨a,b,c⟩=>⟨a,b,fun o ho=>c o ((h o).mpr ho)⟩,fun ⟨a,b,c⟩=>⟨a,b,fun o ho=>c o ((h o).mp ho)⟩⟩
def Rnd (nm:List Str) (S:List Nat) (F:List (List Str)):Prop:=RwO F/\∃ X:List Nat,X.Nodup/\(∀ z,z∈X↔Lst S z)/\F.Perm (X.map (qBw nm))
theorem rnd_of {k:Nat} {nm:List Str} {S M L:List Nat} {F:List (List Str)} (hM:StM k M) (h:∀ y,Spn M y↔Spn S y) (pL:L.Perm (sumF M)) (so:L.Pairwise (·<=·)) (pF:F.Perm ((rmF L).map (qBw nm))) (soF:RwO F):Rnd nm S F:=by
 obtain ⟨a,b⟩:=rnd_mem hM pL so
 exact ⟨soF,rmF L,a,fun z=>(b z).trans (Lst.same h z),pF⟩
theorem inn_del {q a b:Nat} (h:Inn a b):Inn (delB q a) (delB q b):=fun j hj=>by
 rw [qA6] at hj ⊢
 split
 ·rename_i c;rw [if_pos c] at hj;exact h j hj
 ·rename_i c;rw [if_neg c] at hj;exact h (j+1) hj
theorem inn_ins {q a b:Nat} (h:Inn a b):Inn (qC1 q false a) (qC1 q false b):=fun j hj=>by
 rw [qA5] at hj ⊢
 by_cases c:j<q
 ·rw [if_pos c] at hj ⊢;exact h j hj
 ·rw [if_neg c] at hj ⊢
  by_cases e:j=q
  ·rw [if_pos e] at hj;cases hj
  ·rw [if_neg e] at hj ⊢;exact h _ hj
theorem ins_zero (q:Nat):qC1 q false 0=0:=Nat.eq_of_testBit_eq fun j=>by rw [qA5];split <;> (try split) <;> simp
theorem lst_ins {S D:List Nat} (hD:∀ y,Spn D y↔Spn S (qC1 q false y)) (y:Nat):Lst D y↔Lst S (qC1 q false y):=by
 unfold Lst
 rw [hD]
 have ne:∀ y,qC1 q false y≠0↔y≠0:=fun y=>⟨fun h e=>h (by rw [e,ins_zero]),fun h e=>h (by have:=congrArg (delB q) e;rw [qBm] at this;rw [this];exact Nat.eq_of_testBit_eq fun j=>by rw [qA6];simp)⟩
 rw [ne]
 refine and_congr_right fun _=>and_congr_right fun _=>⟨fun h o ho nz hi=>?_,fun h o ho nz hi=>?_⟩
 ·have ob:o.testBit q=false:=by
   cases e:o.testBit q with
   | false=>rfl
   | true =>
    have:=hi q e
    rw [qA5,if_neg (Nat.lt_irrefl q),if_pos rfl] at this
    cases this
  have eo:qC1 q false (delB q o)=o:=by rw [<-ob,qB0]
  have h1:=h (delB q o) ((hD _).mpr (by rw [eo];exact ho)) (by rw [<-ne,eo];exact nz) (by
   have:=inn_del (q:=q) hi
   rw [qBm] at this
   exact this)
  rw [<-eo,h1]
 ·have:=h (qC1 q false o) ((hD o).mp ho) ((ne o).mpr nz) (inn_ins hi)
  have:=congrArg (delB q) this
  rw [qBm,qBm] at this
  exact this
theorem qFj (h:Nm names n m q) {S D:List Nat} {F G:List (List Str)} (hS:∀ s∈S,s<2^names.length) (hD:∀ y,Spn D y↔Spn S (qC1 q false y)) (hF:Rnd names S F) (hG:Rnd (restF names [n]) D G):G=F.filter fun r=>!decide (n∈r):=by
 obtain ⟨oF,X,ndX,mX,pF⟩:=hF
 obtain ⟨oG,Y,ndY,mY,pG⟩:=hG
 refine rwo_uniq oG (oF.sublist List.filter_sublist) ?_
 refine pG.trans (List.Perm.trans ?_ (pF.filter _).symm)
 have e1:(X.map (qBw names)).filter (fun r=>!decide (n∈r))=(X.filter fun z=>!z.testBit q).map (qBw names):=by
  rw [List.filter_map]
  congr 1
  refine List.filter_congr fun z _=>?_
  show (!decide (n∈qBw names z))=_
  rw [h.ch]
 rw [e1]
 have p2:Y.Perm ((X.filter fun z=>!z.testBit q).map (delB q)):=by
  refine (List.perm_ext_iff_of_nodup ndY ?_).mpr fun y=>?_
  ·refine List.pairwise_map.mpr ((ndX.sublist List.filter_sublist).imp_of_mem fun {a b} ha hb ne e=>ne ?_)
   have a1:a.testBit q=false:=by simpa using (List.mem_filter.mp ha).2
   have b1:b.testBit q=false:=by simpa using (List.mem_filter.mp hb).2
   rw [<-qB0 q a,<-qB0 q b,a1,b1,e]
  ·rw [mY,lst_ins hD,List.mem_map]
   constructor
   ·intro hy
    refine ⟨qC1 q false y,List.mem_filter.mpr ⟨(mX _).mpr hy,?_⟩,qBm _ _ _⟩
    rw [qA5,if_neg (Nat.lt_irrefl q),if_pos rfl];rfl
   ·rintro ⟨z,hz,rfl⟩
    obtain ⟨h1,h2⟩:=List.mem_filter.mp hz
    have b1:z.testBit q=false:=by simpa using h2
    rw [<-b1,qB0]
    exact (mX z).mp h1
 refine (p2.map _).trans ?_
 rw [List.map_map]
 refine List.Perm.of_eq (List.map_congr_left fun z hz=>?_)
 obtain ⟨h1,h2⟩:=List.mem_filter.mp hz
 exact h.row (Spn.lt hS ((mX z).mp h1).1) (by simpa using h2)
theorem rnd_one (h:Nm names n m q) {S:List Nat} {F:List (List Str)} (hS:∀ s∈S,s<2^names.length) (hF:Rnd names S F):[n]∈F↔Spn S (2^q):=by
 obtain ⟨oF,X,ndX,mX,pF⟩:=hF
 rw [pF.mem_iff,List.mem_map]
 constructor
 ·rintro ⟨z,hz,e⟩
  have hl:=((mX z).mp hz).1
  have:=qFt h.nd (Spn.lt hS hl)
  rw [e,h.bit] at this
  rw [this];exact hl
 ·intro hs
  refine ⟨2^q,(mX _).mpr ⟨hs,Nat.ne_of_gt (Nat.two_pow_pos q),fun o _ nz hi=>?_⟩,?_⟩
  ·refine Nat.eq_of_testBit_eq fun j=>?_
   rw [Nat.testBit_two_pow]
   by_cases e:q=j
   ·subst e
    cases c:o.testBit q with
    | true=>simp
    | false =>
     refine absurd (Nat.eq_of_testBit_eq fun i=>?_) nz
     rw [Nat.zero_testBit]
     cases d:o.testBit i with
     | false=>rfl
     | true =>
      have:=hi i d
      rw [Nat.testBit_two_pow] at this
      have e2:=of_decide_eq_true this
      rw [e2,d] at c;cases c
   ·rw [decide_eq_false e]
    cases d:o.testBit j with
    | false=>rfl
    | true =>
     have:=hi j d
     rw [Nat.testBit_two_pow,decide_eq_false e] at this
     cases this
  ·refine qEw h.nd (qFi _ _) (List.singleton_sublist.mpr (List.mem_of_getElem? h.at')) fun x=>?_
   rw [List.mem_singleton]
   constructor
   ·intro hx
    obtain ⟨i,hi,e,b⟩:=qEz.mp hx
    rw [Nat.testBit_two_pow,h.ln] at b
    have:=of_decide_eq_true b
    rw [h.ln] at hi
    have e2:i=m - q:=by omega
    rw [e2,h.at'] at e
    exact (Option.some.inj e).symm
   ·rintro rfl
    have:=h.ch (2^q)
    rw [Nat.testBit_two_pow,decide_eq_true rfl] at this
    exact of_decide_eq_true this
theorem wall_one {S C:List Nat} (hq:q<=m) (hC:Crs (m+1) S C):Spn C (2^q)↔¬∃ z,Spn S z/\z.testBit q=true:=by
 have e:2^q=qC1 q true 0:=Nat.eq_of_testBit_eq fun j=>by
  rw [qA5,Nat.testBit_two_pow]
  by_cases c:j<q
  ·rw [if_pos c,decide_eq_false (by omega)];simp
  ·rw [if_neg c]
   by_cases d:j=q
   ·rw [if_pos d,decide_eq_true d.symm]
   ·rw [if_neg d,decide_eq_false (Ne.symm d)];simp
 have d:∀ s,dot (m+1) (2^q) s=s.testBit q:=fun s=>by
  rw [qC6,e,qEe hq]
  have z:dot m (delB q s) 0=false:=by
   unfold dot
   have:∀ k,(xsum k fun j=>(delB q s).testBit j && Nat.testBit 0 j)=false:=fun k=>by
    induction k with
    | zero=>rfl
    | succ k ih=>show (_ ^^ _)=_;rw [ih];simp
   exact this m
  rw [z];simp
 rw [hC]
 constructor
 ·rintro ⟨_,h⟩ ⟨z,h1,h2⟩
  have:=h z h1
  rw [d,h2] at this;cases this
 ·intro h
  refine ⟨Nat.pow_lt_pow_right (by decide) (by omega),fun s hs=>?_⟩
  rw [d]
  cases c:s.testBit q with
  | false=>rfl
  | true=>exact absurd ⟨s,hs,c⟩ h
end
end My
namespace My
open PySem L2
def spLaw (K:PySem.W.Frag) (Pt:Addr):Sp:=fun vs H Q _=>∃ (a:Addr) (ns:List Int),vs=[.ref a]/\SqL K H a (ns.map V.int)/\ns.length<=63/\H Pt=some (.tbl #[])/\∀ H',Q (.bl true) H'
theorem rnd_len {nm:List Str} {S:List Nat} {F:List (List Str)} {k:Nat} (hS:StM k S) (hk:k<=12) (h:Rnd nm S F):F.length<=4096:=by
 obtain ⟨_,X,nd,mX,pF⟩:=h
 rw [pF.length_eq,List.length_map]
 have:=len_lt nd (m:=2^k) fun x hx=>Spn.lt hS.lt ((mX x).mp hx).1
 exact Nat.le_trans this (Nat.le_trans (Nat.pow_le_pow_right (by decide) hk) (by decide))
theorem rnd_ok {nm:List Str} {S:List Nat} {F:List (List Str)} (ok:SOk nm) (h:Rnd nm S F):∀ r∈F,SOk r:=fun r hr x hx=>by
 obtain ⟨_,X,_,_,pF⟩:=h
 obtain ⟨z,_,rfl⟩:=List.mem_map.mp (pF.mem_iff.mp hr)
 exact ok x (rowM_sub hx)
theorem qGz {k:Nat} {nm:List Str} (nd:nm.Nodup) (hk:nm.length=k) {A B:List Nat} (hA:StM k A) (hB:StM k B) (h:∀ y,Spn A y↔Spn B y) {b:Bool} (sm:∃ M1 M2:List Nat,M1.Perm (red ((A.map (qBw nm)).map (qA2 nm)))/\M1.Pairwise (fun a b=>b<=a)/\M2.Perm (red ((B.map (qBw nm)).map (qA2 nm)))/\M2.Pairwise (fun a b=>b<=a)/\b=decide (M1.map (qBw nm)=M2.map (qBw nm))):b=true:=by
 subst hk
 obtain ⟨M1,M2,p1,d1,p2,d2,e⟩:=sm
 obtain ⟨s1,e1⟩:=StM.told nd hA p1
 obtain ⟨s2,e2⟩:=StM.told nd hB p2
 rw [e]
 exact decide_eq_true (alike_same s1 s2 d1 d2 fun y=>(e1 y).trans ((h y).trans (e2 y).symm))
section
variable {names:List Str} {n:Str} {m p:Nat} {S C:List Nat}
theorem chk_ct (nm:Nm names n m p) (stS:StM names.length S) (stC:StM names.length C) (crC:Crs names.length S C) {M1 S4 C4 S5 M5:List Nat} (stM1:StM (restF names [n]).length M1) (spM1:∀ y,Spn M1 y↔Spn S (qC1 p false y)) (pS4:S4.Perm (red ((M1.map (qBw (restF names [n]))).map (qA2 (restF names [n]))))) (pC4:C4.Perm (red (crAll S4 (restF names [n]).length))) (pS5:S5.Perm (red ((C.map (qBw names)).map (qA2 names)))) (pM5:M5.Perm (red (S5.map (piM names (restF names [n]))))):StM (restF names [n]).length C4/\StM (restF names [n]).length M5/\∀ y,Spn C4 y↔Spn M5 y:=by
 obtain ⟨s4,e4⟩:=StM.told nm.rnd stM1 pS4
 obtain ⟨c4,r4⟩:=st_crs s4 pC4
 obtain ⟨s5,e5⟩:=StM.told nm.nd stC pS5
 obtain ⟨m5,f5⟩:=st_shr nm s5 pM5
 refine ⟨c4,m5,fun y=>?_⟩
 rw [f5]
 have r4':=r4.same e4
 rw [nm.rl] at r4'
 rw [nm.ln] at crC
 have lt:=stS.lt
 rw [nm.ln] at lt
 rw [cross_tak nm.le crC lt spM1 r4' y]
 exact ⟨fun ⟨b,h⟩=>⟨b,(e5 _).mpr h⟩,fun ⟨b,h⟩=>⟨b,(e5 _).mp h⟩⟩
theorem chk_cs (nm:Nm names n m p) (stC:StM names.length C) (crC:Crs names.length S C) {M2 S4 C4 S5 M5:List Nat} (stM2:StM (restF names [n]).length M2) (spM2:∀ y,Spn M2 y↔∃ b,Spn S (qC1 p b y)) (pS4:S4.Perm (red ((M2.map (qBw (restF names [n]))).map (qA2 (restF names [n]))))) (pC4:C4.Perm (red (crAll S4 (restF names [n]).length))) (pS5:S5.Perm (red ((C.map (qBw names)).map (qA2 names)))) (pM5:M5.Perm (red ((lackA names S5 [n]).map (piM names (restF names [n]))))):StM (restF names [n]).length C4/\StM (restF names [n]).length M5/\∀ y,Spn C4 y↔Spn M5 y:=by
 obtain ⟨s4,e4⟩:=StM.told nm.rnd stM2 pS4
 obtain ⟨c4,r4⟩:=st_crs s4 pC4
 obtain ⟨s5,e5⟩:=StM.told nm.nd stC pS5
 obtain ⟨m5,f5⟩:=st_tak nm s5 pM5
 refine ⟨c4,m5,fun y=>?_⟩
 rw [f5]
 have r4':=r4.same e4
 rw [nm.rl] at r4'
 rw [nm.ln] at crC
 rw [cross_shr nm.le crC spM2 r4' y,e5]
open Classical in
theorem chk_rs (nm:Nm names n m p) (stS:StM names.length S) {M2 S6 M6:List Nat} {F:List (List Str)} (stM2:StM (restF names [n]).length M2) (spM2:∀ y,Spn M2 y↔∃ b,Spn S (qC1 p b y)) (hF:Rnd names S F) (pS6:S6.Perm (red ((M2.map (qBw (restF names [n]))).map (qA2 (restF names [n]))))) (pM6:M6.Perm (red ((lackA (restF names [n]) S6 (restF (restF names [n]) (restF names [n]))).map (piM (restF names [n]) (restF (restF names [n]) (restF (restF names [n]) (restF names [n])++[])))))) :
  ((restF names [n]).length:Int) - (M6.length:Int)=(names.length:Int) - (S.length:Int) - (if (!decide ([n]∈F))=true then 1 else 0):=by
 obtain ⟨s6,e6⟩:=StM.told nm.rnd stM2 pS6
 have l6:=rank_of nm.rnd s6 pM6
 have l6':=(rr_same s6.rr stM2.rr e6).length_eq
 have lt:=stS.lt
 rw [nm.ln] at lt
 have d:=dim_shr nm.le stS.rr lt stM2.rr spM2
 have one:=rnd_one nm stS.lt hF
 have l1:=nm.ln
 have l2:=nm.rl
 by_cases c:Spn S (2^p)
 ·rw [if_pos c] at d
  rw [decide_eq_true (one.mpr c),if_neg (by decide)]
  omega
 ·rw [if_neg c] at d
  rw [decide_eq_false (fun z=>c (one.mp z)),if_pos (show (!false)=true from rfl)]
  omega
open Classical in
theorem chk_rt (nm:Nm names n m p) (stS:StM names.length S) (stC:StM names.length C) (crC:Crs names.length S C) {M1 S6 M6:List Nat} {F:List (List Str)} (stM1:StM (restF names [n]).length M1) (spM1:∀ y,Spn M1 y↔Spn S (qC1 p false y)) (hF:Rnd names C F) (pS6:S6.Perm (red ((M1.map (qBw (restF names [n]))).map (qA2 (restF names [n]))))) (pM6:M6.Perm (red ((lackA (restF names [n]) S6 (restF (restF names [n]) (restF names [n]))).map (piM (restF names [n]) (restF (restF names [n]) (restF (restF names [n]) (restF names [n])++[])))))) :
  ((restF names [n]).length:Int) - (M6.length:Int)=(names.length:Int) - (S.length:Int) - (if decide ([n]∈F)=true then 1 else 0):=by
 obtain ⟨s6,e6⟩:=StM.told nm.rnd stM1 pS6
 have l6:=rank_of nm.rnd s6 pM6
 have l6':=(rr_same s6.rr stM1.rr e6).length_eq
 have d:=dim_tak stS.rr stM1.rr spM1
 have one:=rnd_one nm stC.lt hF
 rw [nm.ln] at crC
 have wo:=wall_one nm.le crC
 have l1:=nm.ln
 have l2:=nm.rl
 by_cases c:∃ z,Spn S z/\z.testBit p=true
 ·rw [if_pos c] at d
  rw [decide_eq_false (fun z=>wo.mp (one.mp z) c),if_neg (by decide)]
  omega
 ·rw [if_neg c] at d
  rw [decide_eq_true (one.mpr (wo.mpr c)),if_pos rfl]
  omega
end
theorem keep_rows {K:PySem.W.Frag} {H1:Hp} {p:Addr} {as:List Addr} {F:List (List Str)} {n:Str} {Q:List V->Hp->Prop} {σ0:St} {g:TG} {tt:TT} {te:TE} (hp:H1 p=some (.lst (as.map V.ref))) (pr:Paired (LsS H1) as F) (lF:F.length<=4096)
  (hs:∀ (c:Addr) (r:List Str),LsS H1 c r->∀ (C:V->Hp->Prop) (B:Hp->Prop),(n∉r->C (.ref c) H1)->(n∈r->B H1)->g (.ref c) σ0 H1 fun σ2 H2=>Sle σ0 σ2/\tt σ2 H2 fun b H3=>if b=true then te σ2 H3 C else B H3)
  (hd:∀ as',Paired (LsS H1) as' (F.filter fun r=>!decide (n∈r))->Q (as'.map V.ref) H1):qDo (Itl K p) σ0 g tt te Q H1:=by
 have la:as.length=F.length:=pr.length
 refine qAu (xs:=as.map V.ref) (fun j ys H2=>H2=H1/\∃ as',ys=as'.map V.ref/\Paired (LsS H1) as' ((F.take j).filter fun r=>!decide (n∈r))) ⟨rfl,[],rfl,.nil⟩ (fun j ys H2 _ h=>by rw [h.1];exact SqL.of hp) ?_ ?_
 ·rintro j v ys H2 hx ⟨rfl,as',rfl,pr'⟩
  obtain ⟨c,rfl,hc⟩:=qFk hx
  obtain ⟨r,hr,hcr⟩:=qBf pr hc
  have hj:=qA7 hr
  have l':as'.length=_:=pr'.length
  have:=List.length_filter_le (fun r=>!decide (n∈r)) (F.take j)
  rw [List.length_take] at this
  refine hs c r hcr _ _ (fun b=>⟨?_,nxt (qA7 hx) ⟨rfl,as'++[c],by rw [List.map_append];rfl,?_⟩⟩) (fun b=>nxt (qA7 hx) ⟨rfl,as',rfl,?_⟩)
  ·rw [List.length_map];exact qBo (by omega)
  ·rw [qAn hr,List.filter_append,List.filter_cons_of_pos (by rw [decide_eq_false b];rfl)]
   exact Paired.snoc pr' hcr
  ·rw [qAn hr,List.filter_append,List.filter_cons_of_neg (by rw [decide_eq_true b];decide),List.filter_nil,List.append_nil]
   exact pr'
 ·rintro ys H2 ⟨rfl,as',rfl,pr'⟩
  rw [List.length_map,la,List.take_of_length_le (Nat.le_refl _)] at pr'
  exact hd as' pr'
section
variable {P:Program} {w:World} {K:PySem.W.Frag} {mg:Str->Option Value} {base:Heap} {f f1 f2 f3 f4 f5 f6 f7 f8 f9 Pt:Addr} {fd fd1 fd2 fd3 fd4 fd5 fd6 fd7 fd8 fd9:FuncData}
abbrev laN:List Str:=["_law_script","_law_table_here","_law_names_here","_law_high","_law_all_shuts","_law_all_rounds","_law_name","_law_one","_law_other","_law_far"]
theorem qF8:FnScope laN ["_law_script"] (qAc sLaw):=⟨rfl,rfl,rfl,by decide +kernel,rfl,by decide +kernel,by decide +kernel⟩
theorem ok_law (F:Fun K "law" "law" sLaw f fd)
  (G1:FnOk P w K mg base CX0 5 f1 fd1 ["_law_script","_law_at"] (spLTab K)) (bG1:qA1 K fd1 ["_law_script","_law_at"] []) (kG1:PySem.W.keepIn K (.ref f1)=true) (mG1:mg "_law_table" = some (.ref f1))
  (G2:FnOk P w K mg base CX0 1 f2 fd2 ["_law_table_here"] spLCop) (bG2:qA1 K fd2 ["_law_table_here"] []) (kG2:PySem.W.keepIn K (.ref f2)=true) (mG2:mg "_law_copy" = some (.ref f2))
  (G3:FnOk P w K mg base CX0 5 f3 fd3 ["table","names"] spRank) (bG3:qA1 K fd3 ["table","names"] []) (kG3:PySem.W.keepIn K (.ref f3)=true) (mG3:mg "rank" = some (.ref f3))
  (G4:FnOk P w K mg base CX0 5 f4 fd4 ["table"] (spWalls Pt)) (bG4:qA1 K fd4 ["table"] []) (kG4:PySem.W.keepIn K (.ref f4)=true) (mG4:mg "walls" = some (.ref f4))
  (G5:FnOk P w K mg base CX0 4 f5 fd5 ["table"] (spRounds Pt)) (bG5:qA1 K fd5 ["table"] []) (kG5:PySem.W.keepIn K (.ref f5)=true) (mG5:mg "rounds" = some (.ref f5))
  (G6:FnOk P w K mg base CX0 5 f6 fd6 ["table","name"] spTake) (bG6:qA1 K fd6 ["table","name"] []) (kG6:PySem.W.keepIn K (.ref f6)=true) (mG6:mg "taken_out" = some (.ref f6))
  (G7:FnOk P w K mg base CX0 5 f7 fd7 ["table","name"] spShr) (bG7:qA1 K fd7 ["table","name"] []) (kG7:PySem.W.keepIn K (.ref f7)=true) (mG7:mg "shrunk" = some (.ref f7))
  (G8:FnOk P w K mg base CX0 4 f8 fd8 ["table"] spCross) (bG8:qA1 K fd8 ["table"] []) (kG8:PySem.W.keepIn K (.ref f8)=true) (mG8:mg "crossed" = some (.ref f8))
  (G9:FnOk P w K mg base CX0 5 f9 fd9 ["one","other"] spAlk) (bG9:qA1 K fd9 ["one","other"] []) (kG9:PySem.W.keepIn K (.ref f9)=true) (mG9:mg "alike" = some (.ref f9))
  (mL:mg "list" = none) (min:mg "int" = none):FnOk P w K mg base CX0 6 f fd ["_law_script"] (spLaw K Pt):=by
 refine F.ok qF8 (fun vs H Q E h=>?_) (fun cdv A outer s H vs Q E hr5 h=>?_)
 ·obtain ⟨a,ns,rfl,_⟩:=h
  rfl
 obtain ⟨a,ns,rfl,hS,hl,hP,q⟩:=h
 have hr1:=hr5.mono (j:=1) (by decide)
 have hr4:=hr5.mono (j:=4) (by decide)
 refine ⟨_,qAb (qAj (i:=1) qF8.nd rfl (Or.inl rfl) (qAg G1 hr5 rfl mG1 kG1 bG1 .nil qAt (qAa (pv 0) (qAa qAe qAd)))) (qAb (qAj (i:=2) qF8.nd rfl (Or.inl rfl) (qBg qBl (pv 1) qAe (fun _ _=>rfl))) (qAb (qAj (i:=3) qF8.nd rfl (Or.inl rfl) (qAg G3 hr5 rfl mG3 kG3 bG3 .nil qAt (qAa (qAg G2 hr1 rfl mG2 kG2 bG2 .nil qAt (qAa (pv 1) qAd)) (qAa (qBd qBn rfl mL qBu (qAa (pv 2) qAd)) qAd)))) (qAb (qAj (i:=4) qF8.nd rfl (Or.inl rfl) (qAg G4 hr5 rfl mG4 kG4 bG4 .nil qAt (qAa (qAg G2 hr1 rfl mG2 kG2 bG2 .nil qAt (qAa (pv 1) qAd)) qAd))) (qAb (qAj (i:=5) qF8.nd rfl (Or.inl rfl) (qAg G5 hr4 rfl mG5 kG5 bG5 .nil qAt (qAa (qAg G2 hr1 rfl mG2 kG2 bG2 .nil qAt (qAa (pv 1) qAd)) qAd))) (qAb (qBi PassesOwn.never rfl (qAr (pv 2)) (qAi (i:=6) qF8.nd rfl (Or.inr rfl)) (qAb (qAj (i:=7) qF8.nd rfl (Or.inl rfl) (qAg G6 hr5 rfl mG6 kG6 bG6 .nil qAt (qAa (qAg G2 hr1 rfl mG2 kG2 bG2 .nil qAt (qAa (pv 1) qAd)) (qAa (pv 6) qAd)))) (qAb (qAj (i:=8) qF8.nd rfl (Or.inl rfl) (qAg G7 hr5 rfl mG7 kG7 bG7 .nil qAt (qAa (qAg G2 hr1 rfl mG2 kG2 bG2 .nil qAt (qAa (pv 1) qAd)) (qAa (pv 6) qAd)))) (qAb (qAj (i:=9) qF8.nd rfl (Or.inl rfl) (qAg G8 hr4 rfl mG8 kG8 bG8 .nil qAt (qAa (qAg G2 hr1 rfl mG2 kG2 bG2 .nil qAt (qAa (pv 1) qAd)) qAd))) (qAb (qB6 (qAo op_isnB (qAg G9 hr5 rfl mG9 kG9 bG9 .nil qAt (qAa (qAg G8 hr4 rfl mG8 kG8 bG8 .nil qAt (qAa (pv 7) qAd)) (qAa (qAg G7 hr5 rfl mG7 kG7 bG7 .nil qAt (qAa (pv 9) (qAa (pv 6) qAd))) qAd))) pe_bl (qAx _)) (qAf (qAw pe_bl)) qA8) (qAb (qB6 (qAo op_isnB (qAg G9 hr5 rfl mG9 kG9 bG9 .nil qAt (qAa (qAg G8 hr4 rfl mG8 kG8 bG8 .nil qAt (qAa (pv 8) qAd)) (qAa (qAg G6 hr5 rfl mG6 kG6 bG6 .nil qAt (qAa (pv 9) (qAa (pv 6) qAd))) qAd))) pe_bl (qAx _)) (qAf (qAw pe_bl)) qA8) (qAb (qB6 (qAo qFr (qAg G3 hr5 rfl mG3 kG3 bG3 .nil qAt (qAa (pv 8) (qAa (qBd qBn rfl mL qBu (qAa (qBg qBl (pv 8) qAe (fun _ _=>rfl)) qAd)) qAd))) (qAh qDk (pv 3) (qBd call_int1 rfl min boot_int' (qAa (qFp (op_notInD (room65 hr5)) (qBa (qAa (pv 6) qAd)) (pv 5) (by with_unfolding_all rfl)) qAd))) (qAx _)) (qAf (qAw pe_bl)) qA8) (qAb (qB6 (qAo qFr (qAg G3 hr5 rfl mG3 kG3 bG3 .nil qAt (qAa (pv 7) (qAa (qBd qBn rfl mL qBu (qAa (qBg qBl (pv 7) qAe (fun _ _=>rfl)) qAd)) qAd))) (qAh qDk (pv 3) (qBd call_int1 rfl min boot_int' (qAa (qFp (op_inD (room65 hr5)) (qBa (qAa (pv 6) qAd)) (pv 4) (by with_unfolding_all rfl)) qAd))) (qAx _)) (qAf (qAw pe_bl)) qA8) (qAb (qB6 (qAo (op_neD (room64 hr5)) (qAg G4 hr5 rfl mG4 kG4 bG4 .nil qAt (qAa (pv 8) qAd)) (qBx (N:=laN) (sc:=qAc sLaw) (N':=["_law_row_here","_law_name"]) (sub:=[none,some 6]) rfl rfl (CmpOk.of (by decide +kernel)) rfl (qAr (pv 4)) (fun C s H fp=>⟨qAi (i:=0) (by show (["_law_row_here","_law_name"]:List Str).Nodup;decide) rfl (Or.inl rfl),(qB5 (qAo (show OpR _ (compareOp .NotIn) (rIn K true) from qB7) (pv 1) (pv 0) (by with_unfolding_all rfl))),(pv 0)⟩)) (qAx _)) (qAf (qAw pe_bl)) qA8) (qAf (qB6 (qAo (op_neD (room64 hr5)) (qAg G5 hr4 rfl mG5 kG5 bG5 .nil qAt (qAa (pv 7) qAd)) (qBx (N:=laN) (sc:=qAc sLaw) (N':=["_law_row_here","_law_name"]) (sub:=[none,some 6]) rfl rfl (CmpOk.of (by decide +kernel)) rfl (qAr (pv 5)) (fun C s H fp=>⟨qAi (i:=0) (by show (["_law_row_here","_law_name"]:List Str).Nodup;decide) rfl (Or.inl rfl),(qB5 (qAo (show OpR _ (compareOp .NotIn) (rIn K true) from qB7) (pv 1) (pv 0) (by with_unfolding_all rfl))),(pv 0)⟩)) (qAx _)) (qAf (qAw pe_bl)) qA8))))))))))) (qAf (qAw pe_bl))))))),?_⟩
 refine ⟨_,rfl,a,ns,rfl,hS,fun T names rows H1 e1 ti tok=>?_⟩
 have ln:=tok.ln
 have lr:=tok.lr
 have nd:=riseNd tok.rn
 have twI:TabW H1 Pt lpI qI:=.inl (e1 _ _ hP)
 obtain ⟨tA,tB,hT,htA,hrows⟩:=id ti
 refine ⟨_,rfl,T,_,_,_,rfl,rfl,SqT.of hT,(by exact qAy (j:=0) rfl),?_⟩
 refine ⟨_,rfl,T,names,rows,rfl,ti,by omega,fun T1 H2 e2 t10 ti1=>?_⟩
 refine ⟨_,rfl,tA,_,rfl,.inl (SqL.of (e2 _ _ htA)),fun l1 hl1=>?_⟩
 have X1:=Ext.new hl1 (.lst (names.map V.str))
 refine ⟨T1,l1,names,rows,names,rfl,ti1.ext X1,upd_same,nd,ln,by omega,by omega,fun S M H3 e3 pS pM dM=>?_⟩
 have E3:=e2.trans (X1.trans e3)
 obtain ⟨stS,spS⟩:=qE8 pS (qCz rows)
 have hiM:=rank_of nd stS pM
 have ti3:=ti.ext E3
 have tw3:=My.TabW.extE twI E3
 have hA3:=E3 _ _ htA
 rw [hiM]
 clear hT htA hrows ti1 X1 e3 hl1 pM dM t10 twI
 refine ⟨_,rfl,T,names,rows,rfl,ti3,by omega,fun T2 H4 e4 t20 ti2=>?_⟩
 refine ⟨T2,names,rows,rfl,ti2,ln,by omega,My.TabW.extE tw3 e4,fun wr Sw C Mw Lw FW H5 eB5 wr0 hwr pSw pC pMw pLw soLw pFW soFW tw5=>?_⟩
 obtain ⟨stSw,spSw⟩:=qE8 pSw (qCz rows)
 obtain ⟨stC,crC0⟩:=st_crs stSw pC
 have crC:Crs names.length S C:=crC0.same fun y=>(spSw y).trans (spS y).symm
 obtain ⟨stMw,spMw⟩:=StM.told nd stC pMw
 have rW:Rnd names C FW:=rnd_of stMw spMw pLw soLw pFW soFW
 obtain ⟨tb3,hb3⟩:=My.TabW.tb tw3
 obtain ⟨tb5,hb5⟩:=My.TabW.tb tw5
 have K5:=e4.kp.trans (kp_B eB5 (e4 _ _ hb3) hb5)
 have ti5:=K5.tab ti3
 have hA5:=K5.ls hA3
 clear crC0 spMw stMw spSw stSw soFW pFW soLw pLw pMw pSw hb3 eB5 ti2 t20 e4 tw3 ti3 wr0 pC hA3
 refine ⟨_,rfl,T,names,rows,rfl,ti5,by omega,fun T2 H6 e6 t20 ti2=>?_⟩
 refine ⟨T2,names,rows,rfl,ti2,ln,by omega,My.TabW.extE tw5 e6,fun rr Mr Lr FR H7 eB7 rr0 hrr pMr pLr soLr pFR soFR tw7=>?_⟩
 obtain ⟨stMr,spMr⟩:=qE8 pMr (qCz rows)
 have rR:Rnd names S FR:=rnd_of stMr (fun y=>(spMr y).trans (spS y).symm) pLr soLr pFR soFR
 obtain ⟨tb7,hb7⟩:=My.TabW.tb tw7
 have K7:=e6.kp.trans (kp_B eB7 (e6 _ _ hb5) hb7)
 have ti7:=K7.tab ti5
 have hA7:=K7.ls hA5
 have hW7:=K7.rows hwr
 clear spMr stMr pFR soFR soLr pLr pMr hb5 hb7 eB7 ti2 t20 e6 tw5 ti5 rr0 hwr K5 K7 pS E3 hA5
 have lFW:=rnd_len stC ln rW
 have lFR:=rnd_len stS ln rR
 have okW:=rnd_ok tok.ok rW
 have okR:=rnd_ok tok.ok rR
 refine ⟨_,rfl,tA,rfl,⟨_,SqL.of hA7⟩,?_⟩
 refine qBs (xs:=names.map V.str) (fun i σ H'=>∃ x6 x7 x8 x9:Option V,σ=[some (.ref a),some (.ref T),some (.ref tA),some (.int ((names.length:Int) - (S.length:Int))),some (.ref wr),some (.ref rr),x6,x7,x8,x9]/\Kp H7 H'/\TabW H' Pt lpI qI) ⟨none,none,none,none,rfl,Kp.refl _,tw7⟩ (fun i σ H' _ h=>by obtain ⟨_,_,_,_,_,k,_⟩:=h;exact SqL.of (k.ls hA7)) ?_ ?_
 ·rintro i v σ H' hx ⟨x6,x7,x8,x9,rfl,k,tw⟩
  obtain ⟨n,rfl,hn⟩:=qD7 hx
  have hnm:=List.mem_of_getElem? hn
  obtain ⟨m,p,nm⟩:=nm_of nd hnm
  have nd':=nm.rnd
  have ln':(restF names [n]).length<=12:=by have:=nm.rl;have:=nm.ln;omega
  have ok':SOk (restF names [n]):=fun x hx=>tok.ok x (List.mem_filter.mp hx).1
  have tiH:=k.tab ti7
  refine ⟨_,rfl,T,names,rows,rfl,tiH,by omega,fun T3 G1 g1 t30 ti3=>?_⟩
  refine ⟨_,rfl,T3,names,rows,n,rfl,ti3,nd,hnm,ln,by omega,fun A1 S1 M1 G2 g2 a0 tfA pS1 pM1 dM1=>?_⟩
  obtain ⟨stS1,spS1⟩:=qE8 pS1 (qCz rows)
  obtain ⟨stM1,spM1'⟩:=st_tak nm stS1 pM1
  have spM1:∀ y,Spn M1 y↔Spn S (qC1 p false y):=fun y=>(spM1' y).trans ((spS1 _).trans (spS _).symm)
  have g12:=g1.trans g2
  have tA1:=tfA.tin
  clear spM1' spS1 stS1 pM1 pS1 dM1 tfA a0 ti3 t30
  refine ⟨_,rfl,T,names,rows,rfl,tiH.ext g12,by omega,fun T4 G3 g3 t40 ti4=>?_⟩
  refine ⟨_,rfl,T4,names,rows,n,rfl,ti4,nd,hnm,ln,by omega,fun A2 S2 M2 G4 g4 b0 tfB pS2 pM2 dM2=>?_⟩
  obtain ⟨stS2,spS2⟩:=qE8 pS2 (qCz rows)
  obtain ⟨stM2,spM2'⟩:=st_shr nm stS2 pM2
  have spM2:∀ y,Spn M2 y↔∃ b,Spn S (qC1 p b y):=fun y=>(spM2' y).trans ⟨fun ⟨b,h⟩=>⟨b,(spS _).mpr ((spS2 _).mp h)⟩,fun ⟨b,h⟩=>⟨b,(spS2 _).mpr ((spS _).mp h)⟩⟩
  have g34:=g3.trans g4
  have tB1:=tfB.tin
  clear spM2' spS2 stS2 pM2 pS2 dM2 tfB b0 ti4 t40
  refine ⟨_,rfl,T,names,rows,rfl,tiH.ext (g12.trans g34),by omega,fun T5 G5 g5 t50 ti5=>?_⟩
  refine ⟨T5,names,rows,rfl,ti5,ln,by omega,fun A3 S3 C3 G6 g6 c0 tfC pS3 pC3 dC3=>?_⟩
  obtain ⟨stS3,spS3⟩:=qE8 pS3 (qCz rows)
  obtain ⟨stC3,crC3'⟩:=st_crs stS3 pC3
  have crC3:Crs names.length S C3:=crC3'.same fun y=>(spS3 y).trans (spS y).symm
  have g56:=g5.trans g6
  have tC6:=tfC.tin
  have tB6:=tB1.ext g56
  have tA6:=tA1.ext (g34.trans g56)
  have k6:=k.trans (g12.trans (g34.trans g56)).kp
  have tw6:=My.TabW.extE tw (g12.trans (g34.trans g56))
  have l1:(M1.map (qBw (restF names [n]))).length<=24:=by have:=stM1.len;rw [List.length_map];omega
  have l2:(M2.map (qBw (restF names [n]))).length<=24:=by have:=stM2.len;rw [List.length_map];omega
  have l3:(C3.map (qBw names)).length<=24:=by have:=stC3.len;rw [List.length_map];omega
  clear crC3' spS3 stS3 pC3 pS3 dC3 tfC c0 ti5 t50 g56 tB1 tA1 g5 g6 g34 g12 g3 g4 g1 g2 tiH tw k
  refine ⟨_,rfl,A1,restF names [n],_,rfl,tA6,ln',l1,fun U1 S4 C4 G7 g7 u0 tfU pS4 pC4 dC4=>?_⟩
  refine ⟨_,rfl,_,rfl,A3,names,_,n,rfl,tC6.ext g7,nd,hnm,ln,l3,fun U2 S5 M5 G8 g8 v0 tfV pS5 pM5 dM5=>?_⟩
  obtain ⟨q1,q2,q3⟩:=chk_ct nm stS stC3 crC3 stM1 spM1 pS4 pC4 pS5 pM5
  refine ⟨U1,U2,restF names [n],restF names [n],_,_,rfl,tfU.tin.ext g8,tfV.tin,ln',ln',(by have:=q1.len;rw [List.length_map];omega),(by have:=q2.len;rw [List.length_map];omega),ok',ok',fun b G9 g9 _ sm=>?_⟩
  have hb:=qGz nd' rfl q1 q2 q3 (sm rfl)
  refine ⟨_,_,rfl,rfl,_,rfl,?_⟩
  rw [hb]
  refine iteF ?_
  have gg:=g7.trans (g8.trans g9)
  clear hb sm q1 q2 q3 tfU tfV pS4 pC4 dC4 pS5 pM5 dM5 u0 v0 g7 g8 g9
  have tA9:=tA6.ext gg
  have tB9:=tB6.ext gg
  have tC9:=tC6.ext gg
  have k9:=k6.trans gg.kp
  have tw9:=My.TabW.extE tw6 gg
  clear tA6 tB6 tC6 k6 tw6 gg
  refine ⟨_,rfl,A2,restF names [n],_,rfl,tB9,ln',l2,fun U1 S4 C4 G7 g7 u0 tfU pS4 pC4 dC4=>?_⟩
  refine ⟨_,rfl,_,rfl,A3,names,_,n,rfl,tC9.ext g7,nd,hnm,ln,l3,fun U2 S5 M5 G8 g8 v0 tfV pS5 pM5 dM5=>?_⟩
  obtain ⟨q1,q2,q3⟩:=chk_cs nm stC3 crC3 stM2 spM2 pS4 pC4 pS5 pM5
  refine ⟨U1,U2,restF names [n],restF names [n],_,_,rfl,tfU.tin.ext g8,tfV.tin,ln',ln',(by have:=q1.len;rw [List.length_map];omega),(by have:=q2.len;rw [List.length_map];omega),ok',ok',fun b GA gA _ sm=>?_⟩
  have hb:=qGz nd' rfl q1 q2 q3 (sm rfl)
  refine ⟨_,_,rfl,rfl,_,rfl,?_⟩
  rw [hb]
  refine iteF ?_
  have gg:=g7.trans (g8.trans gA)
  clear hb sm q1 q2 q3 tfU tfV pS4 pC4 dC4 pS5 pM5 dM5 u0 v0 g7 g8 gA
  have tAA:=tA9.ext gg
  have tBA:=tB9.ext gg
  have kA:=k9.trans gg.kp
  have twA:=My.TabW.extE tw9 gg
  clear tA9 tB9 tC9 k9 tw9 gg stC3 crC3 l3
  obtain ⟨bA,bB,hB,hbA,_⟩:=id tBA
  refine ⟨_,rfl,_,rfl,A2,_,_,_,rfl,rfl,SqT.of hB,(by exact qAy (j:=0) rfl),bA,_,rfl,.inl (SqL.of hbA),fun l hl=>?_⟩
  have X1:=Ext.new hl (.lst ((restF names [n]).map V.str))
  refine ⟨A2,l,restF names [n],_,restF names [n],rfl,tBA.ext X1,upd_same,nd',ln',l2,by omega,fun S6 M6 GB gB pS6 pM6 dM6=>?_⟩
  have ck:=chk_rs nm stS stM2 spM2 rR pS6 pM6
  have gg:=X1.trans gB
  clear hB hbA pS6 pM6 dM6
  have kB:=kA.trans gg.kp
  have okn:SOk [n]:=fun x hx=>by rw [List.mem_singleton.mp hx];exact tok.ok n hnm
  refine ⟨_,rfl,_,rfl,(by show 1<=sizeLine;decide),fun l4 hl4=>?_⟩
  have X4:=Ext.new hl4 (.lst [V.str n])
  have h4:LsS (upd GB l4 (.lst [V.str n])) l4 [n]:=upd_same
  refine ⟨_,rfl,_,_,qC9 ((kB.trans X4.kp).rows hrr),dr_row h4,qBh okR,qDg okn,?_⟩
  rw [any_rows]
  refine .inr ⟨_,rfl,_,_,rfl,rfl,rfl,_,rfl,?_⟩
  rw [ck,decide_eq_true rfl]
  refine iteF ?_
  have gg:=gg.trans X4
  clear ck kB h4 X4 gB X1
  have tAC:=tAA.ext gg
  have tBC:=tBA.ext gg
  have kC:=kA.trans gg.kp
  have twC:=My.TabW.extE twA gg
  clear tAA tBA kA twA gg hl hl4
  revert tAC tBC kC twC
  generalize upd GB l4 (.lst [V.str n])=GC
  intro tAC tBC kC twC
  obtain ⟨aA,aB,hA,haA,_⟩:=id tAC
  refine ⟨_,rfl,_,rfl,A1,_,_,_,rfl,rfl,SqT.of hA,(by exact qAy (j:=0) rfl),aA,_,rfl,.inl (SqL.of haA),fun l hl=>?_⟩
  have X1:=Ext.new hl (.lst ((restF names [n]).map V.str))
  refine ⟨A1,l,restF names [n],_,restF names [n],rfl,tAC.ext X1,upd_same,nd',ln',l1,by omega,fun S6 M6 GD gD pS6 pM6 dM6=>?_⟩
  have ck:=chk_rt nm stS stC crC stM1 spM1 rW pS6 pM6
  have gg:=X1.trans gD
  clear hA haA pS6 pM6 dM6
  have kD:=kC.trans gg.kp
  refine ⟨_,rfl,_,rfl,(by show 1<=sizeLine;decide),fun l4 hl4=>?_⟩
  have X4:=Ext.new hl4 (.lst [V.str n])
  have h4:LsS (upd GD l4 (.lst [V.str n])) l4 [n]:=upd_same
  refine ⟨_,rfl,_,_,qC9 ((kD.trans X4.kp).rows hW7),dr_row h4,qBh okW,qDg okn,?_⟩
  rw [any_rows]
  refine .inr ⟨_,rfl,_,_,rfl,rfl,rfl,_,rfl,?_⟩
  rw [ck,decide_eq_true rfl]
  refine iteF ?_
  have gg:=gg.trans X4
  clear ck kD h4 X4 gD X1
  have tAE:=tAC.ext gg
  have tBE:=tBC.ext gg
  have kE:=kC.trans gg.kp
  have twE:=My.TabW.extE twC gg
  clear tAC tBC kC twC gg hl hl4
  revert tAE tBE kE twE
  generalize upd GD l4 (.lst [V.str n])=GE
  intro tAE tBE kE twE
  refine ⟨_,rfl,A2,restF names [n],_,rfl,tBE,ln',l2,twE,fun vr Sv Cv Mv Lv FV GF eBF v0 hvr pSv pCv pMv pLv soLv pFV soFV twF=>?_⟩
  obtain ⟨sv,ev⟩:=StM.told nd' stM2 pSv
  obtain ⟨cv,rv'⟩:=st_crs sv pCv
  have rv'':=rv'.same ev
  obtain ⟨mv,fv⟩:=StM.told nd' cv pMv
  have rV:Rnd (restF names [n]) Cv FV:=rnd_of mv fv pLv soLv pFV soFV
  have eV:FV=FW.filter fun r=>!decide (n∈r):=by
   rw [nm.rl] at rv''
   have crC':=crC
   rw [nm.ln] at crC'
   exact qFj nm stC.lt (cross_shr nm.le crC' spM2 rv'') rW rV
  have okV:=rnd_ok ok' rV
  obtain ⟨tbE,hbE⟩:=My.TabW.tb twE
  obtain ⟨tbF,hbF⟩:=My.TabW.tb twF
  have kEF:=kp_B eBF hbE hbF
  have kF:=kE.trans kEF
  have tAF:=kEF.tab tAE
  clear sv ev cv rv' rv'' mv fv pSv pCv pMv pLv soLv pFV soFV eBF hbE hbF kEF tAE tBE kE twE v0 rV
  obtain ⟨ws,hws,prw⟩:=kF.rows hW7
  refine ⟨_,rfl,wr,rfl,⟨_,SqL.of hws⟩,?_⟩
  refine keep_rows (n:=n) hws prw (by omega) (fun c r hcr C B c1 b1=>⟨Sle.set _ (Sle.refl _) (fun u z=>by cases z),_,rfl,_,rfl,c,_,rfl,.inl (SqL.of hcr),rfl,flat_strs _,_,rfl,?_⟩) ?_
  ·rw [if_pos rfl,qDu]
   exact qCg (fun cc=>⟨_,rfl,c1 (by simpa using cc)⟩) (fun cc=>b1 (by simpa using cc))
  intro as' pr' l hl
  have Xl:=Ext.new hl (.lst (as'.map V.ref))
  have hF':qCo (upd GF l (.lst (as'.map V.ref))) l (FW.filter fun r=>!decide (n∈r)):=⟨as',upd_same,Paired.mapP pr' fun a t z=>Xl _ _ z⟩
  rw [<-eV] at hF'
  refine ⟨_,_,qC9 (hvr.ext Xl),qC9 hF',qBh okV,qBh okV,_,rfl,?_⟩
  rw [if_pos rfl,eqv_rows,decide_eq_true rfl]
  refine iteF ?_
  have tAG:=tAF.ext Xl
  have kG:=kF.trans Xl.kp
  have twG:=My.TabW.extE twF Xl
  clear tAF kF twF hF' pr' prw hws hvr Xl hl eV okV
  revert tAG kG twG
  generalize upd GF l (.lst (as'.map V.ref))=GG
  intro tAG kG twG
  refine ⟨_,rfl,A1,restF names [n],_,rfl,tAG,ln',l1,twG,fun vr Mv Lv FV GH eBH v0 hvr pMv pLv soLv pFV soFV twH=>?_⟩
  obtain ⟨mv,fv⟩:=StM.told nd' stM1 pMv
  have rV:Rnd (restF names [n]) M1 FV:=rnd_of mv fv pLv soLv pFV soFV
  have eV:FV=FR.filter fun r=>!decide (n∈r):=qFj nm stS.lt spM1 rR rV
  have okV:=rnd_ok ok' rV
  obtain ⟨tbG,hbG⟩:=My.TabW.tb twG
  obtain ⟨tbH,hbH⟩:=My.TabW.tb twH
  have kH:=kG.trans (kp_B eBH hbG hbH)
  clear mv fv pMv pLv soLv pFV soFV eBH hbG hbH tAG kG twG v0 rV
  obtain ⟨ws,hws,prw⟩:=kH.rows hrr
  refine ⟨_,rfl,rr,rfl,⟨_,SqL.of hws⟩,?_⟩
  refine keep_rows (n:=n) hws prw (by omega) (fun c r hcr C B c1 b1=>⟨Sle.set _ (Sle.refl _) (fun u z=>by cases z),_,rfl,_,rfl,c,_,rfl,.inl (SqL.of hcr),rfl,flat_strs _,_,rfl,?_⟩) ?_
  ·rw [if_pos rfl,qDu]
   exact qCg (fun cc=>⟨_,rfl,c1 (by simpa using cc)⟩) (fun cc=>b1 (by simpa using cc))
  intro as' pr' l hl
  have Xl:=Ext.new hl (.lst (as'.map V.ref))
  have hF':qCo (upd GH l (.lst (as'.map V.ref))) l (FR.filter fun r=>!decide (n∈r)):=⟨as',upd_same,Paired.mapP pr' fun a t z=>Xl _ _ z⟩
  rw [<-eV] at hF'
  refine ⟨_,_,qC9 (hvr.ext Xl),qC9 hF',qBh okV,qBh okV,_,rfl,?_⟩
  rw [if_pos rfl,eqv_rows,decide_eq_true rfl]
  refine iteF ?_
  exact ⟨_,_,_,_,rfl,kH.trans Xl.kp,My.TabW.extE twH Xl⟩
 ·rintro σ H' ⟨x6,x7,x8,x9,rfl,k,tw⟩
  exact q _
end
end My
namespace My
open PySem L2
theorem len1 {α:Type} {us:List α} (h:us.length=1):∃ a,us=[a]:=List.length_eq_one_iff.mp h
theorem len2 {α:Type} {us:List α} (h:us.length=2):∃ a b,us=[a,b]:=by
 match us,h with | [a,b],_=>exact ⟨a,b,rfl⟩
theorem len3 {α:Type} {us:List α} (h:us.length=3):∃ a b c,us=[a,b,c]:=by
 match us,h with | [a,b,c],_=>exact ⟨a,b,c,rfl⟩
theorem len4 {α:Type} {us:List α} (h:us.length=4):∃ a b c d,us=[a,b,c,d]:=by
 match us,h with | [a,b,c,d],_=>exact ⟨a,b,c,d,rfl⟩
theorem all_mk {l:PySem.W.OpenLaw} {w:World} {K:PySem.W.Frag} {h:Heap} {mg:Str->Option Value} {fa f1 f2 f3 f4 f5 f6 f7 f8 f9 f10 f11 f12 f13 f14 f15 f16 f17 f18 f19 f20 f21 f22 f23 f24 f25 f26 f27 f28 f29 f30 f31 f32 f33 f34 f35 f36 f37:Addr} (X:K.In h) (G:h.Ns mainGlobals mg) (hfa:mg "law" = some (.ref fa)) {c T:Addr} (ht:PySem.W.tabIn K "in_order" = some (c,T))
  {od1 an1 od2 an2 od3 an3 od4 an4 od5 an5 od6 an6 od7 an7 od8 an8 od9 an9 od10 an10 od11 an11 od12 an12 od13 an13 od14 an14 od15 an15 od16 an16 od17 an17 od18 an18 od19 an19 od20 an20 od21 an21 od22 an22 od23 an23 od24 an24 od25 an25 od26 an26 od27 an27 od28 an28 od29 an29 od30 an30 od31 an31 od32 an32 od33 an33 od34 an34 od35 an35 od36 an36 od37 an37:Option Addr} {sl1 sl2 sl3 sl4 sl5 sl6 sl7 sl8 sl9 sl10 sl11 sl12 sl13 sl14 sl15 sl16 sl17 sl18 sl19 sl20 sl21 sl22 sl23 sl24 sl25 sl26 sl27 sl28 sl29 sl30 sl31 sl32 sl33 sl34 sl35 sl36 sl37:Array (Option Value)} {oc1 kV1 dc1 pm1 cd1 ct1 oc2 kV2 dc2 pm2 cd2 ct2 oc3 kV3 dc3 pm3 cd3 ct3 oc4 kV4 dc4 pm4 cd4 ct4 oc5 kV5 dc5 pm5 cd5 ct5 oc6 kV6 dc6 pm6 cd6 ct6 oc7 kV7 dc7 pm7 cd7 ct7 oc8 kV8 dc8 pm8 cd8 ct8 oc9 kV9 dc9 pm9 cd9 ct9 oc10 kV10 dc10 pm10 cd10 ct10 oc11 kV11 dc11 pm11 cd11 ct11 oc12 kV12 dc12 pm12 cd12 ct12 oc13 kV13 dc13 pm13 cd13 ct13 oc14 kV14 dc14 pm14 cd14 ct14 oc15 kV15 dc15 pm15 cd15 ct15 oc16 kV16 dc16 pm16 cd16 ct16 oc17 kV17 dc17 pm17 cd17 ct17 oc18 kV18 dc18 pm18 cd18 ct18 oc19 kV19 dc19 pm19 cd19 ct19 oc20 kV20 dc20 pm20 cd20 ct20 oc21 kV21 dc21 pm21 cd21 ct21 oc22 kV22 dc22 pm22 cd22 ct22 oc23 kV23 dc23 pm23 cd23 ct23 oc24 kV24 dc24 pm24 cd24 ct24 oc25 kV25 dc25 pm25 cd25 ct25 oc26 kV26 dc26 pm26 cd26 ct26 oc27 kV27 dc27 pm27 cd27 ct27 oc28 kV28 dc28 pm28 cd28 ct28 oc29 kV29 dc29 pm29 cd29 ct29 oc30 kV30 dc30 pm30 cd30 ct30 oc31 kV31 dc31 pm31 cd31 ct31 oc32 kV32 dc32 pm32 cd32 ct32 oc33 kV33 dc33 pm33 cd33 ct33 oc34 kV34 dc34 pm34 cd34 ct34 oc35 kV35 dc35 pm35 cd35 ct35 oc36 kV36 dc36 pm36 cd36 ct36 oc37 kV37 dc37 pm37 cd37 ct37:Value}
  (a1:PySem.W.nsIn K mainGlobals "mask_of" = some (some (.ref f1))) (l1:K.lookup f1=some ⟨oc1,od1,.func (PySem.W.fnOf "mask_of" "mask_of" (qAq sMask) (qAp sMask) (qAc sMask) .none kV1 dc1 pm1 an1 cd1 ct1),sl1⟩) (c1:PySem.W.codeIn K cd1 "mask_of" = true) (k1:PySem.W.keepIn K (.ref f1)=true)
  (a2:PySem.W.nsIn K mainGlobals "row_of" = some (some (.ref f2))) (l2:K.lookup f2=some ⟨oc2,od2,.func (PySem.W.fnOf "row_of" "row_of" (qAq qFg) (qAp qFg) (qAc qFg) .none kV2 dc2 pm2 an2 cd2 ct2),sl2⟩) (c2:PySem.W.codeIn K cd2 "row_of" = true) (k2:PySem.W.keepIn K (.ref f2)=true)
  (a3:PySem.W.nsIn K mainGlobals "lessened" = some (some (.ref f3))) (l3:K.lookup f3=some ⟨oc3,od3,.func (PySem.W.fnOf "lessened" "lessened" (qAq sLess) (qAp sLess) (qAc sLess) .none kV3 dc3 pm3 an3 cd3 ct3),sl3⟩) (c3:PySem.W.codeIn K cd3 "lessened" = true) (k3:PySem.W.keepIn K (.ref f3)=true)
  (a4:PySem.W.nsIn K mainGlobals "reduced" = some (some (.ref f4))) (l4:K.lookup f4=some ⟨oc4,od4,.func (PySem.W.fnOf "reduced" "reduced" (qAq sRedu) (qAp sRedu) (qAc sRedu) .none kV4 dc4 pm4 an4 cd4 ct4),sl4⟩) (c4:PySem.W.codeIn K cd4 "reduced" = true) (k4:PySem.W.keepIn K (.ref f4)=true)
  (a5:PySem.W.nsIn K mainGlobals "sums" = some (some (.ref f5))) (l5:K.lookup f5=some ⟨oc5,od5,.func (PySem.W.fnOf "sums" "sums" (qAq sSums) (qAp sSums) (qAc sSums) .none kV5 dc5 pm5 an5 cd5 ct5),sl5⟩) (c5:PySem.W.codeIn K cd5 "sums" = true) (k5:PySem.W.keepIn K (.ref f5)=true)
  (a6:PySem.W.nsIn K mainGlobals "lead_of" = some (some (.ref f6))) (l6:K.lookup f6=some ⟨oc6,od6,.func (PySem.W.fnOf "lead_of" "lead_of" (qAq sLead) (qAp sLead) (qAc sLead) .none kV6 dc6 pm6 an6 cd6 ct6),sl6⟩) (c6:PySem.W.codeIn K cd6 "lead_of" = true) (k6:PySem.W.keepIn K (.ref f6)=true)
  (a7:PySem.W.nsIn K mainGlobals "crossed_masks" = some (some (.ref f7))) (l7:K.lookup f7=some ⟨oc7,od7,.func (PySem.W.fnOf "crossed_masks" "crossed_masks" (qAq sCrM) (qAp sCrM) (qAc sCrM) .none kV7 dc7 pm7 an7 cd7 ct7),sl7⟩) (c7:PySem.W.codeIn K cd7 "crossed_masks" = true) (k7:PySem.W.keepIn K (.ref f7)=true)
  (a8:PySem.W.nsIn K mainGlobals "lacking" = some (some (.ref f8))) (l8:K.lookup f8=some ⟨oc8,od8,.func (PySem.W.fnOf "lacking" "lacking" (qAq sLack) (qAp sLack) (qAc sLack) .none kV8 dc8 pm8 an8 cd8 ct8),sl8⟩) (c8:PySem.W.codeIn K cd8 "lacking" = true) (k8:PySem.W.keepIn K (.ref f8)=true)
  (a9:PySem.W.nsIn K mainGlobals "table_from" = some (some (.ref f9))) (l9:K.lookup f9=some ⟨oc9,od9,.func (PySem.W.fnOf "table_from" "table_from" (qAq sTabF) (qAp sTabF) (qAc sTabF) .none kV9 dc9 pm9 an9 cd9 ct9),sl9⟩) (c9:PySem.W.codeIn K cd9 "table_from" = true) (k9:PySem.W.keepIn K (.ref f9)=true)
  (a10:PySem.W.nsIn K mainGlobals "step_masks" = some (some (.ref f10))) (l10:K.lookup f10=some ⟨oc10,od10,.func (PySem.W.fnOf "step_masks" "step_masks" (qAq qFf) (qAp qFf) (qAc qFf) .none kV10 dc10 pm10 an10 cd10 ct10),sl10⟩) (c10:PySem.W.codeIn K cd10 "step_masks" = true) (k10:PySem.W.keepIn K (.ref f10)=true)
  (a11:PySem.W.nsIn K mainGlobals "steps" = some (some (.ref f11))) (l11:K.lookup f11=some ⟨oc11,od11,.func (PySem.W.fnOf "steps" "steps" (qAq sStps) (qAp sStps) (qAc sStps) .none kV11 dc11 pm11 an11 cd11 ct11),sl11⟩) (c11:PySem.W.codeIn K cd11 "steps" = true) (k11:PySem.W.keepIn K (.ref f11)=true)
  (a12:PySem.W.nsIn K mainGlobals "alike" = some (some (.ref f12))) (l12:K.lookup f12=some ⟨oc12,od12,.func (PySem.W.fnOf "alike" "alike" (qAq sAlk) (qAp sAlk) (qAc sAlk) .none kV12 dc12 pm12 an12 cd12 ct12),sl12⟩) (c12:PySem.W.codeIn K cd12 "alike" = true) (k12:PySem.W.keepIn K (.ref f12)=true)
  (a13:PySem.W.nsIn K mainGlobals "crossed" = some (some (.ref f13))) (l13:K.lookup f13=some ⟨oc13,od13,.func (PySem.W.fnOf "crossed" "crossed" (qAq qGj) (qAp qGj) (qAc qGj) .none kV13 dc13 pm13 an13 cd13 ct13),sl13⟩) (c13:PySem.W.codeIn K cd13 "crossed" = true) (k13:PySem.W.keepIn K (.ref f13)=true)
  (a14:PySem.W.nsIn K mainGlobals "left" = some (some (.ref f14))) (l14:K.lookup f14=some ⟨oc14,od14,.func (PySem.W.fnOf "left" "left" (qAq sLeft) (qAp sLeft) (qAc sLeft) .none kV14 dc14 pm14 an14 cd14 ct14),sl14⟩) (c14:PySem.W.codeIn K cd14 "left" = true) (k14:PySem.W.keepIn K (.ref f14)=true)
  (a15:PySem.W.nsIn K mainGlobals "taken_out" = some (some (.ref f15))) (l15:K.lookup f15=some ⟨oc15,od15,.func (PySem.W.fnOf "taken_out" "taken_out" (qAq qGh) (qAp qGh) (qAc qGh) .none kV15 dc15 pm15 an15 cd15 ct15),sl15⟩) (c15:PySem.W.codeIn K cd15 "taken_out" = true) (k15:PySem.W.keepIn K (.ref f15)=true)
  (a16:PySem.W.nsIn K mainGlobals "shrunk" = some (some (.ref f16))) (l16:K.lookup f16=some ⟨oc16,od16,.func (PySem.W.fnOf "shrunk" "shrunk" (qAq sShr) (qAp sShr) (qAc sShr) .none kV16 dc16 pm16 an16 cd16 ct16),sl16⟩) (c16:PySem.W.codeIn K cd16 "shrunk" = true) (k16:PySem.W.keepIn K (.ref f16)=true)
  (a17:PySem.W.nsIn K mainGlobals "in_order" = some (some (.ref f17))) (l17:K.lookup f17=some ⟨oc17,od17,.func (PySem.W.fnOf "in_order" "in_order" (qAq qEm) (qAp qEm) (qAc qEm) .none kV17 dc17 pm17 an17 cd17 ct17),sl17⟩) (c17:PySem.W.codeIn K cd17 "in_order" = true) (k17:PySem.W.keepIn K (.ref f17)=true)
  (a18:PySem.W.nsIn K mainGlobals "round_masks" = some (some (.ref f18))) (l18:K.lookup f18=some ⟨oc18,od18,.func (PySem.W.fnOf "round_masks" "round_masks" (qAq sRMas) (qAp sRMas) (qAc sRMas) .none kV18 dc18 pm18 an18 cd18 ct18),sl18⟩) (c18:PySem.W.codeIn K cd18 "round_masks" = true) (k18:PySem.W.keepIn K (.ref f18)=true)
  (a19:PySem.W.nsIn K mainGlobals "rounds" = some (some (.ref f19))) (l19:K.lookup f19=some ⟨oc19,od19,.func (PySem.W.fnOf "rounds" "rounds" (qAq qDq) (qAp qDq) (qAc qDq) .none kV19 dc19 pm19 an19 cd19 ct19),sl19⟩) (c19:PySem.W.codeIn K cd19 "rounds" = true) (k19:PySem.W.keepIn K (.ref f19)=true)
  (a20:PySem.W.nsIn K mainGlobals "walls" = some (some (.ref f20))) (l20:K.lookup f20=some ⟨oc20,od20,.func (PySem.W.fnOf "walls" "walls" (qAq qGg) (qAp qGg) (qAc qGg) .none kV20 dc20 pm20 an20 cd20 ct20),sl20⟩) (c20:PySem.W.codeIn K cd20 "walls" = true) (k20:PySem.W.keepIn K (.ref f20)=true)
  (a21:PySem.W.nsIn K mainGlobals "rank" = some (some (.ref f21))) (l21:K.lookup f21=some ⟨oc21,od21,.func (PySem.W.fnOf "rank" "rank" (qAq sRank) (qAp sRank) (qAc sRank) .none kV21 dc21 pm21 an21 cd21 ct21),sl21⟩) (c21:PySem.W.codeIn K cd21 "rank" = true) (k21:PySem.W.keepIn K (.ref f21)=true)
  (a22:PySem.W.nsIn K mainGlobals "_law_cell_at" = some (some (.ref f22))) (l22:K.lookup f22=some ⟨oc22,od22,.func (PySem.W.fnOf "_law_cell_at" "_law_cell_at" (qAq sCell) (qAp sCell) (qAc sCell) .none kV22 dc22 pm22 an22 cd22 ct22),sl22⟩) (c22:PySem.W.codeIn K cd22 "_law_cell_at" = true) (k22:PySem.W.keepIn K (.ref f22)=true)
  (a23:PySem.W.nsIn K mainGlobals "_law_big" = some (some (.ref f23))) (l23:K.lookup f23=some ⟨oc23,od23,.func (PySem.W.fnOf "_law_big" "_law_big" (qAq sBig) (qAp sBig) (qAc sBig) .none kV23 dc23 pm23 an23 cd23 ct23),sl23⟩) (c23:PySem.W.codeIn K cd23 "_law_big" = true) (k23:PySem.W.keepIn K (.ref f23)=true)
  (a24:PySem.W.nsIn K mainGlobals "_law_names" = some (some (.ref f24))) (l24:K.lookup f24=some ⟨oc24,od24,.func (PySem.W.fnOf "_law_names" "_law_names" (qAq qFh) (qAp qFh) (qAc qFh) .none kV24 dc24 pm24 an24 cd24 ct24),sl24⟩) (c24:PySem.W.codeIn K cd24 "_law_names" = true) (k24:PySem.W.keepIn K (.ref f24)=true)
  (a25:PySem.W.nsIn K mainGlobals "_law_ends" = some (some (.ref f25))) (l25:K.lookup f25=some ⟨oc25,od25,.func (PySem.W.fnOf "_law_ends" "_law_ends" (qAq sEnds) (qAp sEnds) (qAc sEnds) .none kV25 dc25 pm25 an25 cd25 ct25),sl25⟩) (c25:PySem.W.codeIn K cd25 "_law_ends" = true) (k25:PySem.W.keepIn K (.ref f25)=true)
  (a26:PySem.W.nsIn K mainGlobals "_law_net" = some (some (.ref f26))) (l26:K.lookup f26=some ⟨oc26,od26,.func (PySem.W.fnOf "_law_net" "_law_net" (qAq sNet) (qAp sNet) (qAc sNet) .none kV26 dc26 pm26 an26 cd26 ct26),sl26⟩) (c26:PySem.W.codeIn K cd26 "_law_net" = true) (k26:PySem.W.keepIn K (.ref f26)=true)
  (a27:PySem.W.nsIn K mainGlobals "_law_reduced" = some (some (.ref f27))) (l27:K.lookup f27=some ⟨oc27,od27,.func (PySem.W.fnOf "_law_reduced" "_law_reduced" (qAq sLRed) (qAp sLRed) (qAc sLRed) .none kV27 dc27 pm27 an27 cd27 ct27),sl27⟩) (c27:PySem.W.codeIn K cd27 "_law_reduced" = true) (k27:PySem.W.keepIn K (.ref f27)=true)
  (a28:PySem.W.nsIn K mainGlobals "_law_even" = some (some (.ref f28))) (l28:K.lookup f28=some ⟨oc28,od28,.func (PySem.W.fnOf "_law_even" "_law_even" (qAq qEl) (qAp qEl) (qAc qEl) .none kV28 dc28 pm28 an28 cd28 ct28),sl28⟩) (c28:PySem.W.codeIn K cd28 "_law_even" = true) (k28:PySem.W.keepIn K (.ref f28)=true)
  (a29:PySem.W.nsIn K mainGlobals "_law_crossing" = some (some (.ref f29))) (l29:K.lookup f29=some ⟨oc29,od29,.func (PySem.W.fnOf "_law_crossing" "_law_crossing" (qAq sLCro) (qAp sLCro) (qAc sLCro) .none kV29 dc29 pm29 an29 cd29 ct29),sl29⟩) (c29:PySem.W.codeIn K cd29 "_law_crossing" = true) (k29:PySem.W.keepIn K (.ref f29)=true)
  (a30:PySem.W.nsIn K mainGlobals "_law_small" = some (some (.ref f30))) (l30:K.lookup f30=some ⟨oc30,od30,.func (PySem.W.fnOf "_law_small" "_law_small" (qAq qF9) (qAp qF9) (qAc qF9) .none kV30 dc30 pm30 an30 cd30 ct30),sl30⟩) (c30:PySem.W.codeIn K cd30 "_law_small" = true) (k30:PySem.W.keepIn K (.ref f30)=true)
  (a31:PySem.W.nsIn K mainGlobals "_law_with_more" = some (some (.ref f31))) (l31:K.lookup f31=some ⟨oc31,od31,.func (PySem.W.fnOf "_law_with_more" "_law_with_more" (qAq sLMor) (qAp sLMor) (qAc sLMor) .none kV31 dc31 pm31 an31 cd31 ct31),sl31⟩) (c31:PySem.W.codeIn K cd31 "_law_with_more" = true) (k31:PySem.W.keepIn K (.ref f31)=true)
  (a32:PySem.W.nsIn K mainGlobals "_law_row" = some (some (.ref f32))) (l32:K.lookup f32=some ⟨oc32,od32,.func (PySem.W.fnOf "_law_row" "_law_row" (qAq sLRow) (qAp sLRow) (qAc sLRow) .none kV32 dc32 pm32 an32 cd32 ct32),sl32⟩) (c32:PySem.W.codeIn K cd32 "_law_row" = true) (k32:PySem.W.keepIn K (.ref f32)=true)
  (a33:PySem.W.nsIn K mainGlobals "_law_free" = some (some (.ref f33))) (l33:K.lookup f33=some ⟨oc33,od33,.func (PySem.W.fnOf "_law_free" "_law_free" (qAq sLFre) (qAp sLFre) (qAc sLFre) .none kV33 dc33 pm33 an33 cd33 ct33),sl33⟩) (c33:PySem.W.codeIn K cd33 "_law_free" = true) (k33:PySem.W.keepIn K (.ref f33)=true)
  (a34:PySem.W.nsIn K mainGlobals "_law_steps_of" = some (some (.ref f34))) (l34:K.lookup f34=some ⟨oc34,od34,.func (PySem.W.fnOf "_law_steps_of" "_law_steps_of" (qAq sLSto) (qAp sLSto) (qAc sLSto) .none kV34 dc34 pm34 an34 cd34 ct34),sl34⟩) (c34:PySem.W.codeIn K cd34 "_law_steps_of" = true) (k34:PySem.W.keepIn K (.ref f34)=true)
  (a35:PySem.W.nsIn K mainGlobals "_law_table" = some (some (.ref f35))) (l35:K.lookup f35=some ⟨oc35,od35,.func (PySem.W.fnOf "_law_table" "_law_table" (qAq sLTab) (qAp sLTab) (qAc sLTab) .none kV35 dc35 pm35 an35 cd35 ct35),sl35⟩) (c35:PySem.W.codeIn K cd35 "_law_table" = true) (k35:PySem.W.keepIn K (.ref f35)=true)
  (a36:PySem.W.nsIn K mainGlobals "_law_copy" = some (some (.ref f36))) (l36:K.lookup f36=some ⟨oc36,od36,.func (PySem.W.fnOf "_law_copy" "_law_copy" (qAq sLCop) (qAp sLCop) (qAc sLCop) .none kV36 dc36 pm36 an36 cd36 ct36),sl36⟩) (c36:PySem.W.codeIn K cd36 "_law_copy" = true) (k36:PySem.W.keepIn K (.ref f36)=true)
  (a37:PySem.W.nsIn K mainGlobals "law" = some (some (.ref f37))) (l37:K.lookup f37=some ⟨oc37,od37,.func (PySem.W.fnOf "law" "law" (qAq sLaw) (qAp sLaw) (qAc sLaw) .none kV37 dc37 pm37 an37 cd37 ct37),sl37⟩) (c37:PySem.W.codeIn K cd37 "law" = true) (k37:PySem.W.keepIn K (.ref f37)=true)
  (z1:PySem.W.nsIn K mainGlobals "abs" = some none)
  (z2:PySem.W.nsIn K mainGlobals "any" = some none)
  (z3:PySem.W.nsIn K mainGlobals "enumerate" = some none)
  (z4:PySem.W.nsIn K mainGlobals "int" = some none)
  (z5:PySem.W.nsIn K mainGlobals "len" = some none)
  (z6:PySem.W.nsIn K mainGlobals "list" = some none)
  (z7:PySem.W.nsIn K mainGlobals "min" = some none)
  (z8:PySem.W.nsIn K mainGlobals "range" = some none)
  (z9:PySem.W.nsIn K mainGlobals "set" = some none)
  (z10:PySem.W.nsIn K mainGlobals "sorted" = some none)
  (z11:PySem.W.nsIn K mainGlobals "sum" = some none)
  (z12:PySem.W.nsIn K mainGlobals "tuple" = some none)
  (z13:PySem.W.nsIn K mainGlobals "zip" = some none)
  : ∃ fd:FuncData,(∀ (s:Shared) (v:Value),BindsTo s fd ⟨[v],[]⟩ [("_law_script",v)])/\∀ base:Heap,K.In base->base.Ns mainGlobals mg->PySem.W.CodeHd base c T->base.BuiltinsAt mg T->FnOk l.prog w K mg base CX0 6 fa fd ["_law_script"] (spLaw K T):=by
 have e:=hfa.symm.trans (PySem.W.mg_of X G a37)
 cases e
 have F1:=qA3 (st:=sMask) l1 c1 k1
 have F2:=qA3 (st:=qFg) l2 c2 k2
 have F3:=qA3 (st:=sLess) l3 c3 k3
 have F4:=qA3 (st:=sRedu) l4 c4 k4
 have F5:=qA3 (st:=sSums) l5 c5 k5
 have F6:=qA3 (st:=sLead) l6 c6 k6
 have F7:=qA3 (st:=sCrM) l7 c7 k7
 have F8:=qA3 (st:=sLack) l8 c8 k8
 have F9:=qA3 (st:=sTabF) l9 c9 k9
 have F10:=qA3 (st:=qFf) l10 c10 k10
 have F11:=qA3 (st:=sStps) l11 c11 k11
 have F12:=qA3 (st:=sAlk) l12 c12 k12
 have F13:=qA3 (st:=qGj) l13 c13 k13
 have F14:=qA3 (st:=sLeft) l14 c14 k14
 have F15:=qA3 (st:=qGh) l15 c15 k15
 have F16:=qA3 (st:=sShr) l16 c16 k16
 have F17:=qA3 (st:=qEm) l17 c17 k17
 have F18:=qA3 (st:=sRMas) l18 c18 k18
 have F19:=qA3 (st:=qDq) l19 c19 k19
 have F20:=qA3 (st:=qGg) l20 c20 k20
 have F21:=qA3 (st:=sRank) l21 c21 k21
 have F22:=qA3 (st:=sCell) l22 c22 k22
 have F23:=qA3 (st:=sBig) l23 c23 k23
 have F24:=qA3 (st:=qFh) l24 c24 k24
 have F25:=qA3 (st:=sEnds) l25 c25 k25
 have F26:=qA3 (st:=sNet) l26 c26 k26
 have F27:=qA3 (st:=sLRed) l27 c27 k27
 have F28:=qA3 (st:=qEl) l28 c28 k28
 have F29:=qA3 (st:=sLCro) l29 c29 k29
 have F30:=qA3 (st:=qF9) l30 c30 k30
 have F31:=qA3 (st:=sLMor) l31 c31 k31
 have F32:=qA3 (st:=sLRow) l32 c32 k32
 have F33:=qA3 (st:=sLFre) l33 c33 k33
 have F34:=qA3 (st:=sLSto) l34 c34 k34
 have F35:=qA3 (st:=sLTab) l35 c35 k35
 have F36:=qA3 (st:=sLCop) l36 c36 k36
 have F37:=qA3 (st:=sLaw) l37 c37 k37
 have b1:=F1.binds (ps:=["names","row"]) fun _ _ _ _ _ _ us hl=>by obtain ⟨_,_,rfl⟩:=len2 hl;rfl
 have m1:=PySem.W.mg_of X G a1
 have b2:=F2.binds (ps:=["names","mask"]) fun _ _ _ _ _ _ us hl=>by obtain ⟨_,_,rfl⟩:=len2 hl;rfl
 have m2:=PySem.W.mg_of X G a2
 have b3:=F3.binds (ps:=["mask","kept"]) fun _ _ _ _ _ _ us hl=>by obtain ⟨_,_,rfl⟩:=len2 hl;rfl
 have m3:=PySem.W.mg_of X G a3
 have b4:=F4.binds (ps:=["masks"]) fun _ _ _ _ _ _ us hl=>by obtain ⟨_,rfl⟩:=len1 hl;rfl
 have m4:=PySem.W.mg_of X G a4
 have b5:=F5.binds (ps:=["masks"]) fun _ _ _ _ _ _ us hl=>by obtain ⟨_,rfl⟩:=len1 hl;rfl
 have m5:=PySem.W.mg_of X G a5
 have b6:=F6.binds (ps:=["mask"]) fun _ _ _ _ _ _ us hl=>by obtain ⟨_,rfl⟩:=len1 hl;rfl
 have m6:=PySem.W.mg_of X G a6
 have b7:=F7.binds (ps:=["steps","width"]) fun _ _ _ _ _ _ us hl=>by obtain ⟨_,_,rfl⟩:=len2 hl;rfl
 have m7:=PySem.W.mg_of X G a7
 have b8:=F8.binds (ps:=["masks","bit"]) fun _ _ _ _ _ _ us hl=>by obtain ⟨_,_,rfl⟩:=len2 hl;rfl
 have m8:=PySem.W.mg_of X G a8
 have b9:=F9.binds (ps:=["names","masks"]) fun _ _ _ _ _ _ us hl=>by obtain ⟨_,_,rfl⟩:=len2 hl;rfl
 have m9:=PySem.W.mg_of X G a9
 have b10:=F10.binds (ps:=["table"]) fun _ _ _ _ _ _ us hl=>by obtain ⟨_,rfl⟩:=len1 hl;rfl
 have m10:=PySem.W.mg_of X G a10
 have b11:=F11.binds (ps:=["table"]) fun _ _ _ _ _ _ us hl=>by obtain ⟨_,rfl⟩:=len1 hl;rfl
 have m11:=PySem.W.mg_of X G a11
 have b12:=F12.binds (ps:=["one","other"]) fun _ _ _ _ _ _ us hl=>by obtain ⟨_,_,rfl⟩:=len2 hl;rfl
 have m12:=PySem.W.mg_of X G a12
 have b13:=F13.binds (ps:=["table"]) fun _ _ _ _ _ _ us hl=>by obtain ⟨_,rfl⟩:=len1 hl;rfl
 have m13:=PySem.W.mg_of X G a13
 have b14:=F14.binds (ps:=["table","taken","shrunk_ones"]) fun _ _ _ _ _ _ us hl=>by obtain ⟨_,_,_,rfl⟩:=len3 hl;rfl
 have m14:=PySem.W.mg_of X G a14
 have b15:=F15.binds (ps:=["table","name"]) fun _ _ _ _ _ _ us hl=>by obtain ⟨_,_,rfl⟩:=len2 hl;rfl
 have m15:=PySem.W.mg_of X G a15
 have b16:=F16.binds (ps:=["table","name"]) fun _ _ _ _ _ _ us hl=>by obtain ⟨_,_,rfl⟩:=len2 hl;rfl
 have m16:=PySem.W.mg_of X G a16
 have b17:=F17.binds (ps:=["rows"]) fun _ _ _ _ _ _ us hl=>by obtain ⟨_,rfl⟩:=len1 hl;rfl
 have m17:=PySem.W.mg_of X G a17
 have b18:=F18.binds (ps:=["steps"]) fun _ _ _ _ _ _ us hl=>by obtain ⟨_,rfl⟩:=len1 hl;rfl
 have m18:=PySem.W.mg_of X G a18
 have b19:=F19.binds (ps:=["table"]) fun _ _ _ _ _ _ us hl=>by obtain ⟨_,rfl⟩:=len1 hl;rfl
 have m19:=PySem.W.mg_of X G a19
 have b20:=F20.binds (ps:=["table"]) fun _ _ _ _ _ _ us hl=>by obtain ⟨_,rfl⟩:=len1 hl;rfl
 have m20:=PySem.W.mg_of X G a20
 have b21:=F21.binds (ps:=["table","names"]) fun _ _ _ _ _ _ us hl=>by obtain ⟨_,_,rfl⟩:=len2 hl;rfl
 have m21:=PySem.W.mg_of X G a21
 have b22:=F22.binds (ps:=["_law_script","_law_k"]) fun _ _ _ _ _ _ us hl=>by obtain ⟨_,_,rfl⟩:=len2 hl;rfl
 have m22:=PySem.W.mg_of X G a22
 have b23:=F23.binds (ps:=["_law_script","_law_k"]) fun _ _ _ _ _ _ us hl=>by obtain ⟨_,_,rfl⟩:=len2 hl;rfl
 have m23:=PySem.W.mg_of X G a23
 have b24:=F24.binds (ps:=["_law_big_here","_law_many"]) fun _ _ _ _ _ _ us hl=>by obtain ⟨_,_,rfl⟩:=len2 hl;rfl
 have m24:=PySem.W.mg_of X G a24
 have b25:=F25.binds (ps:=["_law_big_here","_law_many","_law_spread"]) fun _ _ _ _ _ _ us hl=>by obtain ⟨_,_,_,rfl⟩:=len3 hl;rfl
 have m25:=PySem.W.mg_of X G a25
 have b26:=F26.binds (ps:=["_law_script","_law_at"]) fun _ _ _ _ _ _ us hl=>by obtain ⟨_,_,rfl⟩:=len2 hl;rfl
 have m26:=PySem.W.mg_of X G a26
 have b27:=F27.binds (ps:=["_law_numbers"]) fun _ _ _ _ _ _ us hl=>by obtain ⟨_,rfl⟩:=len1 hl;rfl
 have m27:=PySem.W.mg_of X G a27
 have b28:=F28.binds (ps:=["_law_net_here"]) fun _ _ _ _ _ _ us hl=>by obtain ⟨_,rfl⟩:=len1 hl;rfl
 have m28:=PySem.W.mg_of X G a28
 have b29:=F29.binds (ps:=["_law_numbers","_law_many"]) fun _ _ _ _ _ _ us hl=>by obtain ⟨_,_,rfl⟩:=len2 hl;rfl
 have m29:=PySem.W.mg_of X G a29
 have b30:=F30.binds (ps:=["_law_kind"]) fun _ _ _ _ _ _ us hl=>by obtain ⟨_,rfl⟩:=len1 hl;rfl
 have m30:=PySem.W.mg_of X G a30
 have b31:=F31.binds (ps:=["_law_base","_law_many","_law_big_here","_law_most"]) fun _ _ _ _ _ _ us hl=>by obtain ⟨_,_,_,_,rfl⟩:=len4 hl;rfl
 have m31:=PySem.W.mg_of X G a31
 have b32:=F32.binds (ps:=["_law_names_here","_law_number"]) fun _ _ _ _ _ _ us hl=>by obtain ⟨_,_,rfl⟩:=len2 hl;rfl
 have m32:=PySem.W.mg_of X G a32
 have b33:=F33.binds (ps:=["_law_big_here","_law_many"]) fun _ _ _ _ _ _ us hl=>by obtain ⟨_,_,rfl⟩:=len2 hl;rfl
 have m33:=PySem.W.mg_of X G a33
 have b34:=F34.binds (ps:=["_law_script","_law_at"]) fun _ _ _ _ _ _ us hl=>by obtain ⟨_,_,rfl⟩:=len2 hl;rfl
 have m34:=PySem.W.mg_of X G a34
 have b35:=F35.binds (ps:=["_law_script","_law_at"]) fun _ _ _ _ _ _ us hl=>by obtain ⟨_,_,rfl⟩:=len2 hl;rfl
 have m35:=PySem.W.mg_of X G a35
 have b36:=F36.binds (ps:=["_law_table_here"]) fun _ _ _ _ _ _ us hl=>by obtain ⟨_,rfl⟩:=len1 hl;rfl
 have m36:=PySem.W.mg_of X G a36
 have n_abs:=PySem.W.mg_none_of X G z1
 have n_any:=PySem.W.mg_none_of X G z2
 have n_enumerate:=PySem.W.mg_none_of X G z3
 have n_int:=PySem.W.mg_none_of X G z4
 have n_len:=PySem.W.mg_none_of X G z5
 have n_list:=PySem.W.mg_none_of X G z6
 have n_min:=PySem.W.mg_none_of X G z7
 have n_range:=PySem.W.mg_none_of X G z8
 have n_set:=PySem.W.mg_none_of X G z9
 have n_sorted:=PySem.W.mg_none_of X G z10
 have n_sum:=PySem.W.mg_none_of X G z11
 have n_tuple:=PySem.W.mg_none_of X G z12
 have n_zip:=PySem.W.mg_none_of X G z13
 refine ⟨PySem.W.fnOf "law" "law" (qAq sLaw) (qAp sLaw) (qAc sLaw) .none kV37 dc37 pm37 an37 cd37 ct37,fun s v=>.of_eq rfl,fun base _ _ hC hB=>?_⟩
 have g1:=ok_mask (P:=l.prog) (w:=w) (mg:=mg) (base:=base) F1
 have g2:=ok_rowOf (P:=l.prog) (w:=w) (base:=base) F2  n_len n_enumerate
 have g3:=ok_less (P:=l.prog) (w:=w) (base:=base) F3  n_min
 have g4:=ok_redu (P:=l.prog) (w:=w) (base:=base) F4 g3 b3 k3 m3 n_min n_sorted
 have g5:=ok_sums (P:=l.prog) (w:=w) (mg:=mg) (base:=base) F5
 have g6:=ok_lead (P:=l.prog) (w:=w) (mg:=mg) (base:=base) F6
 have g7:=ok_crM (P:=l.prog) (w:=w) (base:=base) F7 g6 b6 k6 m6 n_sum n_range
 have g8:=ok_lack (P:=l.prog) (w:=w) (mg:=mg) (base:=base) F8
 have g9:=ok_tabF (P:=l.prog) (w:=w) (base:=base) F9 g2 b2 k2 m2 g4 b4 k4 m4 n_list
 have g10:=ok_stepM (P:=l.prog) (w:=w) (base:=base) F10 g1 b1 k1 m1 g4 b4 k4 m4
 have g11:=ok_stps (P:=l.prog) (w:=w) (base:=base) F11 g2 b2 k2 m2 g10 b10 k10 m10
 have g12:=ok_alk (P:=l.prog) (w:=w) (base:=base) F12 g11 b11 k11 m11
 have g13:=ok_cross (P:=l.prog) (w:=w) (base:=base) F13 g9 b9 k9 m9 g7 b7 k7 m7 g10 b10 k10 m10 n_len
 have g14:=ok_left (P:=l.prog) (w:=w) (base:=base) F14 g10 b10 k10 m10 g8 b8 k8 m8 g1 b1 k1 m1 g2 b2 k2 m2 g9 b9 k9 m9
 have g15:=ok_taken (P:=l.prog) (w:=w) (base:=base) F15 g14 b14 k14 m14
 have g16:=ok_shr (P:=l.prog) (w:=w) (base:=base) F16 g14 b14 k14 m14
 have g17:=ok_inOrd (P:=l.prog) (w:=w) (base:=base) F17 (code_of F17 a17 ht) hC hB  n_len n_sorted
 have g18:=ok_rmas (P:=l.prog) (w:=w) (base:=base) F18 g5 b5 k5 m5 n_sorted n_any
 have g19:=ok_rounds (P:=l.prog) (w:=w) (base:=base) F19 g17 b17 k17 m17 g18 b18 k18 m18 g10 b10 k10 m10 g2 b2 k2 m2
 have g20:=ok_walls (P:=l.prog) (w:=w) (base:=base) F20 g19 b19 k19 m19 g13 b13 k13 m13
 have g21:=ok_rank (P:=l.prog) (w:=w) (base:=base) F21 g14 b14 k14 m14 n_len
 have g22:=ok_cell (P:=l.prog) (w:=w) (base:=base) F22  n_len
 have g23:=ok_big (P:=l.prog) (w:=w) (base:=base) F23 g22 b22 k22 m22 n_range n_abs
 have g24:=ok_names (P:=l.prog) (w:=w) (base:=base) F24  n_range n_len
 have g25:=ok_ends (P:=l.prog) (w:=w) (base:=base) F25  n_range n_len n_list
 have g26:=ok_net (P:=l.prog) (w:=w) (base:=base) F26 g23 b23 k23 m23 g25 b25 k25 m25 g24 b24 k24 m24 n_len n_zip n_tuple n_sorted
 have g27:=ok_lred (P:=l.prog) (w:=w) (mg:=mg) (base:=base) F27
 have g28:=ok_leven (P:=l.prog) (w:=w) (base:=base) F28  n_sorted n_set n_enumerate
 have g29:=ok_lcro (P:=l.prog) (w:=w) (base:=base) F29 g27 b27 k27 m27 n_sum n_range
 have g30:=ok_lsma (P:=l.prog) (w:=w) (base:=base) F30 g29 b29 k29 m29 g27 b27 k27 m27 n_sum n_range n_enumerate n_len
 have g31:=ok_lmor (P:=l.prog) (w:=w) (base:=base) F31  n_len
 have g32:=ok_lrow (P:=l.prog) (w:=w) (base:=base) F32  n_enumerate
 have g33:=ok_lfre (P:=l.prog) (w:=w) (base:=base) F33  n_range
 have g34:=ok_lsto (P:=l.prog) (w:=w) (base:=base) F34 g23 b23 k23 m23 g26 b26 k26 m26 g28 b28 k28 m28 g33 b33 k33 m33 g30 b30 k30 m30 g31 b31 k31 m31 g27 b27 k27 m27 n_len n_min
 have g35:=ok_ltab (P:=l.prog) (w:=w) (base:=base) F35 g34 b34 k34 m34 g24 b24 k24 m24 g23 b23 k23 m23 g32 b32 k32 m32 n_len n_list n_sorted n_range
 have g36:=ok_lcop (P:=l.prog) (w:=w) (base:=base) F36  n_list
 exact ok_law F37 g35 b35 k35 m35 g36 b36 k36 m36 g21 b21 k21 m21 g20 b20 k20 m20 g19 b19 k19 m19 g15 b15 k15 m15 g16 b16 k16 m16 g13 b13 k13 m13 g12 b12 k12 m12 n_list n_int
theorem walk {l:PySem.W.OpenLaw} {q:Program} {loose:List Str} {XP:(Str->Option Value)->Heap->Prop} {YP:World->Heap->Prop} {d dr:DefRec} {K:Params->PySem.W.Frag} (hn:l.most=some 63) (hdf:d.params.defaults=[])
  (hY:∀ (w:World) (h:Heap),YP w h->(K w.params).In h) (hrec:(PyProof.Rows.recsOf q).find? (fun e=>e.name == ("in_order" : Str))=some dr)
  (hK:∀ w:World,∃ c T,PySem.W.tabIn (K w.params) "in_order" = some (c,T)/\PySem.W.noTabs (K w.params)=true)
  (F:∀ (w:World) (mg:Str->Option Value) (fa:Addr) (h:Heap) (c T:Addr),(K w.params).In h->h.Ns mainGlobals mg->mg d.name=some (.ref fa)->PySem.W.tabIn (K w.params) "in_order" = some (c,T) ->
   ∃ fd:FuncData,(∀ (s:Shared) (u:Value),BindsTo s fd ⟨[u],[]⟩ [("_law_script",u)])/\∀ base:Heap,(K w.params).In base->base.Ns mainGlobals mg->PySem.W.CodeHd base c T->base.BuiltinsAt mg T->FnOk l.prog w (K w.params) mg base CX0 6 fa fd ["_law_script"] (spLaw (K w.params) T)) :
  PySem.W.WalkO q loose XP YP l.row.toRowW d [] (fun f vs=>PySem.call f vs) :=
 L2.walk_ofT (n:=63) (k:=6) (x:="_law_script") (CX:=fun _=>CX0) (sp:=fun w T=>spLaw (K w.params) T) hn (by decide) hdf ⟨rfl,by decide,by decide,rfl⟩ hY hrec hK F (fun _ _ _ a ns hl hT hS=>⟨a,ns,rfl,hS,hl,hT,fun _=>rfl⟩) fun _ _ _ _ _ z=>z
theorem tab_mk {K:PySem.W.Frag} {x:Str} {f c T:Addr} {ob ob2:Obj} {fd:FuncData} {vs:Array Value} (a:PySem.W.nsIn K mainGlobals x=some (some (.ref f))) (l:K.lookup f=some ob) (e1:ob.data = .func fd) (e2:fd.code = .ref c) (l2:K.lookup c=some ob2) (e3:ob2.data = .fields vs) (e4:(vs[11]?:Option Value)=some (.ref T)):PySem.W.tabIn K x=some (c,T):=by
 obtain ⟨o1,o2,o3,o4⟩:=ob
 obtain ⟨p1,p2,p3,p4⟩:=ob2
 cases e1
 cases e3
 unfold PySem.W.tabIn
 rw [a];dsimp only
 rw [l];dsimp only
 rw [e2];dsimp only
 rw [l2];dsimp only
 rw [e4]
end My
namespace PySem.W.Fast
def tw10148195523880198475 := 0
def tw10428448479353139484 := 0
def tw10431044862596732767 := 0
def tw10483238228524170942 := 0
def tw1053019211858794555 := 0
def tw10589549652341682037 := 0
def tw10943716520370140060 := 0
def tw10988566125883313286 := 0
def tw110025753341159112 := 0
def tw11022377259833175557 := 0
def tw11151741657499470065 := 0
def tw11188686955850522383 := 0
def tw11221254471912372412 := 0
def tw11351296501221754104 := 0
def tw11377283554506214779 := 0
def tw11401426362247236328 := 0
def tw11410808686994057259 := 0
def tw11472224432949324038 := 0
def tw11480701163960559339 := 0
def tw11510828741453100426 := 0
def tw11527238585221029810 := 0
def tw11527852752661014715 := 0
def tw11544267659773819870 := 0
def tw116350279055349434 := 0
def tw1167924988374860896 := 0
def tw11786059468643336576 := 0
def tw11793804322214816218 := 0
def tw11840024499336909935 := 0
def tw11877117536003202783 := 0
def tw11886285313454341866 := 0
def tw12016241096229999457 := 0
def tw12106490477452265276 := 0
def tw12168936405054003037 := 0
def tw12237928618481621590 := 0
def tw12249454906616887725 := 0
def tw12385339981929775701 := 0
def tw12394869753669739678 := 0
def tw12421192933588090369 := 0
def tw12425045382515461157 := 0
def tw12511077575761283707 := 0
def tw12670590617305617702 := 0
def tw12742934907796148277 := 0
def tw12747088025896010671 := 0
def tw12753025010364730210 := 0
def tw1281949501950136126 := 0
def tw12862178224315434091 := 0
def tw12920994599302760381 := 0
def tw12923511406091818699 := 0
def tw12924206713274657195 := 0
def tw12925513260299339512 := 0
def tw12970498452967118699 := 0
def tw13023709941625781911 := 0
def tw13121861964036031183 := 0
def tw13144259809904748754 := 0
def tw13211008705715187136 := 0
def tw13232397273429376241 := 0
def tw13240285321899331819 := 0
def tw13261179426786147017 := 0
def tw13291503977831569448 := 0
def tw13333271985095880957 := 0
def tw13346394347243960056 := 0
def tw13358983583796880627 := 0
def tw13546356981059022293 := 0
def tw13557015792115539700 := 0
def tw13706660105197406229 := 0
def tw13745451512181757512 := 0
def tw13802733521052826982 := 0
def tw13825311062350993026 := 0
def tw13881869970216140661 := 0
def tw14024449140561485134 := 0
def tw14041743804281536627 := 0
def tw1406686541605467195 := 0
def tw14181598596451355453 := 0
def tw14278687824459127412 := 0
def tw14307887901121149965 := 0
def tw14320494159493988654 := 0
def tw14451683225339892276 := 0
def tw14618340598654414990 := 0
def tw1462123333161078920 := 0
def tw14644644872063079610 := 0
def tw14665146336477135170 := 0
def tw14689015790765571481 := 0
def tw14746150873416479503 := 0
def tw1475166062414059595 := 0
def tw14752909866170851752 := 0
def tw14944340799879170808 := 0
def tw15139241822728443857 := 0
def tw15248607931415409815 := 0
def tw15292278824106099225 := 0
def tw15316854005360250333 := 0
def tw1548639726321787493 := 0
def tw15522314245839882438 := 0
def tw15666984121821637861 := 0
def tw15709577358391386053 := 0
def tw15726100754433557790 := 0
def tw15729605856440448862 := 0
def tw15858849085614711558 := 0
def tw15965534654036566406 := 0
def tw16025042340258666957 := 0
def tw16047341544840596157 := 0
def tw16423928764928025372 := 0
def tw16527040357305472152 := 0
def tw16551869149611355799 := 0
def tw16588366361887973354 := 0
def tw16594287516189651587 := 0
def tw16604220676678127412 := 0
def tw16619842498016328275 := 0
def tw16629304658679170742 := 0
def tw16870489494448684508 := 0
def tw1688584679951335637 := 0
def tw1702658709562206956 := 0
def tw17098651022150926918 := 0
def tw17159894217755229186 := 0
def tw17190408705753031620 := 0
def tw17223384444072260815 := 0
def tw17368506093007811903 := 0
def tw1739860628018728803 := 0
def tw17659957691902663880 := 0
def tw17720675262137901351 := 0
def tw17764311482025249274 := 0
def tw17880855417061105540 := 0
def tw17910045875397479240 := 0
def tw17937710813520808240 := 0
def tw18085121312332876766 := 0
def tw18140811468192916697 := 0
def tw18159381888264504445 := 0
def tw18202791105976352024 := 0
def tw18309729056950981213 := 0
def tw18401605767363003220 := 0
def tw1877316374124806141 := 0
def tw1911874821535817190 := 0
def tw1992528252053457169 := 0
def tw1992972951002662908 := 0
def tw2058959325212324917 := 0
def tw2075656261848423671 := 0
def tw2116948098326109253 := 0
def tw212476539662505988 := 0
def tw2183589122769617340 := 0
def tw2286940029076992811 := 0
def tw2442921892503305777 := 0
def tw2688492745889157012 := 0
def tw2773018585099840393 := 0
def tw2807073360481986493 := 0
def tw2833654506348208390 := 0
def tw2944969342022061147 := 0
def tw3087381592327124784 := 0
def tw3101913067305804384 := 0
def tw3126429013180154836 := 0
def tw3176920785233045624 := 0
def tw3277664062239165086 := 0
def tw3292685144741624815 := 0
def tw3466271628305373445 := 0
def tw3648970021620808707 := 0
def tw3935460992264155125 := 0
def tw4002315493053586077 := 0
def tw401165741229755429 := 0
def tw4077805821202463023 := 0
def tw4166737293761409701 := 0
def tw4357357375632938424 := 0
def tw4521929731180489394 := 0
def tw4566936782997661311 := 0
def tw4576350298776662912 := 0
def tw4626957253404297343 := 0
def tw4793898308042264523 := 0
def tw4794297141393232434 := 0
def tw4805379649876901035 := 0
def tw4808504713411207504 := 0
def tw4830559634849958507 := 0
def tw4867289897461167575 := 0
def tw4920751435996403965 := 0
def tw4991187025916854226 := 0
def tw5044876499416715889 := 0
def tw5249972550322500268 := 0
def tw5262437657397800736 := 0
def tw5429429337829732860 := 0
def tw5456349018528900609 := 0
def tw5521392040208563465 := 0
def tw5667639461364352106 := 0
def tw5739748483421711334 := 0
def tw5802327958716188322 := 0
def tw5852127506548641629 := 0
def tw5920054984239355872 := 0
def tw5978389178124689792 := 0
def tw6034683185453521752 := 0
def tw6140613758264973339 := 0
def tw6174744616044243847 := 0
def tw6274291326734984954 := 0
def tw6346330876315986779 := 0
def tw6348492213020220724 := 0
def tw6431722660927258413 := 0
def tw6543363096709065112 := 0
def tw6654543966060205489 := 0
def tw6683987112316066742 := 0
def tw6731046579304931924 := 0
def tw675249312378967028 := 0
def tw6766370055209583169 := 0
def tw6876481921580443258 := 0
def tw6928733704152959268 := 0
def tw6967205950156963111 := 0
def tw7027138280796896260 := 0
def tw7052792709920586063 := 0
def tw7128119743468689868 := 0
def tw7155698294507262012 := 0
def tw7183397520412836886 := 0
def tw7272338090022613044 := 0
def tw7372536688782456046 := 0
def tw7437423263909217264 := 0
def tw7445402336836143252 := 0
def tw7451147958916458732 := 0
def tw7572698739937577991 := 0
def tw757876906245040896 := 0
def tw7582731357659965697 := 0
def tw7624703733511195857 := 0
def tw7654270150389549821 := 0
def tw76554695528717791 := 0
def tw7688297518473228015 := 0
def tw7714316783182135074 := 0
def tw7859337809581395683 := 0
def tw7895457858796209263 := 0
def tw7990024646664638929 := 0
def tw8043489230844612739 := 0
def tw8236189314378010 := 0
def tw8291137192770853028 := 0
def tw8332570574792054252 := 0
def tw8473556071372210819 := 0
def tw8480602334856797499 := 0
def tw8484353021095385293 := 0
def tw8599347698909548070 := 0
def tw8657999045380503156 := 0
def tw8681719003180191824 := 0
def tw8686579068035865156 := 0
def tw8699912387372627827 := 0
def tw8843672736197844285 := 0
def tw895156820576534870 := 0
def tw9041787706805049847 := 0
def tw9062811349797057218 := 0
def tw9124961313326729911 := 0
def tw9228019912390809252 := 0
def tw9268569679931071001 := 0
def tw9339953591670858205 := 0
def tw9357185040482978577 := 0
def tw9372126606356241782 := 0
def tw9401534971252872356 := 0
def tw9442163946602167546 := 0
def tw9508349262659297158 := 0
def tw9510245439012265817 := 0
def tw9587405276233215795 := 0
def tw9692787134243578152 := 0
def tw9859298828582499038 := 0
def tw9860020473250114815 := 0
def tw9861698534853192586 := 0
def tw9918464696428421098 := 0
end PySem.W.Fast
open PySem PySem.W PyProof.Rows
set_option maxRecDepth 100000 in
set_option maxHeartbeats 0 in
theorem PySem.Challenge.cw_roundsalone_k17_whole_taken_and_crossed_holds : PySem.Challenge.rw_roundsalone_k17_whole_taken_and_crossed.Holds := by
 w_on;o_law;k_head;(case hw=>w_witness2)
 k_fill
 refine' My.walk (l:=PySem.Challenge.rw_roundsalone_k17_whole_taken_and_crossed) rfl rfl (fun w h Y=>PySem.W.km_in_of Y) ?hr ?Kt ?F
 case hr=>rfl
 case Kt =>
  intro w
  refine' ⟨_,_,My.tab_mk ?a ?l ?e1 ?e2 ?l2 ?e3 ?e4,?n⟩
  (case a=>k_is)
  (case l=>k_is)
  (case e1=>rfl)
  (case e2=>rfl)
  (case l2=>k_is)
  (case e3=>rfl)
  (case e4=>rfl)
  (case n=>kernel_rfl)
 case F =>
  intro w mg fa h c T KX G hmg ht
  refine' My.all_mk KX G hmg ht ?a1 ?l1 ?c1 ?k1 ?a2 ?l2 ?c2 ?k2 ?a3 ?l3 ?c3 ?k3 ?a4 ?l4 ?c4 ?k4 ?a5 ?l5 ?c5 ?k5 ?a6 ?l6 ?c6 ?k6 ?a7 ?l7 ?c7 ?k7 ?a8 ?l8 ?c8 ?k8 ?a9 ?l9 ?c9 ?k9 ?a10 ?l10 ?c10 ?k10 ?a11 ?l11 ?c11 ?k11 ?a12 ?l12 ?c12 ?k12 ?a13 ?l13 ?c13 ?k13 ?a14 ?l14 ?c14 ?k14 ?a15 ?l15 ?c15 ?k15 ?a16 ?l16 ?c16 ?k16 ?a17 ?l17 ?c17 ?k17 ?a18 ?l18 ?c18 ?k18 ?a19 ?l19 ?c19 ?k19 ?a20 ?l20 ?c20 ?k20 ?a21 ?l21 ?c21 ?k21 ?a22 ?l22 ?c22 ?k22 ?a23 ?l23 ?c23 ?k23 ?a24 ?l24 ?c24 ?k24 ?a25 ?l25 ?c25 ?k25 ?a26 ?l26 ?c26 ?k26 ?a27 ?l27 ?c27 ?k27 ?a28 ?l28 ?c28 ?k28 ?a29 ?l29 ?c29 ?k29 ?a30 ?l30 ?c30 ?k30 ?a31 ?l31 ?c31 ?k31 ?a32 ?l32 ?c32 ?k32 ?a33 ?l33 ?c33 ?k33 ?a34 ?l34 ?c34 ?k34 ?a35 ?l35 ?c35 ?k35 ?a36 ?l36 ?c36 ?k36 ?a37 ?l37 ?c37 ?k37 ?z1 ?z2 ?z3 ?z4 ?z5 ?z6 ?z7 ?z8 ?z9 ?z10 ?z11 ?z12 ?z13
  (case a1=>k_is)
  (case l1=>k_is)
  (case c1=>k_is)
  (case k1=>k_is)
  (case a2=>k_is)
  (case l2=>k_is)
  (case c2=>k_is)
  (case k2=>k_is)
  (case a3=>k_is)
  (case l3=>k_is)
  (case c3=>k_is)
  (case k3=>k_is)
  (case a4=>k_is)
  (case l4=>k_is)
  (case c4=>k_is)
  (case k4=>k_is)
  (case a5=>k_is)
  (case l5=>k_is)
  (case c5=>k_is)
  (case k5=>k_is)
  (case a6=>k_is)
  (case l6=>k_is)
  (case c6=>k_is)
  (case k6=>k_is)
  (case a7=>k_is)
  (case l7=>k_is)
  (case c7=>k_is)
  (case k7=>k_is)
  (case a8=>k_is)
  (case l8=>k_is)
  (case c8=>k_is)
  (case k8=>k_is)
  (case a9=>k_is)
  (case l9=>k_is)
  (case c9=>k_is)
  (case k9=>k_is)
  (case a10=>k_is)
  (case l10=>k_is)
  (case c10=>k_is)
  (case k10=>k_is)
  (case a11=>k_is)
  (case l11=>k_is)
  (case c11=>k_is)
  (case k11=>k_is)
  (case a12=>k_is)
  (case l12=>k_is)
  (case c12=>k_is)
  (case k12=>k_is)
  (case a13=>k_is)
  (case l13=>k_is)
  (case c13=>k_is)
  (case k13=>k_is)
  (case a14=>k_is)
  (case l14=>k_is)
  (case c14=>k_is)
  (case k14=>k_is)
  (case a15=>k_is)
  (case l15=>k_is)
  (case c15=>k_is)
  (case k15=>k_is)
  (case a16=>k_is)
  (case l16=>k_is)
  (case c16=>k_is)
  (case k16=>k_is)
  (case a17=>k_is)
  (case l17=>k_is)
  (case c17=>k_is)
  (case k17=>k_is)
  (case a18=>k_is)
  (case l18=>k_is)
  (case c18=>k_is)
  (case k18=>k_is)
  (case a19=>k_is)
  (case l19=>k_is)
  (case c19=>k_is)
  (case k19=>k_is)
  (case a20=>k_is)
  (case l20=>k_is)
  (case c20=>k_is)
  (case k20=>k_is)
  (case a21=>k_is)
  (case l21=>k_is)
  (case c21=>k_is)
  (case k21=>k_is)
  (case a22=>k_is)
  (case l22=>k_is)
  (case c22=>k_is)
  (case k22=>k_is)
  (case a23=>k_is)
  (case l23=>k_is)
  (case c23=>k_is)
  (case k23=>k_is)
  (case a24=>k_is)
  (case l24=>k_is)
  (case c24=>k_is)
  (case k24=>k_is)
  (case a25=>k_is)
  (case l25=>k_is)
  (case c25=>k_is)
  (case k25=>k_is)
  (case a26=>k_is)
  (case l26=>k_is)
  (case c26=>k_is)
  (case k26=>k_is)
  (case a27=>k_is)
  (case l27=>k_is)
  (case c27=>k_is)
  (case k27=>k_is)
  (case a28=>k_is)
  (case l28=>k_is)
  (case c28=>k_is)
  (case k28=>k_is)
  (case a29=>k_is)
  (case l29=>k_is)
  (case c29=>k_is)
  (case k29=>k_is)
  (case a30=>k_is)
  (case l30=>k_is)
  (case c30=>k_is)
  (case k30=>k_is)
  (case a31=>k_is)
  (case l31=>k_is)
  (case c31=>k_is)
  (case k31=>k_is)
  (case a32=>k_is)
  (case l32=>k_is)
  (case c32=>k_is)
  (case k32=>k_is)
  (case a33=>k_is)
  (case l33=>k_is)
  (case c33=>k_is)
  (case k33=>k_is)
  (case a34=>k_is)
  (case l34=>k_is)
  (case c34=>k_is)
  (case k34=>k_is)
  (case a35=>k_is)
  (case l35=>k_is)
  (case c35=>k_is)
  (case k35=>k_is)
  (case a36=>k_is)
  (case l36=>k_is)
  (case c36=>k_is)
  (case k36=>k_is)
  (case a37=>k_is)
  (case l37=>k_is)
  (case c37=>k_is)
  (case k37=>k_is)
  (case z1=>k_is)
  (case z2=>k_is)
  (case z3=>k_is)
  (case z4=>k_is)
  (case z5=>k_is)
  (case z6=>k_is)
  (case z7=>k_is)
  (case z8=>k_is)
  (case z9=>k_is)
  (case z10=>k_is)
  (case z11=>k_is)
  (case z12=>k_is)
  (case z13=>k_is)
#print axioms PySem.Challenge.cw_roundsalone_k17_whole_taken_and_crossed_holds
