import PyProof.Rows.All
import Wide.All
import OpenK.AllK
import Wide.FinOn
import Lean
import PyProof.EqAt
import PyProof.EqKinds
import PyProof.TupleCall
import PyProof.ReprBulk
import PyProof.FString5
import PyProof.Rows.StrJoin2
import PyProof.Rows.StrSplitAre
import PyProof.CollectIter
import PySem.Challenge.RW_roundsalone_k72_texts_written
set_option Elab.async false
set_option linter.all false
set_option maxRecDepth 100000
namespace L2
open PySem PySem.Spec PyProof.Rows
abbrev Key := Sum Int Str
def keyIs : Key → Value → Bool
  | .inl k, v => Value.isInt k v
  | .inr x, v => Value.isStrOf x v
def keyH (w : World) : Key → Int
  | .inl k => hashInt k
  | .inr x => hashStr w x
theorem keyIs_shape : ∀ {k : Key} {v : Value}, keyIs k v = true → (∃ i t, k = Sum.inl i ∧ v = Value.int i t) ∨ (∃ x t, k = Sum.inr x ∧ v = Value.str x t)
  | .inl i, v, h => by
    obtain ⟨t, e⟩ := Value.isInt_shape (k := i) (v := v) h
    exact .inl ⟨i, t, rfl, e⟩
  | .inr x, v, h => by
    obtain ⟨t, e⟩ := Value.isStrOf_shape (x := x) (v := v) h
    exact .inr ⟨x, t, rfl, e⟩
theorem key_ll (a b : Int) : decide ((Sum.inl a : Key) = Sum.inl b) = (a == b) := by
  by_cases e : a = b
  · subst e; simp
  · have h : ¬ (Sum.inl a : Key) = Sum.inl b := fun q => e (Sum.inl.inj q)
    rw [decide_eq_false h]
    exact (beq_eq_false_iff_ne.mpr e).symm
theorem key_rr (a b : Str) : decide ((Sum.inr a : Key) = Sum.inr b) = decide (a = b) := by
  by_cases e : a = b
  · subst e; simp
  · have h : ¬ (Sum.inr a : Key) = Sum.inr b := fun q => e (Sum.inr.inj q)
    rw [decide_eq_false h, decide_eq_false e]
theorem key_lr (a : Int) (b : Str) : decide ((Sum.inl a : Key) = Sum.inr b) = false := decide_eq_false (fun q => nomatch q)
theorem key_rl (a : Str) (b : Int) : decide ((Sum.inr a : Key) = Sum.inl b) = false := decide_eq_false (fun q => nomatch q)
def mixKind (prog : Program) (w : World) : PySem.KeyKind prog w Key where
  is := keyIs
  hash := keyH w
  inj := fun v a b ha hb => by
    rcases keyIs_shape ha with ⟨i, t, rfl, rfl⟩ | ⟨x, t, rfl, rfl⟩
    · rcases keyIs_shape hb with ⟨j, u, rfl, e⟩ | ⟨y, u, rfl, e⟩
      · injection e with e1 _; rw [e1]
      · exact nomatch e
    · rcases keyIs_shape hb with ⟨j, u, rfl, e⟩ | ⟨y, u, rfl, e⟩
      · exact nomatch e
      · injection e with e1 _; rw [e1]
  byValue := fun k v h => by
    rcases keyIs_shape h with ⟨i, t, rfl, rfl⟩ | ⟨x, t, rfl, rfl⟩ <;> rfl
  pyHash := fun hv h => by
    rcases keyIs_shape hv with ⟨i, t, rfl, rfl⟩ | ⟨x, t, rfl, rfl⟩
    · exact wpAny_pyHash_int h
    · exact wpAny_pyHash_str h
  eqBool := fun hu hv h => by
    rcases keyIs_shape hu with ⟨i, t, rfl, rfl⟩ | ⟨x, t, rfl, rfl⟩
    · rcases keyIs_shape hv with ⟨j, u, rfl, rfl⟩ | ⟨y, u, rfl, rfl⟩
      · rw [key_ll] at h; exact wpAny_eqBool_int h
      · rw [key_lr] at h; exact SeqAt.EqAt.int_str i t y u _ _ _ _ h
    · rcases keyIs_shape hv with ⟨j, u, rfl, rfl⟩ | ⟨y, u, rfl, rfl⟩
      · rw [key_rl] at h; exact SeqAt.EqAt.str_int x t j u _ _ _ _ h
      · rw [key_rr] at h; exact wpAny_eqBool_str h
  «strs» := fun k x t v h => by
    rcases keyIs_shape h with ⟨i, u, rfl, e⟩ | ⟨y, u, rfl, e⟩
    · exact nomatch e
    · injection e with e1 _
      subst e1
      cases v <;> rfl
end L2
namespace L2
open PySem PySem.Spec PyProof.Rows
inductive V where
  | non | bl (b : Bool) | int (i : Int) | str (x : Str) | byt (b : Array UInt8) | flt (b : UInt64) | ref (a : Addr) | ty (n : String)
  deriving DecidableEq
def qCn : V → Value → Prop
  | .non, u => u = Value.none
  | .bl b, u => u = Value.bool b
  | .int i, u => ∃ t, u = Value.int i t
  | .str x, u => ∃ t, u = Value.str x t
  | .byt b, u => ∃ t, u = Value.bytes b t
  | .flt b, u => ∃ t, u = Value.float b t
  | .ref a, u => u = Value.ref a
  | .ty n, u => u = Value.type n
abbrev qBa : List V → List Value → Prop := Paired qCn
theorem qBa.length {xs : List V} {us : List Value} (r : qBa xs us) : xs.length = us.length := Paired.length r
theorem qBa.get : ∀ {xs : List V} {us : List Value} {i : Nat} {x : V}, qBa xs us → xs[i]? = some x → ∃ u, us[i]? = some u ∧ qCn x u
  | _, _, _, _, .nil, e => by simp at e
  | _, _, 0, _, .cons r _, e => by simp at e; subst e; exact ⟨_, rfl, r⟩
  | _, _, i + 1, x, .cons _ t, e => by
    obtain ⟨u, h1, h2⟩ := qBa.get (i := i) (x := x) t (by simpa using e)
    exact ⟨u, by simpa using h1, h2⟩
theorem qBa.append : ∀ {xs ys : List V} {us ws : List Value}, qBa xs us → qBa ys ws → qBa (xs ++ ys) (us ++ ws)
  | _, _, _, _, .nil, s => s
  | _, _, _, _, .cons r t, s => .cons r (qBa.append t s)
theorem qBa.take : ∀ {xs : List V} {us : List Value} (n : Nat), qBa xs us → qBa (xs.take n) (us.take n)
  | _, _, 0, _ => .nil
  | _, _, _ + 1, .nil => .nil
  | _, _, n + 1, .cons r t => .cons r (qBa.take n t)
theorem qBa.drop : ∀ {xs : List V} {us : List Value} (n : Nat), qBa xs us → qBa (xs.drop n) (us.drop n)
  | _, _, 0, r => r
  | _, _, _ + 1, .nil => .nil
  | _, _, n + 1, .cons _ t => qBa.drop n t
def RelO : Option V → Option Value → Prop
  | some v, some u => qCn v u
  | none, none => True
  | _, _ => False
def KV {κ : Type} : List (κ × V) → List (κ × Value) → Prop := Paired fun (p : κ × V) (q : κ × Value) => p.1 = q.1 ∧ qCn p.2 q.2
def kV : Key → V
  | .inl i => .int i
  | .inr x => .str x
inductive HO where
    | lst (xs : List V)
    | tup (xs : List V)
    | dK (kvs : List (Key × V)) | dT (kvs : List (List Key × V))
    | set (S : Int → Bool) (n : Nat)
    | ins (C dx : Addr) (fs : List (Str × V))
    | own (x : Addr)
    | xd (fs : List (Str × V))
    | met (f x : Addr)
    | rng (lo hi : Int)
    | frz (o : Obj) (u : HO)
    | tbl (ps : Array Value)
    | ext (φ : Heap → Prop)
abbrev Hp := Addr → Option HO
def upd (H : Hp) (a : Addr) (o : HO) : Hp := fun b => if b = a then some o else H b
theorem upd_same {H : Hp} {a : Addr} {o : HO} : upd H a o a = some o := by unfold upd; rw [if_pos rfl]
theorem qAr {H : Hp} {a b : Addr} {o : HO} (h : b ≠ a) : upd H a o b = H b := by unfold upd; rw [if_neg h]
theorem qAp {H : Hp} {a b : Addr} {o : HO} (h : H a = some o) (h' : H b = none) : a ≠ b := by
  intro e; subst e; rw [h] at h'; cases h'
section
variable (P : Program) (w : World)
def qCe (H : Hp) (h : Heap) (a : Addr) : HO → Prop
  | .lst xs => xs.length ≤ sizeLine ∧ ∃ (its : List Value) (n : Nat), qBa xs its ∧ h.get? a = some { cls := .type "list", data := .seq its.toArray n }
  | .tup xs => xs.length ≤ sizeLine ∧ ∃ its : List Value, qBa xs its ∧ IsTup h a its.toArray
  | .dK kvs => kvs.length ≤ sizeLine ∧ (a == sysModules) = false ∧ ∃ vs, KV kvs vs ∧ h.DictOf (mixKind P w) a vs
  | .dT kvs => kvs.length ≤ sizeLine ∧ (a == sysModules) = false ∧ ∃ xs : List (List Key × Addr × Value),
      Paired (fun (p : List Key × V) (q : List Key × Addr × Value) => p.1 = q.1 ∧ H q.2.1 = some (.tup (p.1.map kV)) ∧ qCn p.2 q.2.2) kvs xs ∧
      ∃ o es ep, h.get? a = some o ∧ o.ExactDict ∧ o.data = .dict es ep ∧ es.toList = xs.map (entryOfKey (tupleKind (mixKind P w))) ∧ (xs.map (·.1)).Nodup
  | .set S n => h.SetOf (intKind P w) a S n
  | .ins C dx fs => H dx = some (.own a) ∧ fs.length ≤ 1000 ∧ dx ≠ a ∧ h.get? a = some (PySem.W.instObj C dx) ∧
      ∃ mA, h.Ns1 dx mA ∧ (∀ f, RelO (fs.lookup f) (mA f)) ∧ PySem.Within mA (fs.map (·.1))
  | .own _ => ∃ o, h.get? a = some o
  | .xd fs => ∃ mA, h.Ns1 a mA ∧ ∀ f, RelO (fs.lookup f) (mA f)
  | .rng lo hi => ∃ t u v, h.get? a = some { cls := .type "range", data := .fields #[.int lo t, .int hi u, .int 1 v] }
  | .frz o u => h.get? a = some o ∧ qCe H h a u
  | .tbl ps => h.get? a = some { cls := .none, data := .fields ps }
  | .met f x => h.get? a = some (PySem.W.methodObj (.ref f) (.ref x))
  | .ext φ => φ h ∧ (∃ o, h.get? a = some o) ∧ ∀ h1 h2 : Heap, φ h1 → (∀ o, h1.get? a = some o → h2.get? a = some o) → φ h2
def HOk (H : Hp) (h : Heap) : Prop := ∀ a o, H a = some o → qCe P w H h a o
end
section
variable {P : Program} {w : World} {H H' : Hp} {h h' : Heap} {a : Addr} {o : HO}
theorem qCe.lt (x : qCe P w H h a o) : a < h.objs.size := by
  cases o with
  | lst xs => obtain ⟨_, _, _, _, e⟩ := x; exact Heap.lt_size e
  | tup xs => obtain ⟨_, _, _, p⟩ := x; exact p.lt
  | dK kvs => obtain ⟨_, _, _, _, o, _, _, e, _⟩ := x; exact Heap.lt_size e
  | dT kvs => obtain ⟨_, _, _, _, o, _, _, e, _⟩ := x; exact Heap.lt_size e
  | set S n => obtain ⟨o, _, _, _, e, _⟩ := x; exact Heap.lt_size e
  | ins C dx fs => obtain ⟨_, _, _, e, _⟩ := x; exact Heap.lt_size e
  | own y => obtain ⟨_, e⟩ := x; exact Heap.lt_size e
  | xd fs => obtain ⟨_, ⟨_, _, _, e, _⟩, _⟩ := x; exact Heap.lt_size e
  | rng lo hi => obtain ⟨_, _, _, e⟩ := x; exact Heap.lt_size e
  | frz ob u => obtain ⟨e, _⟩ := x; exact Heap.lt_size e
  | tbl ps => exact Heap.lt_size (show h.get? a = some _ from x)
  | met f y => exact Heap.lt_size (show h.get? a = some _ from x)
  | ext φ => obtain ⟨_, ⟨_, e⟩, _⟩ := x; exact Heap.lt_size e
theorem Paired.mapP {α β : Type} {F G : α → β → Prop} : ∀ {l₁ : List α} {l₂ : List β}, Paired F l₁ l₂ → (∀ a b, F a b → G a b) → Paired G l₁ l₂
  | _, _, .nil, _ => .nil
  | _, _, .cons r t, f => .cons (f _ _ r) (Paired.mapP t f)
theorem qCe.stay (x : qCe P w H h a o) (k : ∀ b u, (b = a ∨ H b = some (.own a)) → h.get? b = some u → h'.get? b = some u)
    (ho : ∀ b, H b = some (.own a) → H' b = some (.own a)) (ht : ∀ b xs, H b = some (.tup xs) → H' b = some (.tup xs)) : qCe P w H' h' a o := by
  induction o with
  | lst xs => obtain ⟨z, its, n, r, e⟩ := x; exact ⟨z, its, n, r, k _ _ (.inl rfl) e⟩
  | tup xs => obtain ⟨z, its, r, ob, e, c⟩ := x; exact ⟨z, its, r, ob, k _ _ (.inl rfl) e, c⟩
  | dK kvs => obtain ⟨z, y, vs, r, ob, es, ep, e, c⟩ := x; exact ⟨z, y, vs, r, ob, es, ep, k _ _ (.inl rfl) e, c⟩
  | dT kvs =>
    obtain ⟨z, y, xs, r, ob, es, ep, e, c⟩ := x
    exact ⟨z, y, xs, Paired.mapP r fun p q z => ⟨z.1, ht _ _ z.2.1, z.2.2⟩, ob, es, ep, k _ _ (.inl rfl) e, c⟩
  | set S n => obtain ⟨ob, es, ep, t, e, c⟩ := x; exact ⟨ob, es, ep, t, k _ _ (.inl rfl) e, c⟩
  | ins C dx fs =>
    obtain ⟨d, z, ne, e, mA, ⟨od, es, ep, e2, c⟩, r⟩ := x
    exact ⟨ho _ d, z, ne, k _ _ (.inl rfl) e, mA, ⟨od, es, ep, k _ _ (.inr d) e2, c⟩, r⟩
  | own y => obtain ⟨ob, e⟩ := x; exact ⟨ob, k _ _ (.inl rfl) e⟩
  | xd fs => obtain ⟨mA, ⟨od, es, ep, e, c⟩, r⟩ := x; exact ⟨mA, ⟨od, es, ep, k _ _ (.inl rfl) e, c⟩, r⟩
  | rng lo hi => obtain ⟨t, u, v, e⟩ := x; exact ⟨t, u, v, k _ _ (.inl rfl) e⟩
  | frz ob u ih => obtain ⟨e, q⟩ := x; exact ⟨k _ _ (.inl rfl) e, ih q⟩
  | tbl ps =>
    have e : h.get? a = some { cls := .none, data := .fields ps } := x
    show h'.get? a = some { cls := .none, data := .fields ps }
    exact k a _ (.inl rfl) e
  | met f y =>
    have e : h.get? a = some (PySem.W.methodObj (.ref f) (.ref y)) := x
    show h'.get? a = some (PySem.W.methodObj (.ref f) (.ref y))
    exact k a _ (.inl rfl) e
  | ext φ => obtain ⟨p, ⟨o, e⟩, st⟩ := x; exact ⟨st _ _ p fun o q => k _ _ (.inl rfl) q, ⟨o, k _ _ (.inl rfl) e⟩, st⟩
theorem HOk.lt (x : HOk P w H h) (e : H a = some o) : a < h.objs.size := (x a o e).lt
theorem HOk.fresh (x : HOk P w H h) (e : h.objs.size ≤ a) : H a = none := by
  cases q : H a with
  | none => rfl
  | some u => exact absurd (Nat.lt_of_lt_of_le (x.lt q) e) (Nat.lt_irrefl _)
theorem HOk.kept (x : HOk P w H h) (k : ∀ b u, h.get? b = some u → h'.get? b = some u) : HOk P w H h' := fun a o e =>
  (x a o e).stay (fun b u _ q => k b u q) (fun _ q => q) fun _ _ q => q
theorem HOk.laid (x : HOk P w H h) (k : ∀ b u, h.get? b = some u → h'.get? b = some u) (hp : h.objs.size ≤ a) (new : qCe P w (upd H a o) h' a o) : HOk P w (upd H a o) h' := fun b u e => by
  have hn := x.fresh hp
  by_cases hb : b = a
  · subst hb; rw [upd_same] at e; cases e; exact new
  · rw [qAr hb] at e
    exact (x b u e).stay (fun c v _ q => k c v q) (fun c q => by rw [qAr (qAp q hn)]; exact q) fun c xs q => by rw [qAr (qAp q hn)]; exact q
end
def Rd (H : Hp) (a : Addr) (u : HO) : Prop := H a = some u ∨ ∃ o, H a = some (.frz o u)
theorem Rd.ok {P : Program} {w : World} {H : Hp} {h : Heap} {a : Addr} {u : HO} (r : Rd H a u) (x : HOk P w H h) : qCe P w H h a u := by
  rcases r with r | ⟨o, r⟩
  · exact x a u r
  · obtain ⟨_, q⟩ := x a _ r
    exact q
def Mut : Option HO → Prop
  | some (.lst _) => True
  | some (.dK _) => True
  | some (.dT _) => True
  | some (.set _ _) => True
  | some (.ins _ _ _) => True
  | some (.ext _) => True
  | _ => False
section
variable {P : Program} {w : World} {H : Hp} {h h' : Heap} {x e : Addr} {o' : HO}
theorem HOk.write (ok : HOk P w H h) (mu : Mut (H x)) (he : e = x ∨ H e = some (.own x)) (k : ∀ b u, b ≠ e → h.get? b = some u → h'.get? b = some u) (heo : ∃ u, h'.get? e = some u)
    (new : qCe P w (upd H x o') h' x o') : HOk P w (upd H x o') h' := fun b u q => by
  have nown : ∀ c y, H c = some (.own y) → c ≠ x := fun c y r z => by subst z; rw [r] at mu; exact mu
  have ntup : ∀ c xs, H c = some (.tup xs) → c ≠ x := fun c xs r z => by subst z; rw [r] at mu; exact mu
  by_cases hb : b = x
  · subst hb; rw [upd_same] at q; cases q; exact new
  · rw [qAr hb] at q
    by_cases hbe : b = e
    · have q' : H b = some (.own x) := by
        rcases he with z | z
        · exact absurd (hbe.trans z) hb
        · rw [hbe]; exact z
      rw [q] at q'; cases q'
      obtain ⟨v, hv⟩ := heo
      exact ⟨v, by rw [hbe]; exact hv⟩
    · refine (ok b u q).stay (fun c v hc r => k c v ?_ r) (fun c r => by rw [qAr (nown c b r)]; exact r) fun c xs r => by rw [qAr (ntup c xs r)]; exact r
      rcases hc with rfl | hc
      · exact hbe
      · rintro rfl
        rcases he with z | z
        · exact nown c b hc z
        · rw [hc] at z; cases z; exact hb rfl
end
structure Un (fs ex : List Addr) (H H' : Hp) (h h' : Heap) : Prop where
  keep : ∀ b o, h.get? b = some o → H b = none → b ∉ fs → b ∉ ex → h'.get? b = some o
  slot : ∀ b o, h.get? b = some o → H b = none → b ∈ fs → b ∉ ex → ∃ sl, h'.get? b = some { o with slots := sl }
  free : ∀ b o, h.get? b = some o → H b = none → b ∉ ex → H' b = none
  there : ∀ b o, h.get? b = some o → b ∉ ex → ∃ o', h'.get? b = some o'
  tups : ∀ b xs, H b = some (.tup xs) → H' b = some (.tup xs)
  frzs : ∀ b o u, H b = some (.frz o u) → H' b = some (.frz o u)
  tbls : ∀ b ps, H b = some (.tbl ps) → ∃ more, H' b = some (.tbl (ps ++ more))
section
variable {fs fs' ex ex' : List Addr} {H H1 H2 : Hp} {h h1 h2 h' : Heap} {a x e : Addr} {o : HO}
theorem Un.any (u : Un fs ex H H1 h h1) {b : Addr} {ob : Obj} (q : h.get? b = some ob) (n : H b = none) (hx : b ∉ ex) : ∃ sl, h1.get? b = some { ob with slots := sl } := by
  by_cases hb : b ∈ fs
  · exact u.slot b ob q n hb hx
  · exact ⟨ob.slots, u.keep b ob q n hb hx⟩
theorem Un.kept (k : ∀ b u, h.get? b = some u → h'.get? b = some u) : Un fs ex H H h h' :=
  ⟨fun b ob q _ _ _ => k b ob q, fun b ob q _ _ _ => ⟨ob.slots, k b ob q⟩, fun _ _ _ n _ => n, fun b ob q _ => ⟨ob, k b ob q⟩, fun _ _ q => q, fun _ _ _ q => q, fun _ ps q => ⟨#[], by rw [q]; simp⟩⟩
theorem Un.refl : Un fs ex H H h h := Un.kept fun _ _ q => q
theorem Un.laid (k : ∀ b u, h.get? b = some u → h'.get? b = some u) (hp : h.objs.size ≤ a) (hn : H a = none) : Un fs ex H (upd H a o) h h' where
  keep := fun b u q _ _ _ => k b u q
  slot := fun b u q _ _ _ => ⟨u.slots, k b u q⟩
  free := fun b u q n _ => by rw [qAr (Nat.ne_of_lt (Nat.lt_of_lt_of_le (Heap.lt_size q) hp))]; exact n
  there := fun b u q _ => ⟨u, k b u q⟩
  tups := fun b xs q => by rw [qAr (qAp q hn)]; exact q
  frzs := fun b u xs q => by rw [qAr (qAp q hn)]; exact q
  tbls := fun b ps q => ⟨#[], by rw [qAr (qAp q hn), q]; simp⟩
theorem Un.write (mu : Mut (H x)) (he : e = x ∨ H e = some (.own x)) (k : ∀ b u, b ≠ e → h.get? b = some u → h'.get? b = some u) (heo : ∃ u, h'.get? e = some u) : Un fs ex H (upd H x o) h h' := by
  have hx : ∀ b, H b = none → b ≠ x := fun b n z => by subst z; rw [n] at mu; exact mu
  have hb : ∀ b, H b = none → b ≠ e := fun b n z => by
    subst z
    rcases he with r | r
    · exact hx b n r
    · rw [n] at r; cases r
  have hm : ∀ b u, H b = some u → ¬ Mut (some u) → b ≠ x := fun b u q nm z => by subst z; rw [q] at mu; exact nm mu
  refine ⟨fun b u q n _ _ => k b u (hb b n) q, fun b u q n _ _ => ⟨u.slots, k b u (hb b n) q⟩, fun b u q n _ => by rw [qAr (hx b n)]; exact n, fun b u q _ => ?_,
    fun b xs q => by rw [qAr (hm b _ q fun z => z)]; exact q, fun b u xs q => by rw [qAr (hm b _ q fun z => z)]; exact q, fun b ps q => ⟨#[], by rw [qAr (hm b _ q fun z => z), q]; simp⟩⟩
  by_cases hbe : b = e
  · subst hbe; exact heo
  · exact ⟨u, k b u hbe q⟩
end
def trk (h : Heap) (H : Hp) : List Addr := (List.range h.objs.size).filter fun a => (H a).isSome
def hidT (h : Heap) (H : Hp) : Heap := PySem.W.hideAll h (trk h H)
theorem hidT_size (h : Heap) (H : Hp) : (hidT h H).objs.size = h.objs.size := PySem.W.hideAll_size _ _
theorem hidT_get {h : Heap} {H : Hp} {b : Addr} {o : Obj} (e : h.get? b = some o) (n : H b = none) : (hidT h H).get? b = some o :=
  PySem.W.hideAll_get _ e fun hm => by
    have q : (H b).isSome = true := (List.mem_filter.mp hm).2
    rw [n] at q; simp at q
theorem of_hidT {h : Heap} {H : Hp} {b : Addr} {o : Obj} (e : (hidT h H).get? b = some o) : h.get? b = some o ∧ H b = none := by
  have e' : h.get? b = some o := PySem.W.of_hideAll (trk h H) e
  refine ⟨e', ?_⟩
  cases q : H b with
  | none => rfl
  | some x =>
    have hm : b ∈ trk h H := List.mem_filter.mpr ⟨List.mem_range.mpr (Heap.lt_size e'), by simp [q]⟩
    have z : (hidT h H).get? b = none := PySem.W.hideAll_none (trk h H) hm
    rw [z] at e; cases e
def allNews (g h : Heap) (L : Addr) : List (Addr × Obj) := (List.range h.objs.size).filterMap fun a => if a = L ∨ (g.get? a).isSome = true then none else (h.get? a).map fun o => (a, o)
def rest (g h : Heap) (L d : Addr) : List (Addr × Obj) := (allNews g h L).filter fun p => decide (p.1 ≠ d)
end L2
namespace L2
open PySem PySem.Spec PyProof.Rows
structure Mod (K : PySem.W.Frag) (mg : Str → Option Value) (base : Heap) : Prop where
  kin : K.In base
  glob : base.Ns mainGlobals mg
  blt : ∃ mb, base.Ns builtinsNs mb ∧ ∀ x : Str, x ≠ "__name__" → mb x = bootBuiltins x
  nolimit : base.NoLimit
structure Cx where
  prog : Program
  w : World
  K : PySem.W.Frag
  mg : Str → Option Value
  base : Heap
  A : Around
  N : List Str
  s₀ : Shared
  H₀ : Hp
  env : Env
  outer : List Env
  stack : List Env
  ex : List Addr
  fn : Str → Bool
  calm : Bool
  pn : List (Addr × Obj)
  xe : Value → Shared → Prop
def frs (l : List Env) : List Addr := l.filterMap (·.frame)
abbrev Cx.fs (X : Cx) : List Addr := frs X.outer
def Vis (sc : Scope) (x : Str) : Prop := sc.names.lookup x = some .local ∨ sc.names.lookup x = some .cell ∨ sc.names.lookup x = some .free
def Loc (sc : Scope) (x : Str) : Prop := sc.names.lookup x = some .local ∨ sc.names.lookup x = some .cell
def Look (env : Env) (h : Heap) (m : Str → Option Value) (x : Str) (u : Value) : Prop :=
  (env.kindOf x = some .local ∧ m x = some u) ∨ ((env.kindOf x = some .cell ∨ env.kindOf x = some .free) ∧ ∃ c, env.cells.lookup x = some c ∧ h.IsCell c (some u))
structure Cx.Ok (X : Cx) : Prop where
  mod : Mod X.K X.mg X.base
  kind : X.env.scope.kind = .function
  glob : X.env.globals = mainGlobals
  blt : X.env.builtins = builtinsNs
  above : X.s₀.heap.objs.size ≤ X.env.locals
  inj : ∀ x y c, X.env.cells.lookup x = some c → X.env.cells.lookup y = some c → x = y
  has : ∀ x, (X.env.kindOf x = some .cell ∨ X.env.kindOf x = some .free) → ∃ c, X.env.cells.lookup x = some c
  cab : ∀ x c, X.fn x = true → X.env.cells.lookup x = some c → X.s₀.heap.objs.size ≤ c
  hd : X.calm = true → X.A.handled = none
  frames : X.A.frames = some X.stack
  stk : X.stack = X.outer ∨ (X.stack = X.env :: X.outer ∧ X.env.frame = some X.env.locals)
  exf : ∀ b ∈ X.ex, b ≠ X.env.locals ∧ ∀ x c, X.env.cells.lookup x = some c → c ≠ b
  bs : ∀ b o, X.base.get? b = some o → X.s₀.heap.get? b = some o ∧ X.H₀ b = none
  bsz : X.base.objs.size ≤ X.s₀.heap.objs.size
  noex : ∀ b o, X.base.get? b = some o → b ∉ X.ex
  exfs : ∀ b ∈ X.ex, b ∉ X.fs
  funs : X.s₀.heap.FunFrames X.base X.outer
  frf : ∀ b ∈ X.fs, X.H₀ b = none
structure Inv (X : Cx) (pins : List (Addr × Obj)) (σ : List (Option V)) (H : Hp) (s : Shared) : Prop where
  ok : X.Ok
  os : s.os = X.s₀.os
  bare : AllBare s.gens
  base : Un X.fs X.ex X.H₀ H X.s₀.heap s.heap
  loc : ∃ m, s.heap.Ns X.env.locals m ∧ ∀ (i : Nat) (x : Str) (v : V), X.N[i]? = some x → σ[i]? = some (some v) → Vis X.env.scope x → ∃ u, qCn v u ∧ Look X.env s.heap m x u
  cell : ∀ x c, X.env.cells.lookup x = some c → ∃ v, s.heap.IsCell c v
  free : H X.env.locals = none
  freeC : ∀ x c, X.env.cells.lookup x = some c → H c = none
  pin : ∀ p ∈ X.pn ++ pins, s.heap.get? p.1 = some p.2 ∧ H p.1 = none ∧ p.1 ≠ X.env.locals ∧ p.1 ∉ X.fs ∧ ∀ v, p.2.data ≠ .cell v
  hok : HOk X.prog X.w H s.heap
  len : σ.length = X.N.length
section
variable {X : Cx} {pins : List (Addr × Obj)} {σ : List (Option V)} {H H' : Hp} {s : Shared} {h' : Heap}
theorem Cx.Ok.nofr (ok : X.Ok) {b : Addr} {o : Obj} (e : X.base.get? b = some o) : b ∉ X.fs := fun hb => by
  have := (ok.funs.mem hb).1
  rw [e] at this; cases this
theorem Inv.bs (I : Inv X pins σ H s) : ∀ b o, X.base.get? b = some o → s.heap.get? b = some o ∧ H b = none := fun b o e =>
  ⟨I.base.keep b o (I.ok.bs b o e).1 (I.ok.bs b o e).2 (I.ok.nofr e) (I.ok.noex b o e), I.base.free b o (I.ok.bs b o e).1 (I.ok.bs b o e).2 (I.ok.noex b o e)⟩
theorem Inv.bk (I : Inv X pins σ H s) : ∀ b o, X.base.get? b = some o → s.heap.get? b = some o := fun b o e => (I.bs b o e).1
theorem Inv.mod (I : Inv X pins σ H s) : Mod X.K X.mg X.base := I.ok.mod
theorem Inv.kIn (I : Inv X pins σ H s) : X.K.In s.heap := I.ok.mod.kin.keeps I.bk
theorem Inv.lt (I : Inv X pins σ H s) : X.env.locals < s.heap.objs.size := let ⟨_, hn, _⟩ := I.loc; hn.lt
theorem Inv.sz (I : Inv X pins σ H s) : X.s₀.heap.objs.size ≤ s.heap.objs.size := Nat.le_trans I.ok.above (Nat.le_of_lt I.lt)
theorem Inv.nofs (I : Inv X pins σ H s) {a : Addr} (h : s.heap.objs.size ≤ a) : a ∉ X.fs := fun hb => by
  obtain ⟨_, o, ho, _⟩ := I.ok.funs.mem hb
  exact absurd (Nat.lt_of_lt_of_le (Heap.lt_size ho) (Nat.le_trans I.sz h)) (Nat.lt_irrefl _)
theorem Inv.cne (I : Inv X pins σ H s) : ∀ x c, X.env.cells.lookup x = some c → c ≠ X.env.locals := fun x c e z => by
  obtain ⟨v, o, ho, hd⟩ := I.cell x c e
  obtain ⟨m, ⟨o', es, ep, ho', hd', _⟩, _⟩ := I.loc
  rw [z, ho'] at ho; cases ho; rw [hd'] at hd; cases hd
theorem Inv.funs (I : Inv X pins σ H s) : s.heap.FunFrames X.base X.outer := by
  have all : ∀ (l : List Env), (∀ b ∈ frs l, b ∈ X.fs) → X.s₀.heap.FunFrames X.base l → s.heap.FunFrames X.base l := by
    intro l
    induction l with
    | nil => intro _ _; trivial
    | cons env r ih =>
      intro hs hl
      obtain ⟨hk, ⟨L, o, hf, hn, ho, hd⟩, hr⟩ := hl
      have hL : L ∈ X.fs := hs L (by unfold frs; rw [List.filterMap_cons, hf]; exact List.mem_cons_self)
      obtain ⟨sl, e⟩ := I.base.slot L o ho (I.ok.frf L hL) hL fun z => I.ok.exfs L z hL
      exact ⟨hk, ⟨L, _, hf, hn, e, hd⟩, ih (fun b hb => hs b (by unfold frs; rw [List.filterMap_cons, hf]; exact List.mem_cons_of_mem _ hb)) hr⟩
  exact all X.outer (fun _ hb => hb) I.ok.funs
theorem Inv.stack (I : Inv X pins σ H s) : s.heap.FunFrames X.base X.stack := by
  rcases I.ok.stk with e | ⟨e, hf⟩
  · rw [e]; exact I.funs
  · rw [e]
    obtain ⟨m, hn, _⟩ := I.loc
    refine .cons (by rw [I.ok.kind]; decide) hf hn ?_ I.funs
    exact Heap.get?_none_of_le (Nat.le_trans I.ok.bsz I.ok.above)
theorem Inv.stkSub (I : Inv X pins σ H s) : ∀ b ∈ frs X.stack, b ∈ X.env.locals :: X.fs := fun b hb => by
  rcases I.ok.stk with e | ⟨e, hf⟩
  · rw [e] at hb; exact List.mem_cons_of_mem _ hb
  · rw [e] at hb
    unfold frs at hb
    rw [List.filterMap_cons, hf] at hb
    exact hb
theorem Inv.stkFree (I : Inv X pins σ H s) : ∀ b ∈ frs X.stack, H b = none := fun b hb => by
  rcases List.mem_cons.mp (I.stkSub b hb) with e | hb
  · rw [e]; exact I.free
  · obtain ⟨_, o, ho, _⟩ := I.ok.funs.mem hb
    exact I.base.free b o ho (I.ok.frf b hb) fun z => I.ok.exfs b z hb
theorem Inv.step {g' : Array GenState} {t' : Nat} {d' : Drawn} {ch : List Addr} (I : Inv X pins σ H s)
    (hch : ∀ b ∈ ch, (b ∈ X.ex ∨ X.s₀.heap.objs.size ≤ b) ∧ b ≠ X.env.locals ∧ (∀ x c, X.env.cells.lookup x = some c → c ≠ b) ∧ ∀ p ∈ X.pn ++ pins, p.1 ≠ b)
    (keep : ∀ b o, b ≠ X.env.locals → b ∉ X.fs → b ∉ ch → s.heap.get? b = some o → H b = none → h'.get? b = some o)
    (slot : ∀ b o, b ≠ X.env.locals → b ∈ X.fs → b ∉ ch → s.heap.get? b = some o → H b = none → ∃ sl, h'.get? b = some { o with slots := sl }) (free : ∀ b o, b ∉ ch → s.heap.get? b = some o → H b = none → H' b = none)
    (there : ∀ b o, b ∉ ch → s.heap.get? b = some o → ∃ o', h'.get? b = some o')
    (tups : ∀ b xs, H b = some (.tup xs) → H' b = some (.tup xs)) (frzs : ∀ b o u, H b = some (.frz o u) → H' b = some (.frz o u)) (tbls : ∀ b ps, H b = some (.tbl ps) → ∃ more, H' b = some (.tbl (ps ++ more)))
    (ns : ∀ m, s.heap.Ns X.env.locals m → h'.Ns X.env.locals m) (hok : HOk X.prog X.w H' h') (hg : AllBare g') :
    Inv X pins σ H' { s with heap := h', gens := g', drawn := d', toks := t' } := by
  have neL : ∀ b o, X.s₀.heap.get? b = some o → b ≠ X.env.locals := fun b o e => Nat.ne_of_lt (Nat.lt_of_lt_of_le (Heap.lt_size e) I.ok.above)
  have neC : ∀ b o, X.s₀.heap.get? b = some o → b ∉ X.ex → b ∉ ch := fun b o e hx hb => by
    rcases (hch b hb).1 with z | z
    · exact hx z
    · exact absurd (Nat.lt_of_lt_of_le (Heap.lt_size e) z) (Nat.lt_irrefl _)
  have cellK : ∀ x c, X.env.cells.lookup x = some c → ∀ v, s.heap.IsCell c v → h'.IsCell c v := fun x c e v ⟨o, ho, hd⟩ => by
    have nch : c ∉ ch := fun z => (hch c z).2.2.1 x c e rfl
    by_cases hc : c ∈ X.fs
    · obtain ⟨sl, q⟩ := slot c o (I.cne x c e) hc nch ho (I.freeC x c e)
      exact ⟨_, q, hd⟩
    · exact ⟨o, keep c o (I.cne x c e) hc nch ho (I.freeC x c e), hd⟩
  refine ⟨I.ok, I.os, hg, ⟨fun b o e n hb hx => ?_, fun b o e n hb hx => ?_, fun b o e n hx => ?_, fun b o e hx => ?_, fun b xs e => tups b xs (I.base.tups b xs e), fun b o xs e => frzs b o xs (I.base.frzs b o xs e), fun b ps e => ?_⟩, ?_, fun x c e => ?_, ?_, fun x c e => ?_, fun p hp => ?_, hok, I.len⟩
  · exact keep b o (neL b o e) hb (neC b o e hx) (I.base.keep b o e n hb hx) (I.base.free b o e n hx)
  · obtain ⟨sl, e1⟩ := I.base.slot b o e n hb hx
    obtain ⟨sl', e2⟩ := slot b _ (neL b o e) hb (neC b o e hx) e1 (I.base.free b o e n hx)
    exact ⟨sl', e2⟩
  · obtain ⟨o', e1⟩ := I.base.there b o e hx
    exact free b o' (neC b o e hx) e1 (I.base.free b o e n hx)
  · obtain ⟨o', e1⟩ := I.base.there b o e hx
    exact there b o' (neC b o e hx) e1
  · obtain ⟨m1, e1⟩ := I.base.tbls b ps e
    obtain ⟨m2, e2⟩ := tbls b _ e1
    exact ⟨m1 ++ m2, by rw [e2, Array.append_assoc]⟩
  · obtain ⟨m, hn, hl⟩ := I.loc
    refine ⟨m, ns m hn, fun i x v e1 e2 e3 => ?_⟩
    obtain ⟨u, r, l⟩ := hl i x v e1 e2 e3
    refine ⟨u, r, ?_⟩
    rcases l with l | ⟨k, c, e, z⟩
    · exact .inl l
    · exact .inr ⟨k, c, e, cellK x c e _ z⟩
  · obtain ⟨v, z⟩ := I.cell x c e
    exact ⟨v, cellK x c e v z⟩
  · obtain ⟨m, ⟨o, _, _, ho, _⟩, _⟩ := I.loc
    exact free _ o (fun z => (hch _ z).2.1 rfl) ho I.free
  · obtain ⟨v, o, ho, hd⟩ := I.cell x c e
    exact free c o (fun z => (hch c z).2.2.1 x c e rfl) ho (I.freeC x c e)
  · obtain ⟨e, n, ne, nf, d⟩ := I.pin p hp
    have nch : p.1 ∉ ch := fun z => (hch p.1 z).2.2.2 p hp rfl
    exact ⟨keep p.1 p.2 ne nf nch e n, free p.1 p.2 nch e n, ne, nf, d⟩
theorem Inv.un {t' : Nat} (I : Inv X pins σ H s) (u : Un X.fs [] H H' s.heap h') (hok : HOk X.prog X.w H' h') : Inv X pins σ H' { s with heap := h', toks := t' } := by
  obtain ⟨m, ⟨o, es, ep, ho, r⟩, _⟩ := id I.loc
  obtain ⟨sl, hL⟩ := u.any ho I.free (by simp)
  exact I.step (g' := s.gens) (d' := s.drawn) (ch := []) (fun _ z => nomatch z) (fun b o _ hb _ e n => u.keep b o e n hb (by simp)) (fun b o _ hb _ e n => u.slot b o e n hb (by simp)) (fun b o _ e n => u.free b o e n (by simp)) (fun b o _ e => u.there b o e (by simp)) u.tups u.frzs u.tbls (fun m' hm => by
    obtain ⟨o', es', ep', ho', r'⟩ := hm
    rw [ho] at ho'; cases ho'
    exact ⟨_, es', ep', hL, r'⟩) hok I.bare
theorem Inv.call {g' : Array GenState} {t' : Nat} {d' : Drawn} {ch : List Addr} (I : Inv X pins σ H s) (u : Un (frs X.stack) ch H H' s.heap h') (hok : HOk X.prog X.w H' h') (hg : AllBare g')
    (hch : ∀ b ∈ ch, (b ∈ X.ex ∨ X.s₀.heap.objs.size ≤ b) ∧ b ≠ X.env.locals ∧ (∀ x c, X.env.cells.lookup x = some c → c ≠ b) ∧ ∀ p ∈ X.pn ++ pins, p.1 ≠ b) :
    Inv X pins σ H' { s with heap := h', gens := g', drawn := d', toks := t' } := by
  obtain ⟨m, ⟨o, es, ep, ho, r⟩, _⟩ := id I.loc
  obtain ⟨sl, hL⟩ := u.any ho I.free fun z => (hch _ z).2.1 rfl
  exact I.step (ch := ch) hch (fun b o hL hb hc e n => u.keep b o e n (fun z => (List.mem_cons.mp (I.stkSub b z)).elim hL hb) hc) (fun b o _ _ hc e n => u.any e n hc) (fun b o hc e n => u.free b o e n hc) (fun b o hc e => u.there b o e hc) u.tups u.frzs u.tbls (fun m' hm => by
    obtain ⟨o', es', ep', ho', r'⟩ := hm
    rw [ho] at ho'; cases ho'
    exact ⟨_, es', ep', hL, r'⟩) hok hg
theorem Inv.turned {t' : Nat} {it : Addr} (I : Inv X pins σ H s) (k : ∀ b o, b ≠ it → s.heap.get? b = some o → h'.get? b = some o) (hn : H it = none) (hL : it ≠ X.env.locals)
    (h1 : it ∈ X.ex ∨ X.s₀.heap.objs.size ≤ it) (h2 : ∀ x c, X.env.cells.lookup x = some c → c ≠ it) (h3 : ∀ p ∈ X.pn ++ pins, p.1 ≠ it) : Inv X pins σ H { s with heap := h', toks := t' } := by
  have nit : ∀ b u, H b = some u → b ≠ it := fun b u e z => by rw [z, hn] at e; cases e
  refine I.step (g' := s.gens) (d' := s.drawn) (ch := [it]) (fun b hb => ?_) (fun b o _ _ hc e _ => k b o (fun z => hc (by simp [z])) e) (fun b o _ _ hc e _ => ⟨o.slots, k b o (fun z => hc (by simp [z])) e⟩) (fun _ _ _ _ n => n)
    (fun b o hc e => ⟨o, k b o (fun z => hc (by simp [z])) e⟩) (fun _ _ e => e) (fun _ _ _ e => e) (fun b ps e => ⟨#[], by rw [e]; simp⟩) (fun m hm => ?_) (fun b u e => ?_) I.bare
  · have e : b = it := by simpa using hb
    subst e
    exact ⟨h1, hL, h2, h3⟩
  · obtain ⟨o, es, ep, ho, r⟩ := hm
    exact ⟨o, es, ep, k _ o (Ne.symm hL) ho, r⟩
  · refine (I.hok b u e).stay (fun c v hc q => k c v ?_ q) (fun _ q => q) fun _ _ q => q
    rcases hc with z | z
    · rw [z]; exact nit b u e
    · exact nit c _ z
theorem Inv.tok (I : Inv X pins σ H s) (t : Nat) : Inv X pins σ H { s with toks := t } := I.un (h' := s.heap) (t' := t) Un.refl I.hok
theorem Inv.kept {t' : Nat} (I : Inv X pins σ H s) (k : ∀ b u, s.heap.get? b = some u → h'.get? b = some u) : Inv X pins σ H { s with heap := h', toks := t' } := I.un (Un.kept k) (I.hok.kept k)
theorem Inv.laid {a : Addr} {o : HO} {t' : Nat} (I : Inv X pins σ H s) (k : ∀ b u, s.heap.get? b = some u → h'.get? b = some u) (hp : s.heap.objs.size ≤ a) (new : qCe X.prog X.w (upd H a o) h' a o) :
    Inv X pins σ (upd H a o) { s with heap := h', toks := t' } := I.un (Un.laid k hp (I.hok.fresh hp)) (I.hok.laid k hp new)
theorem Inv.write {x e : Addr} {o : HO} {t' : Nat} (I : Inv X pins σ H s) (mu : Mut (H x)) (he : e = x ∨ H e = some (.own x)) (k : ∀ b u, b ≠ e → s.heap.get? b = some u → h'.get? b = some u) (heo : ∃ u, h'.get? e = some u)
    (new : qCe X.prog X.w (upd H x o) h' x o) : Inv X pins σ (upd H x o) { s with heap := h', toks := t' } := I.un (Un.write mu he k heo) (I.hok.write mu he k heo new)
theorem Inv.weak {σ' : List (Option V)} (I : Inv X pins σ H s) (hl : σ'.length = σ.length) (w : ∀ (i : Nat) v, σ'[i]? = some (some v) → σ[i]? = some (some v)) : Inv X pins σ' H s :=
  ⟨I.ok, I.os, I.bare, I.base, let ⟨m, hn, hl'⟩ := I.loc; ⟨m, hn, fun i x v e1 e2 e3 => hl' i x v e1 (w i v e2) e3⟩, I.cell, I.free, I.freeC, I.pin, I.hok, hl.trans I.len⟩
theorem Inv.pins_of {pins' : List (Addr × Obj)} (I : Inv X pins σ H s) (h : ∀ p ∈ pins', s.heap.get? p.1 = some p.2 ∧ H p.1 = none ∧ p.1 ≠ X.env.locals ∧ p.1 ∉ X.fs ∧ ∀ v, p.2.data ≠ .cell v) : Inv X pins' σ H s :=
  ⟨I.ok, I.os, I.bare, I.base, I.loc, I.cell, I.free, I.freeC, fun p hp => (List.mem_append.mp hp).elim (fun z => I.pin p (List.mem_append_left _ z)) (h p), I.hok, I.len⟩
theorem nodup_ix {N : List Str} (hN : N.Nodup) {i j : Nat} {x : Str} (a : N[i]? = some x) (b : N[j]? = some x) : i = j := by
  obtain ⟨h1, e1⟩ := List.getElem?_eq_some_iff.mp a
  obtain ⟨h2, e2⟩ := List.getElem?_eq_some_iff.mp b
  exact (List.getElem_inj hN).mp (e1.trans e2.symm)
theorem store_ok2 {M : Model} {A : Around} {E : Value → Shared → Prop} {i : Nat} {x : Str} {v : V} {u : Value} {Q : Unit → Shared → Prop} (I : Inv X pins σ H s) (hN : X.N.Nodup) (hi : X.N[i]? = some x) (hx : Loc X.env.scope x) (r : qCn v u)
    (h : ∀ s', Inv X pins (σ.set i (some v)) H s' → (∃ a, Heap.SameBut a s.heap s'.heap ∧ (a = X.env.locals ∨ X.env.cells.lookup x = some a)) → Q () s') (hf : X.fn x = true ∨ X.env.scope.names.lookup x = some .local := by first | exact .inl rfl | exact .inr rfl | assumption) : wpAny M A (storeName X.env x u) Q E s := by
  obtain ⟨m, hn, hl⟩ := id I.loc
  have hcls : (X.env.scope.kind == .class || (X.env.scope.kind == .module && X.env.locals != X.env.globals)) = false := by rw [I.ok.kind]; rfl
  have hiσ : i < σ.length := by rw [I.len]; exact (List.getElem?_eq_some_iff.mp hi).1
  have cne := I.cne
  have tracked : ∀ {a : Addr} {h' : Heap}, (∃ o, s.heap.get? a = some o ∧ H a = none) → Heap.SameBut a s.heap h' → HOk X.prog X.w H h' := fun {a h'} ha hs b ob e => by
    obtain ⟨_, _, hfree⟩ := ha
    refine (I.hok b ob e).stay (fun c w' hc q => (hs.2 c ?_).trans q) (fun _ q => q) fun _ _ q => q
    rintro rfl
    rcases hc with rfl | hc
    · rw [hfree] at e; cases e
    · rw [hfree] at hc; cases hc
  rcases hx with hk | hk
  · refine wpAny_storeName_local hk hn (fun h' hn' hs => ?_) hcls
    obtain ⟨oL, _, _, hoL, _⟩ := id hn
    refine h _ ⟨I.ok, I.os, I.bare, ⟨fun b o e n hb hx => ?_, fun b o e n hb hx => ?_, I.base.free, fun b o e hx => ?_, I.base.tups, I.base.frzs, I.base.tbls⟩, ⟨_, hn', fun j y v' e1 e2 e3 => ?_⟩, fun y c e => ?_, I.free, I.freeC, fun p hp => ?_, tracked ⟨oL, hoL, I.free⟩ hs, by simpa using I.len⟩ ⟨_, hs, .inl rfl⟩
    · exact (hs.2 b (Nat.ne_of_lt (Nat.lt_of_lt_of_le (Heap.lt_size e) I.ok.above))).trans (I.base.keep b o e n hb hx)
    · obtain ⟨sl, e1⟩ := I.base.slot b o e n hb hx
      exact ⟨sl, (hs.2 b (Nat.ne_of_lt (Nat.lt_of_lt_of_le (Heap.lt_size e) I.ok.above))).trans e1⟩
    · obtain ⟨o', e1⟩ := I.base.there b o e hx
      exact ⟨o', (hs.2 b (Nat.ne_of_lt (Nat.lt_of_lt_of_le (Heap.lt_size e) I.ok.above))).trans e1⟩
    · by_cases hj : j = i
      · subst hj
        rw [hi] at e1; cases e1
        rw [List.getElem?_set_self hiσ] at e2
        cases e2
        exact ⟨u, r, .inl ⟨hk, by simp⟩⟩
      · rw [List.getElem?_set_ne (Ne.symm hj)] at e2
        obtain ⟨u', r', q⟩ := hl j y v' e1 e2 e3
        refine ⟨u', r', ?_⟩
        rcases q with ⟨k, e⟩ | ⟨k, c, e, z⟩
        · refine .inl ⟨k, ?_⟩
          have : y ≠ x := fun e => hj (nodup_ix hN e1 (e ▸ hi))
          simp [this, e]
        · exact .inr ⟨k, c, e, z.sameBut hs (cne y c e)⟩
    · obtain ⟨w', z⟩ := I.cell y c e
      exact ⟨w', z.sameBut hs (cne y c e)⟩
    · obtain ⟨e, n, ne, nf, d⟩ := I.pin p hp
      exact ⟨(hs.2 p.1 ne).trans e, n, ne, nf, d⟩
  · have hfn : X.fn x = true := by
      rcases hf with z | z
      · exact z
      · rw [z] at hk; cases hk
    obtain ⟨c, hc⟩ := I.ok.has x (.inl hk)
    obtain ⟨w', z⟩ := I.cell x c hc
    refine wpAny_storeName_cell I.ok.kind hk hc z (fun h' hc' hs => ?_)
    obtain ⟨oc, hoc, hocd⟩ := id z
    refine h { s with heap := h' } ⟨I.ok, I.os, I.bare, ⟨fun b o e n hb hx => ?_, fun b o e n hb hx => ?_, I.base.free, fun b o e hx => ?_, I.base.tups, I.base.frzs, I.base.tbls⟩, ⟨m, hn.sameBut hs (Ne.symm (cne x c hc)), fun j y v' e1 e2 e3 => ?_⟩, fun y c' e => ?_, I.free, I.freeC, fun p hp => ?_, tracked ⟨oc, hoc, I.freeC x c hc⟩ hs, by simpa using I.len⟩ ⟨c, hs, .inr hc⟩
    · exact (hs.2 b (Nat.ne_of_lt (Nat.lt_of_lt_of_le (Heap.lt_size e) (I.ok.cab x c hfn hc)))).trans (I.base.keep b o e n hb hx)
    · obtain ⟨sl, e1⟩ := I.base.slot b o e n hb hx
      exact ⟨sl, (hs.2 b (Nat.ne_of_lt (Nat.lt_of_lt_of_le (Heap.lt_size e) (I.ok.cab x c hfn hc)))).trans e1⟩
    · obtain ⟨o', e1⟩ := I.base.there b o e hx
      exact ⟨o', (hs.2 b (Nat.ne_of_lt (Nat.lt_of_lt_of_le (Heap.lt_size e) (I.ok.cab x c hfn hc)))).trans e1⟩
    · by_cases hj : j = i
      · subst hj
        rw [hi] at e1; cases e1
        rw [List.getElem?_set_self hiσ] at e2
        cases e2
        exact ⟨u, r, .inr ⟨.inl hk, c, hc, hc'⟩⟩
      · rw [List.getElem?_set_ne (Ne.symm hj)] at e2
        obtain ⟨u', r', q⟩ := hl j y v' e1 e2 e3
        refine ⟨u', r', ?_⟩
        rcases q with q | ⟨k, c', e, z'⟩
        · exact .inl q
        · refine .inr ⟨k, c', e, z'.sameBut hs ?_⟩
          rintro rfl
          exact hj (nodup_ix hN e1 (I.ok.inj _ _ _ e hc ▸ hi))
    · by_cases hcc : c' = c
      · subst hcc; exact ⟨_, hc'⟩
      · obtain ⟨w2, z2⟩ := I.cell y c' e
        exact ⟨w2, z2.sameBut hs hcc⟩
    · obtain ⟨e, n, ne, nf, d⟩ := I.pin p hp
      refine ⟨(hs.2 p.1 ?_).trans e, n, ne, nf, d⟩
      intro q
      rw [q, hoc] at e
      have q' : oc = p.2 := Option.some.inj e
      exact d w' (by rw [← q']; exact hocd)
theorem store_ok {M : Model} {A : Around} {E : Value → Shared → Prop} {i : Nat} {x : Str} {v : V} {u : Value} {Q : Unit → Shared → Prop} (I : Inv X pins σ H s) (hN : X.N.Nodup) (hi : X.N[i]? = some x) (hx : Loc X.env.scope x) (r : qCn v u)
    (h : ∀ s', Inv X pins (σ.set i (some v)) H s' → Q () s') (hf : X.fn x = true ∨ X.env.scope.names.lookup x = some .local := by first | exact .inl rfl | exact .inr rfl | assumption) : wpAny M A (storeName X.env x u) Q E s :=
  store_ok2 I hN hi hx r (fun s' I' _ => h s' I') hf
theorem Inv.call' {s' : Shared} {ch : List Addr} (I : Inv X pins σ H s) (ho : s'.os = s.os) (u : Un (frs X.stack) ch H H' s.heap s'.heap) (hok : HOk X.prog X.w H' s'.heap) (hg : AllBare s'.gens)
    (hch : ∀ b ∈ ch, (b ∈ X.ex ∨ X.s₀.heap.objs.size ≤ b) ∧ b ≠ X.env.locals ∧ (∀ x c, X.env.cells.lookup x = some c → c ≠ b) ∧ ∀ p ∈ X.pn ++ pins, p.1 ≠ b) : Inv X pins σ H' s' := by
  obtain ⟨h', g', d', t', o'⟩ := s'
  have e : o' = s.os := ho
  subst e
  exact I.call (g' := g') (t' := t') (d' := d') u hok hg hch
end
abbrev XK := Value → Option Addr → Hp → Prop
abbrev St := List (Option V)
abbrev VK := V → Hp → Prop
abbrev TE := St → Hp → VK → Prop
abbrev TT := St → Hp → (Bool → Hp → Prop) → Prop
abbrev TA := St → Hp → (List V → Hp → Prop) → Prop
structure Ends where
  nx : St → Hp → Prop
  rt : VK
  bk : St → Hp → Prop := fun _ _ => False
  ct : St → Hp → Prop := fun _ _ => False
abbrev TS := Ends → St → Hp → Prop
def EP (X : Cx) (pins : List (Addr × Obj)) (σ : St) (Q : VK) (u : Value) (s' : Shared) : Prop := ∃ v H', Inv X pins σ H' s' ∧ qCn v u ∧ Q v H'
def TP (X : Cx) (pins : List (Addr × Obj)) (σ : St) (Q : Bool → Hp → Prop) (b : Bool) (s' : Shared) : Prop := ∃ H', Inv X pins σ H' s' ∧ Q b H'
def AP (X : Cx) (pins : List (Addr × Obj)) (σ : St) (Q : List V → Hp → Prop) (us : List Value) (s' : Shared) : Prop := ∃ vs H', Inv X pins σ H' s' ∧ qBa vs us ∧ Q vs H'
def SP (X : Cx) (pins : List (Addr × Obj)) (D : Ends) (f : Flow) (s' : Shared) : Prop :=
  match f with
  | .next => ∃ σ' H', Inv X pins σ' H' s' ∧ D.nx σ' H'
  | .brk => ∃ σ' H', Inv X pins σ' H' s' ∧ D.bk σ' H'
  | .cont => ∃ σ' H', Inv X pins σ' H' s' ∧ D.ct σ' H'
  | .ret u => ∃ v σ' H', Inv X pins σ' H' s' ∧ qCn v u ∧ D.rt v H'
def PE (X : Cx) (e : Expr) (t : TE) : Prop :=
  ∀ (pins : List (Addr × Obj)) (s : Shared) (σ : St) (H : Hp) (Q : VK), Inv X pins σ H s → t σ H Q → wpAny (model X.prog X.w) X.A (eval e X.env) (EP X pins σ Q) X.xe s
def PT (X : Cx) (e : Expr) (t : TT) : Prop :=
  ∀ (pins : List (Addr × Obj)) (s : Shared) (σ : St) (H : Hp) (Q : Bool → Hp → Prop), Inv X pins σ H s → t σ H Q → wpAny (model X.prog X.w) X.A (isTrue e X.env (eval e X.env)) (TP X pins σ Q) X.xe s
def PW (X : Cx) (e : Expr) (t : TT) : Prop :=
  ∀ (whole : Sem Value) (pins : List (Addr × Obj)) (s : Shared) (σ : St) (H : Hp) (Q : Bool → Hp → Prop), Inv X pins σ H s → t σ H Q → wpAny (model X.prog X.w) X.A (isTrue e X.env whole) (TP X pins σ Q) X.xe s
theorem PW.pt {X : Cx} {e : Expr} {t : TT} (h : PW X e t) : PT X e t := h _
def PA (X : Cx) (es : List Expr) (t : TA) : Prop :=
  ∀ (pos : Pos) (pins : List (Addr × Obj)) (s : Shared) (σ : St) (H : Hp) (Q : List V → Hp → Prop), Inv X pins σ H s → t σ H Q → wpAny (model X.prog X.w) X.A (spliced (backTo pos (starEach es X.env))) (AP X pins σ Q) X.xe s
def PS (X : Cx) (st : Stmt) (t : TS) : Prop :=
  ∀ (pins : List (Addr × Obj)) (s : Shared) (σ : St) (H : Hp) (D : Ends), Inv X pins σ H s → t D σ H → wpAny (model X.prog X.w) X.A (exec st X.env) (SP X pins D) X.xe s
def PSs (X : Cx) (st : List Stmt) (t : TS) : Prop :=
  ∀ (pins : List (Addr × Obj)) (s : Shared) (σ : St) (H : Hp) (D : Ends), Inv X pins σ H s → t D σ H → wpAny (model X.prog X.w) X.A (execs st X.env) (SP X pins D) X.xe s
theorem thn {α : Type} {t : Sem α} {Q Q' : α → Shared → Prop} {M : Model} {A : Around} {E : Value → Shared → Prop} {s : Shared} (h : wpAny M A t Q E s) (hQ : ∀ a s, Q a s → Q' a s) : wpAny M A t Q' E s := wpAny_mono h hQ fun _ _ x => x
end L2
namespace L2
open PySem PySem.Spec PyProof.Rows
section
variable {X : Cx}
def tVar (i : Nat) : TE := fun σ H Q => ∃ v, σ[i]? = some (some v) ∧ Q v H
def tC (v : V) : TE := fun _ H Q => Q v H
theorem pe_var {i : Nat} {x : Str} {pos : Pos} (hN : X.N[i]? = some x) (hv : Vis X.env.scope x) (hd : (x == ("__debug__" : Str)) = false := by decide) (hcd : (x == ("__classdict__" : Str)) = false := by decide) : PE X (.Name x pos) (tVar i) := by
  intro pins s σ H Q I h
  obtain ⟨v, e, h⟩ := h
  obtain ⟨m, hn, hl⟩ := I.loc
  obtain ⟨u, r, l⟩ := hl i x v hN e hv
  have fin : EP X pins σ Q u s := ⟨v, H, I, r, h⟩
  rcases l with ⟨hk, hm⟩ | ⟨hk, c, hc, hcell⟩
  · exact wpAny_Name (wpAny_loadName_local I.ok.kind hk hn hm fin) hd
  · rcases hk with hk | hk
    · exact wpAny_Name (wpAny_loadName_cell I.ok.kind hk hc hcell fin) hd
    · exact wpAny_Name (wpAny_loadName_free I.ok.kind hk hc hcell fin hcd) hd
theorem qAb {i j pos} : PE X (.Constant (.int i) j pos) (tC (.int i)) := fun _ _ _ H _ I h => wpAny_Constant_int ⟨.int i, H, I.tok _, ⟨_, rfl⟩, h⟩
theorem qE4 {b j pos} : PE X (.Constant (.bool b) j pos) (tC (.bl b)) := fun _ _ _ H _ I h => Constant_bool ⟨.bl b, H, I, rfl, h⟩
theorem pe_non {j pos} : PE X (.Constant .none j pos) (tC .non) := fun _ _ _ H _ I h => Constant_none ⟨.non, H, I, rfl, h⟩
theorem pe_str {x j pos} : PE X (.Constant (.str x) j pos) (tC (.str x)) := fun _ _ _ H _ I h => Calls.Constant_str ⟨.str x, H, I.tok _, ⟨_, rfl⟩, h⟩
def Gl (X : Cx) (x : Str) : Prop := X.env.kindOf x = some .globalImplicit
theorem ld_glob {E : Value → Shared → Prop} {pins : List (Addr × Obj)} {s : Shared} {σ : St} {H : Hp} {x : Str} {u : Value} {pos : Pos} {Q : Value → Shared → Prop} (I : Inv X pins σ H s) (hg : Gl X x) (hm : X.mg x = some u) (h : Q u s)
    (hd : (x == ("__debug__" : Str)) = false := by decide) : wpAny (model X.prog X.w) X.A (eval (.Name x pos) X.env) Q E s :=
  Calls.Name_function_global I.ok.kind hg (Calls.loadGlobal_global (by rw [I.ok.glob]; exact I.mod.glob.keeps I.bk) hm h) hd
theorem qFr {E : Value → Shared → Prop} {pins : List (Addr × Obj)} {s : Shared} {σ : St} {H : Hp} {x : Str} {u : Value} {pos : Pos} {Q : Value → Shared → Prop} (I : Inv X pins σ H s) (hg : Gl X x) (hm : X.mg x = none) (hv : bootBuiltins x = some u) (h : Q u s)
    (hn : x ≠ "__name__" := by decide) (hd : (x == ("__debug__" : Str)) = false := by decide) : wpAny (model X.prog X.w) X.A (eval (.Name x pos) X.env) Q E s := by
  obtain ⟨mb, h1, h2⟩ := I.mod.blt
  exact Calls.Name_function_global I.ok.kind hg (Calls.loadGlobal_builtin (by rw [I.ok.glob]; exact I.mod.glob.keeps I.bk) hm (by rw [I.ok.blt]; exact h1.keeps I.bk) ((h2 x hn).trans hv) h) hd
theorem pe_glob {x : Str} {v : V} {u : Value} {pos : Pos} (hg : Gl X x) (hm : X.mg x = some u) (r : qCn v u) (hd : (x == ("__debug__" : Str)) = false := by decide) : PE X (.Name x pos) (tC v) :=
  fun _ _ _ H _ I h => ld_glob I hg hm ⟨v, H, I, r, h⟩ hd
theorem qBz {x : Str} {v : V} {u : Value} {pos : Pos} (hg : Gl X x) (hm : X.mg x = none) (hv : bootBuiltins x = some u) (r : qCn v u) (hn : x ≠ "__name__" := by decide) (hd : (x == ("__debug__" : Str)) = false := by decide) : PE X (.Name x pos) (tC v) :=
  fun _ _ _ H _ I h => qFr I hg hm hv ⟨v, H, I, r, h⟩ hn hd
variable {a b : Expr} {ta tb : TE} {pos : Pos}
def tB (t : TE) : TT := fun σ H Q => t σ H fun x H1 => ∃ c, x = .bl c ∧ Q c H1
theorem qBq {e : Expr} {t : TE} (h : PE X e t) (he : ∀ whole, isTrue e X.env whole = (do let v ← whole; standAt e.pos; holding [v] (truthy v)) := by intro _; rfl) : PT X e (tB t) := by
  intro pins s σ H Q I hw
  refine isTrue_plain (thn (h pins s σ H _ I hw) fun v s1 ⟨x, H1, I1, r1, q1⟩ => ?_) (he _)
  obtain ⟨d, rfl, q⟩ := q1
  cases r1
  exact wpAny_truthy_bool ⟨H1, I1, q⟩
variable {tA tB' : TT} {rest : List Expr}
def tAnd (t u : TT) : TT := fun σ H Q => t σ H fun c H1 => if c = true then u σ H1 Q else Q false H1
def tOr (t u : TT) : TT := fun σ H Q => t σ H fun c H1 => if c = true then Q true H1 else u σ H1 Q
def tNot (t : TT) : TT := fun σ H Q => t σ H fun c H1 => Q (!c) H1
theorem pw_and1 (ha : PT X a tA) : PW X (.BoolOp .And [a] pos) tA := by
  intro wh pins s σ H Q I h
  refine isTrue_and (thn (ha pins s σ H Q I h) fun c s1 e => ?_)
  cases c with
  | true => exact isTrue_and_nil e
  | false => exact e
theorem qDd (ha : PT X a tA) : PW X (.BoolOp .Or [a] pos) tA := by
  intro wh pins s σ H Q I h
  refine isTrue_or (thn (ha pins s σ H Q I h) fun c s1 e => ?_)
  cases c with
  | false => exact isTrue_or_nil e
  | true => exact e
theorem pw_and (ha : PT X a tA) (hb : PW X (.BoolOp .And (b :: rest) pos) tB') : PW X (.BoolOp .And (a :: b :: rest) pos) (tAnd tA tB') := by
  intro wh pins s σ H Q I h
  refine isTrue_and (thn (ha pins s σ H _ I h) fun c s1 ⟨H1, I1, q1⟩ => ?_)
  cases c with
  | true => exact hb wh pins s1 σ H1 Q I1 q1
  | false => exact ⟨H1, I1, q1⟩
theorem qD8 (ha : PT X a tA) (hb : PW X (.BoolOp .Or (b :: rest) pos) tB') : PW X (.BoolOp .Or (a :: b :: rest) pos) (tOr tA tB') := by
  intro wh pins s σ H Q I h
  refine isTrue_or (thn (ha pins s σ H _ I h) fun c s1 ⟨H1, I1, q1⟩ => ?_)
  cases c with
  | true => exact ⟨H1, I1, q1⟩
  | false => exact hb wh pins s1 σ H1 Q I1 q1
theorem qBr (ha : PT X a tA) : PT X (.UnaryOp .Not a pos) (tNot tA) := by
  intro pins s σ H Q I h
  exact isTrue_not (ha pins s σ H (fun c H1 => Q (!c) H1) I h)
def tAndV (ta tb : TE) : TE := fun σ H Q => ta σ H fun x H1 => ∃ c, x = .bl c ∧ if c = true then tb σ H1 Q else Q (.bl false) H1
theorem pe_one {op} {t : TE} (h : PE X a t) : PE X (.BoolOp op [a] pos) t := fun pins s σ H Q I hw => BoolOp_one (h pins s σ H Q I hw)
theorem pe_and (ha : PE X a ta) (hb : PE X (.BoolOp .And (b :: rest) pos) tb) : PE X (.BoolOp .And (a :: b :: rest) pos) (tAndV ta tb) := by
  intro pins s σ H Q I h
  refine BoolOp_and (thn (ha pins s σ H _ I h) fun v s1 ⟨x, H1, I1, r1, q1⟩ => ?_)
  obtain ⟨c, rfl, q1⟩ := q1
  cases r1
  refine wpAny_truthy_bool ?_
  cases c with
  | true => exact hb pins s1 σ H1 Q I1 q1
  | false => exact ⟨.bl false, H1, I1, rfl, q1⟩
def tIf (t : TT) (ta tb : TE) : TE := fun σ H Q => t σ H fun c H1 => if c = true then ta σ H1 Q else tb σ H1 Q
theorem qC5 {c : Expr} (hc : PT X c tA) (ha : PE X a ta) (hb : PE X b tb) : PE X (.IfExp c a b pos) (tIf tA ta tb) := by
  intro pins s σ H Q I h
  refine wpAny_IfExp (thn (hc pins s σ H _ I h) fun d s1 ⟨H1, I1, q1⟩ => ?_)
  cases d with
  | true => exact ha pins s1 σ H1 Q I1 q1
  | false => exact hb pins s1 σ H1 Q I1 q1
end
end L2
namespace L2
open PySem PySem.Spec PyProof.Rows
def SqL (K : PySem.W.Frag) (H : Hp) (a : Addr) (xs : List V) : Prop :=
  Rd H a (.lst xs) ∨
    ∃ (o : Obj) (its : Array Value) (n : Nat), K.lookup a = some o ∧ o.cls = .type "list" ∧ o.dict = none ∧ o.data = .seq its n ∧ its.size ≤ sizeLine ∧ qBa xs its.toList
def SqT (K : PySem.W.Frag) (H : Hp) (a : Addr) (xs : List V) : Prop :=
  Rd H a (.tup xs) ∨
    ∃ (o : Obj) (its : Array Value) (n : Nat), K.lookup a = some o ∧ o.cls = .type "tuple" ∧ o.data = .seq its n ∧ its.size ≤ sizeLine ∧ qBa xs its.toList
def absV : Value → Option V
  | .none => some .non
  | .bool b => some (.bl b)
  | .int i _ => some (.int i)
  | .str x _ => some (.str x)
  | .bytes b _ => some (.byt b)
  | .float b _ => some (.flt b)
  | .ref a => some (.ref a)
  | .type n => some (.ty n)
  | _ => none
theorem qCn.abs {x : V} {u : Value} (r : qCn x u) : absV u = some x := by
  cases x with
  | non => cases r; rfl
  | bl _ => cases r; rfl
  | int _ => obtain ⟨t, rfl⟩ := r; rfl
  | str _ => obtain ⟨t, rfl⟩ := r; rfl
  | byt _ => obtain ⟨t, rfl⟩ := r; rfl
  | flt _ => obtain ⟨t, rfl⟩ := r; rfl
  | ref _ => cases r; rfl
  | ty _ => cases r; rfl
theorem qCn.inj {x y : V} {u : Value} (r : qCn x u) (q : qCn y u) : x = y := Option.some.inj (r.abs.symm.trans q.abs)
theorem qBa.inj : ∀ {xs ys : List V} {us : List Value}, qBa xs us → qBa ys us → xs = ys
  | _, _, _, .nil, .nil => rfl
  | _, _, _, .cons r t, .cons r' t' => by rw [r.inj r', qBa.inj t t']
section
variable {X : Cx} {pins : List (Addr × Obj)} {σ : St} {H : Hp} {s : Shared} {a : Addr} {xs ys : List V}
theorem SqL.of {K : PySem.W.Frag} (h : H a = some (.lst xs)) : SqL K H a xs := .inl (.inl h)
theorem SqT.of {K : PySem.W.Frag} (h : H a = some (.tup xs)) : SqT K H a xs := .inl (.inl h)
theorem Inv.list (I : Inv X pins σ H s) (h : SqL X.K H a xs) : ∃ its : List Value, qBa xs its ∧ PlainL s.heap a its.toArray ∧ xs.length ≤ sizeLine := by
  rcases h with h | ⟨o, its, n, hk, hc, hd, hs, hz, r⟩
  · obtain ⟨z, its, n, r, e⟩ := h.ok I.hok
    exact ⟨its, r, ⟨_, n, e, rfl, rfl, rfl⟩, z⟩
  · refine ⟨its.toList, r, ⟨o, n, I.kIn a o hk, hc, hd, by simpa using hs⟩, ?_⟩
    have e := r.length
    simp only [Array.length_toList] at e
    omega
theorem Inv.tuple (I : Inv X pins σ H s) (h : SqT X.K H a xs) : ∃ its : List Value, qBa xs its ∧ IsTup s.heap a its.toArray ∧ xs.length ≤ sizeLine := by
  rcases h with h | ⟨o, its, n, hk, hc, hs, hz, r⟩
  · obtain ⟨z, its, r, p⟩ := h.ok I.hok
    exact ⟨its, r, p, z⟩
  · refine ⟨its.toList, r, ⟨o, I.kIn a o hk, hc, n, by simpa using hs⟩, ?_⟩
    have e := r.length
    simp only [Array.length_toList] at e
    omega
theorem Inv.list_inj (I : Inv X pins σ H s) (h : SqL X.K H a xs) (h' : SqL X.K H a ys) : xs = ys := by
  obtain ⟨its, r, ⟨o, n, e, _, _, d⟩, _⟩ := I.list h
  obtain ⟨its', r', ⟨o', n', e', _, _, d'⟩, _⟩ := I.list h'
  rw [e] at e'; cases e'
  rw [d] at d'
  injection d' with d1 _
  have : its = its' := by simpa using congrArg Array.toList d1
  subst this
  exact r.inj r'
theorem Inv.tuple_inj (I : Inv X pins σ H s) (h : SqT X.K H a xs) (h' : SqT X.K H a ys) : xs = ys := by
  obtain ⟨its, r, ⟨o, e, _, n, d⟩, _⟩ := I.tuple h
  obtain ⟨its', r', ⟨o', e', _, n', d'⟩, _⟩ := I.tuple h'
  rw [e] at e'; cases e'
  rw [d] at d'
  injection d' with d1 _
  have : its = its' := by simpa using congrArg Array.toList d1
  subst this
  exact r.inj r'
end
abbrev Cx.wish (X : Cx) (E : Value → Shared → Prop) : Cx := { X with xe := E }
abbrev Cx.nox (X : Cx) : Cx := X.wish fun _ _ => False
theorem Cx.Ok.wish {X : Cx} (ok : X.Ok) (E : Value → Shared → Prop) : (X.wish E).Ok :=
  ⟨ok.mod, ok.kind, ok.glob, ok.blt, ok.above, ok.inj, ok.has, ok.cab, ok.hd, ok.frames, ok.stk, ok.exf, ok.bs, ok.bsz, ok.noex, ok.exfs, ok.funs, ok.frf⟩
theorem Cx.Ok.unwish {X : Cx} {E : Value → Shared → Prop} (ok : (X.wish E).Ok) : X.Ok :=
  ⟨ok.mod, ok.kind, ok.glob, ok.blt, ok.above, ok.inj, ok.has, ok.cab, ok.hd, ok.frames, ok.stk, ok.exf, ok.bs, ok.bsz, ok.noex, ok.exfs, ok.funs, ok.frf⟩
section
variable {X : Cx} {pins : List (Addr × Obj)} {σ : St} {H : Hp} {s : Shared} {E : Value → Shared → Prop}
theorem Inv.wish (I : Inv X pins σ H s) (E : Value → Shared → Prop) : Inv (X.wish E) pins σ H s := ⟨I.ok.wish E, I.os, I.bare, I.base, I.loc, I.cell, I.free, I.freeC, I.pin, I.hok, I.len⟩
theorem Inv.unwish (I : Inv (X.wish E) pins σ H s) : Inv X pins σ H s := ⟨I.ok.unwish, I.os, I.bare, I.base, I.loc, I.cell, I.free, I.freeC, I.pin, I.hok, I.len⟩
theorem SP.unwish {D : Ends} {f : Flow} {s' : Shared} (h : SP (X.wish E) pins D f s') : SP X pins D f s' := by
  cases f with
  | next => obtain ⟨σ', H', I, q⟩ := h; exact ⟨σ', H', I.unwish, q⟩
  | brk => obtain ⟨σ', H', I, q⟩ := h; exact ⟨σ', H', I.unwish, q⟩
  | cont => obtain ⟨σ', H', I, q⟩ := h; exact ⟨σ', H', I.unwish, q⟩
  | ret u => obtain ⟨v, σ', H', I, r, q⟩ := h; exact ⟨v, σ', H', I.unwish, r, q⟩
theorem PSs.nox {st : List Stmt} {t : TS} (h : PSs X.nox st t) : PSs X st t := fun pins s σ H D I hw =>
  wpAny_mono (h pins s σ H D (I.wish _) hw) (fun _ _ q => q.unwish) fun _ _ z => False.elim z
end
section
variable {X : Cx} {st : Stmt} {rest : List Stmt} {t u : TS} {e : Expr} {te : TE} {pos : Pos}
def tNext : TS := fun D σ H => D.nx σ H
def tSeq (t u : TS) : TS := fun D σ H => t { D with nx := u D } σ H
theorem qAx : PSs X [] tNext := fun _ _ σ H _ I h => wpAny_execs_nil ⟨σ, H, I, h⟩
theorem qAa (h1 : PS X st t) (h2 : PSs X rest u) : PSs X (st :: rest) (tSeq t u) := by
  intro pins s σ H D I h
  refine wpAny_execs_cons (thn (h1 pins s σ H { D with nx := u D } I h) fun f s1 q => ?_)
  cases f with
  | next =>
    obtain ⟨σ', H', I', q⟩ := q
    exact h2 pins s1 σ' H' D I' q
  | ret v => exact q
  | brk => exact q
  | cont => exact q
theorem qAd (h1 : PS X st t) : PSs X [st] t := by
  intro pins s σ H D I h
  refine wpAny_execs_cons (thn (h1 pins s σ H D I h) fun f s1 q => ?_)
  cases f with
  | next => exact wpAny_execs_nil q
  | ret v => exact q
  | brk => exact q
  | cont => exact q
theorem Inv.quiet {pins : List (Addr × Obj)} {σ : St} {H : Hp} {s : Shared} (I : Inv X pins σ H s) : interactive X.env = false := by simp [interactive, I.ok.kind]
def tDrop (te : TE) : TS := fun D σ H => te σ H fun _ H1 => D.nx σ H1
theorem qB5 (he : PE X e te) (hs : swapsWith e none pos.line X.env = pure false := by rfl) : PS X (.Expr e pos) (tDrop te) := by
  intro pins s σ H D I h
  exact wpAny_Expr_any (thn (he pins s σ H _ I h) fun v s1 ⟨x, H1, I1, r1, q1⟩ => ⟨σ, H1, I1, q1⟩) I.quiet hs
def tRet (te : TE) : TS := fun D σ H => te σ H D.rt
theorem qAm (he : PE X e te) : PS X (.Return (some e) pos) (tRet te) := by
  intro pins s σ H D I h
  exact wpAny_Return_some (thn (he pins s σ H _ I h) fun v s1 ⟨x, H1, I1, r1, q1⟩ => ⟨x, σ, H1, I1, r1, q1⟩)
def tIfS (c : TT) (t u : TS) : TS := fun D σ H => c σ H fun b H1 => if b = true then t D σ H1 else u D σ H1
theorem qBf {c : Expr} {a b : List Stmt} {tc : TT} (hc : PT X c tc) (ha : PSs X a t) (hb : PSs X b u) : PS X (.If c a b pos) (tIfS tc t u) := by
  intro pins s σ H D I h
  refine wpAny_If (thn (hc pins s σ H _ I h) fun d s1 ⟨H1, I1, q1⟩ => ?_)
  cases d with
  | true => exact ha pins s1 σ H1 D I1 q1
  | false => exact hb pins s1 σ H1 D I1 q1
def tNever : TS := fun _ _ _ => False
theorem qDt : PS X st tNever := fun _ _ _ _ _ _ h => h.elim
end
abbrev TG := V → St → Hp → (St → Hp → Prop) → Prop
abbrev TGs := List V → St → Hp → (St → Hp → Prop) → Prop
def PG (X : Cx) (target : Expr) (t : TG) : Prop :=
  ∀ (pins : List (Addr × Obj)) (s : Shared) (σ : St) (H : Hp) (v : V) (u : Value) (Q : St → Hp → Prop), Inv X pins σ H s → qCn v u → t v σ H Q →
    wpAny (model X.prog X.w) X.A (assign target X.env u) (fun _ s' => ∃ σ' H', Inv X pins σ' H' s' ∧ Q σ' H') X.xe s
def PGs (X : Cx) (ts : List Expr) (t : TGs) : Prop :=
  ∀ (pins : List (Addr × Obj)) (s : Shared) (σ : St) (H : Hp) (vs : List V) (us : List Value) (Q : St → Hp → Prop), Inv X pins σ H s → qBa vs us → t vs σ H Q →
    wpAny (model X.prog X.w) X.A (assignInOrder ((assignEach ts X.env).map (·.2)) us) (fun _ s' => ∃ σ' H', Inv X pins σ' H' s' ∧ Q σ' H') X.xe s
abbrev TIp := V → V → Hp → VK → Prop
def PIp (X : Cx) (op : Operator) (t : TIp) : Prop :=
  ∀ (pins : List (Addr × Obj)) (s : Shared) (σ : St) (H : Hp) (x y : V) (v u : Value) (Q : VK), Inv X pins σ H s → qCn x v → qCn y u → t x y H Q →
    wpAny (model X.prog X.w) X.A (inplaceOp op v u) (EP X pins σ Q) X.xe s
section
variable {X : Cx} {pos : Pos}
def gName (i : Nat) : TG := fun v σ H Q => Q (σ.set i (some v)) H
theorem qAe {i : Nat} {x : Str} (hN : X.N.Nodup) (hi : X.N[i]? = some x) (hx : Loc X.env.scope x) (hf : X.fn x = true ∨ X.env.scope.names.lookup x = some .local := by first | exact .inl rfl | exact .inr rfl | assumption) : PG X (.Name x pos) (gName i) := by
  intro pins s σ H v u Q I r h
  exact wpAny_assign_Name (store_ok I hN hi hx r (fun s' I' => ⟨_, H, I', h⟩) hf)
def gNil : TGs := fun vs σ H Q => vs = [] ∧ Q σ H
def gCons (t : TG) (u : TGs) : TGs := fun vs σ H Q => ∃ v r, vs = v :: r ∧ t v σ H fun σ' H' => u r σ' H' Q
theorem qBc : PGs X [] gNil := by
  intro pins s σ H vs us Q I r h
  obtain ⟨e, h⟩ := h
  subst e
  cases r
  exact assignInOrder_nil ⟨σ, H, I, h⟩
theorem qAl {e : Expr} {es : List Expr} {t : TG} {u : TGs} (h1 : PG X e t) (h2 : PGs X es u)
    (hs : (assignEach (e :: es) X.env).map (·.2) = assign e X.env :: (assignEach es X.env).map (·.2) := by rfl) : PGs X (e :: es) (gCons t u) := by
  intro pins s σ H vs us Q I r h
  obtain ⟨v, vr, e1, h⟩ := h
  subst e1
  cases r with
  | cons r rr =>
    rw [hs]
    refine assignInOrder_cons (thn (h1 pins s σ H _ _ _ I r h) fun _ s1 ⟨σ1, H1, I1, q1⟩ => ?_)
    exact h2 pins s1 σ1 H1 _ _ Q I1 rr q1
def gTup (K : PySem.W.Frag) (n : Nat) (t : TGs) : TG := fun v σ H Q => ∃ a xs, v = .ref a ∧ SqT K H a xs ∧ xs.length = n ∧ t xs σ H Q
theorem qBx {es : List Expr} {k : Nat} {t : TGs} {n : Nat} (hc : X.calm = true) (h : PGs X es t)
    (hn : (assignEach es X.env).length = n := by rfl) (hst : (assignEach es X.env).findIdx? (·.1) = none := by rfl) : PG X (.Tuple es k pos) (gTup X.K n t) := by
  intro pins s σ H v u Q I r hw
  obtain ⟨a, xs, e1, hq, hl, hw⟩ := hw
  subst e1
  cases r
  obtain ⟨its, rv, ht, hz⟩ := I.tuple hq
  refine assign_Tuple_tuple (I.ok.hd hc) ht (by simp [hn, ← hl, rv.length]) hst fun h' hx => ?_
  have I1 : Inv X pins σ H { s with heap := h' } := I.kept (t' := s.toks) fun b o e => hx b o (Nat.ne_of_lt (Heap.lt_size e)) e
  exact h pins _ σ H xs _ Q I1 (by simpa using rv) hw
def tAsg (te : TE) (g : TG) : TS := fun D σ H => te σ H fun x H1 => g x σ H1 D.nx
theorem qD9 {tg e : Expr} {te : TE} {g : TG} (he : PE X e te) (hg : PG X tg g) (hs : swapsWithSole [tg] e pos.line X.env = pure false := by rfl) (hw : swappedStores [tg] e X.env = pure none := by rfl)
    (h1 : (assignEach [tg] X.env).map (·.2) = [assign tg X.env] := by rfl) : PS X (.Assign [tg] e pos) (tAsg te g) := by
  intro pins s σ H D I h
  refine wpAny_Assign_stores (thn (he pins s σ H _ I h) fun v s1 ⟨x, H1, I1, r1, q1⟩ => ?_) hs hw
  rw [h1]
  exact thn (hg pins s1 σ H1 x v _ I1 r1 q1) fun _ s2 q => q
theorem qAj {i : Nat} {x : Str} {e : Expr} {te : TE} {pos' : Pos} (hN : X.N.Nodup) (hi : X.N[i]? = some x) (hx : Loc X.env.scope x) (he : PE X e te) (hs : swapsWith e (some (.Name x pos')) pos.line X.env = pure false := by rfl) (hf : X.fn x = true ∨ X.env.scope.names.lookup x = some .local := by first | exact .inl rfl | exact .inr rfl | assumption) :
    PS X (.Assign [.Name x pos'] e pos) (tAsg te (gName i)) := by
  intro pins s σ H D I h
  refine wpAny_Assign_Name (thn (he pins s σ H _ I h) fun v s1 ⟨y, H1, I1, r1, q1⟩ => ?_) hs
  exact store_ok I1 hN hi hx r1 (fun s2 I2 => ⟨_, H1, I2, q1⟩) hf
def tAug (i : Nat) (te : TE) (ti : TIp) : TS := fun D σ H => ∃ x, σ[i]? = some (some x) ∧ te σ H fun y H1 => ti x y H1 fun z H2 => D.nx (σ.set i (some z)) H2
theorem ps_aug {i : Nat} {x : Str} {e : Expr} {te : TE} {op : Operator} {ti : TIp} {pos' : Pos} (hN : X.N.Nodup) (hi : X.N[i]? = some x) (hx : Loc X.env.scope x) (he : PE X e te) (ho : PIp X op ti) (hf : X.fn x = true ∨ X.env.scope.names.lookup x = some .local := by first | exact .inl rfl | exact .inr rfl | assumption) :
    PS X (.AugAssign (.Name x pos') op e pos) (tAug i te ti) := by
  intro pins s σ H D I h
  obtain ⟨v, e1, h⟩ := h
  obtain ⟨m, hn, hl⟩ := I.loc
  have vis : Vis X.env.scope x := by rcases hx with k | k; exact .inl k; exact .inr (.inl k)
  obtain ⟨u, r, l⟩ := hl i x v hi e1 vis
  refine wpAny_AugAssign_Name ?_
  have go : wpAny (model X.prog X.w) X.A (eval e X.env) (fun w s₂ => wpAny (model X.prog X.w) X.A (inplaceOp op u w) (fun r s₃ => wpAny (model X.prog X.w) X.A (storeName X.env x r) (fun _ => SP X pins D .next) X.xe s₃) X.xe s₂) X.xe s := by
    refine thn (he pins s σ H _ I h) fun w s1 ⟨y, H1, I1, r1, q1⟩ => ?_
    refine thn (ho pins s1 σ H1 v y u w _ I1 r r1 q1) fun z s2 ⟨zv, H2, I2, r2, q2⟩ => ?_
    exact store_ok I2 hN hi hx r2 (fun s3 I3 => ⟨_, H2, I3, q2⟩) hf
  rcases l with ⟨hk, hm⟩ | ⟨hk, c, hc, hcell⟩
  · exact wpAny_loadName_local I.ok.kind hk hn hm go
  · rcases hk with hk | hk
    · exact wpAny_loadName_cell I.ok.kind hk hc hcell go
    · rcases hx with k | k
      · have : X.env.scope.names.lookup x = some .free := hk
        rw [k] at this; cases this
      · have : X.env.scope.names.lookup x = some .free := hk
        rw [k] at this; cases this
def ipI (f : Int → Int → Int) : TIp := fun x y H Q => ∃ i j, x = .int i ∧ y = .int j ∧ Q (.int (f i j)) H
theorem ip_add : PIp X .Add (ipI fun i j => i + j) := by
  intro pins s σ H x y v u Q I r1 r2 h
  obtain ⟨i, j, e1, e2, q⟩ := h
  subst e1; subst e2
  obtain ⟨t, rfl⟩ := r1
  obtain ⟨t', rfl⟩ := r2
  exact iadd_int ⟨.int _, H, I.tok _, ⟨_, rfl⟩, q⟩
theorem ip_sub : PIp X .Sub (ipI fun i j => i - j) := by
  intro pins s σ H x y v u Q I r1 r2 h
  obtain ⟨i, j, e1, e2, q⟩ := h
  subst e1; subst e2
  obtain ⟨t, rfl⟩ := r1
  obtain ⟨t', rfl⟩ := r2
  exact isub_int ⟨.int _, H, I.tok _, ⟨_, rfl⟩, q⟩
end
section
variable {X : Cx} {pos : Pos}
def tWhile (c : TT) (tb : TS) : TS := fun D σ H => ∃ W : Nat → St → Hp → Prop, (∃ m, W m σ H) ∧ ∀ m σ H, W m σ H →
  c σ H fun b H1 => if b = true then ∃ N : St → Hp → Prop, (∀ σ' H', N σ' H' → ∃ m', m' < m ∧ W m' σ' H') ∧ tb { D with nx := N, ct := N, bk := D.nx } σ H1 else D.nx σ H1
theorem ps_while {c : Expr} {body : List Stmt} {tc : TT} {tb : TS} (hp : PassesOwn (model X.prog X.w) X.A X.env X.xe) (hc : PT X c tc) (hb : PSs X body tb) : PS X (.While c body [] pos) (tWhile tc tb) := by
  intro pins s σ H D I h
  obtain ⟨W, ⟨m0, w0⟩, turn⟩ := h
  refine wpAny_While (codeAny_whileLoop (fun n s' => ∃ σ' H', Inv X pins σ' H' s' ∧ W n σ' H') ?_ m0 ⟨σ, H, I, w0⟩)
  rintro n s1 ⟨σ1, H1, I1, w1⟩
  refine wpAny_passesOwn hp (thn (hc pins s1 σ1 H1 _ I1 (turn n σ1 H1 w1)) fun b s2 ⟨H2, I2, q2⟩ => ?_)
  cases b with
  | true =>
    obtain ⟨N, hN, q2⟩ := q2
    rw [if_pos rfl]
    refine wpAny_passesOwn hp (thn (hb pins s2 σ1 H2 _ I2 q2) fun f s3 q3 => ?_)
    cases f with
    | next =>
      obtain ⟨σ3, H3, I3, n3⟩ := q3
      obtain ⟨m', hm, w3⟩ := hN σ3 H3 n3
      exact ⟨m', hm, σ3, H3, I3, w3⟩
    | cont =>
      obtain ⟨σ3, H3, I3, n3⟩ := q3
      obtain ⟨m', hm, w3⟩ := hN σ3 H3 n3
      exact ⟨m', hm, σ3, H3, I3, w3⟩
    | brk => exact q3
    | ret v => exact q3
  | false =>
    rw [if_neg Bool.false_ne_true]
    exact wpAny_execs_nil ⟨σ1, H2, I2, q2⟩
end
structure It where
  go : Nat → Hp → Prop
  yld : Nat → Hp → V → Hp → Prop
  stop : Nat → Hp → Prop
def FpOk (X : Cx) (pins : List (Addr × Obj)) (H : Hp) (b : Addr) : Prop :=
  H b = none ∧ b ≠ X.env.locals ∧ b ∉ X.fs ∧ (b ∈ X.ex ∨ X.s₀.heap.objs.size ≤ b) ∧ (∀ x c, X.env.cells.lookup x = some c → c ≠ b) ∧ ∀ p ∈ X.pn ++ pins, p.1 ≠ b
theorem Inv.fpOk {X : Cx} {pins : List (Addr × Obj)} {σ : St} {H H' : Hp} {s : Shared} {b : Addr} (I : Inv X pins σ H s) (hb : s.heap.objs.size ≤ b) (hn : H' b = none) : FpOk X pins H' b := by
  refine ⟨hn, Nat.ne_of_gt (Nat.lt_of_lt_of_le I.lt hb), I.nofs hb, .inr (Nat.le_trans I.sz hb), fun x c e z => ?_, fun p hp z => ?_⟩
  · obtain ⟨v, q⟩ := I.cell x c e
    exact absurd (Nat.lt_of_lt_of_le q.lt (by rw [z]; exact hb)) (Nat.lt_irrefl _)
  · exact absurd (Nat.lt_of_lt_of_le (Heap.lt_size (I.pin p hp).1) (by rw [z]; exact hb)) (Nat.lt_irrefl _)
structure Turn (P : Program) (w : World) (K : PySem.W.Frag) (tg : Expr) (J : It) (fp : List Addr) (it : Addr) (tn : Nat → Heap → Prop) : Prop where
  mem : it ∈ fp
  obj : ∀ i h, tn i h → ∀ b ∈ fp, ∃ o, h.get? b = some o ∧ ∀ v, o.data ≠ .cell v
  keep : ∀ i h h', tn i h → (∀ b ∈ fp, ∀ o, h.get? b = some o → h'.get? b = some o) → tn i h'
  item : ∀ (X : Cx), X.prog = P → X.w = w → X.K = K → X.calm = true → ∀ (i : Nat) (pins : List (Addr × Obj)) (s : Shared) (σ : St) (H : Hp) (E : Value → Shared → Prop), Inv X pins σ H s → (∀ b ∈ fp, FpOk X pins H b) → tn i s.heap → J.go i H →
    wpAny (model P w) X.A (pyNext (.ref it)) (fun r s1 => ∃ u, r = some u ∧
      wpAny (model P w) X.A (letOwnedTupleGo tg (.ref it) u) (fun _ s2 => ∃ x H', Inv X pins σ H' s2 ∧ qCn x u ∧ J.yld i H x H' ∧ tn (i + 1) s2.heap ∧ ∀ b ∈ fp, H' b = none) E s1) E s
  done : ∀ (X : Cx), X.prog = P → X.w = w → X.K = K → X.calm = true → ∀ (i : Nat) (pins : List (Addr × Obj)) (s : Shared) (σ : St) (H : Hp) (E : Value → Shared → Prop), Inv X pins σ H s → (∀ b ∈ fp, FpOk X pins H b) → tn i s.heap → J.stop i H →
    wpAny (model P w) X.A (pyNext (.ref it)) (fun r s1 => r = none ∧ Inv X pins σ H s1) E s
  self : ∀ (A : Around) (i : Nat) (s : Shared) (Q : Value → Shared → Prop) (E : Value → Shared → Prop), tn i s.heap → Q (.ref it) s → wpAny (model P w) A (pyIter (.ref it)) Q E s
abbrev TI := St → Hp → (It → Hp → Prop) → Prop
def PIE (X : Cx) (pins : List (Addr × Obj)) (σ : St) (tg : Expr) (R : It → Hp → Prop) (itv : Value) (s2 : Shared) : Prop :=
  ∃ (it : Addr) (fp : List Addr) (tn : Nat → Heap → Prop) (J : It) (H' : Hp), itv = .ref it ∧ Inv X pins σ H' s2 ∧ Turn X.prog X.w X.K tg J fp it tn ∧ tn 0 s2.heap ∧ (∀ b ∈ fp, FpOk X pins H' b) ∧ R J H'
def PI (X : Cx) (tg iter : Expr) (wi : TI) : Prop :=
  ∀ (pins : List (Addr × Obj)) (s : Shared) (σ : St) (H : Hp) (R : It → Hp → Prop), Inv X pins σ H s → wi σ H R →
    wpAny (model X.prog X.w) X.A (eval iter X.env) (fun v s1 => wpAny (model X.prog X.w) X.A (pyIter v) (PIE X pins σ tg R) X.xe s1) X.xe s
theorem go_of {M : Model} {A : Around} {E : Value → Shared → Prop} {s : Shared} {tg : Expr} {it : Addr} {u : Value} {o : Obj} {n : String} {vs : Array Value} {Q : Unit → Shared → Prop} (ho : s.heap.get? it = some o) (hc : o.cls = .type n) (hd : o.data = .fields vs)
    (hn : ["enumerate", "zip", "dict_itemiterator", "dict_reverseitemiterator", "odict_iterator", "itertools.zip_longest", "itertools.pairwise"].contains n = false) (hQ : Q () s) : wpAny M A (letOwnedTupleGo tg (.ref it) u) Q E s := by
  unfold letOwnedTupleGo
  cases tg <;> first
    | exact wpAny_pure hQ
    | (cases u <;> first
        | exact wpAny_pure hQ
        | (refine wpAny_bind (wpAny_load ho ?_)
           rw [hc, hd]
           show wpAny M A (if (["enumerate", "zip", "dict_itemiterator", "dict_reverseitemiterator", "odict_iterator", "itertools.zip_longest", "itertools.pairwise"].contains n && vs[0]? == some (rawInt _)) = true then _ else _) Q E s
           rw [if_neg (by intro h; rw [hn, Bool.false_and] at h; cases h)]
           exact wpAny_pure hQ))
def Itl (K : PySem.W.Frag) (a : Addr) : It :=
  ⟨fun i H => ∃ xs x, SqL K H a xs ∧ xs[i]? = some x, fun i H x H' => H' = H ∧ ∀ xs, SqL K H a xs → xs[i]? = some x, fun i H => ∃ xs, SqL K H a xs ∧ xs.length ≤ i⟩
def Itt (K : PySem.W.Frag) (a : Addr) : It :=
  ⟨fun i H => ∃ xs x, SqT K H a xs ∧ xs[i]? = some x, fun i H x H' => H' = H ∧ ∀ xs, SqT K H a xs → xs[i]? = some x, fun i H => ∃ xs, SqT K H a xs ∧ xs.length ≤ i⟩
def Itr (lo : Int) (n : Nat) : It := ⟨fun i _ => i < n, fun i H x H' => H' = H ∧ x = .int (lo + i), fun i _ => n ≤ i⟩
theorem turn_list {P : Program} {w : World} {K : PySem.W.Frag} {tg : Expr} (a it : Addr) : Turn P w K tg (Itl K a) [it] it (fun i h => h.IsListIter it a i) where
  mem := by simp
  obj := fun i h st b hb => by
    have e : b = it := by simpa using hb
    subst e
    obtain ⟨o, e, c, d⟩ := st
    exact ⟨o, e, fun v z => by rw [d] at z; cases z⟩
  keep := fun i h h' st k => st.at fun o e => k it (by simp) o e
  item := by
    intro X hP hw hK hc i pins s σ H E I hf st hg
    subst hP hw hK
    obtain ⟨xs, x, hq, hx⟩ := hg
    obtain ⟨its, rv, p, hz⟩ := I.list hq
    obtain ⟨u, hu, ru⟩ := rv.get hx
    obtain ⟨f0, f1, f2, f3, f4, f5⟩ := hf it (by simp)
    refine wpAny_pyNext_list_item st p.isList (x := u) (by simpa using hu) fun h' st' sb => ?_
    have I1 : Inv X pins σ H { s with heap := h' } := I.turned (t' := s.toks) (fun b o hb e => (sb.2 b hb).trans e) f0 f1 f3 f4 f5
    obtain ⟨o, e, c, d⟩ := id st'
    exact ⟨u, rfl, go_of (s := { s with heap := h' }) e c d (by decide) ⟨x, H, I1, ru, ⟨rfl, fun ys hy => by rw [I.list_inj hy hq]; exact hx⟩, st', fun b hb => (hf b hb).1⟩⟩
  done := by
    intro X hP hw hK hc i pins s σ H E I hf st hg
    subst hP hw hK
    obtain ⟨xs, hq, hx⟩ := hg
    obtain ⟨its, rv, p, hz⟩ := I.list hq
    obtain ⟨f0, f1, f2, f3, f4, f5⟩ := hf it (by simp)
    have hl := rv.length
    exact wpAny_pyNext_list_end (I.ok.hd hc) st p.isList (by simp; omega) fun h' eb => ⟨rfl, I.turned (t' := s.toks) (fun b o hb e => eb b o hb e) f0 f1 f3 f4 f5⟩
  self := fun _ _ _ _ _ st h => wpAny_pyIter_listiter st h
theorem turn_tuple {P : Program} {w : World} {K : PySem.W.Frag} {tg : Expr} (a it : Addr) : Turn P w K tg (Itt K a) [it] it (fun i h => h.IsTupleIter it a i) where
  mem := by simp
  obj := fun i h st b hb => by
    have e : b = it := by simpa using hb
    subst e
    obtain ⟨o, e, c, d⟩ := st
    exact ⟨o, e, fun v z => by rw [d] at z; cases z⟩
  keep := fun i h h' st k => st.at fun o e => k it (by simp) o e
  item := by
    intro X hP hw hK hc i pins s σ H E I hf st hg
    subst hP hw hK
    obtain ⟨xs, x, hq, hx⟩ := hg
    obtain ⟨its, rv, p, hz⟩ := I.tuple hq
    obtain ⟨u, hu, ru⟩ := rv.get hx
    obtain ⟨f0, f1, f2, f3, f4, f5⟩ := hf it (by simp)
    refine wpAny_pyNext_tuple_item st (show s.heap.IsTuple a its.toArray from p) (x := u) (by simpa using hu) fun h' st' sb => ?_
    have I1 : Inv X pins σ H { s with heap := h' } := I.turned (t' := s.toks) (fun b o hb e => (sb.2 b hb).trans e) f0 f1 f3 f4 f5
    obtain ⟨o, e, c, d⟩ := id st'
    exact ⟨u, rfl, go_of (s := { s with heap := h' }) e c d (by decide) ⟨x, H, I1, ru, ⟨rfl, fun ys hy => by rw [I.tuple_inj hy hq]; exact hx⟩, st', fun b hb => (hf b hb).1⟩⟩
  done := by
    intro X hP hw hK hc i pins s σ H E I hf st hg
    subst hP hw hK
    obtain ⟨xs, hq, hx⟩ := hg
    obtain ⟨its, rv, p, hz⟩ := I.tuple hq
    obtain ⟨f0, f1, f2, f3, f4, f5⟩ := hf it (by simp)
    have hl := rv.length
    exact wpAny_pyNext_tuple_end (I.ok.hd hc) st (show s.heap.IsTuple a its.toArray from p) (by simp; omega) fun h' eb => ⟨rfl, I.turned (t' := s.toks) (fun b o hb e => eb b o hb e) f0 f1 f3 f4 f5⟩
  self := fun _ _ _ _ _ st h => wpAny_pyIter_tupleiter st h
theorem turn_range {P : Program} {w : World} {K : PySem.W.Frag} {tg : Expr} (it : Addr) (lo : Int) (n : Nat) : Turn P w K tg (Itr lo n) [it] it (fun i h => IsRangeIter h it (lo + (i : Nat) * 1) ((n : Int) - (i : Nat)) 1) where
  mem := by simp
  obj := fun i h st b hb => by
    have e : b = it := by simpa using hb
    subst e
    exact ⟨_, st, fun v z => by
      have z' : Data.fields _ = Data.cell v := z
      cases z'⟩
  keep := fun i h h' st k => k it (by simp) _ st
  item := by
    intro X hP hw hK hc i pins s σ H E I hf st hg
    subst hP hw hK
    obtain ⟨f0, f1, f2, f3, f4, f5⟩ := hf it (by simp)
    have W := Walks.range (prog := X.prog) (w := X.w) (I.ok.hd hc) it lo 1 n
    refine W.item i s _ _ hg st fun v h' tk hv st' kk => ?_
    obtain ⟨t, rfl⟩ := hv
    have I1 : Inv X pins σ H { s with heap := h', toks := tk } := I.turned (fun b o hb e => kk b o (by simpa using hb) e) f0 f1 f3 f4 f5
    refine ⟨_, rfl, go_of (s := { s with heap := h', toks := tk }) (n := "range_iterator") st' rfl rfl (by decide) ⟨.int (lo + i), H, I1, ⟨t, ?_⟩, ⟨rfl, rfl⟩, st', fun b hb => (hf b hb).1⟩⟩
    rw [Int.mul_one]
  done := by
    intro X hP hw hK hc i pins s σ H E I hf st hg
    subst hP hw hK
    obtain ⟨f0, f1, f2, f3, f4, f5⟩ := hf it (by simp)
    exact wpAny_pyNext_range_end (I.ok.hd hc) st (by have : n ≤ i := hg; omega) fun h' eb => ⟨rfl, I.turned (t' := s.toks) (fun b o hb e => eb b o hb e) f0 f1 f3 f4 f5⟩
  self := fun _ _ _ _ _ st h => wpAny_pyIter_rangeiter st h
end L2
namespace L2
open PySem PySem.Spec PyProof.Rows
section
variable {X : Cx} {tg : Expr}
def iList (K : PySem.W.Frag) (tl : TE) : TI := fun σ H R => tl σ H fun x H1 => ∃ a, x = .ref a ∧ (∃ xs, SqL K H1 a xs) ∧ R (Itl K a) H1
def iTup (K : PySem.W.Frag) (tl : TE) : TI := fun σ H R => tl σ H fun x H1 => ∃ a, x = .ref a ∧ (∃ xs, SqT K H1 a xs) ∧ R (Itt K a) H1
theorem qAs {l : Expr} {tl : TE} (hl : PE X l tl) : PI X tg l (iList X.K tl) := by
  intro pins s σ H R I h
  refine thn (hl pins s σ H _ I h) fun v s1 ⟨x, H1, I1, r1, q1⟩ => ?_
  obtain ⟨a, e, ⟨xs, hq⟩, q⟩ := q1
  subst e
  cases r1
  obtain ⟨its, rv, p, hz⟩ := I1.list hq
  refine wpAny_pyIter_list p.isList ?_
  refine ⟨s1.heap.objs.size, [s1.heap.objs.size], _, _, H1, rfl, I1.kept (t' := s1.toks) fun b o e => Heap.get?_push_of_some _ e, turn_list a _, ⟨_, Heap.get?_push_size _ rfl, rfl, rfl⟩, fun b hb => ?_, q⟩
  have e : b = s1.heap.objs.size := by simpa using hb
  subst e
  exact I1.fpOk (Nat.le_refl _) (I1.hok.fresh (Nat.le_refl _))
theorem pi_tup {l : Expr} {tl : TE} (hl : PE X l tl) : PI X tg l (iTup X.K tl) := by
  intro pins s σ H R I h
  refine thn (hl pins s σ H _ I h) fun v s1 ⟨x, H1, I1, r1, q1⟩ => ?_
  obtain ⟨a, e, ⟨xs, hq⟩, q⟩ := q1
  subst e
  cases r1
  obtain ⟨its, rv, p, hz⟩ := I1.tuple hq
  refine wpAny_pyIter_tuple (show s1.heap.IsTuple a its.toArray from p) ?_
  refine ⟨s1.heap.objs.size, [s1.heap.objs.size], _, _, H1, rfl, I1.kept (t' := s1.toks) fun b o e => Heap.get?_push_of_some _ e, turn_tuple a _, ⟨_, Heap.get?_push_size _ rfl, rfl, rfl⟩, fun b hb => ?_, q⟩
  have e : b = s1.heap.objs.size := by simpa using hb
  subst e
  exact I1.fpOk (Nat.le_refl _) (I1.hok.fresh (Nat.le_refl _))
theorem range_it {pins : List (Addr × Obj)} {σ : St} {H : Hp} {s : Shared} {R : It → Hp → Prop} {E : Value → Shared → Prop} {lo hi : Int} {t u v : Tok} {tk : Nat} (I : Inv X pins σ H s) (h1 : -(2 ^ 62) ≤ lo) (h2 : lo < 2 ^ 62) (h3 : -(2 ^ 62) ≤ hi) (h4 : hi < 2 ^ 62)
    (q : R (Itr lo (hi - lo).toNat) H) : wpAny (model X.prog X.w) X.A (pyIter (.ref s.heap.objs.size)) (PIE X pins σ tg R) E { s with heap := s.heap.push { cls := .type "range", data := .fields #[.int lo t, .int hi u, .int 1 v] }, toks := tk } := by
  refine wpAny_pyIter_range (IsRange.new ..) (small_one h1 h2 h3 h4) ?_
  have I1 : Inv X pins σ H { s with heap := s.heap.push { cls := .type "range", data := .fields #[.int lo t, .int hi u, .int 1 v] }, toks := tk } := I.kept fun b o e => Heap.get?_push_of_some _ e
  refine ⟨(s.heap.push { cls := .type "range", data := .fields #[.int lo t, .int hi u, .int 1 v] }).objs.size, [(s.heap.push { cls := .type "range", data := .fields #[.int lo t, .int hi u, .int 1 v] }).objs.size], _, _, H, rfl,
    I1.kept (t' := tk) fun b o e => Heap.get?_push_of_some _ e, turn_range _ lo (hi - lo).toNat, ?_, fun b hb => ?_, q⟩
  · have e1 : lo + ((0 : Nat) : Int) * 1 = lo := by simp
    have e2 : (((hi - lo).toNat : Nat) : Int) - ((0 : Nat) : Int) = Builtin.Range.rangeSize lo hi 1 := by rw [rangeSize_one]; split <;> omega
    show IsRangeIter _ _ (lo + ((0 : Nat) : Int) * 1) ((((hi - lo).toNat : Nat) : Int) - ((0 : Nat) : Int)) 1
    rw [e1, e2]
    exact Heap.get?_push_size _ rfl
  · have e : b = (s.heap.push { cls := .type "range", data := .fields #[.int lo t, .int hi u, .int 1 v] }).objs.size := by simpa using hb
    subst e
    exact I1.fpOk (Nat.le_refl _) (I1.hok.fresh (Nat.le_refl _))
def iRng1 (ta : TA) : TI := fun σ H R => ta σ H fun vs H1 => ∃ j : Int, vs = [.int j] ∧ -(2 ^ 62) ≤ j ∧ j < 2 ^ 62 ∧ R (Itr 0 j.toNat) H1
theorem qBg {a : Expr} {ta : TA} {p pos : Pos} (hg : Gl X "range") (hm : X.mg "range" = none) (ha : PA X [a] ta) (hs : starEach [a] X.env = [(false, eval a X.env)] := by rfl) : PI X tg (.Call (.Name "range" p) [a] [] pos) (iRng1 ta) := by
  intro pins s σ H R I h
  refine Call_ (qFr I hg hm boot_range (PyProof.Rows.callWith_type1 (thn (ha pos pins s σ H _ I h) fun us s1 ⟨vs, H1, I1, r1, q1⟩ => ?_) hs rfl))
  obtain ⟨j, e, q1, q2, q⟩ := q1
  subst e
  cases r1 with
  | cons r rr =>
    cases rr
    obtain ⟨t, rfl⟩ := r
    exact call_range_1 (range_it I1 (by omega) (by omega) q1 q2 (by simpa using q))
def tFor (wi : TI) (g : TG) (tb : TS) : TS := fun D σ H => wi σ H fun J H1 => ∃ W : Nat → Nat → St → Hp → Prop, (∃ m, W 0 m σ H1) ∧ ∀ i m σ H, W i m σ H →
  (J.stop i H ∧ D.nx σ H) ∨ (J.go i H ∧ ∃ N : St → Hp → Prop, (∀ σ' H', N σ' H' → ∃ m', m' < m ∧ W (i + 1) m' σ' H') ∧ ∀ x H', J.yld i H x H' → g x σ H' fun σ2 H2 => tb { D with nx := N, ct := N, bk := D.nx } σ2 H2)
def pinsAt (fp : List Addr) (h : Heap) : List (Addr × Obj) := fp.filterMap fun b => (h.get? b).map fun o => (b, o)
theorem qBw {fp : List Addr} {h : Heap} {b : Addr} {o : Obj} (hb : b ∈ fp) (e : h.get? b = some o) : (b, o) ∈ pinsAt fp h := List.mem_filterMap.mpr ⟨b, hb, by rw [e]; rfl⟩
theorem of_pinsAt {fp : List Addr} {h : Heap} {p : Addr × Obj} (hp : p ∈ pinsAt fp h) : p.1 ∈ fp ∧ h.get? p.1 = some p.2 := by
  obtain ⟨b, hb, e⟩ := List.mem_filterMap.mp hp
  cases q : h.get? b with
  | none => rw [q] at e; cases e
  | some o =>
    rw [q] at e
    have e' : (b, o) = p := Option.some.inj e
    subst e'
    exact ⟨hb, q⟩
theorem Inv.pinned {pins : List (Addr × Obj)} {σ : St} {H : Hp} {s : Shared} {fp : List Addr} (I : Inv X pins σ H s) (hf : ∀ b ∈ fp, FpOk X pins H b) (ho : ∀ b ∈ fp, ∃ o, s.heap.get? b = some o ∧ ∀ v, o.data ≠ .cell v) : Inv X (pins ++ pinsAt fp s.heap) σ H s :=
  I.pins_of fun p hp => (List.mem_append.mp hp).elim (fun z => I.pin p (List.mem_append_right _ z)) fun z => by
    obtain ⟨hb, e⟩ := of_pinsAt z
    obtain ⟨f0, f1, f2, _⟩ := hf p.1 hb
    obtain ⟨o, e', d⟩ := ho p.1 hb
    rw [e] at e'; cases e'
    exact ⟨e, f0, f1, f2, d⟩
theorem Inv.unpinned {pins pl : List (Addr × Obj)} {σ : St} {H : Hp} {s : Shared} (I : Inv X (pins ++ pl) σ H s) : Inv X pins σ H s := I.pins_of fun p hp => I.pin p (List.mem_append_right _ (List.mem_append_left _ hp))
theorem qBl {iter : Expr} {body : List Stmt} {wi : TI} {g : TG} {tb : TS} {pos : Pos} (hp : PassesOwn (model X.prog X.w) X.A X.env X.xe) (hc : X.calm = true) (hi : PI X tg iter wi) (hg : PG X tg g) (hb : PSs X body tb)
    (hs : ∀ x, foldedSetIterable iter X.env x = pure x := by intro _; rfl) : PS X (.For tg iter body [] pos) (tFor wi g tb) := by
  intro pins s σ H D I h
  refine wpAny_For (thn (hi pins s σ H _ I h) fun v s1 h1 => thn h1 fun itv s2 h2 => ?_) hs
  obtain ⟨it, fp, tn, J, H2, e, I2, T, st2, f2, W, ⟨m0, w0⟩, turn⟩ := h2
  subst e
  have stat : ∀ {H' : Hp}, (∀ b ∈ fp, H' b = none) → ∀ b ∈ fp, FpOk X pins H' b := fun hn b hb => ⟨hn b hb, (f2 b hb).2⟩
  refine codeAny_forLoop_any (fun n s' => ∃ i σ' H', Inv X pins σ' H' s' ∧ tn i s'.heap ∧ (∀ b ∈ fp, H' b = none) ∧ W i n σ' H') ?_ m0 ⟨0, σ, H2, I2, st2, fun b hb => (f2 b hb).1, w0⟩
  rintro n s3 ⟨i, σ3, H3, I3, st3, fr3, w3⟩
  rcases turn i n σ3 H3 w3 with ⟨stop, qn⟩ | ⟨go, N, hN, step⟩
  · refine wpAny_passesOwn hp (thn (T.done X rfl rfl rfl hc i pins s3 σ3 H3 X.xe I3 (stat fr3) st3 stop) fun r s4 ⟨hr, I4⟩ => ?_)
    subst hr
    exact wpAny_execs_nil ⟨σ3, H3, I4, qn⟩
  · refine wpAny_passesOwn hp (thn (T.item X rfl rfl rfl hc i pins s3 σ3 H3 X.xe I3 (stat fr3) st3 go) fun r s4 ⟨u, hr, h4⟩ => ?_)
    subst hr
    refine wpAny_passesOwn hp (thn h4 fun _ s5 ⟨x, H5, I5, r5, y5, st5, fr5⟩ => ?_)
    have I5' := I5.pinned (stat fr5) (T.obj _ _ st5)
    refine wpAny_passesOwn hp (thn (hg _ s5 σ3 H5 x u _ I5' r5 (step x H5 y5)) fun _ s6 ⟨σ6, H6, I6, q6⟩ => ?_)
    refine wpAny_passesOwn hp (thn (hb _ s6 σ6 H6 _ I6 q6) fun f s7 q7 => ?_)
    have again : ∀ {σ7 : St} {H7 : Hp}, Inv X (pins ++ pinsAt fp s5.heap) σ7 H7 s7 → N σ7 H7 → ∃ m, m < n ∧ ∃ i σ' H', Inv X pins σ' H' s7 ∧ tn i s7.heap ∧ (∀ b ∈ fp, H' b = none) ∧ W i m σ' H' := fun {σ7 H7} I7 n7 => by
      obtain ⟨m', hm, w7⟩ := hN σ7 H7 n7
      refine ⟨m', hm, i + 1, σ7, H7, I7.unpinned, T.keep _ _ _ st5 fun b hb o e => (I7.pin (b, o) (List.mem_append_right _ (List.mem_append_right _ (qBw hb e)))).1, fun b hb => ?_, w7⟩
      obtain ⟨o, e, d⟩ := T.obj _ _ st5 b hb
      exact (I7.pin (b, o) (List.mem_append_right _ (List.mem_append_right _ (qBw hb e)))).2.1
    cases f with
    | next => obtain ⟨σ7, H7, I7, n7⟩ := q7; exact again I7 n7
    | cont => obtain ⟨σ7, H7, I7, n7⟩ := q7; exact again I7 n7
    | brk => obtain ⟨σ7, H7, I7, q7⟩ := q7; exact ⟨σ7, H7, I7.unpinned, q7⟩
    | ret v => obtain ⟨x7, σ7, H7, I7, r7, q7⟩ := q7; exact ⟨x7, σ7, H7, I7.unpinned, r7, q7⟩
end
theorem qB0 {K : PySem.W.Frag} {a : Addr} {xs : List V} {g : TG} {tb : TS} {D : Ends} {σ : St} {H : Hp} (Pv : Nat → St → Hp → Prop) (h0 : Pv 0 σ H) (hl : ∀ i σ H, i ≤ xs.length → Pv i σ H → SqL K H a xs)
    (hs : ∀ i x σ H, xs[i]? = some x → Pv i σ H → g x σ H fun σ2 H2 => tb { D with nx := Pv (i + 1), ct := Pv (i + 1), bk := D.nx } σ2 H2) (hd : ∀ σ H, Pv xs.length σ H → D.nx σ H) :
    ∃ W : Nat → Nat → St → Hp → Prop, (∃ m, W 0 m σ H) ∧ ∀ i m σ H, W i m σ H →
      ((Itl K a).stop i H ∧ D.nx σ H) ∨ ((Itl K a).go i H ∧ ∃ N : St → Hp → Prop, (∀ σ' H', N σ' H' → ∃ m', m' < m ∧ W (i + 1) m' σ' H') ∧ ∀ x H', (Itl K a).yld i H x H' → g x σ H' fun σ2 H2 => tb { D with nx := N, ct := N, bk := D.nx } σ2 H2) := by
  refine ⟨fun i m σ H => m = xs.length - i ∧ i ≤ xs.length ∧ Pv i σ H, ⟨xs.length, by simp, Nat.zero_le _, h0⟩, ?_⟩
  rintro i m σ H ⟨rfl, hi, p⟩
  have q := hl i σ H hi p
  by_cases hlt : i < xs.length
  · refine .inr ⟨⟨xs, xs[i], q, by simp [hlt]⟩, Pv (i + 1), fun σ' H' p' => ⟨xs.length - (i + 1), by omega, rfl, hlt, p'⟩, fun x H' y => ?_⟩
    obtain ⟨e, y⟩ := y
    subst e
    exact hs i x σ _ (y xs q) p
  · have e : i = xs.length := by omega
    subst e
    exact .inl ⟨⟨xs, q, Nat.le_refl _⟩, hd σ H p⟩
theorem qBt {lo : Int} {n : Nat} {g : TG} {tb : TS} {D : Ends} {σ : St} {H : Hp} (Pv : Nat → St → Hp → Prop) (h0 : Pv 0 σ H)
    (hs : ∀ i σ H, i < n → Pv i σ H → g (.int (lo + i)) σ H fun σ2 H2 => tb { D with nx := Pv (i + 1), ct := Pv (i + 1), bk := D.nx } σ2 H2) (hd : ∀ σ H, Pv n σ H → D.nx σ H) :
    ∃ W : Nat → Nat → St → Hp → Prop, (∃ m, W 0 m σ H) ∧ ∀ i m σ H, W i m σ H →
      ((Itr lo n).stop i H ∧ D.nx σ H) ∨ ((Itr lo n).go i H ∧ ∃ N : St → Hp → Prop, (∀ σ' H', N σ' H' → ∃ m', m' < m ∧ W (i + 1) m' σ' H') ∧ ∀ x H', (Itr lo n).yld i H x H' → g x σ H' fun σ2 H2 => tb { D with nx := N, ct := N, bk := D.nx } σ2 H2) := by
  refine ⟨fun i m σ H => m = n - i ∧ i ≤ n ∧ Pv i σ H, ⟨n, by simp, Nat.zero_le _, h0⟩, ?_⟩
  rintro i m σ H ⟨rfl, hi, p⟩
  by_cases hlt : i < n
  · refine .inr ⟨hlt, Pv (i + 1), fun σ' H' p' => ⟨n - (i + 1), by omega, rfl, hlt, p'⟩, fun x H' y => ?_⟩
    obtain ⟨e, y⟩ := y
    subst e y
    exact hs i σ _ hlt p
  · have e : i = n := by omega
    subst e
    exact .inl ⟨Nat.le_refl _, hd σ H p⟩
end L2
namespace L2
open PySem PySem.Spec PyProof.Rows
abbrev R2 := V → V → Hp → VK → Prop
def OpR (X : Cx) (f : Value → Value → Sem Value) (r : R2) : Prop :=
  ∀ (pins : List (Addr × Obj)) (s : Shared) (σ : St) (H : Hp) (x y : V) (v u : Value) (Q : VK), Inv X pins σ H s → qCn x v → qCn y u → r x y H Q →
    wpAny (model X.prog X.w) X.A (f v u) (EP X pins σ Q) X.xe s
def UnR (X : Cx) (f : Value → Sem Value) (r : V → Hp → VK → Prop) : Prop :=
  ∀ (pins : List (Addr × Obj)) (s : Shared) (σ : St) (H : Hp) (x : V) (v : Value) (Q : VK), Inv X pins σ H s → qCn x v → r x H Q →
    wpAny (model X.prog X.w) X.A (f v) (EP X pins σ Q) X.xe s
def qCr (X : Cx) (f : Value) (r : List V → Hp → VK → Prop) : Prop :=
  ∀ (pins : List (Addr × Obj)) (s : Shared) (σ : St) (H : Hp) (xs : List V) (us : List Value) (Q : VK), Inv X pins σ H s → qBa xs us → r xs H Q →
    wpAny (model X.prog X.w) X.A (call f us) (EP X pins σ Q) X.xe s
def TruR (X : Cx) (r : V → Hp → (Bool → Hp → Prop) → Prop) : Prop :=
  ∀ (pins : List (Addr × Obj)) (s : Shared) (σ : St) (H : Hp) (x : V) (v : Value) (Q : Bool → Hp → Prop), Inv X pins σ H s → qCn x v → r x H Q →
    wpAny (model X.prog X.w) X.A (truthy v) (TP X pins σ Q) X.xe s
def tOp (r : R2) (ta tb : TE) : TE := fun σ H Q => ta σ H fun x H1 => tb σ H1 fun y H2 => r x y H2 Q
def tUn (r : V → Hp → VK → Prop) (ta : TE) : TE := fun σ H Q => ta σ H fun x H1 => r x H1 Q
def rI (C : Int → Int → Prop) (g : Int → Int → V) : R2 := fun x y H Q => ∃ i j, x = .int i ∧ y = .int j ∧ C i j ∧ Q (g i j) H
def rI0 (g : Int → Int → V) : R2 := fun x y H Q => ∃ i j, x = .int i ∧ y = .int j ∧ Q (g i j) H
def rU (g : Int → V) : V → Hp → VK → Prop := fun x H Q => ∃ i, x = .int i ∧ Q (g i) H
section
variable {X : Cx} {a b c : Expr} {ta tb tc : TE} {pos : Pos}
theorem binT (ha : PE X a ta) (hb : PE X b tb) {pins : List (Addr × Obj)} {s : Shared} {σ : St} {H : Hp} {R : V → V → Hp → Prop} (I : Inv X pins σ H s)
    (h : ta σ H fun x H1 => tb σ H1 fun y H2 => R x y H2) {Q : Value → Shared → Prop} {f : Value → Value → Sem Value}
    (hf : ∀ v u s2 x y H2, Inv X pins σ H2 s2 → qCn x v → qCn y u → R x y H2 → wpAny (model X.prog X.w) X.A (f v u) Q X.xe s2) :
    wpAny (model X.prog X.w) X.A (eval a X.env) (fun v s₁ => wpAny (model X.prog X.w) X.A (eval b X.env) (fun u s₂ => wpAny (model X.prog X.w) X.A (f v u) Q X.xe s₂) X.xe s₁) X.xe s := by
  refine thn (ha pins s σ H _ I h) fun v s1 ⟨x, H1, I1, r1, q1⟩ => ?_
  refine thn (hb pins s1 σ H1 _ I1 q1) fun u s2 ⟨y, H2, I2, r2, q2⟩ => ?_
  exact hf v u s2 x y H2 I2 r1 r2 q2
theorem qAg {op : Operator} {r : R2} (ho : OpR X (binaryOp op) r) (ha : PE X a ta) (hb : PE X b tb) : PE X (.BinOp a op b pos) (tOp r ta tb) := by
  intro pins s σ H Q I h
  exact wpAny_BinOp (binT ha hb I h fun v u s2 x y H2 I2 rx ry q => ho pins s2 σ H2 x y v u Q I2 rx ry q)
theorem pe_un {op : UnaryOp} {r : V → Hp → VK → Prop} (ho : UnR X (unaryOp op) r) (ha : PE X a ta) : PE X (.UnaryOp op a pos) (tUn r ta) := by
  intro pins s σ H Q I h
  exact UnaryOp_ (thn (ha pins s σ H _ I h) fun v s1 ⟨x, H1, I1, r1, q1⟩ => ho pins s1 σ H1 x v Q I1 r1 q1)
theorem opI {f : Value → Value → Sem Value} {C : Int → Int → Prop} {g : Int → Int → Int}
    (rule : ∀ (i j : Int) (t u : Tok) (s : Shared) (Q : Value → Shared → Prop) (E : Value → Shared → Prop), C i j → Q (.int (g i j) s.toks) { s with toks := s.toks + 1 } → wpAny (model X.prog X.w) X.A (f (.int i t) (.int j u)) Q E s) :
    OpR X f (rI C fun i j => .int (g i j)) := by
  intro pins s σ H x y v u Q I rx ry h
  obtain ⟨i, j, rfl, rfl, hc, q⟩ := h
  obtain ⟨t, rfl⟩ := rx
  obtain ⟨t', rfl⟩ := ry
  exact rule i j t t' s _ _ hc ⟨.int (g i j), H, I.tok _, ⟨_, rfl⟩, q⟩
theorem opI0 {f : Value → Value → Sem Value} {g : Int → Int → Int}
    (rule : ∀ (i j : Int) (t u : Tok) (s : Shared) (Q : Value → Shared → Prop) (E : Value → Shared → Prop), Q (.int (g i j) s.toks) { s with toks := s.toks + 1 } → wpAny (model X.prog X.w) X.A (f (.int i t) (.int j u)) Q E s) :
    OpR X f (rI0 fun i j => .int (g i j)) := by
  intro pins s σ H x y v u Q I rx ry h
  obtain ⟨i, j, rfl, rfl, q⟩ := h
  obtain ⟨t, rfl⟩ := rx
  obtain ⟨t', rfl⟩ := ry
  exact rule i j t t' s _ _ ⟨.int (g i j), H, I.tok _, ⟨_, rfl⟩, q⟩
theorem opB0 {f : Value → Value → Sem Value} {g : Int → Int → Bool}
    (rule : ∀ (i j : Int) (t u : Tok) (s : Shared) (Q : Value → Shared → Prop) (E : Value → Shared → Prop), Q (.bool (g i j)) s → wpAny (model X.prog X.w) X.A (f (.int i t) (.int j u)) Q E s) :
    OpR X f (rI0 fun i j => .bl (g i j)) := by
  intro pins s σ H x y v u Q I rx ry h
  obtain ⟨i, j, rfl, rfl, q⟩ := h
  obtain ⟨t, rfl⟩ := rx
  obtain ⟨t', rfl⟩ := ry
  exact rule i j t t' s _ _ ⟨.bl (g i j), H, I, rfl, q⟩
def CDiv (i j : Int) : Prop := 0 < j ∧ j < 1073741824
def CPow (i j : Int) : Prop := 0 ≤ j ∧ j ≤ 1000000 ∧ i.natAbs < 2 ^ 64
def CMul (i j : Int) : Prop := (-(2 ^ 64) < i ∧ i < 2 ^ 64) ∨ (-(2 ^ 64) < j ∧ j < 2 ^ 64)
theorem CMul.ok {i j : Int} (h : CMul i j) : IntMulOk i j := by
  rcases h with ⟨h1, h2⟩ | ⟨h1, h2⟩
  · exact .of_left (intBits_le_64 h1 h2)
  · exact .of_right (intBits_le_64 h1 h2)
theorem two_pow_nn (k : Nat) : (0 : Int) ≤ 2 ^ k := by
  rw [two_pow_cast]
  exact Int.natCast_nonneg _
theorem qBm : OpR X (binaryOp .Add) (rI0 fun i j => .int (i + j)) := opI0 fun _ _ _ _ _ _ _ q => add_int q
theorem qE1 : OpR X (binaryOp .Sub) (rI0 fun i j => .int (i - j)) := opI0 fun _ _ _ _ _ _ _ q => sub_int q
theorem qDv : OpR X (binaryOp .Mult) (rI CMul fun i j => .int (i * j)) := opI fun _ _ _ _ _ _ _ hc q => mul_int q hc.ok
theorem qA5 : OpR X (binaryOp .FloorDiv) (rI CDiv fun i j => .int (i / j)) := opI fun i j _ _ _ _ _ hc q => by
  have h1 : (0 : Int) < j := hc.1
  have h2 : j < 1073741824 := hc.2
  exact floordiv_int (by omega) (by rw [Int.fdiv_eq_ediv_of_nonneg i (by omega)]; exact q) (.inl (PyProof.noPylong_small (by omega)))
theorem qBd : OpR X (binaryOp .Mod) (rI (fun _ j => 0 < j) fun i j => .int (i % j)) := opI fun i j _ _ _ _ _ hc q => by
  have h1 : (0 : Int) < j := hc
  exact mod_int' (by omega) (by rw [Int.fmod_eq_emod_of_nonneg i (by omega)]; exact q)
theorem op_pow : OpR X (binaryOp .Pow) (rI CPow fun i j => .int (i ^ j.toNat)) := opI fun _ _ _ _ _ _ _ hc q => pow_int_small hc.1 hc.2.1 hc.2.2 q
theorem qCy : OpR X (binaryOp .LShift) (rI CPow fun i j => .int (i * 2 ^ j.toNat)) := opI fun _ _ _ _ _ _ _ hc q => lshift_int_small hc.1 hc.2.1 hc.2.2 q
theorem qGe : OpR X (binaryOp .RShift) (rI (fun _ j => 0 ≤ j) fun i j => .int (i / 2 ^ j.toNat)) := opI fun i j _ _ _ _ _ hc q =>
  rshift_int hc (by rw [Int.fdiv_eq_ediv_of_nonneg i (two_pow_nn _)]; exact q)
theorem qCg : OpR X (binaryOp .BitAnd) (rI0 fun i j => .int (Builtin.bitAnd i j)) := opI0 fun _ _ _ _ _ _ _ q => and_int q
theorem op_or : OpR X (binaryOp .BitOr) (rI0 fun i j => .int (Builtin.bitOr i j)) := opI0 fun _ _ _ _ _ _ _ q => or_int q
theorem qE0 : OpR X (binaryOp .BitXor) (rI0 fun i j => .int (Builtin.bitXor i j)) := opI0 fun _ _ _ _ _ _ _ q => xor_int q
theorem unI {f : Value → Sem Value} {g : Int → Int}
    (rule : ∀ (i : Int) (t : Tok) (s : Shared) (Q : Value → Shared → Prop) (E : Value → Shared → Prop), Q (.int (g i) s.toks) { s with toks := s.toks + 1 } → wpAny (model X.prog X.w) X.A (f (.int i t)) Q E s) :
    UnR X f (rU fun i => .int (g i)) := by
  intro pins s σ H x v Q I rx h
  obtain ⟨i, rfl, q⟩ := h
  obtain ⟨t, rfl⟩ := rx
  exact rule i t s _ _ ⟨.int (g i), H, I.tok _, ⟨_, rfl⟩, q⟩
theorem un_neg : UnR X (unaryOp .USub) (rU fun i => .int (-i)) := unI fun _ _ _ _ _ q => neg_int q
end
def scal : V → V → Bool
  | .non, .non => true | .non, .int _ => true | .int _, .non => true | .non, .bl _ => true | .bl _, .non => true | .non, .str _ => true | .str _, .non => true
  | .int _, .int _ => true | .bl _, .bl _ => true | .str _, .str _ => true | .byt _, .byt _ => true
  | .int _, .str _ => true | .str _, .int _ => true | .bl _, .str _ => true | .str _, .bl _ => true
  | _, _ => false
def rEq : R2 := fun x y H Q => scal x y = true ∧ Q (.bl (decide (x = y))) H
def rNe : R2 := fun x y H Q => scal x y = true ∧ Q (.bl (!decide (x = y))) H
theorem dec_int {i j : Int} : decide (V.int i = V.int j) = (i == j) := by
  rw [Bool.eq_iff_iff]
  simp
theorem dec_bl {i j : Bool} : decide (V.bl i = V.bl j) = (i == j) := by
  rw [Bool.eq_iff_iff]
  simp
theorem dec_str {i j : Str} : decide (V.str i = V.str j) = (i == j) := by
  rw [Bool.eq_iff_iff]
  simp
theorem dec_byt {i j : Array UInt8} : decide (V.byt i = V.byt j) = (i.toList == j.toList) := by
  rw [Bool.eq_iff_iff]
  cases i
  cases j
  simp
section
variable {X : Cx} {a b c : Expr} {ta tb tc : TE} {pos : Pos}
theorem fin_bl {pins : List (Addr × Obj)} {σ : St} {H : Hp} {s : Shared} {Q : VK} {k k' : Bool} (I : Inv X pins σ H s) (q : Q (.bl k) H) (e : k = k') : EP X pins σ Q (.bool k') s := by
  subst e
  exact ⟨.bl k, H, I, rfl, q⟩
theorem qDg : OpR X (compareOp .Eq) rEq := by
  intro pins s σ H x y v u Q I rx ry h
  obtain ⟨hs, q⟩ := h
  cases x with
  | non =>
    cases rx
    cases y with
    | non => cases ry; exact PySem.EqNone.eq_none_none (fin_bl I q (by simp))
    | bl j => cases ry; exact PySem.EqNone.eq_none_bool (fin_bl I q (by simp))
    | int j => obtain ⟨t', rfl⟩ := ry; exact PySem.EqNone.eq_none_int (fin_bl I q (by simp))
    | str j => obtain ⟨t', rfl⟩ := ry; exact PySem.EqNone.eq_none_str (fin_bl I q (by simp))
    | _ => exact absurd (show false = true from hs) Bool.false_ne_true
  | bl i =>
    cases rx
    cases y with
    | non => cases ry; exact PySem.EqNone.eq_bool_none (fin_bl I q (by simp))
    | bl j => cases ry; exact eq_bool (fin_bl I q dec_bl)
    | str j => obtain ⟨t', rfl⟩ := ry; exact PySem.EqMixed.eq_bool_str (fin_bl I q (by simp))
    | _ => exact absurd (show false = true from hs) Bool.false_ne_true
  | int i =>
    obtain ⟨t, rfl⟩ := rx
    cases y with
    | non => cases ry; exact PySem.EqNone.eq_int_none (fin_bl I q (by simp))
    | int j => obtain ⟨t', rfl⟩ := ry; exact eq_int (fin_bl I q dec_int)
    | str j => obtain ⟨t', rfl⟩ := ry; exact PySem.EqMixed.eq_int_str (fin_bl I q (by simp))
    | _ => exact absurd (show false = true from hs) Bool.false_ne_true
  | str i =>
    obtain ⟨t, rfl⟩ := rx
    cases y with
    | non => cases ry; exact PySem.EqNone.eq_str_none (fin_bl I q (by simp))
    | bl j => cases ry; exact PySem.EqMixed.eq_str_bool (fin_bl I q (by simp))
    | int j => obtain ⟨t', rfl⟩ := ry; exact PySem.EqMixed.eq_str_int (fin_bl I q (by simp))
    | str j => obtain ⟨t', rfl⟩ := ry; exact eq_str (fin_bl I q dec_str)
    | _ => exact absurd (show false = true from hs) Bool.false_ne_true
  | byt i =>
    obtain ⟨t, rfl⟩ := rx
    cases y with
    | byt j => obtain ⟨t', rfl⟩ := ry; exact PySem.W.eq_bytes (fin_bl I q dec_byt)
    | _ => exact absurd (show false = true from hs) Bool.false_ne_true
  | _ => cases y <;> exact absurd (show false = true from hs) Bool.false_ne_true
theorem qEb : OpR X (compareOp .NotEq) rNe := by
  intro pins s σ H x y v u Q I rx ry h
  obtain ⟨hs, q⟩ := h
  cases x with
  | non =>
    cases rx
    cases y with
    | non => cases ry; exact PySem.EqNone.ne_none_none (fin_bl I q (by simp))
    | bl j => cases ry; exact PySem.EqNone.ne_none_bool (fin_bl I q (by simp))
    | int j => obtain ⟨t', rfl⟩ := ry; exact PySem.EqNone.ne_none_int (fin_bl I q (by simp))
    | str j => obtain ⟨t', rfl⟩ := ry; exact PySem.EqNone.ne_none_str (fin_bl I q (by simp))
    | _ => exact absurd (show false = true from hs) Bool.false_ne_true
  | bl i =>
    cases rx
    cases y with
    | non => cases ry; exact PySem.EqNone.ne_bool_none (fin_bl I q (by simp))
    | bl j => cases ry; exact ne_bool (fin_bl I q (congrArg not dec_bl))
    | str j => obtain ⟨t', rfl⟩ := ry; exact PySem.EqMixed.ne_bool_str (fin_bl I q (by simp))
    | _ => exact absurd (show false = true from hs) Bool.false_ne_true
  | int i =>
    obtain ⟨t, rfl⟩ := rx
    cases y with
    | non => cases ry; exact PySem.EqNone.ne_int_none (fin_bl I q (by simp))
    | int j => obtain ⟨t', rfl⟩ := ry; exact ne_int (fin_bl I q (congrArg not dec_int))
    | str j => obtain ⟨t', rfl⟩ := ry; exact PySem.EqMixed.ne_int_str (fin_bl I q (by simp))
    | _ => exact absurd (show false = true from hs) Bool.false_ne_true
  | str i =>
    obtain ⟨t, rfl⟩ := rx
    cases y with
    | non => cases ry; exact PySem.EqNone.ne_str_none (fin_bl I q (by simp))
    | bl j => cases ry; exact PySem.EqMixed.ne_str_bool (fin_bl I q (by simp))
    | int j => obtain ⟨t', rfl⟩ := ry; exact PySem.EqMixed.ne_str_int (fin_bl I q (by simp))
    | str j => obtain ⟨t', rfl⟩ := ry; exact ne_str (fin_bl I q (congrArg not dec_str))
    | _ => exact absurd (show false = true from hs) Bool.false_ne_true
  | byt i =>
    obtain ⟨t, rfl⟩ := rx
    cases y with
    | byt j => obtain ⟨t', rfl⟩ := ry; exact PySem.W.ne_bytes (fin_bl I q (congrArg not dec_byt))
    | _ => exact absurd (show false = true from hs) Bool.false_ne_true
  | _ => cases y <;> exact absurd (show false = true from hs) Bool.false_ne_true
theorem qE5 : OpR X (compareOp .Lt) (rI0 fun i j => .bl (decide (i < j))) := opB0 fun _ _ _ _ _ _ _ q => lt_int q
theorem op_le : OpR X (compareOp .LtE) (rI0 fun i j => .bl (decide (i ≤ j))) := opB0 fun _ _ _ _ _ _ _ q => le_int q
theorem op_gt : OpR X (compareOp .Gt) (rI0 fun i j => .bl (decide (j < i))) := opB0 fun _ _ _ _ _ _ _ q => gt_int q
theorem op_ge : OpR X (compareOp .GtE) (rI0 fun i j => .bl (decide (j ≤ i))) := opB0 fun _ _ _ _ _ _ _ q => ge_int q
theorem op_lt_str : OpR X (compareOp .Lt) (fun x y H Q => ∃ i j, x = .str i ∧ y = .str j ∧ Q (.bl (decide (i.cps.toList < j.cps.toList))) H) := by
  intro pins s σ H x y v u Q I rx ry h
  obtain ⟨i, j, rfl, rfl, q⟩ := h
  obtain ⟨t, rfl⟩ := rx
  obtain ⟨t', rfl⟩ := ry
  exact lt_str (fin_bl I q rfl)
theorem op_in_str : OpR X (compareOp .In) (fun x y H Q => ∃ i j, x = .str i ∧ y = .str j ∧ Q (.bl (!(Builtin.Str.occurrences j i 0 j.length 1).isEmpty)) H) := by
  intro pins s σ H x y v u Q I rx ry h
  obtain ⟨i, j, rfl, rfl, q⟩ := h
  obtain ⟨t, rfl⟩ := rx
  obtain ⟨t', rfl⟩ := ry
  exact in_str (fin_bl I q rfl)
theorem qAt (b : Expr) {op : CmpOp} (h : op ≠ .In := by decide) (h2 : op ≠ .NotIn := by decide) : behindInMarks op b = false := by
  have e1 : (op == CmpOp.In) = false := by cases op <;> first | rfl | exact absurd rfl h
  have e2 : (op == CmpOp.NotIn) = false := by cases op <;> first | rfl | exact absurd rfl h2
  cases b <;> simp [behindInMarks, e1, e2]
theorem qCd {op : CmpOp} {r : R2} (ho : OpR X (compareOp op) r) (ha : PE X a ta) (hb : PE X b tb) (hm : behindInMarks op b = false) : PE X (.Compare a [op] [b] pos) (tOp r ta tb) := by
  intro pins s σ H Q I h
  exact wpAny_Compare1 (binT ha hb I h fun v u s2 x y H2 I2 rx ry q => ho pins s2 σ H2 x y v u Q I2 rx ry q) hm
def tTest (t : TE) : TT := fun σ H Q => t σ H fun x H' => ∃ k, x = .bl k ∧ Q k H'
theorem qAn {op : CmpOp} {r : R2} (ho : OpR X (compareOp op) r) (ha : PE X a ta) (hb : PE X b tb) (hm : behindInMarks op b = false) : PT X (.Compare a [op] [b] pos) (tTest (tOp r ta tb)) := by
  intro pins s σ H Q I h
  refine wpAny_isTrue_Compare1 (thn (ha pins s σ H _ I h) fun v s1 ⟨x, H1, I1, r1, q1⟩ => thn (hb pins s1 σ H1 _ I1 q1) fun u s2 ⟨y, H2, I2, r2, q2⟩ =>
    thn (ho pins s2 σ H2 x y v u _ I2 r1 r2 q2) fun c s3 ⟨z, H3, I3, r3, k, e, q3⟩ => ?_) hm
  subst e
  cases r3
  exact wpAny_truthy_bool ⟨H3, I3, q3⟩
def tChain (r r' : R2) (ta tb tc : TE) : TE := fun σ H Q => ta σ H fun x H1 => tb σ H1 fun y H2 => r x y H2 fun z H3 => ∃ k, z = .bl k ∧
  (if k = true then tc σ H3 fun w' H4 => r' y w' H4 Q else Q (.bl false) H3)
theorem pt_chain {op op' : CmpOp} {r r' : R2} (ho : OpR X (compareOp op) r) (ho' : OpR X (compareOp op') r') (ha : PE X a ta) (hb : PE X b tb) (hc : PE X c tc)
    (hm : lastMarks [op, op'] [b, c] = false := by with_unfolding_all rfl) : PT X (.Compare a [op, op'] [b, c] pos) (tTest (tChain r r' ta tb tc)) := by
  intro pins s σ H Q I h
  refine isTrue_chain (thn (ha pins s σ H _ I h) fun v s1 ⟨x, H1, I1, r1, q1⟩ => test_link (thn (hb pins s1 σ H1 _ I1 q1) fun u s2 ⟨y, H2, I2, r2, q2⟩ =>
    thn (ho pins s2 σ H2 x y v u _ I2 r1 r2 q2) fun d s3 ⟨z, H3, I3, r3, k, e, q3⟩ => ?_)) hm
  subst e
  cases r3
  refine wpAny_truthy_bool ?_
  cases k with
  | false =>
    obtain ⟨k', e', q'⟩ := q3
    cases e'
    exact ite_ff ⟨H3, I3, q'⟩
  | true =>
    refine ite_tt (test_last (thn (hc pins s3 σ H3 _ I3 q3) fun w' s4 ⟨z', H4, I4, r4, q4⟩ => thn (ho' pins s4 σ H4 y z' u w' _ I4 r2 r4 q4) fun d' s5 ⟨z2, H5, I5, r5, k2, e2, q5⟩ => ?_))
    subst e2
    cases r5
    exact wpAny_truthy_bool ⟨H5, I5, q5⟩
def TruV (K : PySem.W.Frag) (x : V) (H : Hp) (k : Bool) : Prop :=
  match x with
  | .non => k = false
  | .bl b => k = b
  | .int i => k = (i != 0)
  | .str y => y.length ≤ sizeLine ∧ k = ((y.length : Int) != 0)
  | .byt y => y.size ≤ sizeLine ∧ k = ((y.size : Int) != 0)
  | .ref p => (∃ xs, SqL K H p xs ∧ k = !xs.isEmpty) ∨ (∃ xs, SqT K H p xs ∧ k = !xs.isEmpty) ∨ ∃ kvs, H p = some (.dK kvs) ∧ k = !kvs.isEmpty
  | _ => False
theorem isEmpty_kv {κ : Type} {kvs : List (κ × V)} {vs : List (κ × Value)} (r : KV kvs vs) : (!vs.isEmpty) = !kvs.isEmpty := by
  cases r <;> rfl
theorem qGh {xs : List V} {its : List Value} (r : qBa xs its) : (!its.toArray.isEmpty) = !xs.isEmpty := by
  cases r <;> simp
theorem qGg : (sizeLine : Nat) < 2 ^ 63 := by rw [sizeLine_eq]; decide
theorem tru_ok : TruR X (fun x H Q => ∃ k, TruV X.K x H k ∧ Q k H) := by
  intro pins s σ H x v Q I rx h
  obtain ⟨k, e, q⟩ := h
  have hl := qGg
  have hs : sizeLine = 16777216 := sizeLine_eq
  cases x with
  | non =>
    cases rx
    have e' : k = false := e
    subst e'
    exact truthy_none ⟨H, I, q⟩
  | bl b =>
    cases rx
    have e' : k = b := e
    subst e'
    exact wpAny_truthy_bool ⟨H, I, q⟩
  | int i =>
    obtain ⟨t, rfl⟩ := rx
    have e' : k = (i != 0) := e
    subst e'
    exact PySem.P.truthy_int ⟨H, I, q⟩
  | str y =>
    obtain ⟨t, rfl⟩ := rx
    obtain ⟨hy, e'⟩ : y.length ≤ sizeLine ∧ k = ((y.length : Int) != 0) := e
    subst e'
    exact PySem.P.truthy_str (by omega) ⟨H, I.tok _, q⟩
  | byt y =>
    obtain ⟨t, rfl⟩ := rx
    obtain ⟨hy, e'⟩ : y.size ≤ sizeLine ∧ k = ((y.size : Int) != 0) := e
    subst e'
    exact PySem.W.truthy_bytes (by omega) ⟨H, I.tok _, q⟩
  | ref p =>
    cases rx
    have e' : (∃ xs, SqL X.K H p xs ∧ k = !xs.isEmpty) ∨ (∃ xs, SqT X.K H p xs ∧ k = !xs.isEmpty) ∨ ∃ kvs, H p = some (.dK kvs) ∧ k = !kvs.isEmpty := e
    rcases e' with ⟨xs, hx, e'⟩ | ⟨xs, hx, e'⟩ | ⟨kvs, hx, e'⟩
    · subst e'
      obtain ⟨its, r, pl, hz⟩ := I.list hx
      have hlen := r.length
      exact wpAny_truthy_list pl.isList (by simp only [List.size_toArray]; omega) ⟨H, I.tok _, by rw [qGh r]; exact q⟩
    · subst e'
      obtain ⟨its, r, pl, hz⟩ := I.tuple hx
      have hlen := r.length
      exact truthy_tuple pl (by simp only [List.size_toArray]; omega) ⟨H, I.tok _, by rw [qGh r]; exact q⟩
    · subst e'
      obtain ⟨hz, hS, vs, r, m⟩ : kvs.length ≤ sizeLine ∧ (p == sysModules) = false ∧ ∃ vs, KV kvs vs ∧ s.heap.DictOf (mixKind X.prog X.w) p vs := I.hok p _ hx
      have hlen : kvs.length = vs.length := Paired.length r
      exact wpAny_truthy_dict hS m (by omega) ⟨H, I.tok _, by rw [isEmpty_kv r]; exact q⟩
  | _ => exact (show False from e).elim
theorem pt_truth (ha : PE X a ta) (he : ∀ whole, isTrue a X.env whole = (do let v ← whole; standAt a.pos; holding [v] (truthy v))) :
    PT X a (fun σ H Q => ta σ H fun x H' => ∃ k, TruV X.K x H' k ∧ Q k H') := by
  intro pins s σ H Q I h
  exact isTrue_plain (thn (ha pins s σ H _ I h) fun v s1 ⟨x, H1, I1, r1, q1⟩ => tru_ok pins s1 σ H1 x v Q I1 r1 q1) (he _)
theorem qA7 : OpR X (binaryOp .Add) (fun x y H Q => ∃ i j, x = .str i ∧ y = .str j ∧ i.length + j.length ≤ sizeLine ∧ Q (.str (i ++ j)) H) := by
  intro pins s σ H x y v u Q I rx ry h
  obtain ⟨i, j, rfl, rfl, hz, q⟩ := h
  obtain ⟨t, rfl⟩ := rx
  obtain ⟨t', rfl⟩ := ry
  exact add_str (fun t' tk => ⟨.str (i ++ j), H, I.tok _, ⟨_, rfl⟩, q⟩) hz
theorem qDx {x : V} {us : List Value} (r : qBa [x] us) : ∃ u, us = [u] ∧ qCn x u := by
  cases r with
  | cons r1 r2 => cases r2; exact ⟨_, rfl, r1⟩
theorem vals2 {x y : V} {us : List Value} (r : qBa [x, y] us) : ∃ u w', us = [u, w'] ∧ qCn x u ∧ qCn y w' := by
  cases r with
  | cons r1 r2 =>
    cases r2 with
    | cons r3 r4 => cases r4; exact ⟨_, _, rfl, r1, r3⟩
theorem call_abs : qCr X (.builtin "abs") (fun xs H Q => ∃ i, xs = [.int i] ∧ Q (.int (if i < 0 then -i else i)) H) := by
  intro pins s σ H xs us Q I r h
  obtain ⟨i, rfl, q⟩ := h
  obtain ⟨u, rfl, t, rfl⟩ := qDx r
  exact call_abs_int fun u tk => ⟨.int (if i < 0 then -i else i), H, I.tok _, ⟨_, rfl⟩, q⟩
theorem qFv (hc : X.calm = true) : qCr X (.builtin "min") (fun xs H Q => ∃ i j, xs = [.int i, .int j] ∧ Q (.int (if j < i then j else i)) H) := by
  intro pins s σ H xs us Q I r h
  obtain ⟨i, j, rfl, q⟩ := h
  obtain ⟨u, w', rfl, ⟨t, rfl⟩, ⟨t', rfl⟩⟩ := vals2 r
  refine min_two_ints (I.ok.hd hc) fun h' tk k => ⟨_, H, I.kept k, ?_, q⟩
  by_cases hj : j < i
  · rw [if_pos hj, if_pos hj]; exact ⟨_, rfl⟩
  · rw [if_neg hj, if_neg hj]; exact ⟨_, rfl⟩
end
end L2
namespace L2
open PySem PySem.Spec PyProof.Rows
structure ObjM (h : Heap) (x dx C : Addr) (mA : Str → Option Value) : Prop where
  obj : h.get? x = some (PySem.W.instObj C dx)
  ns : h.Ns1 dx mA
  ne : dx ≠ x
theorem lookIn_ns {h : Heap} {dx : Addr} {mA : Str → Option Value} (n : h.Ns1 dx mA) : ∃ od, h.get? dx = some od ∧ ∀ name, PySem.W.lookIn name od = some (mA name) := by
  obtain ⟨o, es, ep, ho, hd, hk, _, hm⟩ := n
  refine ⟨o, ho, fun name => ?_⟩
  have e := hm name
  unfold nsFind findBy at e
  rw [← Array.find?_toList] at e
  unfold PySem.W.lookIn
  rw [hd]
  dsimp only
  split
  · rename_i y q
    rw [q] at e
    exact congrArg some e
  · rename_i q
    rw [q] at e
    have a : es.toList.any (·.refKey) = false := by
      rw [List.any_eq_false]
      intro y hy
      obtain ⟨z, t, hkey⟩ := hk y (Array.mem_toList_iff.mp hy)
      simp [DictEntry.refKey, hkey]
    have a' : ¬ es.toList.any (·.refKey) = true := by rw [a]; exact Bool.false_ne_true
    rw [if_neg a']
    exact congrArg some e
theorem ObjM.look {h : Heap} {x dx C : Addr} {mA : Str → Option Value} (I : ObjM h x dx C mA) : ∃ od, PySem.W.InstAt h x (PySem.W.instObj C dx) C (some od) ∧ ∀ name, PySem.W.lookIn name od = some (mA name) :=
  let ⟨od, ho, hl⟩ := lookIn_ns I.ns
  ⟨od, ⟨I.obj, rfl, rfl, ho⟩, hl⟩
section
variable {prog : Program} {w : World} {A : Around} {E : Value → Shared → Prop} {s : Shared} {K : PySem.W.Frag} {x dx C f : Addr} {mA : Str → Option Value} {name : Str} {v : Value}
end
section
variable {P : Program} {w : World} {H H' : Hp} {h h' : Heap} {a C dx : Addr} {fs fs' : List (Str × V)}
theorem ins_get (hok : HOk P w H h) (e : H a = some (.ins C dx fs)) : ∃ mA, ObjM h a dx C mA ∧ (∀ f, RelO (fs.lookup f) (mA f)) ∧ PySem.Within mA (fs.map (·.1)) ∧ fs.length ≤ 1000 ∧ H dx = some (.own a) := by
  obtain ⟨d, z, ne, ob, mA, n, r, q⟩ := (show qCe P w H h a (.ins C dx fs) from hok a _ e)
  exact ⟨mA, ⟨ob, n, ne⟩, r, q, z, d⟩
end
structure Cls (K : PySem.W.Frag) (C : Addr) : Prop where
  pg : PySem.W.plainGet K C Str.empty = true
  hd : PySem.W.hasDictIn K C = true
  po : PySem.W.plainOver K C = true
  sa : PySem.W.findIn K (.ref C) "__setattr__" = some (some (.builtin "object.__setattr__"))
theorem Cls.get {K : PySem.W.Frag} {C : Addr} (c : Cls K C) (f : Str) : PySem.W.plainGet K C f = true := c.pg
structure Con (K : PySem.W.Frag) (C : Addr) (f : Str) (v : V) (u : Value) : Prop where
  at_ : PySem.W.findIn K (.ref C) f = some (some u)
  rel : qCn v u
  get : PySem.W.specialIn K u "__get__" = some none
  cp : PySem.W.copiedNames.contains f = false
structure Meth (K : PySem.W.Frag) (C : Addr) (m : Str) (f : Addr) : Prop where
  at_ : PySem.W.findIn K (.ref C) m = some (some (.ref f))
  fn : PySem.W.isFn K (.ref f) = true
  kp : PySem.W.keepIn K (.ref f) = true
section
variable {X : Cx} {pins : List (Addr × Obj)} {σ : St} {H : Hp} {s : Shared} {a C dx : Addr} {fs : List (Str × V)} {f : Str} {v : V} {A : Around} {E : Value → Shared → Prop}
end
section
variable {X : Cx} {o e value : Expr} {f : Str} {pos pos' tpos : Pos} {ta tv : TE}
end
section
variable {X : Cx} {pins : List (Addr × Obj)} {σ : St} {H : Hp} {s : Shared} {A : Around} {E : Value → Shared → Prop} {Q : Value → Shared → Prop} {c : Value} {b : Bool}
inductive TyOf (K : PySem.W.Frag) (H : Hp) : V → Value → Prop where
  | non : TyOf K H .non (.type "NoneType")
  | bl (x : Bool) : TyOf K H (.bl x) (.type "bool")
  | int (i : Int) : TyOf K H (.int i) (.type "int")
  | str (x : Str) : TyOf K H (.str x) (.type "str")
  | flt (x : UInt64) : TyOf K H (.flt x) (.type "float")
  | lst {a : Addr} {xs : List V} (e : H a = some (.lst xs)) : TyOf K H (.ref a) (.type "list")
  | frz {a : Addr} {o : Obj} {xs : List V} (e : H a = some (.frz o (.lst xs))) : TyOf K H (.ref a) (.type "list")
  | tup {a : Addr} {xs : List V} (e : H a = some (.tup xs)) : TyOf K H (.ref a) (.type "tuple")
  | dK {a : Addr} {kvs : List (Key × V)} (e : H a = some (.dK kvs)) : TyOf K H (.ref a) (.type "dict")
  | dT {a : Addr} {kvs : List (List Key × V)} (e : H a = some (.dT kvs)) : TyOf K H (.ref a) (.type "dict")
  | ins {a C dx : Addr} {fs : List (Str × V)} (e : H a = some (.ins C dx fs)) (cl : Cls K C) (ha : PySem.W.findIn K (.ref C) "__class__" = some (some (.builtin "object.__class__")))
      (hn : PySem.W.specialIn K (.builtin "object.__class__") "__get__" = some (some (.builtin "getset_descriptor.__get__"))) (htk : PySem.W.takesIn K (.builtin "object.__class__") = some true)
      (hm : PySem.W.mroIn K C (.type "object") = some true) : TyOf K H (.ref a) (.ref C)
theorem isinst_ok {x : V} {u t : Value} (I : Inv X pins σ H s) (rx : qCn x u) (ty : TyOf X.K H x t) (e : PySem.W.kitOne X.K t c = some b) (h : ∀ tk, Q (.bool b) { s with toks := tk }) :
    wpAny (model X.prog X.w) A (call (.builtin "isinstance") [u, c]) Q E s := by
  cases ty with
  | non => cases (show u = Value.none from rx); exact PySem.W.kia_one PySem.W.kitx_none I.kIn True.intro e (fun z => nomatch z) h
  | bl y => cases (show u = Value.bool y from rx); exact PySem.W.kia_one PySem.W.kitx_bool I.kIn True.intro e (fun z => nomatch z) h
  | int i => obtain ⟨t, q⟩ := (show ∃ t, u = Value.int i t from rx); cases q; exact PySem.W.kia_one PySem.W.kitx_int I.kIn True.intro e (fun z => nomatch z) h
  | str y => obtain ⟨t, q⟩ := (show ∃ t, u = Value.str y t from rx); cases q; exact PySem.W.kia_one PySem.W.kitx_str I.kIn True.intro e (fun z => nomatch z) h
  | flt y => obtain ⟨t, q⟩ := (show ∃ t, u = Value.float y t from rx); cases q; exact PySem.W.kia_one PySem.W.kitx_float I.kIn True.intro e (fun z => nomatch z) h
  | @lst a xs ea =>
    cases (show u = Value.ref a from rx)
    obtain ⟨_, _, n, _, h1⟩ := (show qCe X.prog X.w H s.heap a (.lst xs) from I.hok a _ ea)
    exact PySem.W.kia_one PySem.W.kitx_list I.kIn ⟨_, h1, rfl⟩ e (fun z => nomatch z) h
  | @frz a ob xs ea =>
    cases (show u = Value.ref a from rx)
    obtain ⟨_, _, _, n, _, h1⟩ := (show qCe X.prog X.w H s.heap a (.frz ob (.lst xs)) from I.hok a _ ea)
    exact PySem.W.kia_one PySem.W.kitx_list I.kIn ⟨_, h1, rfl⟩ e (fun z => nomatch z) h
  | @tup a xs ea =>
    cases (show u = Value.ref a from rx)
    obtain ⟨_, _, _, p⟩ := (show qCe X.prog X.w H s.heap a (.tup xs) from I.hok a _ ea)
    obtain ⟨o, h1, h2, _⟩ := p
    exact PySem.W.kia_one PySem.W.kitx_tuple I.kIn ⟨o, h1, h2⟩ e (fun z => nomatch z) h
  | @dK a kvs ea =>
    cases (show u = Value.ref a from rx)
    obtain ⟨_, _, vs, _, p⟩ := (show qCe X.prog X.w H s.heap a (.dK kvs) from I.hok a _ ea)
    obtain ⟨o, es, ep, h1, h2, _⟩ := p
    exact PySem.W.kia_one PySem.W.kitx_dict I.kIn ⟨o, h1, h2.1⟩ e (fun z => nomatch z) h
  | @dT a kvs ea =>
    cases (show u = Value.ref a from rx)
    obtain ⟨_, _, xs, _, o, es, ep, h1, h2, _⟩ := (show qCe X.prog X.w H s.heap a (.dT kvs) from I.hok a _ ea)
    exact PySem.W.kia_one PySem.W.kitx_dict I.kIn ⟨o, h1, h2.1⟩ e (fun z => nomatch z) h
  | @ins a C dx fs ea cl ha hn htk hm =>
    cases (show u = Value.ref a from rx)
    obtain ⟨mA, O, _⟩ := ins_get I.hok ea
    obtain ⟨od, J, _⟩ := O.look
    exact PySem.W.kia_one (PySem.W.kitx_own (cl.get _) cl.hd ha hn htk hm) I.kIn J e (fun z => nomatch z) h
end
end L2
namespace L2
open PySem PySem.Spec PyProof.Rows
structure Room (k : Nat) (A : Around) : Prop where
  hd : A.handled = none
  dp : A.depth + 3 * k + 5 < recursionLimit
  un : A.units + 16 * k + 200 < cLine
  gd : A.guards = some []
theorem Room.mono {j k : Nat} {A : Around} (r : Room k A) (h : j ≤ k) : Room j A := ⟨r.hd, by have := r.dp; omega, by have := r.un; omega, r.gd⟩
theorem Room.deeper {k : Nat} {A : Around} (r : Room (k + 1) A) (env : Env) : Room k (A.deeper env) :=
  ⟨r.hd, by have := r.dp; show A.depth + 1 + 3 * k + 5 < _; omega, by have := r.un; show A.units + 3 + 16 * k + 200 < _; omega, r.gd⟩
theorem Room.depth {k : Nat} {A : Around} (r : Room k A) : A.depth < recursionLimit := by have := r.dp; omega
def tNil : TA := fun _ H Q => Q [] H
def tCons (ta : TE) (tr : TA) : TA := fun σ H Q => ta σ H fun x H1 => tr σ H1 fun xs H2 => Q (x :: xs) H2
section
variable {X : Cx} {e : Expr} {es : List Expr} {te : TE} {t : TA} {pos : Pos}
theorem pa_nil : PA X [] tNil := fun _ _ _ _ H Q I h => Calls.spliced_nil ⟨[], H, I, .nil, h⟩
theorem pa_cons (ha : PE X e te) (hr : PA X es t) (hs : starEach (e :: es) X.env = (false, eval e X.env) :: starEach es X.env := by rfl) : PA X (e :: es) (tCons te t) := by
  intro pos pins s σ H Q I h
  rw [hs]
  show wpAny _ _ (spliced ((false, eval e X.env) :: backTo pos (starEach es X.env))) _ _ s
  refine Calls.spliced_cons (thn (ha pins s σ H _ I h) fun u s1 ⟨x, H1, I1, r1, q1⟩ => ?_)
  exact thn (hr pos pins s1 σ H1 _ I1 q1) fun us s2 ⟨xs, H2, I2, r2, q2⟩ => ⟨x :: xs, H2, I2, .cons r1 r2, q2⟩
def tTup (t : TA) : TE := fun σ H Q => t σ H fun xs H1 => xs.length ≤ sizeLine ∧ ∀ p, H1 p = none → Q (.ref p) (upd H1 p (.tup xs))
def tLst (t : TA) : TE := fun σ H Q => t σ H fun xs H1 => xs.length ≤ sizeLine ∧ ∀ p, H1 p = none → Q (.ref p) (upd H1 p (.lst xs))
theorem qBy {x1} (h : PA X es t) : PE X (.Tuple es x1 pos) (tTup t) := by
  intro pins s σ H Q I hq
  refine wpAny_Tuple_spliced (thn (h pos pins s σ H _ I hq) fun us s1 ⟨xs, H1, I1, r, z, q⟩ => ⟨by rw [← r.length]; exact z, ?_⟩)
  have hf : H1 s1.heap.objs.size = none := I1.hok.fresh (Nat.le_refl _)
  refine ⟨.ref s1.heap.objs.size, upd H1 s1.heap.objs.size (.tup xs), I1.laid (t' := s1.toks) (fun b u e => Heap.get?_push_of_some _ e) (Nat.le_refl _) ?_, rfl, q _ hf⟩
  exact ⟨z, us, r, ⟨_, Heap.get?_push_size _ rfl, rfl, _, rfl⟩⟩
theorem qBe (h : PA X es t) : PE X (.List es pos) (tLst t) := by
  intro pins s σ H Q I hq
  refine wpAny_List_spliced (thn (h pos pins s σ H _ I hq) fun us s1 ⟨xs, H1, I1, r, z, q⟩ => ⟨by rw [← r.length]; exact z, ?_⟩)
  have hf : H1 s1.heap.objs.size = none := I1.hok.fresh (Nat.le_refl _)
  refine ⟨.ref s1.heap.objs.size, upd H1 s1.heap.objs.size (.lst xs), I1.laid (t' := s1.toks) (fun b u e => Heap.get?_push_of_some _ e) (Nat.le_refl _) ?_, rfl, q _ hf⟩
  exact ⟨z, us, 0, r, Heap.get?_push_size _ rfl⟩
end
abbrev Sp := List V → Hp → VK → XK → Prop
abbrev CXT := List Env → Hp → Shared → XK → Value → Shared → Prop
structure Env0 (P : Program) (w : World) (K : PySem.W.Frag) (mg : Str → Option Value) (base : Heap) (A : Around) (outer : List Env) (s : Shared) (H : Hp) : Prop where
  frames : A.frames = some outer
  mod : Mod K mg base
  bs : ∀ b o, base.get? b = some o → s.heap.get? b = some o ∧ H b = none
  bsz : base.objs.size ≤ s.heap.objs.size
  funs : s.heap.FunFrames base outer
  frf : ∀ b ∈ frs outer, H b = none
  hok : HOk P w H s.heap
  bare : AllBare s.gens
def CE (outer : List Env) (P : Program) (w : World) (H : Hp) (s : Shared) (Q : VK) (u : Value) (s' : Shared) : Prop :=
  ∃ v H', s'.os = s.os ∧ AllBare s'.gens ∧ Un (frs outer) [] H H' s.heap s'.heap ∧ HOk P w H' s'.heap ∧ qCn v u ∧ Q v H'
def CR (CX : CXT) (outer : List Env) (P : Program) (w : World) (H : Hp) (s : Shared) (Q : VK) (E : XK) (r : Result) (s' : Shared) : Prop :=
  match r with
  | .ok (.ret u) => CE outer P w H s Q u s'
  | .ok _ => False
  | .error e => CX outer H s E e s'
structure FnOk (P : Program) (w : World) (K : PySem.W.Frag) (mg : Str → Option Value) (base : Heap) (CX : CXT) (k : Nat) (f : Addr) (fd : FuncData) (ps : List Str) (sp : Sp) : Prop where
  len : ∀ vs H Q E, sp vs H Q E → vs.length = ps.length
  run : ∀ (A : Around) (outer : List Env) (s : Shared) (H : Hp) (args : Args) (us : List Value) (vs : List V) (Q : VK) (E : XK), Room k A → Env0 P w K mg base A outer s H → BindsTo s fd args (ps.zip us) → qBa vs us → sp vs H Q E →
    codeAny (model P w) A (.call (.ref f) args) (CR CX outer P w H s Q E) s
section
variable {X : Cx} {pins : List (Addr × Obj)} {σ : St} {H : Hp} {s s' : Shared}
theorem Inv.env0 (I : Inv X pins σ H s) : Env0 X.prog X.w X.K X.mg X.base X.A X.stack s H :=
  ⟨I.ok.frames, I.ok.mod, I.bs, Nat.le_trans I.ok.bsz I.sz, I.stack, I.stkFree, I.hok, I.bare⟩
theorem Inv.after {Q : VK} {u : Value} (I : Inv X pins σ H s) (h : CE X.stack X.prog X.w H s Q u s') : EP X pins σ Q u s' := by
  obtain ⟨v, H', os, bare, un, hok, r, q⟩ := h
  obtain ⟨hh, g, d, t, os'⟩ := s'
  obtain rfl : os' = s.os := os
  exact ⟨v, H', I.call (h' := hh) (g' := g) (d' := d) (t' := t) (ch := []) un hok bare (fun b z => absurd z (by simp)), r, q⟩
end
def tCall (sp : Sp) (dvs : List V) (E : XK) (t : TA) : TE := fun σ H Q => t σ H fun vs H1 => sp (vs ++ dvs) H1 Q E
def qAz (K : PySem.W.Frag) (fd : FuncData) (ps : List Str) (ds : List Value) : Prop :=
  ∀ (s : Shared) (us : List Value), K.In s.heap → (us ++ ds).length = ps.length → BindsTo s fd ⟨us, []⟩ (ps.zip (us ++ ds))
theorem qAz.all {K : PySem.W.Frag} {fd : FuncData} {ps : List Str} (h : ∀ us : List Value, us.length = ps.length → bindArgs fd ⟨us, []⟩ = pure (ps.zip us)) : qAz K fd ps [] := fun s us _ hl => by
  rw [List.append_nil] at hl ⊢
  exact .of_eq (h us hl)
def Passes (CX : CXT) (X : Cx) (E : XK) : Prop := ∀ (pins : List (Addr × Obj)) (σ : St) (H : Hp) (s : Shared) (e : Value) (s' : Shared), Inv X pins σ H s → CX X.stack H s E e s' → X.xe e s'
section
variable {X : Cx} {CX : CXT} {k : Nat} {f C : Addr} {fd : FuncData} {ps : List Str} {sp : Sp} {dvs : List V} {ds : List Value} {E : XK} {x m : Str} {p pos apos : Pos} {e o : Expr} {es : List Expr} {ta : TE} {t : TA}
theorem run_fn {pins : List (Addr × Obj)} {σ : St} {H : Hp} {s : Shared} {Q : VK} {us : List Value} {vs : List V} (F : FnOk X.prog X.w X.K X.mg X.base CX k f fd ps sp) (hr : Room k X.A) (hb : qAz X.K fd ps ds) (hd : qBa dvs ds) (hx : Passes CX X E)
    (I : Inv X pins σ H s) (r : qBa vs us) (h : sp (vs ++ dvs) H Q E) : wpAny (model X.prog X.w) X.A (call (.ref f) us) (EP X pins σ Q) X.xe s := by
  have r2 : qBa (vs ++ dvs) (us ++ ds) := r.append hd
  have hl : (us ++ ds).length = ps.length := by rw [← r2.length]; exact F.len _ _ _ _ h
  refine wpAny_call (codeAny_mono (F.run X.A X.stack s H ⟨us, []⟩ (us ++ ds) (vs ++ dvs) Q E hr I.env0 (hb s us I.kIn hl) r2 h) fun r s' hq => ?_)
  cases r with
  | error e => exact hx pins σ H s e s' I hq
  | ok fl =>
    cases fl with
    | ret u => exact I.after hq
    | next => exact False.elim hq
    | brk => exact False.elim hq
    | cont => exact False.elim hq
theorem qAi (F : FnOk X.prog X.w X.K X.mg X.base CX k f fd ps sp) (hr : Room k X.A) (hg : Gl X x) (hm : X.mg x = some (.ref f)) (hk : PySem.W.keepIn X.K (.ref f) = true) (hb : qAz X.K fd ps ds) (hd : qBa dvs ds) (hx : Passes CX X E)
    (ha : PA X (e :: es) t) (hdb : (x == ("__debug__" : Str)) = false := by decide) (he : starEach (e :: es) X.env = (false, eval e X.env) :: starEach es X.env := by rfl) (hpl : (backTo pos (starEach es X.env)).any (·.1) = false := by rfl) :
    PE X (.Call (.Name x p) (e :: es) [] pos) (tCall sp dvs E t) := by
  intro pins s σ H Q I h
  refine wpAny_Call_Name_kw (ld_glob I hg hm ?_ hdb)
  refine PySem.W.callWith_K (h₀ := X.base) I.ok.mod.kin hk (thn (ha pos pins s σ H _ I h) fun us s1 ⟨vs, H1, I1, r, q⟩ => ⟨I1.kIn, ?_⟩) he hpl
  exact run_fn F hr hb hd hx I1 r q
structure Mk (K : PySem.W.Frag) (C f : Addr) : Prop where
  makes : PySem.W.makesIn K C = true
  init : PySem.W.findIn K (.ref C) "__init__" = some (some (.ref f))
  fn : PySem.W.isFn K (.ref f) = true
  kp : PySem.W.keepIn K (.ref C) = true
end
section
variable {X : Cx} {CX : CXT} {k : Nat} {f C : Addr} {fd : FuncData} {ps ks : List Str} {sp : Sp} {E : XK} {x m : Str} {p pos apos kpos : Pos} {e o : Expr} {es : List Expr} {kws : List Keyword} {te ta : TE} {t tk : TA} {nm : Option Str}
structure KBinds (K : PySem.W.Frag) (fd : FuncData) (ps ks : List Str) (g : List Value → List Value → List Value) (gV : List V → List V → List V) : Prop where
  to : ∀ (s : Shared) (us ws : List Value), K.In s.heap → (g us ws).length = ps.length → BindsTo s fd ⟨us, ks.zip ws⟩ (ps.zip (g us ws))
  rel : ∀ {vs : List V} {us : List Value} {zs : List V} {ws : List Value}, qBa vs us → qBa zs ws → qBa (gV vs zs) (g us ws)
variable {g : List Value → List Value → List Value} {gV : List V → List V → List V}
end
structure FnScope (N P : List Str) (sc : Scope) : Prop where
  kind : sc.kind = .function
  co : sc.isCoroutine = false
  gen : sc.isGenerator = false
  nd : N.Nodup
  pre : N.take P.length = P
  par : ∀ x ∈ P, sc.names.lookup x = some .local ∨ sc.names.lookup x = some .cell
  nofree : ∀ y ∈ sc.names, y.2 ≠ .free
theorem bindL_out {kindOf : Str → Option NameKind} {x : Str} : ∀ {binds : List (Str × Value)} {m : Str → Option Value}, (∀ v, (x, v) ∉ binds) → bindL kindOf binds m x = m x
  | [], _, _ => rfl
  | (n, v) :: r, m, h => by
    unfold bindL
    rw [bindL_out fun w hw => h w (List.mem_cons_of_mem _ hw)]
    split
    · have : x ≠ n := by rintro rfl; exact h v List.mem_cons_self
      simp [this]
    · rfl
theorem bindC_out {kindOf : Str → Option NameKind} {x : Str} : ∀ {binds : List (Str × Value)} {m : Str → Option Value}, (∀ v, (x, v) ∉ binds) → bindC kindOf binds m x = m x
  | [], _, _ => rfl
  | (n, v) :: r, m, h => by
    unfold bindC
    rw [bindC_out fun w hw => h w (List.mem_cons_of_mem _ hw)]
    split
    · rfl
    · have : x ≠ n := by rintro rfl; exact h v List.mem_cons_self
      simp [this]
theorem bindL_get {kindOf : Str → Option NameKind} {x : Str} {v : Value} : ∀ {P : List Str} {vs : List Value} {i : Nat} {m : Str → Option Value}, P.Nodup → P[i]? = some x → vs[i]? = some v → kindOf x = some .local →
    bindL kindOf (P.zip vs) m x = some v
  | [], _, _, _, _, h, _, _ => by simp at h
  | _ :: _, [], _, _, _, _, h, _ => by simp at h
  | p :: P, w :: vs, 0, m, nd, h1, h2, hk => by
    simp at h1 h2; subst h1; subst h2
    show bindL kindOf ((p, w) :: P.zip vs) m p = _
    unfold bindL
    rw [bindL_out fun v hv => (List.nodup_cons.mp nd).1 (List.of_mem_zip hv).1, if_pos hk]
    simp
  | p :: P, w :: vs, i + 1, m, nd, h1, h2, hk => by
    show bindL kindOf ((p, w) :: P.zip vs) m x = _
    unfold bindL
    exact bindL_get (i := i) (List.nodup_cons.mp nd).2 (by simpa using h1) (by simpa using h2) hk
theorem bindC_get {kindOf : Str → Option NameKind} {x : Str} {v : Value} : ∀ {P : List Str} {vs : List Value} {i : Nat} {m : Str → Option Value}, P.Nodup → P[i]? = some x → vs[i]? = some v → kindOf x ≠ some .local →
    bindC kindOf (P.zip vs) m x = some v
  | [], _, _, _, _, h, _, _ => by simp at h
  | _ :: _, [], _, _, _, _, h, _ => by simp at h
  | p :: P, w :: vs, 0, m, nd, h1, h2, hk => by
    simp at h1 h2; subst h1; subst h2
    show bindC kindOf ((p, w) :: P.zip vs) m p = _
    unfold bindC
    rw [bindC_out fun v hv => (List.nodup_cons.mp nd).1 (List.of_mem_zip hv).1, if_neg hk]
    simp
  | p :: P, w :: vs, i + 1, m, nd, h1, h2, hk => by
    show bindC kindOf ((p, w) :: P.zip vs) m x = _
    unfold bindC
    exact bindC_get (i := i) (List.nodup_cons.mp nd).2 (by simpa using h1) (by simpa using h2) hk
def start (N : List Str) (vs : List V) : St := vs.map some ++ List.replicate (N.length - vs.length) none
def qB8 (CX : CXT) (P : Program) (w : World) (K : PySem.W.Frag) (mg : Str → Option Value) (base : Heap) (N : List Str) (qual : Str) (scope : Scope) (f : Addr) (cd : Value) (A : Around) (outer : List Env) (s : Shared) (H : Hp) (E : XK) : Cx where
  prog := P
  w := w
  K := K
  mg := mg
  base := base
  A := A.deeper (envOfC qual scope s.heap.objs.size f cd)
  N := N
  s₀ := s
  H₀ := H
  env := envOfC qual scope s.heap.objs.size f cd
  outer := outer
  stack := envOfC qual scope s.heap.objs.size f cd :: outer
  ex := []
  calm := true
  fn := fun _ => true
  pn := []
  xe := fun e s' => wpAny (model P w) (A.deeper (envOfC qual scope s.heap.objs.size f cd)) (leaving (envOfC qual scope s.heap.objs.size f cd) e) (fun _ s'' => CX outer H s E e s'') (fun e' s'' => CX outer H s E e' s'') s'
theorem cell_has {sc : Scope} {n : Nat} {x : Str} (h : sc.names.lookup x = some .cell) : ∃ c, (cellsFrom n sc.names []).lookup x = some c := by
  have q := PySem.W.cellsFrom_some sc.names n [] (.inl h)
  exact Option.isSome_iff_exists.mp q
theorem inv_start {CX : CXT} {P : Program} {w : World} {K : PySem.W.Frag} {mg : Str → Option Value} {base : Heap} {N ps : List Str} {qual : Str} {scope : Scope} {f : Addr} {cd : Value} {A : Around} {outer : List Env} {s s1 : Shared} {H : Hp} {E : XK} {us : List Value} {vs : List V}
    (S : FnScope N ps scope) (hd : A.handled = none) (e0 : Env0 P w K mg base A outer s H) (hl : vs.length = ps.length) (r : qBa vs us)
    (x : InCallC s s.heap.objs.size (bindL (envOfC qual scope s.heap.objs.size f cd).kindOf (ps.zip us) fun _ => none) (cellsFrom (s.heap.objs.size + 1) scope.names []) (bindC (envOfC qual scope s.heap.objs.size f cd).kindOf (ps.zip us) fun _ => none) s1) :
    Inv (qB8 CX P w K mg base N qual scope f cd A outer s H E) [] (start N vs) H s1 := by
  have hpl : ps.length ≤ N.length := by have := congrArg List.length S.pre; rw [List.length_take] at this; omega
  obtain ⟨h1, tk, rfl, hk⟩ := x.done
  have noA : ∀ b : Addr, b ∉ (qB8 CX P w K mg base N qual scope f cd A outer s H E).ex := fun b z => absurd (show b ∈ ([] : List Addr) from z) (by simp)
  refine ⟨⟨e0.mod, S.kind, rfl, rfl, Nat.le_refl _, fun y z c h1 h2 => ?_, fun y hy => ?_, fun y c _ h => ?_, fun _ => hd, Around.frames_deeper e0.frames, .inr ⟨rfl, rfl⟩, fun b z => absurd z (noA b), e0.bs, e0.bsz, fun b _ _ => noA b, fun b z => absurd z (noA b), e0.funs, e0.frf⟩,
    rfl, e0.bare, Un.kept hk, ⟨_, x.toInCall.ns, fun i y v h1 h2 h3 => ?_⟩, fun y c h => ⟨_, x.cell y c h⟩, e0.hok.fresh (Nat.le_refl _), fun y c h => ?_, fun p hp => absurd (show p ∈ ([] : List (Addr × Obj)) from hp) (by simp), e0.hok.kept hk, ?_⟩
  · exact name_of_addr x.apart (PySem.mem_of_lookup h1) (PySem.mem_of_lookup h2)
  · have hy : scope.names.lookup y = some .cell ∨ scope.names.lookup y = some .free := hy
    rcases hy with hy | hy
    · exact cell_has hy
    · exact absurd rfl (S.nofree _ (PySem.mem_of_lookup hy))
  · exact Nat.le_of_lt (x.above y c (PySem.mem_of_lookup h))
  · have hi : i < vs.length := by
      unfold start at h2
      by_cases hi : i < vs.length
      · exact hi
      · rw [List.getElem?_append_right (by simpa using hi)] at h2
        rw [List.getElem?_replicate] at h2
        split at h2 <;> cases h2
    have ha : vs[i]? = some v := by
      unfold start at h2
      rw [List.getElem?_append_left (by simpa using hi), List.getElem?_map] at h2
      cases e : vs[i]? with
      | none => rw [e] at h2; cases h2
      | some a => rw [e] at h2; cases h2; rfl
    obtain ⟨u, hu, rv⟩ := r.get ha
    have hp : ps[i]? = some y := by
      rw [← S.pre, List.getElem?_take_of_lt (by omega)]; exact h1
    have ndP : ps.Nodup := by rw [← S.pre]; exact S.nd.sublist (List.take_sublist _ _)
    refine ⟨u, rv, ?_⟩
    rcases S.par y (List.mem_of_getElem? hp) with k | k
    · exact .inl ⟨k, bindL_get ndP hp hu k⟩
    · obtain ⟨c, e⟩ := cell_has (n := s.heap.objs.size + 1) k
      refine .inr ⟨.inl k, c, e, ?_⟩
      have q := x.cell y c e
      rw [bindC_get ndP hp hu (by show scope.names.lookup y ≠ _; rw [k]; decide)] at q
      exact q
  · exact e0.hok.fresh (Nat.le_of_lt (x.above y c (PySem.mem_of_lookup h)))
  · unfold start
    show _ = N.length
    rw [List.length_append, List.length_map, List.length_replicate]
    omega
theorem fn_of {CX : CXT} {P : Program} {w : World} {K : PySem.W.Frag} {mg : Str → Option Value} {base : Heap} {k : Nat} {f : Addr} {name qual : Str} {params : Arguments} {body : List Stmt} {scope : Scope} {dV kV doc pm cdv ct oc : Value} {an od : Option Addr}
    {osl : Array (Option Value)} {N ps : List Str} {sp : Sp} (lk : K.lookup f = some ⟨oc, od, .func (PySem.W.fnOf name qual params body scope dV kV doc pm an cdv ct), osl⟩) (hcd : PySem.W.codeIn K cdv qual = true) (S : FnScope N ps scope)
    (len : ∀ vs H Q E, sp vs H Q E → vs.length = ps.length)
    (hbody : ∀ (A : Around) (outer : List Env) (s : Shared) (H : Hp) (vs : List V) (Q : VK) (E : XK), Room k (A.deeper (envOfC qual scope s.heap.objs.size f cdv)) → sp vs H Q E →
      ∃ t, PSs (qB8 CX P w K mg base N qual scope f cdv A outer s H E) body t ∧ t { nx := fun _ H' => Q .non H', rt := Q } (start N vs) H) :
    FnOk P w K mg base CX (k + 1) f (PySem.W.fnOf name qual params body scope dV kV doc pm an cdv ct) ps sp := by
  refine ⟨len, fun A outer s H args us vs Q E hr e0 hb r hsp => ?_⟩
  have hl := len _ _ _ _ hsp
  have KX : K.In s.heap := e0.mod.kin.keeps fun b o e => (e0.bs b o e).1
  have lim : s.heap.NoLimit := e0.mod.nolimit.keeps fun b o e => (e0.bs b o e).1
  have hkind : ∀ y ∈ ps.zip us, scope.names.lookup y.1 = some .local ∨ (scope.names.lookup y.1 = some .cell ∧ ((cellsFrom (s.heap.objs.size + 1) scope.names []).lookup y.1).isSome = true) := fun ⟨n, v⟩ hy => by
    rcases S.par n (List.of_mem_zip hy).1 with q | q
    · exact .inl q
    · exact .inr ⟨q, PySem.W.cellsFrom_some _ _ _ (.inl q)⟩
  refine codeAny_call_function hr.depth (KX _ _ lk) rfl S.co S.gen rfl (PySem.W.codeRec_of KX hcd) (hb _ _ _ _ ?_)
  refine wpAny_newFunctionEnv_cells S.kind hkind fun env he s1 x => ?_
  subst he
  refine ⟨lim.keeps x.toInCall.keep, codeAny_func ?_⟩
  obtain ⟨t, ht, hq⟩ := hbody A outer s H vs Q E (hr.deeper _) hsp
  have I : Inv (qB8 CX P w K mg base N qual scope f cdv A outer s H E) [] (start N vs) H s1 := inv_start S hr.hd e0 hl r x
  refine wpAny_mono (ht [] s1 (start N vs) H _ I hq) (fun fl s' hs => ?_) fun e s' hs => hs
  have fin : ∀ {σ' : St} {H' : Hp} {v : V} {u : Value}, Inv (qB8 CX P w K mg base N qual scope f cdv A outer s H E) [] σ' H' s' → qCn v u → Q v H' → CE outer P w H s Q u s' :=
    fun {σ' H' v u} J rv q => ⟨v, H', J.os, J.bare, J.base, J.hok, rv, q⟩
  cases fl with
  | ret u =>
    obtain ⟨v, σ', H', J, rv, q⟩ := hs
    exact fin J rv q
  | next =>
    obtain ⟨σ', H', J, q⟩ := hs
    exact fin (v := V.non) (u := Value.none) J rfl q
  | brk =>
    obtain ⟨_, _, _, q⟩ := hs
    exact False.elim q
  | cont =>
    obtain ⟨_, _, _, q⟩ := hs
    exact False.elim q
end L2
namespace L2
open PySem PySem.Spec PyProof.Rows
section
variable {X : Cx} {x : Str} {p pos : Pos} {e : Expr} {es : List Expr} {t : TA} {id T : String} {r : List V → Hp → VK → Prop}
def tCB (r : List V → Hp → VK → Prop) (t : TA) : TE := fun σ H Q => t σ H fun vs H1 => r vs H1 Q
theorem qAh (hc : qCr X (.builtin id) r) (hg : Gl X x) (hm : X.mg x = none) (hv : bootBuiltins x = some (.builtin id)) (ha : PA X (e :: es) t) (hn : x ≠ "__name__" := by decide) (hdb : (x == ("__debug__" : Str)) = false := by decide)
    (he : starEach (e :: es) X.env = (false, eval e X.env) :: starEach es X.env := by rfl) (hpl : (backTo pos (starEach es X.env)).any (·.1) = false := by rfl) : PE X (.Call (.Name x p) (e :: es) [] pos) (tCB r t) := by
  intro pins s σ H Q I h
  refine wpAny_Call_Name_kw (qFr I hg hm hv ?_ hn hdb)
  exact PyProof.Rows.callWith_builtin1 (thn (ha pos pins s σ H _ I h) fun us s1 ⟨vs, H1, I1, r1, q1⟩ => hc pins s1 σ H1 vs us Q I1 r1 q1) he hpl
theorem qBs (hc : qCr X (.type T) r) (hg : Gl X x) (hm : X.mg x = none) (hv : bootBuiltins x = some (.type T)) (ha : PA X (e :: es) t) (hn : x ≠ "__name__" := by decide) (hdb : (x == ("__debug__" : Str)) = false := by decide)
    (he : starEach (e :: es) X.env = (false, eval e X.env) :: starEach es X.env := by rfl) (hpl : (backTo pos (starEach es X.env)).any (·.1) = false := by rfl) : PE X (.Call (.Name x p) (e :: es) [] pos) (tCB r t) := by
  intro pins s σ H Q I h
  refine wpAny_Call_Name_kw (qFr I hg hm hv ?_ hn hdb)
  exact PyProof.Rows.callWith_type1 (thn (ha pos pins s σ H _ I h) fun us s1 ⟨vs, H1, I1, r1, q1⟩ => hc pins s1 σ H1 vs us Q I1 r1 q1) he hpl
end
end L2
namespace HT
open PySem PyProof.Rows
section
open PySem.SeqAt
open PySem.AutoSeq1 (wpAny_loadPart')
open PySem.MeetsSeq PySem.MeetsSeq2 PySem.MeetsSeq3
end
section
variable {prog : Program} {w : World} {A : Around} {E : Value → Shared → Prop} {s : Shared}
theorem cat_tup {t b : Addr} {vs ws : List Value} {Q : Value → Shared → Prop} (ht : IsTup s.heap t vs.toArray) (hb : IsTup s.heap b ws.toArray) (hv : vs ≠ [])
    (h1 : ws = [] → Q (.ref t) s) (h2 : ws ≠ [] → Q (.ref s.heap.objs.size) { s with heap := s.heap.push { cls := .type "tuple", data := .seq (vs ++ ws).toArray } })
    (hsz : vs.length + ws.length ≤ sizeLine) : wpAny (model prog w) A (binaryOp .Add (.ref t) (.ref b)) Q E s := by
  obtain ⟨⟨cls, dd, data, sl⟩, ho, hc, n, hd⟩ := id ht
  obtain ⟨⟨cls2, dd2, data2, sl2⟩, ho2, hc2, n2, hd2⟩ := id hb
  simp only at hc hd hc2 hd2
  subst hc hd hc2 hd2
  have e : vs.toArray ++ ws.toArray = (vs ++ ws).toArray := by simp
  by_cases hw : ws = []
  · exact concat_meets ⟨_, ho, rfl⟩ ⟨_, ho2, rfl⟩ noFill_tuple_add seq_tuple_add PySem.F.slot_tuple_add PySem.F.entry_tuple_add (PySem.F.args_tuple_add_2 _ _)
      (tuple_addW1 t b vs.toArray ws.toArray n n2 dd dd2 sl sl2 (by simpa using hv) (by simp [hw])) ⟨ho, ho2, h1 hw⟩
  · refine concat_meets ⟨_, ho, rfl⟩ ⟨_, ho2, rfl⟩ noFill_tuple_add seq_tuple_add PySem.F.slot_tuple_add PySem.F.entry_tuple_add (PySem.F.args_tuple_add_2 _ _)
      (tuple_addW2 t b vs.toArray ws.toArray n n2 dd dd2 sl sl2 (by simpa using hv) (by simpa using hw) (by rw [List.size_toArray, List.size_toArray]; exact hsz)) ⟨ho, ho2, ?_⟩
    rw [e]
    exact h2 hw
def sIx (n d : Nat) : Option Int → Nat
  | none => d
  | some v => if v < 0 then (v + (n : Int)).toNat else min v.toNat n
theorem sIx_none (n d : Nat) : sIx n d none = d := rfl
theorem sIx_nat (n d k : Nat) : sIx n d (some (k : Int)) = min k n := by
  show (if (k : Int) < 0 then ((k : Int) + (n : Int)).toNat else min (k : Int).toNat n) = min k n
  rw [if_neg (by omega), Int.toNat_natCast]
end
end HT
namespace L2
open PySem PySem.Spec PyProof.Rows
abbrev TO := St → Hp → (Option Int → Hp → Prop) → Prop
def PO (X : Cx) (e : Option Expr) (t : TO) : Prop :=
  ∀ (pins : List (Addr × Obj)) (s : Shared) (σ : St) (H : Hp) (Q : Option Int → Hp → Prop), Inv X pins σ H s → t σ H Q →
    wpAny (model X.prog X.w) X.A (evalPart e X.env) (fun u s' => ∃ o H', Inv X pins σ H' s' ∧ IsPart u o ∧ Q o H') X.xe s
def tNoPart : TO := fun _ H Q => Q none H
def tPart (t : TE) : TO := fun σ H Q => t σ H fun x H1 => ∃ i, x = .int i ∧ Q (some i) H1
section
variable {X : Cx} {e : Expr} {te : TE} {lo hi : Option Expr} {tl th : TO} {pos p2 : Pos}
theorem qC4 : PO X none tNoPart := by
  intro pins s σ H Q I h
  rw [evalPart_none]
  exact wpAny_pure ⟨none, H, I, .none, h⟩
theorem qC3 (h : PE X e te) : PO X (some e) (tPart te) := by
  intro pins s σ H Q I hw
  rw [evalPart_some]
  refine thn (h pins s σ H _ I hw) fun u s1 ⟨x, H1, I1, r1, q1⟩ => ?_
  obtain ⟨i, rfl, q⟩ := q1
  obtain ⟨t, rfl⟩ := r1
  exact ⟨some i, H1, I1, .int i t, q⟩
def SlR (X : Cx) (r : V → Option Int → Option Int → Hp → VK → Prop) : Prop :=
  ∀ (pins : List (Addr × Obj)) (s : Shared) (σ : St) (H : Hp) (x : V) (v vl vu : Value) (lo hi : Option Int) (sl : Addr) (Q : VK), Inv X pins σ H s → qCn x v → s.heap.IsSliceOf sl vl vu .none → IsPart vl lo → IsPart vu hi → r x lo hi H Q →
    ∃ T id, typeLookup (.type T) "__getitem__" = pure (some (.builtin id)) ∧ s.TypeIs v T ∧ wpAny (model X.prog X.w) X.A (getItem v (.ref sl)) (EP X pins σ Q) X.xe s
def tSl (r : V → Option Int → Option Int → Hp → VK → Prop) (te : TE) (tl th : TO) : TE := fun σ H Q => te σ H fun x H1 => tl σ H1 fun l H2 => th σ H2 fun u H3 => r x l u H3 Q
theorem qCi {r : V → Option Int → Option Int → Hp → VK → Prop} (hr : SlR X r) (he : PE X e te) (hl : PO X lo tl) (hu : PO X hi th) : PE X (.Subscript e (.Slice lo hi none p2) pos) (tSl r te tl th) := by
  intro pins s σ H Q I h
  refine Subscript_ (thn (he pins s σ H _ I h) fun v s1 ⟨x, H1, I1, r1, q1⟩ => ?_)
  refine wpAny_Slice (thn (hl pins s1 σ H1 _ I1 q1) fun vl s2 ⟨l, H2, I2, pl, q2⟩ => thn (hu pins s2 σ H2 _ I2 q2) fun vu s3 ⟨u, H3, I3, pu, q3⟩ => ?_)
  rw [evalPart_none]
  refine wpAny_pure ?_
  have I4 : Inv X pins σ H3 { s3 with heap := s3.heap.push { cls := .type "slice", data := .fields #[vl, vu, .none] } } := I3.kept (t' := s3.toks) fun b ob q => Heap.get?_push_of_some _ q
  obtain ⟨T, id, hT, ht, hg⟩ := hr pins { s3 with heap := s3.heap.push { cls := .type "slice", data := .fields #[vl, vu, .none] } } σ H3 x v vl vu l u s3.heap.objs.size Q I4 r1 (Heap.IsSliceOf.new ..) pl pu q3
  show wpAny (model X.prog X.w) X.A (subscriptTail e (.Slice lo hi none p2) v (.ref s3.heap.objs.size)) (EP X pins σ Q) X.xe { s3 with heap := s3.heap.push { cls := .type "slice", data := .fields #[vl, vu, .none] } }
  exact tail_any (ops := [.ref s3.heap.objs.size, v]) ht hT hg (by with_unfolding_all rfl)
def cutV (xs : List V) (lo hi : Option Int) : List V := (xs.drop (HT.sIx xs.length 0 lo)).take (HT.sIx xs.length xs.length hi - HT.sIx xs.length 0 lo)
theorem cutV_length (xs : List V) (lo hi : Option Int) : (cutV xs lo hi).length ≤ xs.length := by
  unfold cutV
  rw [List.length_take, List.length_drop]
  omega
def rCatT (K : PySem.W.Frag) : R2 := fun x y H Q => ∃ a b xs ys, x = .ref a ∧ y = .ref b ∧ SqT K H a xs ∧ SqT K H b ys ∧ xs ≠ [] ∧ xs.length + ys.length ≤ sizeLine ∧
  (ys = [] → Q (.ref a) H) ∧ (ys ≠ [] → ∀ p, H p = none → Q (.ref p) (upd H p (.tup (xs ++ ys))))
theorem qBa.nil_iff {xs : List V} {us : List Value} (r : qBa xs us) : us = [] ↔ xs = [] := by
  cases r with
  | nil => simp
  | cons _ _ => simp
theorem op_catT : OpR X (binaryOp .Add) (rCatT X.K) := by
  intro pins s σ H x y v u Q I rx ry h
  obtain ⟨a, b, xs, ys, rfl, rfl, ha, hb, hx, hz, q1, q2⟩ := h
  cases rx
  cases ry
  obtain ⟨its, r1, p1, _⟩ := I.tuple ha
  obtain ⟨its2, r2, p2, _⟩ := I.tuple hb
  refine HT.cat_tup p1 p2 (fun z => hx (r1.nil_iff.mp z)) (fun z => ⟨.ref a, H, I, rfl, q1 (r2.nil_iff.mp z)⟩) (fun z => ?_) (by rw [← r1.length, ← r2.length]; exact hz)
  refine ⟨.ref s.heap.objs.size, _, I.laid (t' := s.toks) (o := .tup (xs ++ ys)) (fun b ob q => Heap.get?_push_of_some _ q) (Nat.le_refl _) ?_, rfl, q2 (fun w => z (r2.nil_iff.mpr w)) _ (I.hok.fresh (Nat.le_refl _))⟩
  exact ⟨by rw [List.length_append]; exact hz, _, r1.append r2, IsTup.new _ _⟩
end
end L2
namespace L2
open PySem PySem.Spec PyProof.Rows
def ixN (n : Nat) (i : Int) : Option Nat := if 0 ≤ i then (if i < n then some i.toNat else none) else if -(n : Int) ≤ i then some (i + n).toNat else none
def atI {α : Type} (xs : List α) (i : Int) : Option α := (ixN xs.length i).bind fun j => xs[j]?
theorem ixN_seq {n : Nat} {i : Int} {j : Nat} (h : ixN n i = some j) : seqIndex? i n = some j ∧ j < n ∧ -(n : Int) ≤ i ∧ i < n := by
  unfold ixN at h
  by_cases h0 : 0 ≤ i
  · rw [if_pos h0] at h
    by_cases h1 : i < n
    · rw [if_pos h1] at h
      have e : i.toNat = j := Option.some.inj h
      exact ⟨by rw [seqIndex_of h0 h1, e], by omega, by omega, h1⟩
    · rw [if_neg h1] at h; cases h
  · rw [if_neg h0] at h
    by_cases h1 : -(n : Int) ≤ i
    · rw [if_pos h1] at h
      have e : (i + n).toNat = j := Option.some.inj h
      exact ⟨by rw [seqIndex_neg (by omega) h1, e], by omega, h1, by omega⟩
    · rw [if_neg h1] at h; cases h
theorem atI_get {α : Type} {xs : List α} {i : Int} {v : α} (h : atI xs i = some v) : ∃ j, seqIndex? i xs.length = some j ∧ xs[j]? = some v ∧ j < xs.length ∧ -(xs.length : Int) ≤ i ∧ i < xs.length := by
  unfold atI at h
  cases e : ixN xs.length i with
  | none => rw [e] at h; cases h
  | some j =>
    rw [e] at h
    obtain ⟨h1, h2, h3, h4⟩ := ixN_seq e
    exact ⟨j, h1, h, h2, h3, h4⟩
theorem qAv {α : Type} {xs : List α} {j : Nat} {v : α} (h : xs[j]? = some v) : atI xs (j : Int) = some v := by
  have hj : j < xs.length := (List.getElem?_eq_some_iff.mp h).1
  have e : ixN xs.length (j : Int) = some j := by
    unfold ixN
    rw [if_pos (by omega), if_pos (by omega)]; simp
  unfold atI; rw [e]; exact h
def PlainIx (b : Expr) : Prop := ∀ o i, subscripted b false o i = operate [o, i] (getItem o i)
def IxR (X : Cx) (r : R2) : Prop :=
  ∀ (value slice : Expr) (pins : List (Addr × Obj)) (s : Shared) (σ : St) (H : Hp) (x y : V) (v u : Value) (Q : VK), Inv X pins σ H s → qCn x v → qCn y u → r x y H Q →
    subscripted slice false v u = operate [v, u] (getItem v u) → wpAny (model X.prog X.w) X.A (subscriptTail value slice v u) (EP X pins σ Q) X.xe s
def MtR (X : Cx) (id : String) (r : V → List V → Hp → VK → Prop) : Prop :=
  ∀ (pins : List (Addr × Obj)) (s : Shared) (σ : St) (H : Hp) (x : V) (xs : List V) (v : Value) (us : List Value) (Q : VK), Inv X pins σ H s → qCn x v → qBa xs us → r x xs H Q →
    wpAny (model X.prog X.w) X.A (call (.builtin id) (v :: us)) (EP X pins σ Q) X.xe s
section
variable {X : Cx} {a b : Expr} {ta tb : TE} {pos : Pos}
theorem qBb {r : R2} (hr : IxR X r) (ha : PE X a ta) (hb : PE X b tb) (hs : PlainIx b) : PE X (.Subscript a b pos) (tOp r ta tb) := by
  intro pins s σ H Q I h
  exact Subscript_ (binT ha hb I h fun v u s2 x y H2 I2 rx ry q => hr a b pins s2 σ H2 x y v u Q I2 rx ry q (hs _ _))
def rIxL (K : PySem.W.Frag) : R2 := fun x y H Q => ∃ p xs i v, x = .ref p ∧ y = .int i ∧ SqL K H p xs ∧ atI xs i = some v ∧ Q v H
def rIxT (K : PySem.W.Frag) : R2 := fun x y H Q => ∃ p xs i v, x = .ref p ∧ y = .int i ∧ SqT K H p xs ∧ atI xs i = some v ∧ Q v H
def rIxS : R2 := fun x y H Q => ∃ z i c, x = .str z ∧ y = .int i ∧ z.length ≤ sizeLine ∧ atI z.cps.toList i = some c ∧ Q (.str ⟨#[c]⟩) H
theorem qBv : IxR X (rIxL X.K) := by
  intro value slice pins s σ H x y v u Q I rx ry h hs
  obtain ⟨p, xs, i, z, rfl, rfl, hq, he, q⟩ := h
  cases rx
  obtain ⟨t, rfl⟩ := ry
  obtain ⟨its, r, pl, hz⟩ := I.list hq
  obtain ⟨j, h1, h2, h3, h4, h5⟩ := atI_get he
  obtain ⟨w, ew, rw'⟩ := r.get h2
  have hl := r.length
  have hn := qGg
  have fin : EP X pins σ Q w s := ⟨z, H, I, rw', q⟩
  by_cases h0 : 0 ≤ i
  · have hj : i.toNat = j := by
      rw [seqIndex_of h0 h5] at h1
      exact Option.some.inj h1
    exact item_listR pl.isList h0 (by omega) (by rw [hj]; simpa using ew) fin hs
  · have hj : (i + (its.toArray.size : Int)).toNat = j := by
      rw [seqIndex_neg (by omega) h4] at h1
      rw [List.size_toArray, ← hl]
      exact Option.some.inj h1
    exact subscriptTail_builtinR (x := w) pl.isList.typeIs slot_list_getitem.lookup
      (wpAny_getItem_list_neg (Q := fun r s' => r = w ∧ EP X pins σ Q r s') pl.isList (by omega) (by rw [List.size_toArray] <;> omega) (by omega) (by rw [hj]; simpa using ew) ⟨rfl, fin⟩) hs
theorem qBh : IxR X (rIxT X.K) := by
  intro value slice pins s σ H x y v u Q I rx ry h hs
  obtain ⟨p, xs, i, z, rfl, rfl, hq, he, q⟩ := h
  cases rx
  obtain ⟨t, rfl⟩ := ry
  obtain ⟨its, r, pl, hz⟩ := I.tuple hq
  obtain ⟨j, h1, h2, h3, h4, h5⟩ := atI_get he
  obtain ⟨w, ew, rw'⟩ := r.get h2
  have hl := r.length
  have hn := qGg
  have fin : EP X pins σ Q w s := ⟨z, H, I, rw', q⟩
  exact subscriptTail_builtinR (x := w) pl.typeIs slot_tuple_getitem.lookup
    (getItem_tuple (j := j) (Q := fun r s' => r = w ∧ EP X pins σ Q r s') pl (by omega) (by omega) (by rw [List.size_toArray, ← hl]; exact h1) (by simpa using ew) ⟨rfl, fin⟩) hs
theorem ix_str : IxR X rIxS := by
  intro value slice pins s σ H x y v u Q I rx ry h hs
  obtain ⟨z, i, c, rfl, rfl, hz, he, q⟩ := h
  obtain ⟨t, rfl⟩ := rx
  obtain ⟨t', rfl⟩ := ry
  obtain ⟨j, h1, h2, h3, h4, h5⟩ := atI_get he
  have hl : z.cps.toList.length = z.length := by simp [Str.length]
  rw [hl] at h1 h4 h5
  have hn := qGg
  exact tail_any (typeIs_str s z t) slot_str_getitem.lookup (getItem_str (c := c) (by
    have e1 : decide (i < -(2 ^ 63 : Int)) = false := decide_eq_false (by omega)
    have e2 : decide (i ≥ 2 ^ 63) = false := decide_eq_false (by omega)
    rw [e1, e2, Bool.or_false]) (by rw [h1]; simpa using h2) ⟨.str ⟨#[c]⟩, H, I.tok _, ⟨_, rfl⟩, q⟩) hs
theorem slice_bounds (lo hi : Option Int) (n : Nat) : (sliceBounds lo hi none n).1 = ((HT.sIx n 0 lo : Nat) : Int) ∧ (sliceBounds lo hi none n).2.1 = ((HT.sIx n n hi : Nat) : Int) ∧ (sliceBounds lo hi none n).2.2 = 1 := by
  refine ⟨?_, ?_, rfl⟩
  · cases lo with
    | none => simp [sliceBounds, HT.sIx]
    | some i =>
      simp only [sliceBounds, HT.sIx, Option.getD_none, show (1 : Int) > 0 by decide, if_true]
      by_cases h : i < 0
      · simp only [h, if_true] <;> omega
      · simp only [h, if_false] <;> omega
  · cases hi with
    | none => simp [sliceBounds, HT.sIx]
    | some i =>
      simp only [sliceBounds, HT.sIx, Option.getD_none, show (1 : Int) > 0 by decide, if_true]
      by_cases h : i < 0
      · simp only [h, if_true] <;> omega
      · simp only [h, if_false] <;> omega
theorem slicePick_cut (its : List Value) (lo hi : Option Int) : slicePick its.toArray lo hi none = ((its.drop (HT.sIx its.length 0 lo)).take (HT.sIx its.length its.length hi - HT.sIx its.length 0 lo)).toArray := by
  obtain ⟨h1, h2, h3⟩ := slice_bounds lo hi its.toArray.size
  unfold slicePick
  rw [h1, h2, h3]
  simp only [sliceRange_one, pick_run, List.size_toArray] <;> rfl
def rSlL (K : PySem.W.Frag) : V → Option Int → Option Int → Hp → VK → Prop := fun x lo hi H Q => ∃ a xs, x = .ref a ∧ SqL K H a xs ∧ ∀ p, H p = none → Q (.ref p) (upd H p (.lst (cutV xs lo hi)))
theorem qEq : SlR X (rSlL X.K) := by
  intro pins s σ H x v vl vu lo hi sl Q I rx hs pl pu h
  obtain ⟨a, xs, rfl, hx, q⟩ := h
  cases rx
  obtain ⟨its, r, ht, hz⟩ := I.list hx
  have hlen := r.length
  refine ⟨"list", _, slot_list_getitem.lookup, ht.isList.typeIs, ?_⟩
  refine wpAny_getItem_list_slice ht.isList hs pl pu .none (by simp) ?_ (by rw [List.size_toArray] <;> omega)
  rw [slicePick_cut, ← hlen]
  refine ⟨.ref s.heap.objs.size, _, I.laid (t' := s.toks) (o := .lst (cutV xs lo hi)) (fun b ob q => Heap.get?_push_of_some _ q) (Nat.le_refl _) ?_, rfl, q _ (I.hok.fresh (Nat.le_refl _))⟩
  exact ⟨Nat.le_trans (cutV_length xs lo hi) hz, _, 0, (r.drop (HT.sIx xs.length 0 lo)).take (HT.sIx xs.length xs.length hi - HT.sIx xs.length 0 lo), Heap.get?_push_size _ rfl⟩
def flatV : V → Bool
  | .non => true
  | .bl _ => true
  | .int _ => true
  | .str _ => true
  | _ => false
def eqV : V → V → Bool
  | .non, .non => true
  | .bl a, .bl b => a == b
  | .bl a, .int b => (if a then 1 else 0) == b
  | .int a, .bl b => a == (if b then 1 else 0)
  | .int a, .int b => a == b
  | .str a, .str b => a == b
  | _, _ => false
theorem eqAt_V {A : Around} {s : Shared} {y x : V} {u v : Value} (ry : qCn y u) (rx : qCn x v) (fy : flatV y = true) (fx : flatV x = true) : SeqAt.EqAt A s u v (eqV y x) := by
  cases y with
  | non =>
    cases ry
    cases x with
    | non => cases rx; exact SeqAt.EqAt.same _
    | bl b => cases rx; exact SeqAt.EqAt.none_bool b
    | int b => obtain ⟨t, rfl⟩ := rx; exact SeqAt.EqAt.none_int b t
    | str b => obtain ⟨t, rfl⟩ := rx; exact SeqAt.EqAt.none_str b t
    | _ => exact absurd (show false = true from fx) Bool.false_ne_true
  | bl a =>
    cases ry
    cases x with
    | non => cases rx; exact SeqAt.EqAt.bool_none a
    | bl b => cases rx; exact SeqAt.EqAt.bool_bool a b
    | int b => obtain ⟨t, rfl⟩ := rx; exact SeqAt.EqAt.bool_int a b t
    | str b => obtain ⟨t, rfl⟩ := rx; exact SeqAt.EqAt.bool_str a b t
    | _ => exact absurd (show false = true from fx) Bool.false_ne_true
  | int a =>
    obtain ⟨t', rfl⟩ := ry
    cases x with
    | non => cases rx; exact SeqAt.EqAt.int_none a t'
    | bl b => cases rx; exact SeqAt.EqAt.int_bool a t' b
    | int b => obtain ⟨t, rfl⟩ := rx; exact SeqAt.EqAt.int_int a t' b t
    | str b => obtain ⟨t, rfl⟩ := rx; exact SeqAt.EqAt.int_str a t' b t
    | _ => exact absurd (show false = true from fx) Bool.false_ne_true
  | str a =>
    obtain ⟨t', rfl⟩ := ry
    cases x with
    | non => cases rx; exact SeqAt.EqAt.str_none a t'
    | bl b => cases rx; exact SeqAt.EqAt.str_bool a t' b
    | int b => obtain ⟨t, rfl⟩ := rx; exact SeqAt.EqAt.str_int a t' b t
    | str b => obtain ⟨t, rfl⟩ := rx; exact SeqAt.EqAt.str_str a t' b t
    | _ => exact absurd (show false = true from fx) Bool.false_ne_true
  | _ => exact absurd (show false = true from fy) Bool.false_ne_true
def eqU (x : V) (u : Value) : Bool := match u with
  | .none => eqV .non x
  | .bool b => eqV (.bl b) x
  | .int i _ => eqV (.int i) x
  | .str z _ => eqV (.str z) x
  | _ => false
theorem eqU_of {x y : V} {u : Value} (r : qCn y u) (f : flatV y = true) : eqU x u = eqV y x := by
  cases y with
  | non => cases r; rfl
  | bl b => cases r; rfl
  | int i => obtain ⟨t, rfl⟩ := r; rfl
  | str z => obtain ⟨t, rfl⟩ := r; rfl
  | _ => exact absurd (show false = true from f) Bool.false_ne_true
theorem any_eqU {x : V} : ∀ {xs : List V} {us : List Value}, qBa xs us → xs.all flatV = true → us.any (eqU x) = xs.any fun y => eqV y x
  | _, _, .nil, _ => rfl
  | y :: xs, u :: us, .cons r t, f => by
    rw [List.all_cons, Bool.and_eq_true] at f
    rw [List.any_cons, List.any_cons, eqU_of r f.1, any_eqU t f.2]
theorem mem_eqAt {A : Around} {s : Shared} {x : V} {v : Value} (rx : qCn x v) (fx : flatV x = true) : ∀ {xs : List V} {us : List Value}, qBa xs us → xs.all flatV = true → ∀ u ∈ us, SeqAt.EqAt A s u v (eqU x u)
  | _, _, .nil, _ => fun u hu => by cases hu
  | y :: xs, u :: us, .cons r t, f => fun u' hu => by
    rw [List.all_cons, Bool.and_eq_true] at f
    rcases List.mem_cons.mp hu with rfl | hu
    · rw [eqU_of r f.1]; exact eqAt_V r rx f.1 fx
    · exact mem_eqAt rx fx t f.2 u' hu
def inV (x : V) (xs : List V) : Bool := xs.any fun y => eqV y x
def rIn (K : PySem.W.Frag) (neg : Bool) : R2 := fun x y H Q => ∃ p xs, y = .ref p ∧ (SqL K H p xs ∨ SqT K H p xs) ∧ flatV x = true ∧ xs.all flatV = true ∧ Q (.bl (if neg then !inV x xs else inV x xs)) H
theorem qFo : OpR X (compareOp .In) (rIn X.K false) := by
  intro pins s σ H x y v u Q I rx ry h
  obtain ⟨p, xs, rfl, hq, fx, fs, q⟩ := h
  cases ry
  rcases hq with hq | hq
  · obtain ⟨its, r, pl, hz⟩ := I.list hq
    refine SeqAt.in_listAt (eqU x) pl.isList (fun w hw => mem_eqAt rx fx r fs w (by simpa using hw)) ⟨.bl _, H, I, rfl, ?_⟩
    rw [show its.toArray.any (eqU x) = its.any (eqU x) by simp, any_eqU r fs]
    exact q
  · obtain ⟨its, r, pl, hz⟩ := I.tuple hq
    refine SeqAt.in_tupleAt (eqU x) pl (fun w hw => mem_eqAt rx fx r fs w (by simpa using hw)) ⟨.bl _, H, I, rfl, ?_⟩
    rw [show its.toArray.any (eqU x) = its.any (eqU x) by simp, any_eqU r fs]
    exact q
theorem qAo : qCr X (.builtin "len") (fun xs H Q => ∃ p ys, xs = [.ref p] ∧ (SqL X.K H p ys ∨ SqT X.K H p ys) ∧ Q (.int ys.length) H) := by
  intro pins s σ H xs us Q I r h
  obtain ⟨p, ys, rfl, hq, q⟩ := h
  obtain ⟨u, rfl, rx⟩ := qDx r
  cases rx
  have hn := qGg
  rcases hq with hq | hq
  · obtain ⟨its, r', pl, hz⟩ := I.list hq
    have hlen := r'.length
    exact Calls.call_len_list pl.isList (by simp only [List.size_toArray] <;> omega) ⟨.int ys.length, H, I.tok _, ⟨s.toks + 1, by rw [List.size_toArray, hlen]⟩, q⟩
  · obtain ⟨its, r', pl, hz⟩ := I.tuple hq
    have hlen := r'.length
    exact len_tuple pl (by simp only [List.size_toArray] <;> omega) ⟨.int ys.length, H, I.tok _, ⟨s.toks + 1, by rw [List.size_toArray, hlen]⟩, q⟩
theorem qDk : qCr X (.builtin "len") (fun xs H Q => ∃ z, xs = [.str z] ∧ z.length ≤ sizeLine ∧ Q (.int z.length) H) := by
  intro pins s σ H xs us Q I r h
  obtain ⟨z, rfl, hz, q⟩ := h
  obtain ⟨u, rfl, t, rfl⟩ := qDx r
  have hn := qGg
  exact len_str (by omega) ⟨.int z.length, H, I.tok _, ⟨_, rfl⟩, q⟩
theorem qB9 : qCr X (.type "list") (fun xs H Q => ∃ p ys, xs = [.ref p] ∧ (SqL X.K H p ys ∨ SqT X.K H p ys) ∧ ∀ l, H l = none → Q (.ref l) (upd H l (.lst ys))) := by
  intro pins s σ H xs us Q I r h
  obtain ⟨p, ys, rfl, hq, q⟩ := h
  obtain ⟨u, rfl, rx⟩ := qDx r
  cases rx
  have fin : ∀ (its : List Value), qBa ys its → ys.length ≤ sizeLine → ∀ (h' : Heap) (c' : Nat), (∀ b o', s.heap.get? b = some o' → h'.get? b = some o') →
      h'.get? s.heap.objs.size = some { cls := .type "list", dict := none, data := .seq its.toArray c', slots := #[] } → EP X pins σ Q (.ref s.heap.objs.size) { s with heap := h' } := fun its r' hz h' c' kp e =>
    ⟨.ref s.heap.objs.size, _, I.laid (t' := s.toks) kp (Nat.le_refl _) (show qCe X.prog X.w _ h' _ (.lst ys) from ⟨hz, its, c', r', e⟩), rfl, q _ (I.hok.fresh (Nat.le_refl _))⟩
  rcases hq with hq | hq
  · obtain ⟨its, r', pl, hz⟩ := I.list hq
    have hlen := r'.length
    obtain ⟨o, ho, hc, n, hd⟩ := pl.isList
    exact call_list_seq p (.inl rfl) ho hc hd (fun h' c' kp e => fin its r' hz h' c' kp e) (by simp only [List.size_toArray] <;> omega)
  · obtain ⟨its, r', pl, hz⟩ := I.tuple hq
    have hlen := r'.length
    obtain ⟨o, ho, hc, n, hd⟩ := pl
    exact call_list_seq p (.inr rfl) ho hc hd (fun h' c' kp e => fin its r' hz h' c' kp e) (by simp only [List.size_toArray] <;> omega)
theorem qEj : qCr X (.type "tuple") (fun xs H Q => ∃ p ys, xs = [.ref p] ∧ ((SqL X.K H p ys ∧ ∀ l, H l = none → Q (.ref l) (upd H l (.tup ys))) ∨ (SqT X.K H p ys ∧ Q (.ref p) H))) := by
  intro pins s σ H xs us Q I r h
  obtain ⟨p, ys, rfl, h⟩ := h
  obtain ⟨u, rfl, rx⟩ := qDx r
  cases rx
  rcases h with ⟨hq, q⟩ | ⟨hq, q⟩
  · obtain ⟨its, r', pl, hz⟩ := I.list hq
    have hlen := r'.length
    refine call_tuple_list pl.isList (fun h' kp => ?_) (by simp only [List.size_toArray] <;> omega)
    have I1 : Inv X pins σ H { s with heap := h' } := I.kept (t' := s.toks) kp
    have I2 : Inv X pins σ (upd H h'.objs.size (.tup ys)) { s with heap := h'.push { cls := .type "tuple", data := .seq its.toArray } } :=
      I1.laid (t' := s.toks) (fun b o e => Heap.get?_push_of_some _ e) (Nat.le_refl _) (show qCe X.prog X.w _ _ _ (.tup ys) from ⟨hz, its, r', IsTup.new _ _⟩)
    exact ⟨.ref h'.objs.size, _, I2, rfl, q _ (I1.hok.fresh (Nat.le_refl _))⟩
  · obtain ⟨its, r', pl, hz⟩ := I.tuple hq
    exact call_tuple_same pl ⟨.ref p, H, I, rfl, q⟩
def tyV (K : PySem.W.Frag) (T : String) (x : V) (H : Hp) : Prop := match x with
  | .str _ => T = "str"
  | .int _ => T = "int"
  | .ref p => (T = "list" ∧ ∃ xs, SqL K H p xs) ∨ (T = "tuple" ∧ ∃ o, K.lookup p = some o ∧ o.cls = .type "tuple" ∧ o.dict = none) ∨
      (T = "dict" ∧ ((∃ kvs, H p = some (.dK kvs)) ∨ ∃ kvs, H p = some (.dT kvs))) ∨ (T = "set" ∧ ∃ S n, H p = some (.set S n))
  | _ => False
theorem tyV_is {pins : List (Addr × Obj)} {σ : St} {H : Hp} {s : Shared} {T : String} {x : V} {v : Value} (I : Inv X pins σ H s) (r : qCn x v) (ty : tyV X.K T x H) :
    s.TypeIs v T ∧ ∀ a, v = .ref a → ∃ ob, s.heap.get? a = some ob ∧ ob.dict = none := by
  cases x with
  | str z =>
    obtain ⟨t, rfl⟩ := r
    cases (show T = "str" from ty)
    exact ⟨typeIs_str s z t, fun _ e => nomatch e⟩
  | int i =>
    obtain ⟨t, rfl⟩ := r
    cases (show T = "int" from ty)
    exact ⟨typeIs_int s i t, fun _ e => nomatch e⟩
  | ref p =>
    cases r
    rcases ty with ⟨rfl, xs, hq⟩ | ⟨rfl, o, hk, hc, hd⟩ | ⟨rfl, hk⟩ | ⟨rfl, S, n, hk⟩
    · obtain ⟨its, _, pl, _⟩ := I.list hq
      refine ⟨pl.isList.typeIs, fun a e => ?_⟩
      cases e
      obtain ⟨o, n, e, c, hd, _⟩ := pl
      exact ⟨o, e, hd⟩
    · refine ⟨⟨o, I.kIn p o hk, hc⟩, fun a e => ?_⟩
      cases e
      exact ⟨o, I.kIn _ o hk, hd⟩
    · have z : ∃ o, s.heap.get? p = some o ∧ o.ExactDict := by
        rcases hk with ⟨kvs, hk⟩ | ⟨kvs, hk⟩
        · obtain ⟨_, _, _, _, o, _, _, e, ex, _⟩ := I.hok p _ hk
          exact ⟨o, e, ex⟩
        · obtain ⟨_, _, _, _, o, _, _, e, ex, _⟩ := I.hok p _ hk
          exact ⟨o, e, ex⟩
      obtain ⟨o, e, ex⟩ := z
      refine ⟨⟨o, e, ex.1⟩, fun a e2 => ?_⟩
      cases e2
      exact ⟨o, e, ex.2.1⟩
    · obtain ⟨o, _, _, _, e, ex, _⟩ := I.hok p _ hk
      refine ⟨⟨o, e, ex.1⟩, fun a e2 => ?_⟩
      cases e2
      exact ⟨o, e, ex.2.1⟩
  | _ => exact False.elim ty
def tBM0 (K : PySem.W.Frag) (T : String) (r : V → List V → Hp → VK → Prop) (to : TE) : TE := fun σ H Q => to σ H fun x H1 => tyV K T x H1 ∧ r x [] H1 Q
def tBM (K : PySem.W.Frag) (T : String) (r : V → List V → Hp → VK → Prop) (to : TE) (t : TA) : TE := fun σ H Q => to σ H fun x H1 => tyV K T x H1 ∧ t σ H1 fun xs H2 => r x xs H2 Q
variable {o e : Expr} {es : List Expr} {to : TE} {t : TA} {name : Str} {apos cpos : Pos} {T id : String} {r : V → List V → Hp → VK → Prop}
theorem pe_bm0 (pa : PlainAttrs T) (slot : Slot T name id) (hty : typeOf (.builtin id) = pure (.type "method_descriptor")) (hm : MtR X id r) (ho : PE X o to)
    (hbase : attributeBase o name X.env (eval o X.env) = eval o X.env := by rfl) (hline : (apos.endLine == cpos.line) = true := by rfl) : PE X (.Call (.Attribute o name apos) [] [] cpos) (tBM0 X.K T r to) := by
  intro pins s σ H Q I h
  refine wpAny_Call_method0_late hbase hline (thn (ho pins s σ H _ I h) fun v s1 ⟨x, H1, I1, r1, ty, q1⟩ => ?_)
  obtain ⟨h1, h2⟩ := tyV_is I1 r1 ty
  exact ⟨T, id, pa, slot, hty, h1, h2, Calls.callWith_builtin rfl (PySem.evalArgs_none (hm pins s1 σ H1 x [] v [] Q I1 r1 .nil q1))⟩
theorem pe_bm (pa : PlainAttrs T) (slot : Slot T name id) (hty : typeOf (.builtin id) = pure (.type "method_descriptor")) (hm : MtR X id r) (ho : PE X o to) (ha : PA X (e :: es) t)
    (hbase : attributeBase o name X.env (eval o X.env) = eval o X.env := by rfl)
    (hfew : ((backTo cpos (starEach (e :: es) X.env)).all (fun x => !x.1) && (backToKw cpos (keywordEach [] X.env)).all (fun x => x.1.isSome)
      && decide ((e :: es).length + ([] : List Keyword).length + (if ([] : List Keyword).isEmpty then 0 else 1) < 30)) = true := by rfl)
    (hline : (apos.endLine == cpos.line) = true := by rfl) (hs : starEach (e :: es) X.env = (false, eval e X.env) :: starEach es X.env := by rfl) (hplain : (backTo cpos (starEach es X.env)).any (·.1) = false := by rfl) :
    PE X (.Call (.Attribute o name apos) (e :: es) [] cpos) (tBM X.K T r to t) := by
  intro pins s σ H Q I h
  refine wpAny_Call_method_late hbase hfew hline rfl (thn (ho pins s σ H _ I h) fun v s1 ⟨x, H1, I1, r1, ty, q1⟩ => ?_)
  obtain ⟨h1, h2⟩ := tyV_is I1 r1 ty
  refine ⟨T, id, pa, slot, hty, h1, h2, ?_⟩
  have hA := ha cpos pins s1 σ H1 _ I1 q1
  rw [hs] at hA ⊢
  refine Calls.callWith_builtin (by show (false || (backTo cpos (starEach es X.env)).any (·.1)) = false; rw [hplain] <;> rfl) (Calls.evalArgs_plain ?_)
  exact thn hA fun us s2 ⟨vs, H2, I2, r2, q2⟩ => hm pins s2 σ H2 x vs v us Q I2 r1 r2 q2
/- xs.append(e), list.index on a module's tuple .. are MtR facts of 06m -/
end
end L2
namespace L2
open PySem PySem.Spec PyProof.Rows
def MtM (X : Cx) (id : String) (r : V → List V → Hp → VK → Prop) : Prop :=
  ∀ (pins : List (Addr × Obj)) (s : Shared) (σ : St) (H : Hp) (x : V) (xs : List V) (v : Value) (us : List Value) (Q : VK), Inv X pins σ H s → qCn x v → qBa xs us → r x xs H Q →
    wpAny (model X.prog X.w) X.A (call (.builtin id) (v :: us)) (EP X pins σ Q) X.xe s
theorem qBa.one : ∀ {x : V} {us : List Value}, qBa [x] us → ∃ u, us = [u] ∧ qCn x u
  | _, _, .cons r .nil => ⟨_, rfl, r⟩
theorem qBa.zero : ∀ {us : List Value}, qBa [] us → us = []
  | _, .nil => rfl
theorem qBa.reverse {xs : List V} {us : List Value} (h : qBa xs us) : qBa xs.reverse us.reverse := by
  induction h with
  | nil => exact .nil
  | cons r t ih => rw [List.reverse_cons, List.reverse_cons]; exact qBa.append ih (.cons r .nil)
section
variable {X : Cx} {pins : List (Addr × Obj)} {σ : St} {H : Hp} {s : Shared} {l b : Addr} {xs ys zs : List V}
theorem Inv.lset {its its' : List Value} {n : Nat} {f : Array Value → Array Value} {t' : Nat} (I : Inv X pins σ H s) (hH : H l = some (.lst xs))
    (e : s.heap.get? l = some { cls := .type "list", data := .seq its.toArray n }) (hf : f its.toArray = its'.toArray) (hv : qBa ys its') (hz : ys.length ≤ sizeLine) :
    Inv X pins σ (upd H l (.lst ys)) { s with heap := s.heap.update l (Obj.mapSeq f), toks := t' } := by
  have q := PySem.IsL.update e f
  rw [hf] at q
  refine I.write (x := l) (e := l) (by rw [hH]; exact trivial) (.inl rfl) (fun b' u hb hu => (Heap.get?_update_other s.heap (Obj.mapSeq f) (Ne.symm hb)).trans hu) ⟨_, q⟩ ?_
  exact ⟨hz, its', _, hv, q⟩
theorem Inv.lnew {its : List Value} {t' : Nat} (I : Inv X pins σ H s) (hv : qBa ys its) (hz : ys.length ≤ sizeLine) :
    Inv X pins σ (upd H s.heap.objs.size (.lst ys)) { s with heap := s.heap.push { cls := .type "list", data := .seq its.toArray }, toks := t' } :=
  I.laid (fun _ _ q => Heap.get?_push_of_some _ q) (Nat.le_refl _) ⟨hz, its, 0, hv, Heap.get?_push_size _ rfl⟩
theorem Inv.fresh (I : Inv X pins σ H s) : H s.heap.objs.size = none := I.hok.fresh (Nat.le_refl _)
theorem Inv.lstM (I : Inv X pins σ H s) (hH : H l = some (.lst xs)) : xs.length ≤ sizeLine ∧ ∃ (its : List Value) (n : Nat), qBa xs its ∧ xs.length = its.length ∧ s.heap.get? l = some { cls := .type "list", data := .seq its.toArray n } := by
  obtain ⟨z, its, n, r, e⟩ := I.hok l _ hH
  exact ⟨z, its, n, r, r.length, e⟩
end
section
variable {X : Cx}
def rAppend : V → List V → Hp → VK → Prop := fun x vs H Q => ∃ l xs y, x = .ref l ∧ vs = [y] ∧ H l = some (.lst xs) ∧ xs.length < sizeLine ∧ Q .non (upd H l (.lst (xs ++ [y])))
theorem qBn : MtM X "list.append" rAppend := by
  intro pins s σ H x vs v us Q I rx rv h
  obtain ⟨l, xs, y, rfl, rfl, hH, hz, q⟩ := h
  cases rx
  obtain ⟨u, rfl, ru⟩ := rv.one
  obtain ⟨z, its, n, r, hl, e⟩ := I.lstM hH
  refine call_meets F.slot_list_append ⟨_, e, rfl⟩ F.entry_list_append (F.args_list_append_2 _ _) (PySem.list_append l its.toArray n u (by rw [List.size_toArray]; omega)) ⟨e, ?_⟩
  refine ⟨.non, _, I.lset (its' := its ++ [u]) hH e (by simp) (r.append (.cons ru .nil)) ?_, rfl, q⟩
  rw [List.length_append, List.length_singleton]
  omega
def rReverse : V → List V → Hp → VK → Prop := fun x vs H Q => ∃ l xs, x = .ref l ∧ vs = [] ∧ H l = some (.lst xs) ∧ Q .non (upd H l (.lst xs.reverse))
theorem mt_reverse : MtM X "list.reverse" rReverse := by
  intro pins s σ H x vs v us Q I rx rv h
  obtain ⟨l, xs, rfl, rfl, hH, q⟩ := h
  cases rx
  have hus := rv.zero
  subst hus
  obtain ⟨z, its, n, r, hl, e⟩ := I.lstM hH
  refine call_meets F.slot_list_reverse ⟨_, e, rfl⟩ F.entry_list_reverse (F.args_list_reverse_1 _) (AutoSeq1.list_reverse_list_0 l its.toArray n (by rw [List.size_toArray]; omega)) ⟨e, ?_⟩
  refine ⟨.non, _, I.lset (its' := its.reverse) hH e (by simp) r.reverse ?_, rfl, q⟩
  rw [List.length_reverse]
  omega
def rCat : R2 := fun x y H Q => ∃ l b xs zs, x = .ref l ∧ y = .ref b ∧ H l = some (.lst xs) ∧ H b = some (.lst zs) ∧ xs.length + zs.length ≤ sizeLine ∧ ∀ p, H p = none → Q (.ref p) (upd H p (.lst (xs ++ zs)))
theorem qE2 : OpR X (binaryOp .Add) rCat := by
  intro pins s σ H x y v u Q I rx ry h
  obtain ⟨l, b, xs, zs, rfl, rfl, hH, hB, hz, q⟩ := h
  cases rx
  cases ry
  obtain ⟨z, its, n, r, hl, e⟩ := I.lstM hH
  obtain ⟨z2, its2, n2, r2, hl2, e2⟩ := I.lstM hB
  refine PySem.P.add_list e e2 ?_ (by rw [List.size_toArray, List.size_toArray]; omega)
  have ea : its.toArray ++ its2.toArray = (its ++ its2).toArray := by simp
  rw [ea]
  exact ⟨.ref _, _, I.lnew (t' := s.toks) (r.append r2) (by rw [List.length_append]; omega), rfl, q _ I.fresh⟩
end
section
variable {prog : Program} {w : World} {A : Around} {E : Value → Shared → Prop} {s : Shared}
end
section
variable {X : Cx}
end
end L2
namespace Att
open PySem PySem.W PySem.Calls PyProof.Rows
theorem qFs {P : Params} {h : Heap} : ∀ (ns : List Int) (vs : List Value), WellAll P h vs (ns.map WData.int) → IntsAre vs ns := by
  intro ns
  induction ns with
  | nil =>
    intro vs w
    rw [List.map_nil] at w
    cases w
    exact .nil
  | cons n ns ih =>
    intro vs w
    rw [List.map_cons] at w
    cases w with
    | cons a b =>
      cases a
      exact .cons _ _ (ih _ b)
theorem script_of {l : OpenLaw} {n : Nat} (hn : l.most = some n) {P : Params} {h : Heap} {args : List WData} {vals : List Value}
    (hpre : l.row.toRowW.claim.pre args = true) (hwl : WellAll P h vals args) :
    ∃ a vs ns, vals = [Value.ref a] ∧ args = [WData.list (ns.map WData.int)] ∧ h.get? a = some { cls := .type "list", data := .seq vs.toArray } ∧ IntsAre vs ns ∧ ns.length ≤ n := by
  have hsh : WShape.hasAll [] args [.list .int] = true := (pre_splitW hpre).1
  have hc : l.pre.holds [] { args := args } = true := (pre_splitW hpre).2
  obtain ⟨d, r, rfl, h1, h2⟩ := hasAllW_cons hsh
  obtain rfl := hasAllW_nil h2
  obtain ⟨xs, rfl, h3⟩ := hasW_list h1
  obtain ⟨ns, rfl⟩ := items_int h3
  have hlen : ns.length ≤ n := by
    unfold OpenLaw.pre at hc
    have h4 : (WTm.not (.lt (.lit (.int (n : Int))) (.len (.arg 0)))).holds [] { args := [.list (ns.map .int)] } = true := by
      have h4 := (holds_andW hc).1
      rw [hn] at h4
      exact h4
    have h5 := condW_of h4 (w_not (w_lt w_lit (w_len_list (w_arg rfl))))
    rw [List.length_map] at h5
    refine Nat.le_of_not_lt fun q => ?_
    have q' : (n : Int) < ((ns.length : Nat) : Int) := by omega
    first
      | (rw [decide_eq_true q'] at h5; exact absurd h5 (by decide))
      | (simp at h5; omega)
  cases hwl with
  | cons w1 w2 =>
    cases w2
    cases w1 with
    | list ho hall => exact ⟨_, _, ns, rfl, rfl, ho, qFs ns _ hall, hlen⟩
theorem post_true (l : OpenLaw) (args : List WData) : l.row.toRowW.claim.post args (.bool true) args = true :=
  postW_of (r := l.row.toRowW) (X := (true == true))
    (show WShape.has [] (.bool true) .bool = true by first | rfl | decide | simp [WShape.has, WShape.arms, WShape.armsAll])
    (show (WTm.eq .res (.lit (.bool true))).value [] { args := args, res := some (.bool true), after := args } = some (.bool (true == true)) from w_eq_bool (w_res rfl) w_lit) rfl
theorem attach_call {l : OpenLaw} {n : Nat} {q : Program} {loose : List Str} {XP : (Str → Option Value) → Heap → Prop} {YP : World → Heap → Prop} {d : DefRec}
    (hn : l.most = some n) (hdf : d.params.defaults = [])
    (call : ∀ (w : World) (s₀ s₁ : Shared) (mg mb : Str → Option Value) (fa : Addr) (o : Obj) (pm cd doc : Value) (a : Addr) (vs : List Value) (ns : List Int),
      Ground q loose [] XP w s₀ mg mb s₁.heap → YP w s₁.heap →
      s₁.heap.get? fa = some o → o.data = .func (docDef d.name d.params d.body d.scope pm cd doc) → s₁.heap.CodeRec cd d.name → mg d.name = some (.ref fa) →
      s₁.heap.get? a = some { cls := .type "list", data := .seq vs.toArray } → IntsAre vs ns → ns.length ≤ n → s₁.gens = #[] →
      codeAny (model l.prog w) callerA (.call (.ref fa) ⟨[.ref a], []⟩) (fun r s' => r = .ok (.ret (.bool true)) ∧ OldK s₁.heap s'.heap ∧ s'.os = s₁.os ∧ AllBare s'.gens) s₁) :
    WalkO q loose XP YP l.row.toRowW d [] (fun f vs => PySem.call f vs) := by
  intro w s₀ s₁ mg mb G Y fa o pm cd doc dV kV ho hd hcd hD hmg hg args vals as hpre hlay hrd hwl hlo
  obtain rfl : dV = .none := Dflts.none hD hdf
  obtain rfl : kV = .none := Dflts.noKw hD
  obtain ⟨a, vs, ns, rfl, rfl, hobj, hints, hlen⟩ := script_of hn hpre hwl
  refine enter_call (codeAny_mono (call w s₀ s₁ mg mb fa o pm cd doc a vs ns G Y ho (fd_plain hd) hcd hmg hobj hints hlen hg) fun r s' hq => ?_)
  obtain ⟨rfl, h2, h3, h4⟩ := hq
  exact ⟨.inl ⟨.bool true, .bool true, [], rfl, fun _ => rfl, .bool true, post_true l _, fun _ => ⟨List.Pairwise.nil, fun _ hm => (nomatch hm)⟩⟩, h2, h3, h4⟩
section
variable {prog : Program} {w : World} {A : Around} {E : Value → Shared → Prop} {s : Shared} {K : Frag}
def ledger (h : Heap) (L d : Addr) : List (Addr × Obj) := (List.range h.objs.size).filterMap fun a => if a = L ∨ a = d then none else (h.get? a).map fun o => (a, o)
end
end Att
namespace L2
open PySem PySem.Spec PyProof.Rows
theorem vals_ints : ∀ {vs : List Value} {ns : List Int}, IntsAre vs ns → qBa (ns.map V.int) vs
  | _, _, .nil => .nil
  | _, _, .cons n t h => .cons ⟨t, rfl⟩ (vals_ints h)
def Only (H : Hp) : Prop := ∀ b, H b = none ∨ ∃ o xs, H b = some (.frz o (.lst xs))
theorem law_call {P : Program} {w : World} {K : PySem.W.Frag} {mg mb : Str → Option Value} {CX : CXT} {k : Nat} {fa a : Addr} {fd : FuncData} {x : Str} {sp : Sp} {s₁ : Shared} {vs : List Value} {ns : List Int}
    (KX : K.In s₁.heap) (hns : s₁.heap.Ns mainGlobals mg) (hb : s₁.heap.Ns builtinsNs mb) (hbb : ∀ x : Str, x ≠ "__name__" → mb x = bootBuiltins x) (hlim : s₁.heap.NoLimit) (hg : s₁.gens = #[])
    (ha : s₁.heap.get? a = some { cls := .type "list", data := .seq vs.toArray }) (hi : IntsAre vs ns) (hl : ns.length ≤ sizeLine) (hr : Room k callerA)
    (F : ∀ base : Heap, K.In base → base.Ns mainGlobals mg → FnOk P w K mg base CX k fa fd [x] sp) (hbind : ∀ (s : Shared) (u : Value), BindsTo s fd ⟨[u], []⟩ [(x, u)])
    (hsp : ∀ H : Hp, Only H → SqL K H a (ns.map V.int) → sp [.ref a] H (fun v _ => v = .bl true) fun _ _ _ => False)
    (hCX : ∀ H e s', CX [] H s₁ (fun _ _ _ => False) e s' → False) :
    codeAny (model P w) callerA (.call (.ref fa) ⟨[.ref a], []⟩) (fun r s' => r = .ok (.ret (.bool true)) ∧ OldK s₁.heap s'.heap ∧ s'.os = s₁.os ∧ AllBare s'.gens) s₁ := by
  have rv := vals_ints hi
  have lenV := hi.length
  have core : ∀ H : Hp, Only H → SqL K H a (ns.map V.int) → HOk P w H s₁.heap → (∀ b, H b ≠ none → b = a) → (H a ≠ none → K.lookup a = none) →
      codeAny (model P w) callerA (.call (.ref fa) ⟨[.ref a], []⟩) (fun r s' => r = .ok (.ret (.bool true)) ∧ OldK s₁.heap s'.heap ∧ s'.os = s₁.os ∧ AllBare s'.gens) s₁ := by
    intro H hO hS hok hA hK
    have base_of : ∀ {b : Addr} {o : Obj}, s₁.heap.get? b = some o → H b = none → (hidT s₁.heap H).get? b = some o := fun e n => hidT_get e n
    have noA : ∀ {b : Addr} {o : Obj} {es : Array DictEntry} {ep : Nat}, s₁.heap.get? b = some o → o.data = .dict es ep → H b = none := fun {b o es ep} e d => by
      cases q : H b with
      | none => rfl
      | some u =>
        have e' : b = a := hA b (by rw [q]; simp)
        subst e'
        rw [ha] at e; cases e
        have d' : Data.seq vs.toArray _ = Data.dict es ep := d
        cases d'
    have nsK : ∀ {b : Addr} {m : Str → Option Value}, s₁.heap.Ns b m → (hidT s₁.heap H).Ns b m := fun {b m} ⟨o, es, ep, e, d, r⟩ => ⟨o, es, ep, base_of e (noA e d), d, r⟩
    have hKb : K.In (hidT s₁.heap H) := fun b o e => base_of (KX b o e) (by
      cases q : H b with
      | none => rfl
      | some u =>
        have e' : b = a := hA b (by rw [q]; simp)
        subst e'
        rw [hK (by rw [q]; simp)] at e; cases e)
    have hM : Mod K mg (hidT s₁.heap H) := ⟨hKb, nsK hns, ⟨mb, nsK hb, hbb⟩, let ⟨mc, h1, h2⟩ := hlim; ⟨mc, nsK h1, h2⟩⟩
    have e0 : Env0 P w K mg (hidT s₁.heap H) callerA [] s₁ H := ⟨rfl, hM, fun b o e => of_hidT e, Nat.le_of_eq (hidT_size _ _), trivial, fun b hb => absurd (show b ∈ ([] : List Addr) from hb) (by simp), hok, .of_eq hg⟩
    refine codeAny_mono ((F _ hKb (nsK hns)).run callerA [] s₁ H ⟨[.ref a], []⟩ [.ref a] [.ref a] _ _ hr e0 (hbind s₁ (.ref a)) (.cons rfl .nil) (hsp H hO hS)) fun r s' h => ?_
    cases r with
    | error e => exact (hCX H e s' h).elim
    | ok fl =>
      cases fl with
      | next => exact False.elim h
      | brk => exact False.elim h
      | cont => exact False.elim h
      | ret u =>
        obtain ⟨v, H', os, bare, un, hok', r', q⟩ := h
        have q' : v = .bl true := q
        subst q'
        obtain rfl : u = Value.bool true := r'
        refine ⟨rfl, OldK.of_keep fun b o e => ?_, os, bare⟩
        cases q : H b with
        | none => exact un.keep b o e q (by intro z; exact absurd (show b ∈ ([] : List Addr) from z) (by simp)) (by simp)
        | some u =>
          rcases hO b with z | ⟨ob, xs, z⟩
          · rw [q] at z; cases z
          · have z2 := un.frzs b ob _ z
            obtain ⟨e1, _⟩ := hok b _ z
            obtain ⟨e2, _⟩ := hok' b _ z2
            rw [e] at e1; cases e1
            exact e2
  cases hk : K.lookup a with
  | some o =>
    have e := KX a o hk
    rw [ha] at e
    cases e
    refine core (fun _ => none) (fun _ => .inl rfl) (.inr ⟨_, vs.toArray, _, hk, rfl, rfl, rfl, by rw [List.size_toArray, lenV]; exact hl, by simpa using rv⟩) (fun b u z => by have z' : (none : Option HO) = some u := z; cases z') (fun b z => absurd rfl z) fun z => absurd rfl z
  | none =>
    refine core (fun b => if b = a then some (.frz { cls := .type "list", data := .seq vs.toArray } (.lst (ns.map V.int))) else none) (fun b => ?_) (.inl (.inr ⟨{ cls := .type "list", data := .seq vs.toArray }, if_pos rfl⟩)) (fun b u z => ?_) (fun b z => ?_) fun _ => hk
    · by_cases hb : b = a
      · exact .inr ⟨_, _, if_pos hb⟩
      · exact .inl (if_neg hb)
    · by_cases hb : b = a
      · have z' := (if_pos hb).symm.trans z
        cases z'
        subst hb
        exact ⟨ha, by rw [List.length_map]; exact hl, vs, _, rv, ha⟩
      · have z' := (if_neg hb).symm.trans z
        cases z'
    · by_cases hb : b = a
      · exact hb
      · exact absurd (if_neg hb) z
end L2
namespace L2
open PySem PySem.Spec PyProof.Rows
theorem walk_of {l : PySem.W.OpenLaw} {n k : Nat} {q : Program} {loose : List Str} {XP : (Str → Option Value) → Heap → Prop} {YP : World → Heap → Prop} {d : DefRec} {K : Params → PySem.W.Frag} {CX : World → CXT} {sp : World → Sp} {x : Str}
    (hn : l.most = some n) (hn2 : n ≤ sizeLine) (hdf : d.params.defaults = []) (hr : Room k callerA)
    (hY : ∀ (w : World) (h : Heap), YP w h → (K w.params).In h)
    (F : ∀ (w : World) (mg : Str → Option Value) (fa : Addr) (h : Heap), (K w.params).In h → h.Ns mainGlobals mg → mg d.name = some (.ref fa) →
      ∃ fd : FuncData, (∀ (s : Shared) (u : Value), BindsTo s fd ⟨[u], []⟩ [(x, u)]) ∧
        ∀ base : Heap, (K w.params).In base → base.Ns mainGlobals mg → FnOk l.prog w (K w.params) mg base (CX w) k fa fd [x] (sp w))
    (hsp : ∀ (w : World) (H : Hp) (a : Addr) (ns : List Int), ns.length ≤ n → Only H → SqL (K w.params) H a (ns.map V.int) → sp w [.ref a] H (fun v _ => v = .bl true) fun _ _ _ => False)
    (hCX : ∀ (w : World) (H : Hp) (s : Shared) (e : Value) (s' : Shared), CX w [] H s (fun _ _ _ => False) e s' → False) :
    PySem.W.WalkO q loose XP YP l.row.toRowW d [] (fun f vs => PySem.call f vs) := by
  refine Att.attach_call hn hdf fun w s₀ s₁ mg mb fa o pm cd doc a vs ns G Y ho hd hcd hmg hobj hints hlen hg => ?_
  have KX := hY w _ Y
  obtain ⟨fd, hb, hF⟩ := F w mg fa _ KX G.T.g hmg
  exact law_call KX G.T.g G.T.b G.T.builtins G.T.nolimit hg hobj hints (Nat.le_trans hlen hn2) hr hF hb (fun H hO hS => hsp w H a ns hlen hO hS) fun H e s' => hCX w H s₁ e s'
end L2
/- THE LAST THEOREM (shape; LID, My.* are yours):
   My.Adr: a structure of the addresses that your layer names (classes, functions); My.Txt K t: a structure (Prop) of the equations over K;
   My.txt_mk : {K} {implicit addresses ..} (e1 : nsIn K mainGlobals "law" = some (some (.ref f))) (e2 : K.lookup f = some ⟨oc, od, .func (fnOf "law" "law" params body scope dV kV doc pm an cdv ct), sl⟩) (e3 : codeIn K cdv "law" = true) .. : ∃ t, My.Txt K t
set_option maxRecDepth 100000 in
set_option maxHeartbeats 0 in
theorem PySem.Challenge.cw_LID_holds : PySem.Challenge.rw_LID.Holds := by
  w_on; o_law; k_head; (case hw => w_witness2)
  k_fill
  refine L2.walk_of (l := PySem.Challenge.rw_LID) (n := 63) (k := 40) (x := "script") (CX := fun w => ..) (sp := fun _ => My.sp_law) rfl (by decide) rfl ⟨rfl, by decide, by decide⟩ (fun w h Y => PySem.W.kIn_of Y) ?F ?S ?C
  case F =>
    intro w mg fa h KX G hmg
    have T : ∃ t, My.Txt (L2.KOf KX) t := by
      dsimp only [L2.KOf]                          -- K must stand as «<heap const> w.params» for k_is
      refine' My.txt_mk ?e1 ?e2 ?e3 ..
      (case e1 => PySem.W.k_is)                    -- in the order: a name -> its address -> its object -> its parts
      (case e2 => PySem.W.k_is)
      ..
    obtain ⟨t, T⟩ := T
    have e0 := hmg.symm.trans (PySem.W.mg_of KX G T.law)
    cases e0                                       -- fa is the law's own address
    exact ⟨_, fun s u => .of_eq rfl, fun base kb nb => My.law_fn T kb nb⟩     -- if «.of_eq rfl» comes too early: refine' ⟨_, ?b, fun base kb nb => My.law_fn T kb nb⟩; exact fun s u => .of_eq rfl
  case S => exact fun w H a ns hl hO hS => ..
  case C => exact ..
(the tactic k_is has no namespace: write k_is) -/
namespace L2
open PySem PySem.Spec PyProof.Rows
def qDi (s : Stmt) : Arguments := match s with
  | .FunctionDef _ a _ _ _ _ _ _ _ _ => a
  | _ => { posonlyargs := [], args := [], vararg := none, kwonlyargs := [], kw_defaults := [], kwarg := none, defaults := [] }
def qC6 (s : Stmt) : List Stmt := match s with
  | .FunctionDef _ _ b _ _ _ _ _ _ _ => b
  | _ => []
def qAc (s : Stmt) : Scope := match s with
  | .FunctionDef _ _ _ _ _ _ sc _ _ _ => sc
  | _ => { kind := .function, names := [], isGenerator := false, isCoroutine := false }
abbrev CX0 : CXT := fun _ _ _ _ _ _ => False
abbrev E0 : XK := fun _ _ _ => False
theorem qAu {X : Cx} : Passes CX0 X E0 := fun _ _ _ _ _ _ _ h => h.elim
structure Fun (K : PySem.W.Frag) (x qual : Str) (st : Stmt) (f : Addr) (fd : FuncData) : Prop where
  ex : ∃ (oc : Value) (od : Option Addr) (kV doc pm : Value) (an : Option Addr) (cdv ct : Value) (osl : Array (Option Value)),
    fd = PySem.W.fnOf x qual (qDi st) (qC6 st) (qAc st) .none kV doc pm an cdv ct ∧ K.lookup f = some ⟨oc, od, .func fd, osl⟩ ∧ PySem.W.codeIn K cdv qual = true
  kp : PySem.W.keepIn K (.ref f) = true
section
variable {P : Program} {w : World} {K : PySem.W.Frag} {mg : Str → Option Value} {base : Heap}
theorem Fun.ok {x qual : Str} {st : Stmt} {f : Addr} {fd : FuncData} {N ps : List Str} {k : Nat} {sp : Sp} (F : Fun K x qual st f fd) (S : FnScope N ps (qAc st)) (len : ∀ vs H Q E, sp vs H Q E → vs.length = ps.length)
    (hbody : ∀ (cdv : Value) (A : Around) (outer : List Env) (s : Shared) (H : Hp) (vs : List V) (Q : VK) (E : XK), Room k (A.deeper (envOfC qual (qAc st) s.heap.objs.size f cdv)) → sp vs H Q E →
      ∃ t, PSs (qB8 CX0 P w K mg base N qual (qAc st) f cdv A outer s H E).nox (qC6 st) t ∧ t { nx := fun _ H' => Q .non H', rt := Q } (start N vs) H) : FnOk P w K mg base CX0 (k + 1) f fd ps sp := by
  obtain ⟨oc, od, kV, doc, pm, an, cdv, ct, osl, rfl, lk, hcd⟩ := F.ex
  refine fn_of lk hcd S len fun A outer s H vs Q E hr hsp => ?_
  obtain ⟨t, h, q⟩ := hbody cdv A outer s H vs Q E hr hsp
  exact ⟨t, h.nox, q⟩
theorem Fun.binds {x qual : Str} {st : Stmt} {f : Addr} {fd : FuncData} {ps : List Str} (F : Fun K x qual st f fd)
    (h : ∀ (kV doc pm : Value) (an : Option Addr) (cdv ct : Value) (us : List Value), us.length = ps.length → bindArgs (PySem.W.fnOf x qual (qDi st) (qC6 st) (qAc st) .none kV doc pm an cdv ct) ⟨us, []⟩ = pure (ps.zip us)) : qAz K fd ps [] := by
  obtain ⟨oc, od, kV, doc, pm, an, cdv, ct, osl, rfl, lk, hcd⟩ := F.ex
  exact .all (h kV doc pm an cdv ct)
theorem fun_mk {x qual : Str} {st : Stmt} {f : Addr} {oc : Value} {od an : Option Addr} {osl : Array (Option Value)} {kV doc pm cdv ct : Value} (l : K.lookup f = some ⟨oc, od, .func (PySem.W.fnOf x qual (qDi st) (qC6 st) (qAc st) .none kV doc pm an cdv ct), osl⟩)
    (c : PySem.W.codeIn K cdv qual = true) (k : PySem.W.keepIn K (.ref f) = true) : Fun K x qual st f (PySem.W.fnOf x qual (qDi st) (qC6 st) (qAc st) .none kV doc pm an cdv ct) := ⟨⟨oc, od, kV, doc, pm, an, cdv, ct, osl, rfl, l, c⟩, k⟩
end
theorem qAf {n : Nat} (h : n ≤ 1000) : n < sizeLine := Nat.lt_of_le_of_lt h (by decide)
section
variable {X : Cx}
theorem pv (i : Nat) {x : Str} {pos : Pos} (hN : X.N[i]? = some x := by rfl) (hv : Vis X.env.scope x := by first | exact Or.inl rfl | exact Or.inr (Or.inl rfl) | exact Or.inr (Or.inr rfl)) (hd : (x == ("__debug__" : Str)) = false := by decide)
    (hcd : (x == ("__classdict__" : Str)) = false := by decide) : PE X (.Name x pos) (tVar i) := pe_var hN hv hd hcd
end
theorem qCu {A B : Prop} (h : B) : if false = true then A else B := by
  rw [if_neg Bool.false_ne_true]
  exact h
theorem iteT {A B : Prop} (h : A) : if true = true then A else B := by
  rw [if_pos rfl]
  exact h
theorem qCm {c A B : Prop} [Decidable c] (h1 : c → A) (h2 : ¬ c → B) : if c then A else B := by
  by_cases h : c
  · rw [if_pos h]
    exact h1 h
  · rw [if_neg h]
    exact h2 h
end L2
set_option linter.all false
namespace L2
open PySem PySem.Spec PyProof.Rows
section
variable {κ : Type} [DecidableEq κ]
end
section
variable {P : Program} {w : World} {H : Hp} {h : Heap} {a : Addr}
end
section
variable {X : Cx} {pins : List (Addr × Obj)} {σ : St} {H : Hp} {s : Shared} {a : Addr} {y v : V} {u r : Value} {o : Option V} {A : Around} {E : Value → Shared → Prop}
theorem Inv.big (I : Inv X pins σ H s) : sysModules < s.heap.objs.size := by
  have h : mainGlobals < s.heap.objs.size := (I.mod.glob.keeps I.bk).lt
  exact Nat.lt_trans (by decide) h
end
section
variable {X : Cx} {pins : List (Addr × Obj)} {σ : St} {H : Hp} {s : Shared} {a : Addr} {kvs : List (Key × V)} {k : Key} {u : Value} {A : Around} {E : Value → Shared → Prop}
end
section
variable {X : Cx} {o i e value : Expr} {pos pos' tpos : Pos} {td ty tv : TE}
end
section
variable {X : Cx} {pos : Pos}
end
structure M1 (X : Cx) (o : Expr) (m : Str) (apos : Pos) (e : Expr) (cpos : Pos) : Prop where
  base : attributeBase o m X.env (eval o X.env) = eval o X.env
  few : ((backTo cpos (starEach [e] X.env)).all (fun x => !x.1) && (backToKw cpos (keywordEach [] X.env)).all (fun x => x.1.isSome)
    && decide (([e] : List Expr).length + ([] : List Keyword).length + (if ([] : List Keyword).isEmpty then 0 else 1) < 30)) = true
  line : (apos.endLine == cpos.line) = true
  trees : backTo cpos (starEach [e] X.env) = [(false, eval e X.env)]
structure M2 (X : Cx) (o : Expr) (m : Str) (apos : Pos) (e f : Expr) (cpos : Pos) : Prop where
  base : attributeBase o m X.env (eval o X.env) = eval o X.env
  few : ((backTo cpos (starEach [e, f] X.env)).all (fun x => !x.1) && (backToKw cpos (keywordEach [] X.env)).all (fun x => x.1.isSome)
    && decide (([e, f] : List Expr).length + ([] : List Keyword).length + (if ([] : List Keyword).isEmpty then 0 else 1) < 30)) = true
  line : (apos.endLine == cpos.line) = true
  trees : backTo cpos (starEach [e, f] X.env) = [(false, eval e X.env), (false, eval f X.env)]
section
variable {X : Cx} {pins : List (Addr × Obj)} {σ : St} {H : Hp} {s : Shared} {a : Addr} {y d : V} {u r : Value} {o : Option V} {A : Around} {E : Value → Shared → Prop}
end
section
variable {X : Cx} {o e f : Expr} {apos cpos : Pos} {td ty tx : TE}
end
section
variable {X : Cx} {pins : List (Addr × Obj)} {σ : St} {H : Hp} {s : Shared} {a : Addr} {kvs : List (Key × V)} {A : Around} {E : Value → Shared → Prop}
end
section
variable {X : Cx} {pins : List (Addr × Obj)} {σ : St} {H : Hp} {s : Shared} {a : Addr} {y : V} {u : Value} {A : Around} {E : Value → Shared → Prop}
end
end L2
namespace L2
open PySem PySem.Spec PyProof.Rows
section
variable {X : Cx}
end
section
variable {κ : Type} [DecidableEq κ]
end
end L2
namespace L2
open PySem PySem.Spec PyProof.Rows
def qCj (cells : List (Str × Addr)) : List (Str × NameKind) → List (Str × Addr) → List (Str × Addr)
  | [], acc => acc
  | (n, k) :: r, acc => if k == .free then qCj cells r ((n, (cells.lookup n).getD 0) :: acc) else qCj cells r acc
theorem qGm (env : Env) (f : Str × NameKind → List (Str × Addr) → Sem (ForInStep (List (Str × Addr))))
    (hf : ∀ n k cs, f (n, k) cs = if k == .free then (do let a ← cellOf env n; pure (.yield ((n, a) :: cs))) else pure (.yield cs)) :
    ∀ (names : List (Str × NameKind)) (acc : List (Str × Addr)), (∀ x ∈ names, x.2 = .free → ∃ c, env.cells.lookup x.1 = some c) → forIn names acc f = pure (qCj env.cells names acc)
  | [], acc, _ => by rw [List.forIn_nil]; rfl
  | (n, k) :: r, acc, h => by
    have ih := qGm env f hf r
    rw [List.forIn_cons, hf]
    unfold qCj
    by_cases hk : (k == NameKind.free) = true
    · rw [if_pos hk, if_pos hk]
      obtain ⟨c, hc⟩ := h (n, k) List.mem_cons_self (by simpa using hk)
      have e : cellOf env n = pure c := by unfold cellOf; rw [hc]
      rw [e, hc]
      exact ih _ fun x hx => h x (List.mem_cons_of_mem _ hx)
    · rw [if_neg hk, if_neg hk]
      exact ih _ fun x hx => h x (List.mem_cons_of_mem _ hx)
theorem closureFor_eq {scope : Scope} {env : Env} (h : ∀ x ∈ scope.names, x.2 = .free → ∃ c, env.cells.lookup x.1 = some c) : closureFor scope env = pure (qCj env.cells scope.names []) := by
  simp only [closureFor]
  rw [qGm env _ (fun n k cs => by cases hk : k == NameKind.free <;> simp [hk]) scope.names [] h]
  rfl
theorem closL_mem {cells : List (Str × Addr)} : ∀ {names : List (Str × NameKind)} {acc : List (Str × Addr)} {x : Str} {c : Addr}, (x, c) ∈ qCj cells names acc → (x, c) ∈ acc ∨ ((x, NameKind.free) ∈ names ∧ c = (cells.lookup x).getD 0)
  | [], acc, x, c, h => .inl h
  | (n, k) :: r, acc, x, c, h => by
    unfold qCj at h
    by_cases hk : (k == NameKind.free) = true
    · rw [if_pos hk] at h
      rcases closL_mem h with q | ⟨q, e⟩
      · rcases List.mem_cons.mp q with z | z
        · cases z
          exact .inr ⟨by rw [show NameKind.free = k from (by simpa using hk : k = NameKind.free).symm]; exact List.mem_cons_self, rfl⟩
        · exact .inl z
      · exact .inr ⟨List.mem_cons_of_mem _ q, e⟩
    · rw [if_neg hk] at h
      rcases closL_mem h with q | ⟨q, e⟩
      · exact .inl q
      · exact .inr ⟨List.mem_cons_of_mem _ q, e⟩
theorem qE6 {α : Type} {x n : Str} {c : α} {l : List (Str × α)} (h : (l.lookup x).isSome = true) : (((n, c) :: l).lookup x).isSome = true := by
  rw [List.lookup_cons]
  cases x == n <;> simp [h]
theorem qDu {cells : List (Str × Addr)} {x : Str} : ∀ {names : List (Str × NameKind)} {acc : List (Str × Addr)}, ((x, NameKind.free) ∈ names ∨ (acc.lookup x).isSome = true) → ((qCj cells names acc).lookup x).isSome = true
  | [], acc, h => by
    rcases h with h | h
    · cases h
    · exact h
  | (n, k) :: r, acc, h => by
    unfold qCj
    by_cases hk : (k == NameKind.free) = true
    · rw [if_pos hk]
      refine qDu ?_
      rcases h with h | h
      · rcases List.mem_cons.mp h with z | z
        · cases z; exact .inr (by rw [List.lookup_cons]; simp)
        · exact .inl z
      · exact .inr (qE6 h)
    · rw [if_neg hk]
      refine qDu ?_
      rcases h with h | h
      · rcases List.mem_cons.mp h with z | z
        · cases z; exact absurd rfl hk
        · exact .inl z
      · exact .inr h
theorem cellsFrom_mem : ∀ {names : List (Str × NameKind)} {n : Nat} {acc : List (Str × Addr)} {x : Str} {c : Addr}, (x, c) ∈ cellsFrom n names acc → (x, c) ∈ acc ∨ (x, NameKind.cell) ∈ names
  | [], _, _, _, _, h => .inl h
  | (y, k) :: r, n, acc, x, c, h => by
    unfold cellsFrom at h
    by_cases hk : (k == NameKind.cell) = true
    · rw [if_pos hk] at h
      rcases cellsFrom_mem h with q | q
      · rcases List.mem_cons.mp q with z | z
        · cases z
          exact .inr (by rw [show NameKind.cell = k from (by simpa using hk : k = NameKind.cell).symm]; exact List.mem_cons_self)
        · exact .inl z
      · exact .inr (List.mem_cons_of_mem _ q)
    · rw [if_neg hk] at h
      rcases cellsFrom_mem h with q | q
      · exact .inl q
      · exact .inr (List.mem_cons_of_mem _ q)
structure CellsTwo (h : Heap) (lo : Nat) (acc cs : List (Str × Addr)) : Prop where
  part : ∀ x c, (x, c) ∈ cs → (x, c) ∈ acc ∨ (h.IsCell c none ∧ lo ≤ c)
  inj : ∀ x y c, lo ≤ c → (x, c) ∈ cs → (y, c) ∈ cs → x = y
theorem qC7 {acc0 : List (Str × Addr)} : ∀ (names : List (Str × NameKind)) (h : Heap) (lo : Nat) (acc : List (Str × Addr)), CellsTwo h lo acc0 acc → (∀ x c, (x, c) ∈ acc → c < h.objs.size) → lo ≤ h.objs.size →
    CellsTwo (pushCells h names) lo acc0 (cellsFrom h.objs.size names acc)
  | [], _, _, _, x, _, _ => x
  | (name, kind) :: r, h, lo, acc, x, hl, hlo => by
    unfold pushCells cellsFrom
    split
    · have := qC7 (acc0 := acc0) r (h.push { cls := .type "cell", data := .cell none }) lo ((name, h.objs.size) :: acc)
        ⟨fun n c hm => by
            rcases List.mem_cons.mp hm with e | hm
            · cases e; exact .inr ⟨⟨_, Heap.get?_push_size _ rfl, rfl⟩, hlo⟩
            · rcases x.part n c hm with q | q
              · exact .inl q
              · exact .inr ⟨q.1.keeps fun b o e => Heap.get?_push_of_some _ e, q.2⟩,
          fun a b c hc h1 h2 => by
            rcases List.mem_cons.mp h1 with e1 | h1 <;> rcases List.mem_cons.mp h2 with e2 | h2
            · cases e1; cases e2; rfl
            · cases e1; exact absurd (hl _ _ h2) (Nat.lt_irrefl _)
            · cases e2; exact absurd (hl _ _ h1) (Nat.lt_irrefl _)
            · exact x.inj a b c hc h1 h2⟩
        (fun n c hm => by
          rw [Heap.size_push]
          rcases List.mem_cons.mp hm with e | hm
          · cases e; exact Nat.lt_succ_self _
          · exact Nat.lt_succ_of_lt (hl n c hm)) (by rw [Heap.size_push]; omega)
      rwa [Heap.size_push] at this
    · exact qC7 r h lo acc x hl hlo
def qB1 (env : Env) (scope : Scope) (C : Addr) : Env :=
  { scope := relabel scope env, locals := C, globals := env.globals, cells := cellsFrom (C + 1) scope.names (qCj env.cells scope.names []), qual := env.qual, func := none, code := env.code, frame := env.frame, builtins := env.builtins }
theorem qD4 {M : Model} {A : Around} {E : Value → Shared → Prop} {s : Shared} {scope : Scope} {env : Env} {cl : List (Str × Addr)} {Q : Env → Shared → Prop}
    (hQ : Q { scope := scope, locals := s.heap.objs.size, globals := env.globals, cells := cellsFrom (s.heap.objs.size + 1) scope.names cl, qual := env.qual, func := none, code := env.code, frame := env.frame, builtins := env.builtins }
      { s with heap := pushCells (s.heap.push { cls := .type "dict", data := .dict #[] }) scope.names }) :
    wpAny M A (newFunctionEnv scope env.globals cl [] env.qual none .none (some env)) Q E s := by
  simp only [newFunctionEnv, Option.isSome_some, if_true]
  refine wpAny_bind (wpAny_alloc ?_)
  refine wpAny_bind (wpAny_layCells _ (fun name kind cells => by cases hkc : kind == NameKind.cell <;> simp [hkc]) _ _ _ _ ?_)
  rw [show ({ s with heap := s.heap.push { cls := .type "dict", data := .dict #[] } } : Shared).heap.objs.size = s.heap.objs.size + 1 from Heap.size_push ..]
  rw [List.forIn_nil]
  exact wpAny_bind (wpAny_pure (wpAny_pure hQ))
theorem compLoop_any {prog : Program} {w : World} {A : Around} {R : Result → Shared → Prop} {s : Shared} {elt target iter : Expr} {ifs : List Expr} {scope : Scope} {pos : Pos} {it acc : Value} {env : Env} (I : Nat → Shared → Prop)
    (turn : ∀ n s, I n s → wpAny (model prog w) A (pyNext it) (fun r s₁ => match r with
      | none => R (.ok .next) s₁
      | some v => wpAny (model prog w) A (letOwnedTupleGo target it v) (fun _ s₁' => wpAny (model prog w) A (assign target env v) (fun _ s₂ =>
          wpAny (model prog w) A (forIn ifs true fun c r => if r = true then do let ok ← isTrue c env (eval c env); pure (ForInStep.yield ok) else pure (ForInStep.yield r)) (fun ok s₃ =>
            if ok = true then wpAny (model prog w) A (eval elt env) (fun x s₄ =>
              wpAny (model prog w) A (call (.builtin "list.append") [acc, x]) (fun _ s₅ => ∃ m, m < n ∧ I m s₅) (fun _ _ => False) s₄) (fun _ _ => False) s₃
            else ∃ m, m < n ∧ I m s₃) (fun _ _ => False) s₂) (fun _ _ => False) s₁') (fun _ _ => False) s₁) (fun _ _ => False) s)
    (n : Nat) (h : I n s) :
    codeAny (model prog w) A (.compLoop (.ListComp elt [⟨target, iter, ifs, 0⟩] scope pos) 0 it acc env) R s := by
  refine codeAny_loop rfl I (fun n s hI => ?_) n h
  show wpAny _ A ((compTurn (.ListComp elt [⟨target, iter, ifs, 0⟩] scope pos) 0 it acc env).onRaise (fun x => do noteFrame x env; theTreesLotGoes x)) _ _ s
  refine wpAny_noted ?_
  rw [compTurn_list]
  refine wpAny_bind (wpAny_standAt (wpAny_bind (wpAny_mono (turn n s hI) (fun r s₁ h₁ => ?_) fun _ _ h' => h'.elim)))
  cases r with
  | none => exact wpAny_pure h₁
  | some v =>
    refine wpAny_bind (wpAny_mono h₁ (fun _ s₁' h₁ => ?_) fun _ _ h' => h'.elim)
    refine wpAny_bind (wpAny_mono h₁ (fun _ s₂ h₂ => wpAny_bind (wpAny_mono h₂ (fun ok s₃ h₃ => ?_) fun _ _ h' => h'.elim)) fun _ _ h' => h'.elim)
    cases ok with
    | false => exact wpAny_pure ⟨rfl, h₃⟩
    | true =>
      exact wpAny_bind (wpAny_bind (wpAny_mono h₃ (fun x s₄ h₄ => wpAny_bind (wpAny_mono h₄ (fun _ s₅ h₅ => wpAny_pure (wpAny_pure ⟨rfl, h₅⟩)) fun _ _ h' => h'.elim)) fun _ _ h' => h'.elim))
end L2
namespace L2
open PySem PySem.Spec PyProof.Rows
def qB6 (X : Cx) (scope : Scope) (N' : List Str) (C : Addr) (s : Shared) (H : Hp) (fp : List Addr) : Cx :=
  { X with N := N', s₀ := s, H₀ := H, env := qB1 X.env scope C, outer := X.stack, stack := X.stack, ex := fp, fn := fun x => !(scope.names.lookup x == some .free), pn := [], xe := fun _ _ => False }
def subσ (sub : List (Option Nat)) (σ : St) : St := sub.map fun o => o.bind fun i => (σ[i]?).join
def cmpOkB (N : List Str) (sc : Scope) (N' : List Str) (scope : Scope) (sub : List (Option Nat)) : Bool :=
  scope.kind == .function && decide ((scope.names.map (·.1)).Nodup) && decide N'.Nodup && sub.length == N'.length &&
  (scope.names.all fun x => !(x.2 == .free) || sc.names.lookup x.1 == some .cell || sc.names.lookup x.1 == some .free) &&
  ((sub.zip N').all fun p => match p.1 with
    | none => true
    | some i => N[i]? == some p.2 && scope.names.lookup p.2 == some .free)
structure CmpOk (N : List Str) (sc : Scope) (N' : List Str) (scope : Scope) (sub : List (Option Nat)) : Prop where
  kind : scope.kind = .function
  nd : (scope.names.map (·.1)).Nodup
  nd' : N'.Nodup
  len : sub.length = N'.length
  free : ∀ x ∈ scope.names, x.2 = .free → sc.names.lookup x.1 = some .cell ∨ sc.names.lookup x.1 = some .free
  sub : ∀ (j i : Nat) (x : Str), sub[j]? = some (some i) → N'[j]? = some x → N[i]? = some x ∧ scope.names.lookup x = some .free
theorem CmpOk.of {N : List Str} {sc : Scope} {N' : List Str} {scope : Scope} {sub : List (Option Nat)} (h : cmpOkB N sc N' scope sub = true) : CmpOk N sc N' scope sub := by
  unfold cmpOkB at h
  simp only [Bool.and_eq_true] at h
  obtain ⟨⟨⟨⟨⟨h1, h2⟩, h3⟩, h4⟩, h5⟩, h6⟩ := h
  refine ⟨by simpa using h1, of_decide_eq_true h2, of_decide_eq_true h3, by simpa using h4, fun x hx hf => ?_, fun j i x hj hx => ?_⟩
  · have q := List.all_eq_true.mp h5 x hx
    rw [hf] at q
    simp only [beq_self_eq_true, Bool.not_true, Bool.false_or, Bool.or_eq_true] at q
    rcases q with q | q
    · exact .inl (by simpa using q)
    · exact .inr (by simpa using q)
  · have q := List.all_eq_true.mp h6 (some i, x) (by
      refine List.mem_of_getElem? (i := j) ?_
      rw [List.getElem?_zip_eq_some]
      exact ⟨hj, hx⟩)
    simp only [Bool.and_eq_true] at q
    exact ⟨by simpa using q.1, by simpa using q.2⟩
theorem qBo {α : Type} : ∀ {l : List (Str × α)} {x : Str} {c : α}, (l.map (·.1)).Nodup → (x, c) ∈ l → l.lookup x = some c
  | (y, d) :: r, x, c, nd, h => by
    rw [List.lookup_cons]
    rcases List.mem_cons.mp h with e | h
    · cases e; simp
    · have ne : x ≠ y := fun e => by
        rw [List.map_cons] at nd
        exact (List.nodup_cons.mp nd).1 (by rw [← e]; exact List.mem_map.mpr ⟨(x, c), h, rfl⟩)
      rw [show (x == y) = false from by simpa using ne]
      exact qBo (List.nodup_cons.mp nd).2 h
theorem qDh {sc : Scope} : ∀ {names : List (Str × NameKind)} {x : Str},
    ((names.map fun (n, k) => if (k == NameKind.free && sc.kind == .function && sc.names.lookup n == some .cell) then (n, NameKind.cell) else (n, k)).lookup x) =
      (names.lookup x).map fun k => if (k == NameKind.free && sc.kind == .function && sc.names.lookup x == some .cell) then NameKind.cell else k
  | [], x => rfl
  | (n, k) :: r, x => by
    have ih := @qDh sc r x
    rw [List.map_cons]
    show List.lookup x ((if (k == NameKind.free && sc.kind == .function && sc.names.lookup n == some .cell) = true then (n, NameKind.cell) else (n, k)) :: _) = _
    by_cases hc : (k == NameKind.free && sc.kind == .function && sc.names.lookup n == some .cell) = true
    · rw [if_pos hc, List.lookup_cons, List.lookup_cons]
      by_cases hx : x = n
      · subst hx
        rw [show (x == x) = true from beq_self_eq_true x]
        show some NameKind.cell = Option.map _ (some k)
        rw [Option.map_some, if_pos hc]
      · rw [show (x == n) = false by simpa using hx]
        exact ih
    · rw [if_neg hc, List.lookup_cons, List.lookup_cons]
      by_cases hx : x = n
      · subst hx
        rw [show (x == x) = true from beq_self_eq_true x]
        show some k = Option.map _ (some k)
        rw [Option.map_some, if_neg hc]
      · rw [show (x == n) = false by simpa using hx]
        exact ih
section
variable {X : Cx} {pins : List (Addr × Obj)} {σ : St} {H H' : Hp} {s : Shared}
theorem qGk (I : Inv X pins σ H s) {b : Addr} (hb : b ∈ frs X.stack) (n1 : b ≠ X.env.locals) : b ∈ X.fs := (List.mem_cons.mp (I.stkSub b hb)).elim (fun e => absurd e n1) id
theorem qFu {N' : List Str} {scope : Scope} {sub : List (Option Nat)} {h3 : Heap} (I : Inv X pins σ H s) (O : CmpOk X.N X.env.scope N' scope sub)
    (hk : ∀ b o, s.heap.get? b = some o → h3.get? b = some o) :
    (∀ x c, (cellsFrom (h3.objs.size + 1) scope.names (qCj X.env.cells scope.names [])).lookup x = some c →
      (((pushCells (h3.push { cls := .type "dict", data := .dict #[] }) scope.names).IsCell c none ∧ h3.objs.size + 1 ≤ c ∧ (x, NameKind.cell) ∈ scope.names) ∨ ((x, NameKind.free) ∈ scope.names ∧ X.env.cells.lookup x = some c))) ∧
    (∀ x y c, (cellsFrom (h3.objs.size + 1) scope.names (qCj X.env.cells scope.names [])).lookup x = some c → (cellsFrom (h3.objs.size + 1) scope.names (qCj X.env.cells scope.names [])).lookup y = some c → x = y) := by
  have hin : ∀ x c, (x, c) ∈ qCj X.env.cells scope.names [] → (x, NameKind.free) ∈ scope.names ∧ X.env.cells.lookup x = some c := fun x c h => by
    rcases closL_mem h with q | ⟨q, e⟩
    · cases q
    · have hx : ∃ c, X.env.cells.lookup x = some c := by
        refine I.ok.has x ?_
        rcases O.free _ q rfl with z | z
        · exact .inl z
        · exact .inr z
      obtain ⟨c', hc'⟩ := hx
      rw [hc'] at e
      exact ⟨q, by rw [hc', e]; rfl⟩
  have hlt : ∀ x c, (x, c) ∈ qCj X.env.cells scope.names [] → c < h3.objs.size := fun x c h => by
    obtain ⟨v, o, ho, _⟩ := I.cell x c (hin x c h).2
    exact Heap.lt_size (hk _ _ ho)
  have two := qC7 (acc0 := qCj X.env.cells scope.names []) scope.names (h3.push { cls := .type "dict", data := .dict #[] }) (h3.objs.size + 1) (qCj X.env.cells scope.names [])
    ⟨fun x c h => .inl h, fun x y c hc h1 _ => absurd (hlt x c h1) (Nat.not_lt.mpr (Nat.le_of_succ_le hc))⟩ (fun x c h => by rw [Heap.size_push]; exact Nat.lt_succ_of_lt (hlt x c h)) (by rw [Heap.size_push]; exact Nat.le_refl _)
  rw [Heap.size_push] at two
  refine ⟨fun x c h => ?_, fun x y c h1 h2 => ?_⟩
  · have m := PySem.mem_of_lookup h
    rcases two.part x c m with q | q
    · exact .inr (hin x c q)
    · refine .inl ⟨q.1, q.2, ?_⟩
      rcases cellsFrom_mem m with z | z
      · exact absurd (hlt x c z) (Nat.not_lt.mpr (Nat.le_of_succ_le q.2))
      · exact z
  · have m1 := PySem.mem_of_lookup h1
    have m2 := PySem.mem_of_lookup h2
    by_cases hc : h3.objs.size + 1 ≤ c
    · exact two.inj x y c hc m1 m2
    · rcases two.part x c m1 with q1 | q1
      · rcases two.part y c m2 with q2 | q2
        · exact I.ok.inj x y c (hin x c q1).2 (hin y c q2).2
        · exact absurd q2.2 hc
      · exact absurd q1.2 hc
theorem inv_comp {N' : List Str} {scope : Scope} {sub : List (Option Nat)} {fp : List Addr} (I : Inv X pins σ H s) (O : CmpOk X.N X.env.scope N' scope sub) (hf : ∀ b ∈ fp, FpOk X pins H b)
    (hfl : ∀ b ∈ fp, b < s.heap.objs.size) :
    Inv (qB6 X scope N' (s.heap.objs.size + 1) s H fp) [(s.heap.objs.size, { cls := .type "list", data := .seq #[] })] (subσ sub σ) H
      { s with heap := pushCells ((s.heap.push { cls := .type "list", data := .seq #[] }).push { cls := .type "dict", data := .dict #[] }) scope.names } := by
  have hk3 : ∀ b o, s.heap.get? b = some o → (s.heap.push { cls := .type "list", data := .seq #[] }).get? b = some o := fun b o e => Heap.get?_push_of_some _ e
  have sz3 : (s.heap.push { cls := .type "list", data := .seq #[] }).objs.size = s.heap.objs.size + 1 := Heap.size_push ..
  have hk : ∀ b o, s.heap.get? b = some o → (pushCells ((s.heap.push { cls := .type "list", data := .seq #[] }).push { cls := .type "dict", data := .dict #[] }) scope.names).get? b = some o :=
    fun b o e => pushCells_keeps _ _ b o (Heap.get?_push_of_some _ (hk3 b o e))
  have cf := qFu (h3 := s.heap.push { cls := .type "list", data := .seq #[] }) I O hk3
  rw [sz3] at cf
  have hC : H (s.heap.objs.size + 1) = none := I.hok.fresh (Nat.le_succ _)
  have nsC : (pushCells ((s.heap.push { cls := .type "list", data := .seq #[] }).push { cls := .type "dict", data := .dict #[] }) scope.names).Ns (s.heap.objs.size + 1) (fun _ => none) := by
    rw [← sz3]
    exact (Heap.Ns.new _ _).keeps (pushCells_keeps _ _)
  have has : ∀ x, (scope.names.lookup x = some .cell ∨ scope.names.lookup x = some .free) → ∃ c, (cellsFrom (s.heap.objs.size + 1 + 1) scope.names (qCj X.env.cells scope.names [])).lookup x = some c := fun x hx => by
    refine Option.isSome_iff_exists.mp (PySem.W.cellsFrom_some _ _ _ ?_)
    rcases hx with z | z
    · exact .inl z
    · exact .inr (qDu (.inl (PySem.mem_of_lookup z)))
  have kindB : ∀ x, (qB1 X.env scope (s.heap.objs.size + 1)).kindOf x = (scope.names.lookup x).map fun k => if (k == NameKind.free && X.env.scope.kind == .function && X.env.scope.names.lookup x == some .cell) then NameKind.cell else k := fun x => qDh
  have cellOk : ∀ x c, (qB1 X.env scope (s.heap.objs.size + 1)).cells.lookup x = some c → ∃ v, (pushCells ((s.heap.push { cls := .type "list", data := .seq #[] }).push { cls := .type "dict", data := .dict #[] }) scope.names).IsCell c v := fun x c h => by
    rcases cf.1 x c h with q | q
    · exact ⟨_, q.1⟩
    · obtain ⟨v, z⟩ := I.cell x c q.2
      exact ⟨v, z.keeps hk⟩
  refine ⟨⟨I.ok.mod, O.kind, I.ok.glob, I.ok.blt, Nat.le_succ _, fun x y c h1 h2 => cf.2 x y c h1 h2, fun x hx => ?_, fun x c hx h => ?_, I.ok.hd, I.ok.frames, .inl rfl, fun b hb => ?_, fun b o e => I.bs b o e, Nat.le_trans I.ok.bsz I.sz, fun b o e hb => ?_, fun b hb => ?_, I.stack, I.stkFree⟩,
    rfl, I.bare, Un.kept hk, ⟨fun _ => none, nsC, fun i x v h1 h2 h3 => ?_⟩, cellOk, hC, fun x c h => ?_, fun p hp => ?_, I.hok.kept hk, ?_⟩
  · -- has
    refine has x ?_
    have hx : (qB1 X.env scope (s.heap.objs.size + 1)).kindOf x = some .cell ∨ (qB1 X.env scope (s.heap.objs.size + 1)).kindOf x = some .free := hx
    rw [kindB] at hx
    cases e : scope.names.lookup x with
    | none => rw [e] at hx; rcases hx with z | z <;> cases z
    | some k =>
      rw [e] at hx
      cases k with
      | cell => exact .inl rfl
      | free => exact .inr rfl
      | _ => exfalso; rcases hx with z | z <;> simp at z
  · -- cab
    rcases cf.1 x c h with q | q
    · have := q.2.1
      show s.heap.objs.size ≤ c
      omega
    · exfalso
      have e := qBo O.nd q.1
      have hx' : (!(scope.names.lookup x == some NameKind.free)) = true := hx
      rw [e] at hx'
      exact absurd hx' (by decide)
  · -- exf
    obtain ⟨f0, f1, f2, f3, f4, f5⟩ := hf b hb
    have lt := hfl b hb
    refine ⟨fun e => ?_, fun x c h e => ?_⟩
    · have e' : b = s.heap.objs.size + 1 := e
      rw [e'] at lt
      exact absurd lt (Nat.not_lt.mpr (Nat.le_succ _))
    · rcases cf.1 x c h with q | q
      · have z := q.2.1
        rw [e] at z
        exact absurd lt (Nat.not_lt.mpr (Nat.le_trans (Nat.le_trans (Nat.le_succ _) (Nat.le_succ _)) z))
      · exact f4 x c q.2 e
  · -- noex
    obtain ⟨f0, f1, f2, f3, f4, f5⟩ := hf b hb
    rcases f3 with z | z
    · exact I.ok.noex b o e z
    · exact absurd (Nat.lt_of_lt_of_le (Heap.lt_size (I.ok.bs b o e).1) z) (Nat.lt_irrefl _)
  · -- exfs
    obtain ⟨f0, f1, f2, f3, f4, f5⟩ := hf b hb
    exact fun z => f2 (qGk I z f1)
  · -- loc
    have h1' : N'[i]? = some x := h1
    have hsub : ∃ k, sub[i]? = some (some k) ∧ (σ[k]?).join = some v := by
      unfold subσ at h2
      rw [List.getElem?_map] at h2
      cases e : sub[i]? with
      | none => rw [e] at h2; cases h2
      | some o =>
        rw [e] at h2
        cases o with
        | none => cases h2
        | some k => exact ⟨k, rfl, by simpa using h2⟩
    obtain ⟨k, hk1, hk2⟩ := hsub
    obtain ⟨nk, fx⟩ := O.sub i k x hk1 h1'
    have sk : σ[k]? = some (some v) := by
      cases e : σ[k]? with
      | none => rw [e] at hk2; cases hk2
      | some o => rw [e] at hk2; cases o with
        | none => cases hk2
        | some y => cases hk2; rfl
    have cx := O.free _ (PySem.mem_of_lookup fx) rfl
    obtain ⟨m, hn, hl⟩ := I.loc
    obtain ⟨u, ru, lk⟩ := hl k x v nk sk (by
      rcases cx with z | z
      · exact .inr (.inl z)
      · exact .inr (.inr z))
    refine ⟨u, ru, .inr ⟨?_, ?_⟩⟩
    · show (qB1 X.env scope (s.heap.objs.size + 1)).kindOf x = some .cell ∨ (qB1 X.env scope (s.heap.objs.size + 1)).kindOf x = some .free
      rw [kindB, fx]
      by_cases hc : (NameKind.free == NameKind.free && X.env.scope.kind == .function && X.env.scope.names.lookup x == some .cell) = true
      · exact .inl (by rw [Option.map_some, if_pos hc])
      · exact .inr (by rw [Option.map_some, if_neg hc])
    · rcases lk with ⟨kl, _⟩ | ⟨_, c, hc, hcell⟩
      · exfalso
        have kl' : X.env.scope.names.lookup x = some .local := kl
        rcases cx with z | z <;> rw [kl'] at z <;> cases z
      · obtain ⟨c', hc'⟩ := has x (.inr fx)
        refine ⟨c', hc', ?_⟩
        rcases cf.1 x c' hc' with q | q
        · exfalso
          have e := qBo O.nd q.2.2
          rw [fx] at e; cases e
        · rw [hc] at q
          have e : c = c' := Option.some.inj q.2
          subst e
          exact hcell.keeps hk
  · -- freeC
    rcases cf.1 x c h with q | q
    · exact I.hok.fresh (by have := q.2.1; omega)
    · exact I.freeC x c q.2
  · -- pin
    have hp' : p = (s.heap.objs.size, ({ cls := .type "list", data := .seq #[] } : Obj)) := by
      have : p ∈ ([] ++ [(s.heap.objs.size, ({ cls := .type "list", data := .seq #[] } : Obj))] : List (Addr × Obj)) := hp
      simpa using this
    subst hp'
    refine ⟨pushCells_keeps _ _ _ _ (Heap.get?_push_of_some _ (Heap.get?_push_size _ rfl)), I.hok.fresh (Nat.le_refl _), Nat.ne_of_lt (Nat.lt_succ_self _), fun z => ?_, fun v z => ?_⟩
    · rcases List.mem_cons.mp (I.stkSub _ z) with e | e
      · exact absurd I.lt (by rw [← e]; exact Nat.lt_irrefl _)
      · exact I.nofs (Nat.le_refl _) e
    · cases z
  · -- len
    show (subσ sub σ).length = N'.length
    unfold subσ
    rw [List.length_map, O.len]
end
end L2
namespace L2
open PySem PySem.Spec PyProof.Rows
def Sle (σ σ2 : St) : Prop := σ2.length = σ.length ∧ ∀ (i : Nat) (v : V), σ[i]? = some (some v) → σ2[i]? = some (some v)
theorem Sle.refl (σ : St) : Sle σ σ := ⟨rfl, fun _ _ h => h⟩
theorem Sle.set {σ σ2 : St} {i : Nat} (v : V) (h : Sle σ σ2) (hi : ∀ u, σ[i]? ≠ some (some u)) : Sle σ (σ2.set i (some v)) := by
  refine ⟨by rw [List.length_set]; exact h.1, fun j u hj => ?_⟩
  have ne : i ≠ j := fun e => hi u (by rw [e]; exact hj)
  rw [List.getElem?_set_ne ne]
  exact h.2 j u hj
def PTs (X : Cx) (ifs : List Expr) (t : TT) : Prop :=
  ∀ (pins : List (Addr × Obj)) (s : Shared) (σ : St) (H : Hp) (Q : Bool → Hp → Prop), Inv X pins σ H s → t σ H Q →
    wpAny (model X.prog X.w) X.A (forIn ifs true fun c r => if r = true then do let ok ← isTrue c X.env (eval c X.env); pure (ForInStep.yield ok) else pure (ForInStep.yield r)) (TP X pins σ Q) X.xe s
def tNoTest : TT := fun _ H Q => Q true H
theorem qA0 {X : Cx} : PTs X [] tNoTest := fun pins s σ H Q I h => wpAny_tests_nil ⟨H, I, h⟩
theorem qDe {X : Cx} {c : Expr} {t : TT} (h : PT X c t) : PTs X [c] t := fun pins s σ H Q I hw => wpAny_tests_one (h pins s σ H Q I hw)
def qDl (J : It) (σ0 : St) (g : TG) (tt : TT) (te : TE) (Q : List V → Hp → Prop) (H1 : Hp) : Prop :=
  ∃ W : Nat → Nat → List V → Hp → Prop, (∃ m, W 0 m [] H1) ∧ ∀ i m ys H, W i m ys H →
    (J.stop i H ∧ Q ys H) ∨
    (J.go i H ∧ ∀ x H', J.yld i H x H' → g x σ0 H' fun σ2 H2 => Sle σ0 σ2 ∧ tt σ2 H2 fun b H3 =>
      if b = true then te σ2 H3 (fun v H4 => ys.length < sizeLine ∧ ∃ m', m' < m ∧ W (i + 1) m' (ys ++ [v]) H4) else ∃ m', m' < m ∧ W (i + 1) m' ys H3)
section
variable {X : Cx} {pins : List (Addr × Obj)} {σ : St} {H : Hp} {s : Shared}
theorem comp_core {target iter elt : Expr} {ifs : List Expr} {scope : Scope} {pos : Pos} {N' : List Str} {sub : List (Option Nat)} {J : It} {fp : List Addr} {it : Addr} {tn : Nat → Heap → Prop} {g : TG} {tt : TT} {te : TE}
    {Qe : List V → Hp → Prop} {E : Value → Shared → Prop} {RR : Value → Addr → Result → Shared → Prop}
    (hc : X.calm = true) (I : Inv X pins σ H s) (O : CmpOk X.N X.env.scope N' scope sub) (T : Turn X.prog X.w X.K target J fp it tn) (st : tn 0 s.heap) (hf : ∀ b ∈ fp, FpOk X pins H b)
    (B : ∀ C s H fp, PG (qB6 X scope N' C s H fp) target g ∧ PTs (qB6 X scope N' C s H fp) ifs tt ∧ PE (qB6 X scope N' C s H fp) elt te)
    (rd : qDl J (subσ sub σ) g tt te Qe H)
    (hRR : ∀ (acc C : Addr) (ys : List V) (H' : Hp) (s' : Shared), Inv X pins σ (upd H' acc (.lst ys)) s' → FpOk X pins (upd H' acc (.lst ys)) C → (∃ m, s'.heap.Ns C m) → H' acc = none → Qe ys H' → RR (.ref acc) C (.ok .next) s') :
    wpAny (model X.prog X.w) X.A (newList []) (fun acc s₃ => wpAny (model X.prog X.w) X.A (newFunctionEnv scope X.env.globals (qCj X.env.cells scope.names []) [] X.env.qual none .none (some X.env)) (fun cenv s₄ =>
      codeAny (model X.prog X.w) X.A (.compStart (.ListComp elt [⟨target, iter, ifs, 0⟩] scope pos) 0 (.ref it) acc { cenv with scope := relabel scope X.env }) (RR acc cenv.locals) s₄) E s₃) E s := by
  refine wpAny_newObj_type (qD4 ?_)
  have hfl : ∀ b ∈ fp, b < s.heap.objs.size := fun b hb => by
    obtain ⟨o, e, _⟩ := T.obj _ _ st b hb
    exact Heap.lt_size e
  have I0 := inv_comp (sub := sub) I O hf hfl
  have sz3 : (s.heap.push { cls := .type "list", data := .seq #[] }).objs.size = s.heap.objs.size + 1 := Heap.size_push ..
  dsimp only
  show codeAny _ _ (.compStart _ 0 (.ref it) (.ref s.heap.objs.size) { scope := relabel scope X.env, locals := (s.heap.push { cls := .type "list", data := .seq #[] }).objs.size, globals := X.env.globals, cells := cellsFrom ((s.heap.push { cls := .type "list", data := .seq #[] }).objs.size + 1) scope.names (qCj X.env.cells scope.names []), qual := X.env.qual, func := none, code := X.env.code, frame := X.env.frame, builtins := X.env.builtins })
    (RR (.ref s.heap.objs.size) (s.heap.push { cls := .type "list", data := .seq #[] }).objs.size) { s with heap := pushCells ((s.heap.push { cls := .type "list", data := .seq #[] }).push { cls := .type "dict", data := .dict #[] }) scope.names }
  rw [sz3]
  show codeAny _ _ (.compStart _ 0 (.ref it) (.ref s.heap.objs.size) (qB1 X.env scope (s.heap.objs.size + 1))) (RR (.ref s.heap.objs.size) (s.heap.objs.size + 1)) _
  generalize hs0 : ({ s with heap := pushCells ((s.heap.push { cls := .type "list", data := .seq #[] }).push { cls := .type "dict", data := .dict #[] }) scope.names } : Shared) = s0 at I0 ⊢
  have hk0 : ∀ b o, s.heap.get? b = some o → s0.heap.get? b = some o := fun b o e => by
    rw [← hs0]
    exact pushCells_keeps _ _ b o (Heap.get?_push_of_some _ (Heap.get?_push_of_some _ e))
  have st0 : tn 0 s0.heap := T.keep _ _ _ st fun b hb o e => hk0 b o e
  clear hs0 sz3
  generalize hX : qB6 X scope N' (s.heap.objs.size + 1) s H fp = X' at I0
  have xp : X'.prog = X.prog := by rw [← hX]; rfl
  have xw : X'.w = X.w := by rw [← hX]; rfl
  have xK : X'.K = X.K := by rw [← hX]; rfl
  have xA : X'.A = X.A := by rw [← hX]; rfl
  have xc : X'.calm = true := by rw [← hX]; exact hc
  have xe : X'.env = qB1 X.env scope (s.heap.objs.size + 1) := by rw [← hX]; rfl
  have xx : X'.ex = fp := by rw [← hX]; rfl
  have xo : X'.outer = X.stack := by rw [← hX]; rfl
  have xf : X'.fs = frs X.stack := by rw [← hX]; rfl
  have xpn : X'.pn = [] := by rw [← hX]; rfl
  have x0 : X'.s₀ = s := by rw [← hX]; rfl
  have xh : X'.H₀ = H := by rw [← hX]; rfl
  have xxe : X'.xe = fun _ _ => False := by rw [← hX]; rfl
  obtain ⟨hg, ht, he⟩ := B (s.heap.objs.size + 1) s H fp
  rw [hX] at hg ht he
  clear hX
  have stat : ∀ {pl : List (Addr × Obj)} {H' : Hp}, (∀ p ∈ pl, p.1 = s.heap.objs.size) → (∀ b ∈ fp, H' b = none) → ∀ b ∈ fp, FpOk X' pl H' b := fun {pl H'} hp hn b hb => by
    obtain ⟨f0, f1, f2, f3, f4, f5⟩ := hf b hb
    refine ⟨hn b hb, (I0.ok.exf b (by rw [xx]; exact hb)).1, I0.ok.exfs b (by rw [xx]; exact hb), .inl (by rw [xx]; exact hb), (I0.ok.exf b (by rw [xx]; exact hb)).2, fun p hp' => ?_⟩
    rw [xpn, List.nil_append] at hp'
    rw [hp p hp']
    exact Nat.ne_of_gt (hfl b hb)
  obtain ⟨W, ⟨m0, w0⟩, turn⟩ := rd
  have loop : ∀ s3 : Shared, s3 = s0 → codeAny (model X.prog X.w) X.A (.compLoop (.ListComp elt [⟨target, iter, ifs, 0⟩] scope pos) 0 (.ref it) (.ref s.heap.objs.size) (qB1 X.env scope (s.heap.objs.size + 1))) (RR (.ref s.heap.objs.size) (s.heap.objs.size + 1)) s3 := by
    intro s3 e3
    refine compLoop_any (fun n s' => ∃ (i : Nat) (ys : List V) (H' : Hp) (its : List Value) (k : Nat), Inv X' [(s.heap.objs.size, { cls := .type "list", data := .seq its.toArray k })] (subσ sub σ) H' s' ∧ qBa ys its ∧ ys.length ≤ sizeLine ∧ tn i s'.heap ∧ (∀ b ∈ fp, H' b = none) ∧ W i n ys H') ?_ m0
      ⟨0, [], H, [], 0, by rw [e3]; exact I0, .nil, Nat.zero_le _, by rw [e3]; exact st0, fun b hb => (hf b hb).1, w0⟩
    rintro n s4 ⟨i, ys, H4, its, k, I4, rv, hz, st4, fr4, w4⟩
    have pe : ∀ p ∈ ([(s.heap.objs.size, ({ cls := .type "list", data := .seq its.toArray k } : Obj))] : List (Addr × Obj)), p.1 = s.heap.objs.size := fun p hp => by
      rw [List.mem_singleton] at hp
      rw [hp]
    rcases turn i n ys H4 w4 with ⟨stop, q⟩ | ⟨go, step⟩
    · -- the end
      have td := T.done X' xp xw xK xc i _ s4 (subσ sub σ) H4 (fun _ _ => False) I4 (stat pe fr4) st4 stop
      rw [xA] at td
      refine thn td fun r s5 ⟨hr, I5⟩ => ?_
      subst hr
      have pa := I5.pin (s.heap.objs.size, { cls := .type "list", data := .seq its.toArray k }) (by rw [xpn]; simp)
      have nacc : H4 s.heap.objs.size = none := pa.2.1
      have nC : H4 (s.heap.objs.size + 1) = none := by have z := I5.free; rw [xe] at z; exact z
      have un : Un (frs X.stack) fp H H4 s.heap s5.heap := by have z := I5.base; rw [xf, xx, xh, x0] at z; exact z
      have un2 : Un (frs X.stack) fp H (upd H4 s.heap.objs.size (.lst ys)) s.heap s5.heap := by
        refine ⟨un.keep, un.slot, fun b o e n hx => ?_, un.there, fun b xs e => ?_, fun b o u e => ?_, fun b ps e => ?_⟩
        · rw [qAr (Nat.ne_of_lt (Heap.lt_size e))]
          exact un.free b o e n hx
        · have z := un.tups b xs e
          rw [qAr (qAp z nacc)]; exact z
        · have z := un.frzs b o u e
          rw [qAr (qAp z nacc)]; exact z
        · obtain ⟨more, z⟩ := un.tbls b ps e
          exact ⟨more, by rw [qAr (qAp z nacc)]; exact z⟩
      have hok5 : HOk X.prog X.w H4 s5.heap := by have z := I5.hok; rw [xp, xw] at z; exact z
      have hok2 : HOk X.prog X.w (upd H4 s.heap.objs.size (.lst ys)) s5.heap := fun b u e => by
        by_cases hb : b = s.heap.objs.size
        · subst hb
          rw [upd_same] at e
          cases e
          exact ⟨hz, its, k, rv, pa.1⟩
        · rw [qAr hb] at e
          exact (hok5 b u e).stay (fun _ _ _ q => q) (fun c q => by rw [qAr (qAp q nacc)]; exact q) fun c xs q => by rw [qAr (qAp q nacc)]; exact q
      have os5 : s5.os = s.os := by have z := I5.os; rw [x0] at z; exact z
      have J5 : Inv X pins σ (upd H4 s.heap.objs.size (.lst ys)) s5 := I.call' os5 un2 hok2 I5.bare fun b hb => by
        obtain ⟨f0, f1, f2, f3, f4, f5⟩ := hf b hb
        exact ⟨f3, f1, f4, f5⟩
      refine hRR _ _ ys H4 s5 J5 (I.fpOk (Nat.le_succ _) ?_) ?_ nacc q
      · rw [qAr (Nat.succ_ne_self _)]; exact nC
      · obtain ⟨m, hn, _⟩ := I5.loc
        rw [xe] at hn
        exact ⟨m, hn⟩
    · -- one turn
      have ti := T.item X' xp xw xK xc i _ s4 (subσ sub σ) H4 (fun _ _ => False) I4 (stat pe fr4) st4 go
      rw [xA] at ti
      refine thn ti fun r s5 ⟨u, hr, h5⟩ => ?_
      subst hr
      refine thn h5 fun _ s6 ⟨x, H6, I6, r6, y6, st6, fr6⟩ => ?_
      have I6' := I6.pinned (stat pe fr6) (T.obj _ _ st6)
      have tg := hg _ s6 (subσ sub σ) H6 x u _ I6' r6 (step x H6 y6)
      rw [xp, xw, xA, xe, xxe] at tg
      refine thn tg fun _ s7 ⟨σ7, H7, I7, le7, q7⟩ => ?_
      have tts := ht _ s7 σ7 H7 _ I7 q7
      rw [xp, xw, xA, xe, xxe] at tts
      refine thn tts fun b s8 ⟨H8, I8, q8⟩ => ?_
      cases b with
      | false =>
        rw [if_neg Bool.false_ne_true] at q8 ⊢
        obtain ⟨m', hm', w8⟩ := q8
        have I9 : Inv X' ([(s.heap.objs.size, { cls := .type "list", data := .seq its.toArray k })] ++ pinsAt fp s6.heap) (subσ sub σ) H8 s8 := I8.weak le7.1.symm le7.2
        refine ⟨m', hm', i + 1, ys, H8, its, k, I9.unpinned, rv, hz, T.keep _ _ _ st6 fun b hb o e => (I9.pin (b, o) (List.mem_append_right _ (List.mem_append_right _ (qBw hb e)))).1, fun b hb => ?_, w8⟩
        obtain ⟨o, e, d⟩ := T.obj _ _ st6 b hb
        exact (I9.pin (b, o) (List.mem_append_right _ (List.mem_append_right _ (qBw hb e)))).2.1
      | true =>
        rw [if_pos rfl] at q8 ⊢
        have tee := he _ s8 σ7 H8 _ I8 q8
        rw [xp, xw, xA, xe, xxe] at tee
        refine thn tee fun vv s9 ⟨v, H9, I9, r9, lz, m', hm', w9⟩ => ?_
        have I10 : Inv X' ([(s.heap.objs.size, { cls := .type "list", data := .seq its.toArray k })] ++ pinsAt fp s6.heap) (subσ sub σ) H9 s9 := I9.weak le7.1.symm le7.2
        have pa := I10.pin (s.heap.objs.size, { cls := .type "list", data := .seq its.toArray k }) (by rw [xpn]; simp)
        have hlen := rv.length
        refine wpAny_list_append_plain (items := its.toArray) ⟨k, pa.1⟩ (fun h' pl sb => ?_) (by rw [List.size_toArray]; omega)
        obtain ⟨k', pl⟩ := pl
        have keepIt : ∀ b ∈ fp, ∀ o, s6.heap.get? b = some o → h'.get? b = some o := fun b hb o e => by
          have nb : b ≠ s.heap.objs.size := Nat.ne_of_lt (hfl b hb)
          exact (sb.2 b nb).trans (I10.pin (b, o) (List.mem_append_right _ (List.mem_append_right _ (qBw hb e)))).1
        have I11 : Inv X' [] (subσ sub σ) H9 s9 := I10.pins_of fun p hp => absurd hp (by simp)
        have sacc : s.heap.objs.size ≠ X'.env.locals := pa.2.2.1
        have I12 : Inv X' [] (subσ sub σ) H9 { s9 with heap := h' } := I11.turned (t' := s9.toks) (it := s.heap.objs.size) (fun b o hb e => (sb.2 b hb).trans e) pa.2.1 sacc (.inr (by rw [x0]; exact Nat.le_refl _))
          (fun y c hy z => by
            obtain ⟨w', o', ho', hd'⟩ := I10.cell y c hy
            rw [z, pa.1] at ho'
            have z2 := Option.some.inj ho'
            rw [← z2] at hd'
            cases hd') (fun p hp => absurd hp (by rw [xpn]; simp))
        refine ⟨m', hm', i + 1, ys ++ [v], H9, its ++ [vv], k', I12.pins_of (fun p hp => ?_), rv.append (.cons r9 .nil), by rw [List.length_append, List.length_singleton]; omega, T.keep _ _ _ st6 keepIt, fun b hb => ?_, w9⟩
        · rw [List.mem_singleton] at hp
          subst hp
          refine ⟨?_, pa.2.1, sacc, pa.2.2.2.1, fun v z => by cases z⟩
          show h'.get? s.heap.objs.size = _
          rw [pl]
          simp
        · obtain ⟨o, e, d⟩ := T.obj _ _ st6 b hb
          exact (I10.pin (b, o) (List.mem_append_right _ (List.mem_append_right _ (qBw hb e)))).2.1
  exact codeAny_compStart_list (loop _ rfl) (T.self _ 0 _ _ _ st0 (loop _ rfl))
end
end L2
namespace L2
open PySem PySem.Spec PyProof.Rows
def tComp (sub : List (Option Nat)) (wi : TI) (g : TG) (tt : TT) (te : TE) : TE := fun σ H Q => wi σ H fun J H1 =>
  qDl J (subσ sub σ) g tt te (fun ys H' => ∀ r, H' r = none → Q (.ref r) (upd H' r (.lst ys))) H1
section
variable {X : Cx} {target iter elt : Expr} {ifs : List Expr} {scope : Scope} {pos : Pos} {N' : List Str} {sub : List (Option Nat)} {wi : TI} {g : TG} {tt : TT} {te : TE}
theorem clos_of {pins : List (Addr × Obj)} {σ : St} {H : Hp} {s : Shared} (I : Inv X pins σ H s) (O : CmpOk X.N X.env.scope N' scope sub) : closureFor scope X.env = pure (qCj X.env.cells scope.names []) :=
  closureFor_eq fun x hx hf => I.ok.has x.1 (by rcases O.free x hx hf with z | z; exact .inl z; exact .inr z)
theorem names_of (O : CmpOk X.N X.env.scope N' scope sub) : ∀ y ∈ scope.names, y.2 = .local → scope.names.lookup y.1 = some .local := fun y hy e => by
  obtain ⟨n, k⟩ := y
  cases e
  exact qBo O.nd hy
theorem pe_comp (hc : X.calm = true) (O : CmpOk X.N X.env.scope N' scope sub) (hi : PI X target iter wi)
    (B : ∀ C s H fp, PG (qB6 X scope N' C s H fp) target g ∧ PTs (qB6 X scope N' C s H fp) ifs tt ∧ PE (qB6 X scope N' C s H fp) elt te)
    (hs : ∀ x, foldedSetIterable iter X.env x = pure x := by intro _; rfl) : PE X (.ListComp elt [⟨target, iter, ifs, 0⟩] scope pos) (tComp sub wi g tt te) := by
  intro pins s σ H Q I h
  rw [eval_ListComp]
  refine wpAny_comprehension_free (use := none) rfl hs (clos_of I O) O.kind (names_of O) (thn (hi pins s σ H _ I h) fun v s1 h1 => thn h1 fun itv s2 h2 => ?_)
  obtain ⟨it, fp, tn, J, H2, e, I2, T, st2, f2, rd⟩ := h2
  subst e
  refine comp_core (RR := fun acc C => compPost (model X.prog X.w) X.A X.xe none (EP X pins σ Q) acc C) hc I2 O T st2 f2 B rd fun acc C ys H' s' I' fC hn na q => ?_
  obtain ⟨m, hn⟩ := hn
  obtain ⟨f0, f1, f3, f4, f5, f6⟩ := fC
  refine ⟨m, hn, fun h' sb => ?_⟩
  exact ⟨.ref acc, upd H' acc (.lst ys), I'.turned (t' := s'.toks) (it := C) (fun b o hb e => (sb.2 b hb).trans e) f0 f1 f4 f5 f6, rfl, q acc na⟩
theorem ps_comp {i : Nat} {y : Str} {py spos : Pos} (hc : X.calm = true) (O : CmpOk X.N X.env.scope N' scope sub) (hi : PI X target iter wi)
    (B : ∀ C s H fp, PG (qB6 X scope N' C s H fp) target g ∧ PTs (qB6 X scope N' C s H fp) ifs tt ∧ PE (qB6 X scope N' C s H fp) elt te)
    (hN : X.N.Nodup) (hy : X.N[i]? = some y) (hx : Loc X.env.scope y)
    (hsw : swapsWith (.ListComp elt [⟨target, iter, ifs, 0⟩] scope pos) (some (.Name y py)) spos.line X.env = pure true)
    (hs : ∀ x, foldedSetIterable iter X.env x = pure x := by intro _; rfl) (hf : X.fn y = true ∨ X.env.scope.names.lookup y = some .local := by first | exact .inl rfl | exact .inr rfl | assumption) :
    PS X (.Assign [.Name y py] (.ListComp elt [⟨target, iter, ifs, 0⟩] scope pos) spos) (tAsg (tComp sub wi g tt te) (gName i)) := by
  intro pins s σ H D I h
  rw [exec_Assign_Name_used _ _ _ _ hsw]
  refine wpAny_bind (wpAny_standAt (wpAny_bind ?_))
  show wpAny _ _ (do let _ ← comprehension (.ListComp elt [⟨target, iter, ifs, 0⟩] scope pos) scope X.env _ (newList []) false (eval iter X.env) (some (assign (.Name y py) X.env))) _ _ s
  refine wpAny_bind (wpAny_mono (wpAny_comprehension_free (use := some (assign (.Name y py) X.env)) (Q := fun _ s' => SP X pins D .next s') rfl hs (clos_of I O) O.kind (names_of O)
    (thn (hi pins s σ H _ I h) fun v s1 h1 => thn h1 fun itv s2 h2 => ?_)) (fun _ s' hq => wpAny_pure (wpAny_pure hq)) fun _ _ e => e)
  obtain ⟨it, fp, tn, J, H2, e, I2, T, st2, f2, rd⟩ := h2
  subst e
  refine comp_core (RR := fun acc C => compPost (model X.prog X.w) X.A X.xe (some (assign (.Name y py) X.env)) (fun _ s' => SP X pins D .next s') acc C) hc I2 O T st2 f2 B rd fun acc C ys H' s' I' fC hn na q => ?_
  obtain ⟨m, hn⟩ := hn
  obtain ⟨f0, f1, f3, f4, f5, f6⟩ := fC
  show wpAny _ _ (assign (.Name y py) X.env (.ref acc)) _ _ s'
  refine wpAny_assign_Name (store_ok2 (v := .ref acc) I' hN hy hx rfl (fun s'' I'' ⟨a, sb, ha⟩ => ?_) hf)
  have nCa : C ≠ a := by
    rcases ha with z | z
    · rw [z]; exact f1
    · exact fun e => f5 _ _ z e.symm
  refine ⟨m, hn.sameBut sb nCa, fun h' sb' => ?_⟩
  exact ⟨_, upd H' acc (.lst ys), I''.turned (t' := s''.toks) (it := C) (fun b o hb e => (sb'.2 b hb).trans e) f0 f1 f4 f5 f6, q acc na⟩
end
section
variable {σ0 : St} {g : TG} {tt : TT} {te : TE} {Q : List V → Hp → Prop} {H1 : Hp}
def Nxt (n i : Nat) (Pv : Nat → List V → Hp → Prop) (ys : List V) (H : Hp) : Prop := ∃ m', m' < n - i ∧ m' = n - (i + 1) ∧ i + 1 ≤ n ∧ Pv (i + 1) ys H
theorem nxt {n i : Nat} {Pv : Nat → List V → Hp → Prop} {ys : List V} {H : Hp} (hi : i < n) (h : Pv (i + 1) ys H) : Nxt n i Pv ys H := ⟨_, by omega, rfl, hi, h⟩
theorem qAq {K : PySem.W.Frag} {a : Addr} {xs : List V} (Pv : Nat → List V → Hp → Prop) (h0 : Pv 0 [] H1) (hl : ∀ i ys H, i ≤ xs.length → Pv i ys H → SqL K H a xs)
    (hs : ∀ i x ys H, xs[i]? = some x → Pv i ys H → g x σ0 H fun σ2 H2 => Sle σ0 σ2 ∧ tt σ2 H2 fun b H3 => if b = true then te σ2 H3 (fun v H4 => ys.length < sizeLine ∧ Nxt xs.length i Pv (ys ++ [v]) H4) else Nxt xs.length i Pv ys H3)
    (hd : ∀ ys H, Pv xs.length ys H → Q ys H) : qDl (Itl K a) σ0 g tt te Q H1 := by
  refine ⟨fun i m ys H => m = xs.length - i ∧ i ≤ xs.length ∧ Pv i ys H, ⟨xs.length, by simp, Nat.zero_le _, h0⟩, ?_⟩
  rintro i m ys H ⟨rfl, hi, p⟩
  have q := hl i ys H hi p
  by_cases hlt : i < xs.length
  · refine .inr ⟨⟨xs, xs[i], q, by simp [hlt]⟩, fun x H' y => ?_⟩
    obtain ⟨e, y⟩ := y
    subst e
    exact hs i x ys _ (y xs q) p
  · have e : i = xs.length := by omega
    subst e
    exact .inl ⟨⟨xs, q, Nat.le_refl _⟩, hd ys H p⟩
theorem qFc {lo : Int} {n : Nat} (Pv : Nat → List V → Hp → Prop) (h0 : Pv 0 [] H1)
    (hs : ∀ i ys H, i < n → Pv i ys H → g (.int (lo + i)) σ0 H fun σ2 H2 => Sle σ0 σ2 ∧ tt σ2 H2 fun b H3 => if b = true then te σ2 H3 (fun v H4 => ys.length < sizeLine ∧ Nxt n i Pv (ys ++ [v]) H4) else Nxt n i Pv ys H3)
    (hd : ∀ ys H, Pv n ys H → Q ys H) : qDl (Itr lo n) σ0 g tt te Q H1 := by
  refine ⟨fun i m ys H => m = n - i ∧ i ≤ n ∧ Pv i ys H, ⟨n, by simp, Nat.zero_le _, h0⟩, ?_⟩
  rintro i m ys H ⟨rfl, hi, p⟩
  by_cases hlt : i < n
  · refine .inr ⟨hlt, fun x H' y => ?_⟩
    obtain ⟨e, y⟩ := y
    subst e y
    exact hs i ys _ hlt p
  · have e : i = n := by omega
    subst e
    exact .inl ⟨Nat.le_refl _, hd ys H p⟩
end
end L2
namespace L2
open PySem PySem.Spec PyProof.Rows PySem.SeqAt
mutual
inductive DR (K : PySem.W.Frag) (H : Hp) : V → PyData → Prop
  | non : DR K H .non .none
  | bl (b : Bool) : DR K H (.bl b) (.bool b)
  | int (i : Int) : DR K H (.int i) (.int i)
  | str (x : Str) : DR K H (.str x) (.str x)
  | lst {a : Addr} {xs : List V} {ds : List PyData} : SqL K H a xs → DRs K H xs ds → DR K H (.ref a) (.list ds)
  | tup {a : Addr} {xs : List V} {ds : List PyData} : SqT K H a xs → DRs K H xs ds → DR K H (.ref a) (.tuple ds)
inductive DRs (K : PySem.W.Frag) (H : Hp) : List V → List PyData → Prop
  | nil : DRs K H [] []
  | cons {v : V} {d : PyData} {vs : List V} {ds : List PyData} : DR K H v d → DRs K H vs ds → DRs K H (v :: vs) (d :: ds)
end
section
variable {X : Cx} {pins : List (Addr × Obj)} {σ : St} {H : Hp} {s : Shared}
mutual
theorem DR.reads (I : Inv X pins σ H s) : ∀ {v : V} {d : PyData} {u : Value}, DR X.K H v d → qCn v u → ∃ as, Reads s.heap u d as
  | _, _, _, .non, r => by cases r; exact ⟨_, .none⟩
  | _, _, _, .bl b, r => by cases r; exact ⟨_, .bool b⟩
  | _, _, _, .int i, r => by obtain ⟨t, rfl⟩ := r; exact ⟨_, .int i t⟩
  | _, _, _, .str x, r => by obtain ⟨t, rfl⟩ := r; exact ⟨_, .str x t⟩
  | _, _, _, .lst hq hd, r => by
    cases r
    obtain ⟨its, rv, ⟨o, n, e, c, _, dt⟩, _⟩ := I.list hq
    obtain ⟨as, ra⟩ := DRs.reads I hd rv
    exact ⟨_, .list e c dt ra⟩
  | _, _, _, .tup hq hd, r => by
    cases r
    obtain ⟨its, rv, ⟨o, e, c, n, dt⟩, _⟩ := I.tuple hq
    obtain ⟨as, ra⟩ := DRs.reads I hd rv
    exact ⟨_, .tuple e c dt ra⟩
theorem DRs.reads (I : Inv X pins σ H s) : ∀ {vs : List V} {ds : List PyData} {us : List Value}, DRs X.K H vs ds → qBa vs us → ∃ as, ReadsAll s.heap us ds as
  | _, _, _, .nil, r => by cases r; exact ⟨_, .nil⟩
  | _, _, _, .cons h t, r => by
    cases r with
    | cons r rr =>
      obtain ⟨a1, q1⟩ := DR.reads I h r
      obtain ⟨a2, q2⟩ := DRs.reads I t rr
      exact ⟨_, .cons q1 q2⟩
end
end
def rEqD (K : PySem.W.Frag) (neg : Bool) : R2 := fun x y H Q => ∃ dx dy, DR K H x dx ∧ DR K H y dy ∧ shaped dx = true ∧ shaped dy = true ∧ Q (.bl (if neg then !PyData.eqv dx dy else PyData.eqv dx dy)) H
section
variable {X : Cx}
theorem op_eqD (hu : X.A.units + 64 < cLine) : OpR X (compareOp .Eq) (rEqD X.K false) := by
  intro pins s σ H x y v u Q I rx ry h
  obtain ⟨dx, dy, hx, hy, sx, sy, q⟩ := h
  obtain ⟨a1, r1⟩ := DR.reads I hx rx
  obtain ⟨a2, r2⟩ := DR.reads I hy ry
  exact eq_dataH r1 r2 sx sy hu ⟨.bl (PyData.eqv dx dy), H, I, rfl, q⟩
theorem qCv {ss : List Str} : ∀ {us : List Value}, qBa (ss.map V.str) us → StrsAre us ss := by
  induction ss with
  | nil => intro us r; cases r; exact .nil
  | cons a l ih =>
    intro us r
    cases r with
    | cons r rr =>
      obtain ⟨t, rfl⟩ := r
      exact .cons a t (ih rr)
theorem qGf {ss : List Str} : ∀ {us : List Value}, StrsAre us ss → qBa (ss.map V.str) us := by
  induction ss with
  | nil => intro us r; cases r; exact .nil
  | cons a l ih =>
    intro us r
    cases r with
    | cons _ _ r => exact .cons ⟨_, rfl⟩ (ih r)
theorem qE3 : qCr X (.builtin "sorted") (fun xs H Q => ∃ p ss, xs = [.ref p] ∧ SqL X.K H p (ss.map V.str) ∧ ss.length < 64 ∧ ∀ r ss', H r = none → ss'.Perm ss → sortedS ss' = true → Q (.ref r) (upd H r (.lst (ss'.map V.str)))) := by
  intro pins s σ H xs us Q I r h
  obtain ⟨p, ss, rfl, hq, h64, q⟩ := h
  obtain ⟨u, rfl, rx⟩ := qDx r
  cases rx
  obtain ⟨its, rv, pl, hz⟩ := I.list hq
  have hl := rv.length
  rw [List.length_map] at hl
  refine sorted_strs pl.isList (qCv rv) (by omega) fun out ss' h1 h2 h3 => ?_
  obtain ⟨e, he⟩ := sortedAll_at s.heap its out
  have nz : H (s.heap.objs.size + 1) = none := I.hok.fresh (Nat.le_succ _)
  refine ⟨.ref (s.heap.objs.size + 1), _, I.laid (t' := s.toks) (a := s.heap.objs.size + 1) (o := .lst (ss'.map V.str)) (fun b o eb => sortedAll_old eb) (Nat.le_succ _) ?_, rfl, q _ ss' nz h2 h3⟩
  refine ⟨?_, out.toList, e, qGf h1, by simpa using he⟩
  rw [List.length_map, h2.length_eq]
  exact Nat.le_of_lt (qAf (by omega))
end
end L2
namespace L2
open PySem PySem.Spec PyProof.Rows
section
variable {X : Cx}
theorem sl_str : SlR X (fun x lo hi H Q => ∃ z : Str, x = .str z ∧ z.length ≤ sizeLine ∧ Q (.str (Txt.slice z lo hi)) H) := by
  intro pins s σ H x v vl vu lo hi sl Q I rx hs pl pu h
  obtain ⟨z, rfl, hz, q⟩ := h
  obtain ⟨t, rfl⟩ := rx
  refine ⟨"str", _, F.slot_str_getitem.lookup, typeIs_str _ _ _, ?_⟩
  obtain ⟨o, ho, hc, hd⟩ := hs
  have fin : ∀ t' k, EP X pins σ Q (.str (Txt.slice z lo hi) t') { s with toks := k } := fun t' k => ⟨.str (Txt.slice z lo hi), H, I.tok k, ⟨t', rfl⟩, q⟩
  cases pl with
  | none =>
    cases pu with
    | none => exact wpAny_getItem_str_slice (l := none) (u := none) (st := none) ⟨o, ho, hc, hd⟩ rfl (post_val_or_str ⟨Nat.le_trans (Txt.slice_le z _ _) hz, fin⟩)
    | int j uj => exact wpAny_getItem_str_slice (l := none) (u := some (j, uj)) (st := none) ⟨o, ho, hc, hd⟩ rfl (post_val_or_str ⟨Nat.le_trans (Txt.slice_le z _ _) hz, fin⟩)
  | int i ui =>
    cases pu with
    | none => exact wpAny_getItem_str_slice (l := some (i, ui)) (u := none) (st := none) ⟨o, ho, hc, hd⟩ rfl (post_val_or_str ⟨Nat.le_trans (Txt.slice_le z _ _) hz, fin⟩)
    | int j uj => exact wpAny_getItem_str_slice (l := some (i, ui)) (u := some (j, uj)) (st := none) ⟨o, ho, hc, hd⟩ rfl (post_val_or_str ⟨Nat.le_trans (Txt.slice_le z _ _) hz, fin⟩)
theorem qA3 : qCr X (.builtin "isinstance") (fun xs H Q => ∃ x t c b, xs = [x, .ty c] ∧ TyOf X.K H x t ∧ PySem.W.kitOne X.K t (.type c) = some b ∧ Q (.bl b) H) := by
  intro pins s σ H xs us Q I r h
  obtain ⟨x, t, c, b, rfl, ty, e, q⟩ := h
  obtain ⟨u, w', rfl, rx, rc⟩ := vals2 r
  cases (show w' = Value.type c from rc)
  exact isinst_ok I rx ty e fun tk => ⟨.bl b, H, I.tok tk, rfl, q⟩
end
end L2
namespace L2
open PySem PySem.Spec PyProof.Rows
section
variable {X : Cx}
theorem getD_all (bs : List Bool) (d : Bool) : (List.range bs.length).all (fun i => bs.getD i d) = bs.all id := by
  induction bs with
  | nil => rfl
  | cons b r ih =>
    rw [List.length_cons, List.range_succ_eq_map, List.all_cons, List.all_map, List.all_cons]
    have e : ((fun i => (b :: r).getD i d) ∘ Nat.succ) = fun i => r.getD i d := by
      funext i; simp
    rw [e, ih]
    simp
theorem truths {P : Program} {w : World} {A : Around} {bs : List Bool} {its : List Value} (rv : qBa (bs.map V.bl) its) (d : Bool) : TruthOf P w A (fun i v => its.toArray[i]? = some v) (fun i => bs.getD i d) := by
  intro i v s Q E hv hQ
  have hv' : its[i]? = some v := by simpa using hv
  have hi : i < its.length := (List.getElem?_eq_some_iff.mp hv').1
  have hl := rv.length
  rw [List.length_map] at hl
  have hb : (bs.map V.bl)[i]? = some (V.bl bs[i]) := by rw [List.getElem?_map, List.getElem?_eq_getElem (by omega)]; rfl
  obtain ⟨u, hu, ru⟩ := rv.get hb
  rw [hv'] at hu
  have e : v = Value.bool bs[i] := (Option.some.inj hu).trans ru
  rw [e]
  have e2 : bs.getD i d = bs[i] := by rw [List.getD_eq_getElem?_getD, List.getElem?_eq_getElem (by omega)]; rfl
  have hQ : Q (bs.getD i d) s := hQ
  rw [e2] at hQ
  exact wpAny_truthy_bool hQ
theorem qB2 (hc : X.calm = true) : qCr X (.builtin "all") (fun xs H Q => ∃ (p : Addr) (bs : List Bool), xs = [.ref p] ∧ SqL X.K H p (bs.map V.bl) ∧ Q (.bl (bs.all id)) H) := by
  intro pins s σ H xs us Q I r h
  obtain ⟨p, bs, rfl, hq, q⟩ := h
  obtain ⟨u, rfl, rx⟩ := qDx r
  cases rx
  obtain ⟨its, rv, pl, hz⟩ := I.list hq
  have hl := rv.length
  rw [List.length_map] at hl
  have hne : p ≠ s.heap.objs.size := by
    obtain ⟨o, n, e, _⟩ := pl
    exact Nat.ne_of_lt (Heap.lt_size e)
  have hh := I.ok.hd hc
  refine call_all_walk (wpAny_pyIter_list pl.isList ?_)
  refine ⟨s.heap.objs.size, _, _, _, _, _, fun i => bs.getD i true, rfl, Walks.list (by exact hh) _ p hne its.toArray, ⟨⟨_, Heap.get?_push_size _ rfl, rfl, rfl⟩, pl.isList.at fun o e => Heap.get?_push_of_some _ e⟩, truths rv true, fun h' tk hk => ?_⟩
  refine ⟨.bl (bs.all id), H, I.kept (t' := tk) fun b o e => hk b o ?_ (Heap.get?_push_of_some _ e), ?_, q⟩
  · intro z
    rw [List.mem_singleton] at z
    exact absurd (Heap.lt_size e) (by rw [z]; exact Nat.lt_irrefl _)
  · show Value.bool _ = Value.bool _
    rw [List.size_toArray, ← hl, getD_all]
def Itv (n : Nat) (xv : Nat → V) : It := ⟨fun i _ => i < n, fun i H x H' => H' = H ∧ x = xv i, fun i _ => n = i⟩
theorem turn_walk {P : Program} {w : World} {K : PySem.W.Frag} {tg : Expr} (it : Addr) (n : Nat) (xv : Nat → V) (Pv : Nat → Value → Prop) (St : Nat → Heap → Prop) (ty : String)
    (W : ∀ A : Around, A.handled = none → Walks P w A it [it] [it] n Pv St) (hv : ∀ i v, Pv i v → qCn (xv i) v)
    (ho : ∀ i h, St i h → ∃ o vs, h.get? it = some o ∧ o.cls = .type ty ∧ o.data = .fields vs)
    (hn : ["enumerate", "zip", "dict_itemiterator", "dict_reverseitemiterator", "odict_iterator", "itertools.zip_longest", "itertools.pairwise"].contains ty = false)
    (hself : ∀ (A : Around) (i : Nat) (s : Shared) (Q : Value → Shared → Prop) (E : Value → Shared → Prop), St i s.heap → Q (.ref it) s → wpAny (model P w) A (pyIter (.ref it)) Q E s) : Turn P w K tg (Itv n xv) [it] it St where
  mem := by simp
  obj := fun i h st b hb => by
    have e : b = it := by simpa using hb
    subst e
    obtain ⟨o, vs, e, c, d⟩ := ho i h st
    exact ⟨o, e, fun v z => by rw [d] at z; cases z⟩
  keep := fun i h h' st k => (W { handled := none } rfl).frame i h h' st k
  item := by
    intro X hP hw hK hc i pins s σ H E I hf st hg
    subst hP hw hK
    obtain ⟨f0, f1, f2, f3, f4, f5⟩ := hf it (by simp)
    refine (W X.A (I.ok.hd hc)).item i s _ _ hg st fun v h' tk pv st' kk => ?_
    have I1 : Inv X pins σ H { s with heap := h', toks := tk } := I.turned (fun b o hb e => kk b o (by simpa using hb) e) f0 f1 f3 f4 f5
    obtain ⟨o, vs, e, c, d⟩ := ho (i + 1) h' st'
    exact ⟨v, rfl, go_of (s := { s with heap := h', toks := tk }) e c d hn ⟨xv i, H, I1, hv i v pv, ⟨rfl, rfl⟩, st', fun b hb => (hf b hb).1⟩⟩
  done := by
    intro X hP hw hK hc i pins s σ H E I hf st hg
    subst hP hw hK
    obtain ⟨f0, f1, f2, f3, f4, f5⟩ := hf it (by simp)
    have hg' : n = i := hg
    subst hg'
    refine (W X.A (I.ok.hd hc)).done s _ _ st fun h' tk kk => ⟨rfl, ?_⟩
    exact I.turned (fun b o hb e => kk b o (by simpa using hb) e) f0 f1 f3 f4 f5
  self := hself
def sgnV (x : Str) (i : Nat) : V := .str ⟨#[x.cps.toList.getD i 0]⟩
def iStr (t : TE) : TI := fun σ H R => t σ H fun v H1 => ∃ x : Str, v = .str x ∧ R (Itv x.cps.size (sgnV x)) H1
theorem sgn_rel {x : Str} {i : Nat} {v : Value} (h : SignAt x i v) : qCn (sgnV x i) v := by
  obtain ⟨c, u, hc, rfl⟩ := h
  refine ⟨u, ?_⟩
  have : x.cps.toList.getD i 0 = c := by
    rw [List.getD_eq_getElem?_getD, Array.getElem?_toList, hc]; rfl
  rw [this]
theorem pi_str {e tg : Expr} {t : TE} (he : PE X e t) : PI X tg e (iStr t) := by
  intro pins s σ H R I h
  refine thn (he pins s σ H _ I h) fun v s1 ⟨y, H1, I1, r1, q1⟩ => ?_
  obtain ⟨x, rfl, q⟩ := q1
  obtain ⟨tk, rfl⟩ := r1
  have fin : ∀ (o : Obj) (ty : String), o = { cls := .type ty, data := .fields #[.str x tk, .int 0 0] } → (["enumerate", "zip", "dict_itemiterator", "dict_reverseitemiterator", "odict_iterator", "itertools.zip_longest", "itertools.pairwise"].contains ty = false) →
      (∀ A : Around, A.handled = none → Walks X.prog X.w A s1.heap.objs.size [s1.heap.objs.size] [s1.heap.objs.size] x.cps.size (SignAt x) (fun i h => h.IsStrIter s1.heap.objs.size ty x tk i)) →
      (∀ (A : Around) (i : Nat) (s : Shared) (Q : Value → Shared → Prop) (E : Value → Shared → Prop), s.heap.IsStrIter s1.heap.objs.size ty x tk i → Q (.ref s1.heap.objs.size) s → wpAny (model X.prog X.w) A (pyIter (.ref s1.heap.objs.size)) Q E s) →
      PIE X pins σ tg R (.ref s1.heap.objs.size) { s1 with heap := s1.heap.push o } := by
    intro o ty eo hn W self
    subst eo
    refine ⟨s1.heap.objs.size, [s1.heap.objs.size], _, _, H1, rfl, I1.kept (t' := s1.toks) fun b o e => Heap.get?_push_of_some _ e, turn_walk s1.heap.objs.size x.cps.size (sgnV x) _ _ ty W (fun i v => sgn_rel) (fun i h st => ?_) hn self, ⟨_, Heap.get?_push_size _ rfl, rfl, rfl⟩, fun b hb => ?_, q⟩
    · obtain ⟨o, h1, h2, h3⟩ := st
      exact ⟨o, _, h1, h2, h3⟩
    · have e : b = s1.heap.objs.size := by simpa using hb
      subst e
      exact I1.fpOk (Nat.le_refl _) (I1.hok.fresh (Nat.le_refl _))
  cases ha : x.cps.all (· < 128)
  · exact wpAny_pyIter_wide ha (fin _ "str_iterator" rfl (by decide) (fun A hA => Walks.strWide hA _ x tk) (fun A i s Q E st hQ => wpAny_pyIter_striter_wide st hQ))
  · exact wpAny_pyIter_ascii ha (fin _ "str_ascii_iterator" rfl (by decide) (fun A hA => Walks.strAscii hA _ x tk) (fun A i s Q E st hQ => wpAny_pyIter_striter_ascii st hQ))
theorem turns_val {σ0 : St} {g : TG} {tt : TT} {te : TE} {Q : List V → Hp → Prop} {H1 : Hp} {n : Nat} {xv : Nat → V} (Pv : Nat → List V → Hp → Prop) (h0 : Pv 0 [] H1)
    (hs : ∀ i ys H, i < n → Pv i ys H → g (xv i) σ0 H fun σ2 H2 => Sle σ0 σ2 ∧ tt σ2 H2 fun b H3 => if b = true then te σ2 H3 (fun v H4 => ys.length < sizeLine ∧ Nxt n i Pv (ys ++ [v]) H4) else Nxt n i Pv ys H3)
    (hd : ∀ ys H, Pv n ys H → Q ys H) : qDl (Itv n xv) σ0 g tt te Q H1 := by
  refine ⟨fun i m ys H => m = n - i ∧ i ≤ n ∧ Pv i ys H, ⟨n, by simp, Nat.zero_le _, h0⟩, ?_⟩
  rintro i m ys H ⟨rfl, hi, p⟩
  by_cases hlt : i < n
  · refine .inr ⟨hlt, fun x H' y => ?_⟩
    obtain ⟨e, y⟩ := y
    subst e y
    exact hs i ys _ hlt p
  · have e : i = n := by omega
    subst e
    exact .inl ⟨rfl, hd ys H p⟩
end
end L2
namespace L2
open PySem PySem.Spec PyProof.Rows
theorem orstand_led (t : SetTable) (n : Nat) : (t.orStandIn n).led = t.led := by
  unfold SetTable.orStandIn
  split <;> rfl
theorem laynew_led (t : SetTable) (es : Array (Int × Value)) (h : Int) (x : Value) : (layNew t es h x).2.1.led = t.led := by
  unfold layNew
  split
  · exact orstand_led _ _
  · rfl
theorem relay_led (t : SetTable) (es : Array (Int × Value)) (k : Nat) : (relayAll t es k).2.1.led = t.led := by
  unfold relayAll
  split
  · rename_i u order e
    have eu : u.led = t.led := by
      unfold SetTable.relaid SetTable.laid at e
      cases hc : SetTable.layClean (SetTable.sizeAbove k - 1) (es.map (·.1)) with
      | none => rw [hc] at e; cases e
      | some o =>
        rw [hc] at e
        injection e with e
        injection e with e1 e2
        rw [← e1]
    dsimp only
    split
    · exact eu
    · rfl
  · rfl
theorem relay_plain (t : SetTable) (es : Array (Int × Value)) (k : Nat) (hp : t.plain = false) : (relayAll t es k).2.1.plain = false := by
  unfold relayAll
  split
  · rename_i u order e
    have eu : u.plain = t.plain := by
      unfold SetTable.relaid SetTable.laid at e
      cases hc : SetTable.layClean (SetTable.sizeAbove k - 1) (es.map (·.1)) with
      | none => rw [hc] at e; cases e
      | some o =>
        rw [hc] at e
        injection e with e
        injection e with e1 e2
        rw [← e1]
    dsimp only
    split
    · exact eu.trans hp
    · rfl
  · rfl
def qBk (P : Program) (w : World) (h : Heap) (a : Addr) (ss : List Str) : Prop :=
  ∃ (es : Array (Int × Value)) (ep : Nat) (t : SetTable), h.get? a = some { cls := .type "set", dict := none, data := .set es ep t, slots := #[] } ∧ ElemsOf (PySem.strKind P w) es.toList ∧
    StrsAre (es.toList.map (·.2)) ss ∧ es.size < scanBound ∧ t.fits es.size = true ∧ t.led = !w.params.followText "set-order" ∧ (es.size ≠ 0 → t.plain = false)
theorem strs_mem {x : Str} : ∀ {vs : List Value} {ss : List Str}, StrsAre vs ss → ((∃ v ∈ vs, Value.isStrOf x v = true) ↔ x ∈ ss)
  | _, _, .nil => by simp
  | _, _, .cons y t r => by
    have ih := strs_mem (x := x) r
    have hy : Value.isStrOf x (.str y t) = true ↔ x = y := by
      constructor
      · intro h
        obtain ⟨u, e⟩ := Value.isStrOf_shape h
        cases e; rfl
      · rintro rfl; simp [Value.isStrOf]
    constructor
    · rintro ⟨v, hv, hp⟩
      rcases List.mem_cons.mp hv with rfl | hv
      · rw [hy.mp hp]; exact List.mem_cons_self
      · exact List.mem_cons_of_mem _ (ih.mp ⟨v, hv, hp⟩)
    · intro h
      rcases List.mem_cons.mp h with h | h
      · exact ⟨_, List.mem_cons_self, hy.mpr h⟩
      · obtain ⟨v, hv, hp⟩ := ih.mpr h
        exact ⟨v, List.mem_cons_of_mem _ hv, hp⟩
theorem strs_perm {es es1 : List (Int × Value)} {ss : List Str} {k : Int} {x : Str} {t : Tok} (hS : StrsAre (es.map (·.2)) ss) (p : es1.Perm (es ++ [(k, .str x t)])) : ∃ ss1, StrsAre (es1.map (·.2)) ss1 ∧ ss1.Perm (ss ++ [x]) := by
  have hall : ∀ v, v ∈ es1.map (·.2) → ∃ y u, v = .str y u := by
    intro v hv
    obtain ⟨e, he, rfl⟩ := List.mem_map.mp hv
    rcases List.mem_append.mp (p.mem_iff.mp he) with z | z
    · exact hS.all _ (List.mem_map_of_mem z)
    · rw [List.mem_singleton] at z; subst z; exact ⟨x, t, rfl⟩
  refine ⟨_, strsAre_map _ hall, ?_⟩
  have q := (p.map (·.2)).map strOf
  rw [List.map_append, List.map_append, hS.strs] at q
  exact q
theorem qEp {es es1 : List (Int × Value)} {ss : List Str} (hS : StrsAre (es.map (·.2)) ss) (p : es1.Perm es) : ∃ ss1, StrsAre (es1.map (·.2)) ss1 ∧ ss1.Perm ss := by
  have hall : ∀ v, v ∈ es1.map (·.2) → ∃ y u, v = .str y u := by
    intro v hv
    obtain ⟨e, he, rfl⟩ := List.mem_map.mp hv
    exact hS.all _ (List.mem_map_of_mem (p.mem_iff.mp he))
  refine ⟨_, strsAre_map _ hall, ?_⟩
  have q := (p.map (·.2)).map strOf
  rw [hS.strs] at q
  exact q
section
variable {P : Program} {w : World} {A : Around} {E : Value → Shared → Prop} {s : Shared} {a : Addr} {ss : List Str}
theorem qF5 {es es' : Array (Int × Value)} {ep : Nat} {t t' : SetTable} (ho : s.heap.get? a = some { cls := .type "set", dict := none, data := .set es ep t, slots := #[] }) :
    (s.heap.update a (Obj.putSet es' t')).get? a = some { cls := .type "set", dict := none, data := .set es' (ep + 1) t', slots := #[] } := by
  have q := Heap.get?_update_self (Obj.putSet es' t') ho (by rw [putSet_of es' t' rfl]; rfl)
  rw [putSet_of es' t' rfl] at q
  exact q
theorem tset_tail {g : Bool → Sem Unit} (hg : ∀ (b : Bool) (s1 : Shared) (Q' : Unit → Shared → Prop), Q' () s1 → wpAny (model P w) A (g b) Q' E s1) {es es1 : Array (Int × Value)} {ep : Nat} {t t2 : SetTable} {ss1 : List Str}
    (ho : s.heap.get? a = some { cls := .type "set", dict := none, data := .set es ep t, slots := #[] }) (e1 : ElemsOf (PySem.strKind P w) es1.toList) (e2 : StrsAre (es1.toList.map (·.2)) ss1) (e3 : es1.size < scanBound) (e4 : t2.fits es1.size = true)
    (e5 : t2.led = !w.params.followText "set-order") (e6 : t2.plain = false) {wasD : Bool} {R : Option Bool → Shared → Prop} (h : ∀ h' ss', Heap.SameBut a s.heap h' → qBk P w h' a ss' → ss'.Perm ss1 → R (some true) { s with heap := h' }) :
    wpAny (model P w) A (do
        storeSet a es1 t2
        if (!wasD && t2.tooFull) = true then do
            g (relayAll t2 es1 (SetTable.grown es1.size)).2.2
            storeSet a (relayAll t2 es1 (SetTable.grown es1.size)).1 (relayAll t2 es1 (SetTable.grown es1.size)).2.1
            pure (some true)
          else pure (some true)) R E s := by
  refine wpAny_bind (wpAny_storeSet_of ho rfl ?_ (fits_of_scanBound e3))
  have o1 : (s.heap.update a (Obj.putSet es1 t2)).get? a = _ := qF5 (s := s) ho
  have b1 := Heap.SameBut.update s.heap a (Obj.putSet es1 t2)
  split
  · have p := relayAll_perm t2 es1 (SetTable.grown es1.size)
    have f := relayAll_fits t2 es1 (SetTable.grown es1.size)
    have l := relay_led t2 es1 (SetTable.grown es1.size)
    have pl := relay_plain t2 es1 (SetTable.grown es1.size) e6
    generalize relayAll t2 es1 (SetTable.grown es1.size) = Rl at p f l pl ⊢
    obtain ⟨es2, t3, gv⟩ := Rl
    dsimp only at p f l pl ⊢
    have z2 : es2.size = es1.size := by rw [← Array.length_toList, p.length_eq, Array.length_toList]
    obtain ⟨ss2, q1, q2⟩ := qEp e2 p
    refine wpAny_bind (hg _ _ _ (wpAny_bind (wpAny_storeSet_of o1 rfl ?_ (fits_of_scanBound (by rw [z2]; exact e3)))))
    have o2 : ((s.heap.update a (Obj.putSet es1 t2)).update a (Obj.putSet es2 t3)).get? a = _ := qF5 (s := { s with heap := s.heap.update a (Obj.putSet es1 t2) }) o1
    exact wpAny_pure (h _ ss2 (b1.trans (Heap.SameBut.update _ a _)) ⟨es2, _, t3, o2, e1.perm p, q1, by rw [z2]; exact e3, f, l.trans e5, fun _ => pl⟩ q2)
  · exact wpAny_pure (h _ ss1 b1 ⟨es1, _, t2, o1, e1, e2, e3, e4, e5, fun _ => e6⟩ (List.Perm.refl _))
theorem tset_add {x : Str} {tk : Tok} {Q : Bool → Shared → Prop} (hS : qBk P w s.heap a ss) (room : ss.length + 1 < scanBound)
    (h : ∀ h' ss', Heap.SameBut a s.heap h' → qBk P w h' a ss' → (if x ∈ ss then ss' = ss else ss'.Perm (ss ++ [x])) → Q (!decide (x ∈ ss)) { s with heap := h' }) :
    wpAny (model P w) A (setAddHashed a (.str x tk) ((PySem.strKind P w).hash x)) Q E s := by
  obtain ⟨es, ep, t, ho, e1, e2, e3, e4, e5, e6⟩ := hS
  have hk : (PySem.strKind P w).is x (.str x tk) = true := strKind_is P w x tk
  have hsc : Value.scannable (.str x tk) = true := rfl
  have hz : ss.length = es.size := by rw [← e2.strs, List.length_map, List.length_map, Array.length_toList]
  unfold setAddHashed setAddHashedIn
  refine wpAny_holding (wpAny_bind (wpAny_setState_of ho rfl e4 ?_))
  dsimp only
  rw [byScan_of hsc e3 e1, if_pos rfl]
  unfold setAddByScan
  refine wpAny_bind (wpAny_bind (wpAny_rule (wpAny_bind (wpAny_setScan_of hk ho rfl e4 e1 ?_))))
  cases hr : List.findIdx? (fun e => (PySem.strKind P w).is x e.2) es.toList with
  | some j =>
    dsimp only
    obtain ⟨hj, hp, _⟩ := List.findIdx?_eq_some_iff_getElem.mp hr
    have hm : x ∈ ss := (strs_mem e2).mp ⟨_, List.mem_map_of_mem (List.getElem_mem hj), hp⟩
    have q := h s.heap ss (Heap.SameBut.refl a _) ⟨es, ep, t, ho, e1, e2, e3, e4, e5, e6⟩ (by rw [if_pos hm])
    rw [decide_eq_true hm] at q
    exact wpAny_pure (wpAny_pure q)
  | none =>
    dsimp only
    have hm : ¬ x ∈ ss := fun z => by
      obtain ⟨v, hv, hp⟩ := (strs_mem e2).mpr z
      obtain ⟨e, he, rfl⟩ := List.mem_map.mp hv
      have q := List.findIdx?_eq_none_iff.mp hr e he
      rw [show (PySem.strKind P w).is x e.2 = true from hp] at q
      cases q
    have gw : ∀ (b : Bool) (s1 : Shared) (Q' : Unit → Shared → Prop), Q' () s1 → wpAny (model P w) A (match b with | true => rule "set.scan.the-table-gave-way" | false => pure ()) Q' E s1 := fun b s1 Q' hq => by
      cases b
      · exact wpAny_pure hq
      · exact wpAny_rule hq
    have p := layNew_perm t es ((PySem.strKind P w).hash x) (.str x tk)
    have f := layNew_fits t es ((PySem.strKind P w).hash x) (.str x tk)
    have l := laynew_led t es ((PySem.strKind P w).hash x) (.str x tk)
    generalize layNew t es ((PySem.strKind P w).hash x) (.str x tk) = L at p f l ⊢
    obtain ⟨es1, t1, wasD, gv⟩ := L
    dsimp only at p f l ⊢
    rw [Array.toList_push] at p
    have d1 : ElemsOf (PySem.strKind P w) es1.toList := (e1.push hk hsc).perm p
    obtain ⟨ss1, d2, d3⟩ := strs_perm e2 p
    have z1 : es1.size = es.size + 1 := by rw [← Array.length_toList, p.length_eq, List.length_append, Array.length_toList]; rfl
    have d4 : es1.size < scanBound := by rw [z1, ← hz]; exact room
    have fin : ∀ h' ss', Heap.SameBut a s.heap h' → qBk P w h' a ss' → ss'.Perm ss1 → Q true { s with heap := h' } := fun h' ss' b1 b2 b3 => by
      have q := h h' ss' b1 b2 (by rw [if_neg hm]; exact b3.trans d3)
      rw [decide_eq_false hm] at q
      exact q
    refine wpAny_bind (gw _ _ _ ?_)
    split
    · rename_i hpl
      refine wpAny_bind ?_
      rw [hashByValue_scannable 8 hsc]
      refine wpAny_pure ?_
      refine tset_tail gw ho d1 d2 d4 (SetTable.fits_plain_off f) (l.trans e5) rfl fun h' ss' b1 b2 b3 => ?_
      exact wpAny_pure (fin h' ss' b1 b2 b3)
    · rename_i hpl
      refine wpAny_bind (wpAny_pure ?_)
      rw [if_pos rfl]
      refine tset_tail gw ho d1 d2 d4 f (l.trans e5) (by simpa using hpl) fun h' ss' b1 b2 b3 => ?_
      exact wpAny_pure (fin h' ss' b1 b2 b3)
end
end L2
namespace L2
open PySem PySem.Spec PyProof.Rows
theorem qBk.at {P : Program} {w : World} {h h' : Heap} {a : Addr} {ss : List Str} (x : qBk P w h a ss) (k : ∀ o, h.get? a = some o → h'.get? a = some o) : qBk P w h' a ss := by
  obtain ⟨es, ep, t, ho, r⟩ := x
  exact ⟨es, ep, t, k _ ho, r⟩
def Once (val : Nat → Str) (i : Nat) (ss : List Str) : Prop := ss.Nodup ∧ ss.length ≤ i ∧ ∀ x, x ∈ ss ↔ ∃ j, j < i ∧ val j = x
theorem Once.zero (val : Nat → Str) : Once val 0 [] := ⟨List.nodup_nil, Nat.le_refl _, fun x => by simp⟩
theorem Once.next {val : Nat → Str} {i : Nat} {ss ss' : List Str} (h : Once val i ss) (e : if val i ∈ ss then ss' = ss else ss'.Perm (ss ++ [val i])) : Once val (i + 1) ss' := by
  obtain ⟨h1, h2, h3⟩ := h
  by_cases hm : val i ∈ ss
  · rw [if_pos hm] at e
    subst e
    refine ⟨h1, by omega, fun x => (h3 x).trans ⟨fun ⟨j, a, b⟩ => ⟨j, by omega, b⟩, fun ⟨j, a, b⟩ => ?_⟩⟩
    by_cases hj : j < i
    · exact ⟨j, hj, b⟩
    · have : j = i := by omega
      subst this
      subst b
      exact (h3 _).mp hm
  · rw [if_neg hm] at e
    refine ⟨e.nodup_iff.mpr ?_, ?_, fun x => ?_⟩
    · rw [List.nodup_append]
      exact ⟨h1, by simp, fun y hy z hz => by rw [List.mem_singleton] at hz; subst hz; rintro rfl; exact hm hy⟩
    · rw [e.length_eq, List.length_append]
      simpa using h2
    · rw [e.mem_iff, List.mem_append, h3 x, List.mem_singleton]
      constructor
      · rintro (⟨j, a, b⟩ | rfl)
        · exact ⟨j, by omega, b⟩
        · exact ⟨i, by omega, rfl⟩
      · rintro ⟨j, a, b⟩
        by_cases hj : j < i
        · exact .inl ⟨j, hj, b⟩
        · have : j = i := by omega
          subst this
          exact .inr b.symm
section
variable {P : Program} {w : World} {A : Around} {R : Result → Shared → Prop} {I : Addr} {fp wr : List Addr} {G : Array GenState → Array GenState → Prop} {n : Nat} {Pv : Nat → Value → Prop} {St : Nat → Shared → Prop}
theorem tset_loop (W : WalksS P w A.in1 I fp wr G n Pv St) (S : Addr) (nS : S ∉ fp) (val : Nat → Str) (hv : ∀ i v, Pv i v → ∃ t, v = .str (val i) t) (nb : n + 1 < scanBound) : ∀ (k i : Nat) (s : Shared) (ss : List Str), n - i = k → i ≤ n → St i s → qBk P w s.heap S ss → Once val i ss →
    (∀ s' ss', Moved (S :: wr) G s s' → qBk P w s'.heap S ss' → Once val n ss' → R (.ok (.ret .none)) s') → codeAny (model P w) A (.builtin "set.update.loop" ⟨[.ref S, .ref I], []⟩) R s := by
  have nw : S ∉ wr := fun z => nS (W.sub _ z)
  have sub : ∀ b ∈ wr, b ∈ S :: wr := fun b z => List.mem_cons_of_mem _ z
  intro k
  induction k with
  | zero =>
    intro i s ss hk hi st hS ho r
    have e : i = n := by omega
    subst e
    refine codeAny_builtin PyProof.Rows.F.entry_set_update_loop ?_
    rw [Around.under_plainId PyProof.Rows.F.plain_set_update_loop _]
    show wpAny _ A.in1 (pyNext (.ref I) >>= _) _ _ _
    refine wpAny_bind (W.done s _ _ st fun s1 m1 => wpAny_pure (r s1 ss (m1.mono sub) (hS.at fun o z => m1.heap S o nw z) ho))
  | succ k ih =>
    intro i s ss hk hi st hS ho r
    have lt : i < n := by omega
    refine codeAny_builtin PyProof.Rows.F.entry_set_update_loop ?_
    rw [Around.under_plainId PyProof.Rows.F.plain_set_update_loop _]
    show wpAny _ A.in1 (pyNext (.ref I) >>= _) _ _ _
    refine wpAny_bind (W.item i s _ _ lt st fun v s1 pv st1 m1 => ?_)
    obtain ⟨t, rfl⟩ := hv i v pv
    have hS1 : qBk P w s1.heap S ss := hS.at fun o z => m1.heap S o nw z
    show wpAny _ A.in1 (holding [Value.str (val i) t] (setAdd S (.str (val i) t)) >>= _) _ _ s1
    refine wpAny_bind (wpAny_holding ?_)
    unfold setAdd
    refine wpAny_holding (wpAny_bind ((PySem.strKind P w).pyHash (strKind_is P w _ _) ?_))
    refine tset_add (s := { s1 with toks := s1.toks + 1 }) hS1 (by have := ho.2.1; omega) fun h2 ss2 sb2 hS2 q2 => ?_
    refine wpAny_pure ⟨plainId_quiet PyProof.Rows.F.plain_set_update_loop _, ih (i + 1) _ ss2 (by omega) lt (W.frame _ s1 _ _ st1 (Nat.le_succ _) fun b hb o e => ?_) hS2 (ho.next q2) fun s3 ss3 m3 hS3 o3 => ?_⟩
    · rw [sb2.2 b (fun z : b = S => nS (by rw [← z]; exact hb))]; exact e
    · refine r s3 ss3 (Moved.trans W.gtrans ((m1.mono sub).then_heap (Nat.le_succ _) fun b o hb e => ?_) m3) hS3 o3
      rw [sb2.2 b (fun z : b = S => hb (by rw [z]; exact List.mem_cons_self))]; exact e
end
section
variable {P : Program} {w : World} {A : Around} {E : Value → Shared → Prop} {s : Shared}
abbrev setO (w : World) : Obj := { cls := .type "set", dict := none, data := .set #[] 0 (.fresh 0 0 (!w.params.followText "set-order")), slots := #[] }
theorem setO_ok (P : Program) (w : World) {h : Heap} {a : Addr} (e : h.get? a = some (setO w)) : qBk P w h a [] := ⟨#[], 0, _, e, fun e he => by simp at he, .nil, by show 0 < scanBound; decide, by rfl, rfl, fun z => absurd rfl z⟩
theorem code_setT (v : Value) {Q1 : Value → Shared → Prop} (h : Q1 (.ref s.heap.objs.size) { s with heap := s.heap.push (setO w) }) : codeAny (model P w) A (.call (.builtin "set.__new__") ⟨[.type "set", v], []⟩) (wants Q1 E) s := by
  refine codeAny_of_tree ?_
  show wpAny _ A.in1 (do checkBuiltinCall "set.__new__" ⟨[.type "set", v], []⟩; again (.builtin "set.__new__" ⟨[.type "set", v], []⟩)) _ _ s
  refine wpAny_bind (wpAny_of_eq (PySem.F.newCall_set_1 v) (wpAny_pure ⟨plainId_quiet PySem.F.plain_set_new _, codeAny_builtin PySem.F.entry_set_new ?_⟩))
  rw [Around.under_plainId PySem.F.plain_set_new _]
  unfold Builtin.«set.__new__» Builtin.Frozenset.newClass
  have hsub := sub_set_self
  obtain ⟨hp, g, d, tk, os⟩ := s
  dsimp only
  wp_walk
  refine wpAny_askSetting (wpAny_pure ?_)
  dsimp only
  simp only [newObj]
  exact wpAny_bind (wpAny_alloc (wpAny_pure (wpAny_pure h)))
set_option maxHeartbeats 3200000 in
theorem call_setT {l : Addr} {items : Array Value} {ss0 : List Str} {Q : Value → Shared → Prop} (hh : A.handled = none) (hl : s.heap.IsList l items) (hi : StrsAre items.toList ss0) (hb : items.size + 1 < scanBound)
    (h : ∀ (h' : Heap) (tk : Nat) (ss : List Str), qBk P w h' s.heap.objs.size ss → Once (fun i => ss0.getD i default) items.size ss → (∀ b o, b < s.heap.objs.size → s.heap.get? b = some o → h'.get? b = some o) → Q (.ref s.heap.objs.size) { s with heap := h', toks := tk }) :
    wpAny (model P w) A (call (.type "set") [.ref l]) Q E s := by
  obtain ⟨c, tl, hmro⟩ := PySem.F.called_set.mro
  have hmade := PySem.F.called_set.made
  have hsub := PySem.F.called_set.sub
  refine wpAny_call (codeAny_of_tree ?_)
  show wpAny _ _ (callAny (.type "set") _) _ _ _
  refine wpAny_pure ⟨Code.quiet_builtin _ (by decide +kernel), codeAny_builtin PySem.F.entry_type_call ?_⟩
  rw [Around.under_plain (weight_type_call_type "set" [.ref l] []) rfl]
  have h1 := PySem.F.called_set.notType
  have h2 := PySem.F.called_set.canCreate
  have hct := PySem.F.typeCall_set_1 (.ref l)
  repeat (any_goals (first | assumption | wp_step))
  refine codeAny_mono (code_setT (.ref l) (E := E) (Q1 := fun obj s1 => obj = .ref s.heap.objs.size ∧ s1 = { s with heap := s.heap.push (setO w) }) ⟨rfl, rfl⟩) fun r s1 hr => ?_
  cases r with
  | error e => exact hr
  | ok fl =>
    cases fl with
    | ret obj =>
      obtain ⟨rfl, rfl⟩ := hr
      have hS : (s.heap.push (setO w)).get? s.heap.objs.size = some (setO w) := Heap.get?_push_size _ rfl
      have hT : Shared.TypeIs { s with heap := s.heap.push (setO w) } (.ref s.heap.objs.size) "set" := ⟨_, hS, rfl⟩
      have hli := PySem.F.called_set.init.lookup
      have hbi := PySem.F.called_set.init.bind (.ref s.heap.objs.size)
      repeat (any_goals (first | assumption | wp_step))
      refine codeAny_mono (codeAny_call_builtin (R := wants (fun r s2 => r = .none ∧ ∃ h' tk ss, s2 = { s with heap := h', toks := tk } ∧ qBk P w h' s.heap.objs.size ss ∧ Once (fun i => ss0.getD i default) items.size ss ∧
          (∀ b o, b < s.heap.objs.size → s.heap.get? b = some o → h'.get? b = some o)) E) PySem.F.called_set.init.plain PySem.F.entry_set_init (check_set_init_1 hT ?_)) fun r2 s2 hr2 => ?_
      · obtain ⟨ol, hol, hcl, nl, hdl⟩ := hl
        obtain ⟨ocls, odict, odata, oslots⟩ := ol
        simp only at hcl hdl
        subst hcl; subst hdl
        have hol' : (s.heap.push (setO w)).get? l = some { cls := .type "list", dict := odict, data := .seq items nl, slots := oslots } := Heap.get?_push_of_some _ hol
        have hsls := PySem.F.sub_list_set
        have hslf := PySem.F.sub_list_frozenset
        have hne : (Value.type "list" == Value.type "dict") = false := by decide
        have hl1 : (s.heap.push (setO w)).IsList l items := ⟨_, hol', rfl, nl, rfl⟩
        unfold Builtin.«set.__init__» noKeywords Builtin.Frozenset.updateFrom
        generalize hPI : pyIter = PI
        wp_walk
        subst hPI
        refine wpAny_pyIter_list hl1 (wpAny_bind (wpAny_runValue ?_))
        have lS : l < s.heap.objs.size := Heap.lt_size hol
        have h3 : A.in1.in1.in1.handled = none := by simp [hh]
        have nI : l ≠ (s.heap.push (setO w)).objs.size := by
          rw [Heap.size_push]; exact Nat.ne_of_lt (Nat.lt_succ_of_lt lS)
        have nF : s.heap.objs.size ∉ [(s.heap.push (setO w)).objs.size, l] := by
          rw [Heap.size_push]; simp only [List.mem_cons, List.mem_singleton, List.not_mem_nil, or_false, not_or]
          exact ⟨Nat.ne_of_lt (Nat.lt_succ_self _), Nat.ne_of_gt lS⟩
        have hval : ∀ (i : Nat) (v : Value), items[i]? = some v → ∃ t, v = .str ((fun i => ss0.getD i default) i) t := fun i v hv => by
          have hv' : items.toList[i]? = some v := by rw [Array.getElem?_toList]; exact hv
          obtain ⟨x, t, rfl⟩ := hi.all v (List.mem_of_getElem? hv')
          refine ⟨t, ?_⟩
          have e := congrArg (fun z => z[i]?) hi.strs
          simp only [List.getElem?_map, hv'] at e
          show Value.str x t = Value.str (ss0.getD i default) t
          rw [List.getD_eq_getElem?_getD, ← e]
          rfl
        refine tset_loop ((Walks.list h3 _ l nI items).toS) s.heap.objs.size nF (fun i => ss0.getD i default) hval hb (items.size - 0) 0 _ [] (by omega) (Nat.zero_le _) ⟨⟨_, Heap.get?_push_size _ rfl, rfl, rfl⟩, (hl1.push _)⟩ (setO_ok P w (Heap.get?_push_of_some _ hS)) (Once.zero _) fun s' ss' hm hS' hO => ?_
        obtain ⟨h', g', d', tk', os'⟩ := s'
        cases (show g' = s.gens from hm.gens)
        cases (show d' = s.drawn from hm.drawn)
        cases (show os' = s.os from hm.os)
        show wpAny _ _ _ _ _ _
        refine wpAny_pure ?_
        show wpAny _ _ (ret Value.none) _ _ _
        refine wpAny_pure ⟨rfl, h', tk', ss', rfl, hS', hO, fun b o hb e => ?_⟩
        have b1 : b ≠ s.heap.objs.size := Nat.ne_of_lt hb
        have b2 : b ≠ (s.heap.push (setO w)).objs.size := by
          rw [Heap.size_push]; exact Nat.ne_of_lt (Nat.lt_succ_of_lt hb)
        exact hm.heap b o (by simp only [List.mem_cons, List.mem_singleton, List.not_mem_nil, or_false, not_or]; exact ⟨b1, b2⟩) (Heap.get?_push_of_some _ (Heap.get?_push_of_some _ e))
      · cases r2 with
        | error e => exact hr2
        | ok fl2 =>
          cases fl2 with
          | ret r =>
            obtain ⟨rfl, h', tk, ss, rfl, hS', hO, hk'⟩ := hr2
            repeat (any_goals (first | assumption | wp_step))
            exact h _ _ _ hS' hO hk'
          | _ => exact hr2.elim
    | _ => exact hr.elim
end
end L2
namespace L2
open PySem PySem.Spec PyProof.Rows
namespace FS
theorem entry_set_iter' : entryFor table "set.__iter__" = some Builtin.«frozenset.__iter__» := entryFor_alias (id' := "frozenset.__iter__") (by kernel_rfl) rfl (by decide +kernel) (by kernel_rfl)
theorem slot_sin : Slot "set_iterator" "__next__" "set_iterator.__next__" := .of (owner := "set_iterator") (n := "__next__") (by rw [typeLookup_type, builtinLookup_eq_fast]; kernel_rfl) (by decide +kernel) (by decide +kernel) (by decide +kernel) (by first | exact .inl (by decide +kernel) | exact .inr (by decide +kernel)) (by rw [isSubtype_type]; kernel_rfl)
theorem entry_sin : entryFor table "set_iterator.__next__" = some Builtin.«set_iterator.__next__» := entryFor_of_tree (by kernel_rfl)
theorem owner_si : Manifest.owners.lookup (String.ofList ['r', 'o', 't', 'a', 'r', 'e', 't', 'i', '_', 't', 'e', 's'].reverse) = some Manifest.sig_set_iterator := by kernel_rfl
theorem args_sin (a : Value) : argsOk "set_iterator.__next__" ⟨[a], []⟩ := by
  unfold argsOk; rw [signature?_of (id := "set_iterator.__next__") (n := ['_', '_', 't', 'x', 'e', 'n', '_', '_']) (o := ['r', 'o', 't', 'a', 'r', 'e', 't', 'i', '_', 't', 'e', 's']) (by kernel_rfl) owner_si]; kernel_rfl
theorem slot_sii : Slot "set_iterator" "__iter__" "set_iterator.__iter__" := .of (owner := "set_iterator") (n := "__iter__") (by rw [typeLookup_type, builtinLookup_eq_fast]; kernel_rfl) (by decide +kernel) (by decide +kernel) (by decide +kernel) (by first | exact .inl (by decide +kernel) | exact .inr (by decide +kernel)) (by rw [isSubtype_type]; kernel_rfl)
theorem entry_sii : entryFor table "set_iterator.__iter__" = some Builtin.«dict_keyiterator.__iter__» := entryFor_alias (id' := "dict_keyiterator.__iter__") (by kernel_rfl) (by first | rfl | decide +kernel | (unfold String.splitOn; simp +decide [String.splitOnAux])) (by decide +kernel) (by kernel_rfl)
theorem args_sii (a : Value) : argsOk "set_iterator.__iter__" ⟨[a], []⟩ := by
  unfold argsOk; rw [signature?_of (id := "set_iterator.__iter__") (n := ['_', '_', 'r', 'e', 't', 'i', '_', '_']) (o := ['r', 'o', 't', 'a', 'r', 'e', 't', 'i', '_', 't', 'e', 's']) (by kernel_rfl) owner_si]; kernel_rfl
end FS
theorem qEv {α : Type} : ∀ (l : List α) (i : Nat) (x : α), l[i]? = some x → (x :: l.eraseIdx i).Perm l
  | [], i, x, h => by simp at h
  | y :: l, 0, x, h => by simp at h; subst h; exact List.Perm.refl _
  | y :: l, i + 1, x, h => by
    have q := qEv l i x (by simpa using h)
    rw [List.eraseIdx_cons_succ]
    exact (List.Perm.swap y x _).trans (q.cons y)
section
variable {M : Model} {A : Around} {E : Value → Shared → Prop} {s : Shared}
theorem wp_choose {src : Source} {n : Nat} {Q : Nat → Shared → Prop} (hn : n ≠ 0) (h : ∀ i d, i < n → Q i { s with drawn := d }) : wpAny M A (choose src n) Q E s := fun Γ p _ => ⟨hn, h _ _ (Nat.mod_lt _ (Nat.pos_of_ne_zero hn))⟩
theorem qEy {α : Type} : ∀ (n : Nat) (xs : List α) (s : Shared) (Q : List α → Shared → Prop), xs.length = n → (∀ ys d, ys.Perm xs → Q ys { s with drawn := d }) → wpAny M A (drawOrder n xs) Q E s
  | 0, xs, s, Q, hl, h => by
    have e : xs = [] := List.length_eq_zero_iff.mp hl
    subst e
    exact wpAny_pure (h [] s.drawn (List.Perm.refl _))
  | n + 1, [], s, Q, hl, h => by simp at hl
  | n + 1, y :: ys, s, Q, hl, h => by
    show wpAny M A (choose .order (y :: ys).length >>= _) Q E s
    refine wpAny_bind (wp_choose (by simp) fun i d hi => ?_)
    have e : (y :: ys)[i]? = some (y :: ys)[i] := List.getElem?_eq_getElem hi
    rw [e]
    dsimp only
    have p := qEv (y :: ys) i _ e
    refine wpAny_bind (qEy n ((y :: ys).eraseIdx i) _ _ ?_ fun zs d2 pz => wpAny_pure (h _ d2 ((pz.cons _).trans p)))
    have := p.length_eq
    simp only [List.length_cons] at this hl ⊢
    omega
end
theorem pick_go {α : Type} (next : Nat → Nat) : ∀ (n k : Nat) (left : List α) (out : Array α), left.length = n → (pickOrder.go next n k left out).toList.Perm (out.toList ++ left)
  | 0, k, left, out, hl => by
    have e : left = [] := List.length_eq_zero_iff.mp hl
    subst e
    rw [pickOrder.go, List.append_nil]
  | n + 1, k, left, out, hl => by
    rw [pickOrder.go]
    have hi : next k % left.length < left.length := Nat.mod_lt _ (by omega)
    have e : left[next k % left.length]? = some left[next k % left.length] := List.getElem?_eq_getElem hi
    rw [e]
    dsimp only
    have p := qEv left _ _ e
    have l := p.length_eq
    simp only [List.length_cons] at l
    refine (pick_go next n (k + 1) _ _ (by omega)).trans ?_
    rw [Array.toList_push, List.append_assoc]
    exact List.Perm.append_left _ p
theorem pick_perm {α : Type} (next : Nat → Nat) (xs : Array α) : (pickOrder next xs).toList.Perm xs.toList := by
  have q := pick_go next xs.size 0 xs.toList #[] (by simp)
  simpa [pickOrder] using q
section
variable {P : Program} {w : World} {A : Around} {E : Value → Shared → Prop} {s : Shared} {a : Addr} {es : Array (Int × Value)} {ep : Nat} {t : SetTable}
theorem wp_setDrawn {Q : Bool → Shared → Prop} (ho : s.heap.get? a = some { cls := .type "set", dict := none, data := .set es ep t, slots := #[] }) (hf : t.fits es.size = true) (h : Q (!w.params.followText "set-order" && (!t.plain && decide (es.size > 1))) s) : wpAny (model P w) A (setDrawn a) Q E s := by
  unfold setDrawn
  refine wpAny_bind (wpAny_setState_of ho rfl hf ?_)
  unfold setsByText
  exact wpAny_bind (wpAny_bind (wpAny_askSetting (wpAny_pure (wpAny_pure h))))
theorem wp_setNextT {slot i : Nat} {Q : Option (Value × Nat) → Shared → Prop} (ho : s.heap.get? a = some { cls := .type "set", dict := none, data := .set es ep t, slots := #[] }) (hf : t.fits es.size = true) (hb : w.params.followText "set-order" = true)
    (h : Q (((pickOrder (w.params.setOrder a ep) es)[i]?).map fun e => (e.2, slot)) s) : wpAny (model P w) A (setNext a slot i ep) Q E s := by
  unfold setNext
  refine wpAny_bind (wpAny_setState_of ho rfl hf ?_)
  unfold setsByText
  refine wpAny_bind (wpAny_bind (wpAny_askSetting (wpAny_pure ?_)))
  show wpAny _ _ (if (w.params.followText "set-order") = true then _ else _) _ _ _
  rw [if_pos hb]
  rw [if_neg (by simp)]
  unfold setWalk
  refine wpAny_bind (wpAny_bind (wpAny_setState_of ho rfl hf ?_))
  unfold setsByText
  refine wpAny_bind (wpAny_bind (wpAny_askSetting (wpAny_pure ?_)))
  show wpAny _ _ (if (w.params.followText "set-order") = true then _ else _) _ _ _
  rw [if_pos hb]
  exact wpAny_bind (wpAny_askSetting (wpAny_pure (wpAny_pure h)))
theorem wp_setNext1 {slot i : Nat} {Q : Option (Value × Nat) → Shared → Prop} (ho : s.heap.get? a = some { cls := .type "set", dict := none, data := .set es ep t, slots := #[] }) (hf : t.fits es.size = true) (hb : w.params.followText "set-order" = false) (h1 : es.size ≤ 1) (hl : t.led = true)
    (h : Q (match es[SetTable.below t.place slot]?, t.place[SetTable.below t.place slot]? with | some (_, x), some j => some (x, j + 1) | _, _ => none) s) : wpAny (model P w) A (setNext a slot i ep) Q E s := by
  unfold setNext
  refine wpAny_bind (wpAny_setState_of ho rfl hf ?_)
  unfold setsByText
  refine wpAny_bind (wpAny_bind (wpAny_askSetting (wpAny_pure ?_)))
  show wpAny _ _ (if (w.params.followText "set-order") = true then _ else _) _ _ _
  rw [if_neg (by rw [hb]; exact Bool.false_ne_true)]
  show wpAny _ _ (if (!t.plain && decide (es.size > 1)) = true then _ else _) _ _ _
  rw [if_neg (by rw [Bool.and_eq_true]; rintro ⟨_, z⟩; have := of_decide_eq_true z; omega)]
  refine wpAny_bind ?_
  show wpAny _ _ (if (!t.led && !es.isEmpty) = true then _ else _) _ _ _
  rw [if_neg (by rw [hl]; simp)]
  exact wpAny_pure (wpAny_pure h)
end
end L2
namespace L2
open PySem PySem.Spec PyProof.Rows
abbrev sIt (a : Addr) (f0 : Value) (i n ep : Nat) : Obj := { cls := .type "set_iterator", dict := none, data := .fields #[f0, rawInt i, .ref a, rawInt n, rawInt ep], slots := #[] }
abbrev sOb (es : Array (Int × Value)) (ep : Nat) (t : SetTable) : Obj := { cls := .type "set", dict := none, data := .set es ep t, slots := #[] }
section
variable {P : Program} {w : World} {A : Around} {E : Value → Shared → Prop} {s : Shared} {a I : Addr} {es : Array (Int × Value)} {ep : Nat} {t : SetTable}
theorem sit_stop {T : Obj} {Q : Fin → Shared → Prop} {f0 : Value} {i n : Nat} {pre : Sem Unit} (hh : A.handled = none) (hI : s.heap.get? I = some (sIt a f0 i n ep))
    (hp : ∀ {Q' : Unit → Shared → Prop}, (∀ h1, Heap.SameBut I s.heap h1 → (∃ g0, h1.get? I = some (sIt a g0 i n ep)) → Q' () { s with heap := h1 }) → wpAny (model P w) A pre Q' E s)
    (hE : ∀ h' e, Heap.ExtBut I s.heap h' → (∃ o, h'.get? e = some o ∧ o.cls = .type "StopIteration") → E (.ref e) { s with heap := h' }) :
    wpAny (model P w) A (do pre; setField (.ref I) 2 .none; raiseNew (← newExc (.type "StopIteration") [])) Q E s := by
  refine wpAny_bind (hp fun h1 b1 hg => ?_)
  obtain ⟨g0, hI1⟩ := hg
  refine wpAny_bind (wpAny_setField_rec hI1 (by simp) fun h2 hI2 b2 => ?_)
  show wpAny _ _ (newExc (.type "StopIteration") [] >>= fun e => raiseNew e) _ _ _
  refine wpAny_bind ?_
  simp only [newExc, newTuple]
  refine wpAny_bind (wpAny_newObj_type ?_ (by size_fits))
  refine wpAny_bind (m := firstArgMember _ _) (wpAny_of_eq (a := Value.none) (by first | rfl | (simp only [firstArgMember]; rfl)) ?_)
  refine wpAny_newObj_type ?_ (by size_fits)
  simp only [raiseNew]
  refine wpAny_bind (wpAny_handled ?_)
  rw [hh]
  exact wpAny_bind (wpAny_pure (wpAny_throw (hE _ _ (((b1.trans b2).extBut.push _).push _) ⟨_, Heap.get?_push_size _ rfl, rfl⟩)))
end
section
variable {P : Program} {w : World} {a I : Addr} {es : Array (Int × Value)} {ep : Nat} {t : SetTable}
theorem walk_setI (hne : a ≠ I) (hf : t.fits es.size = true) (order : List Value) (sl : Nat → Nat)
    (nx : ∀ (A : Around) (E : Value → Shared → Prop) (s : Shared) (Q : Option (Value × Nat) → Shared → Prop) (i : Nat), i ≤ order.length → s.heap.get? a = some (sOb es ep t) → Q ((order[i]?).map fun x => (x, sl (i + 1))) s → wpAny (model P w) A (setNext a (sl i) i ep) Q E s) :
    ∀ A : Around, A.handled = none → Walks P w A I [I, a] [I] order.length (fun i v => order[i]? = some v) (fun i h => h.get? I = some (sIt a (rawInt (sl i)) i es.size ep) ∧ h.get? a = some (sOb es ep t)) := fun A hh => {
  sub := fun b hb => by simp at hb ⊢; exact .inl hb
  frame := fun i h h' st k => ⟨k I (by simp) _ st.1, k a (by simp) _ st.2⟩
  item := fun i s Q E hi st hQ => by
    obtain ⟨hI, ho⟩ := st
    have hT : s.TypeIs (.ref I) "set_iterator" := ⟨_, hI, rfl⟩
    unfold pyNext
    refine wpAny_bind (wpAny_attempt (wpAny_callSpecial?_slot (name := Str.ofString "__next__") hT FS.slot_sin (wpAny_call_entry FS.slot_sin hT FS.entry_sin ?_ (FS.args_sin _))))
    unfold Builtin.«set_iterator.__next__»
    refine wpAny_bind (wpAny_pure (wpAny_bind (wpAny_fieldsOf hI rfl ?_)))
    show wpAny _ _ (setEntries a >>= _) _ _ _
    refine wpAny_bind (wpAny_setEntries_of ho rfl hf ?_)
    rw [if_neg (by simp)]
    show wpAny _ _ (setNext a (sl i) i ep >>= _) _ _ _
    refine wpAny_bind (nx _ _ s _ i (Nat.le_of_lt hi) ho ?_)
    rw [List.getElem?_eq_getElem hi]
    show wpAny _ _ (setField (.ref I) 0 (rawInt (sl (i + 1))) >>= _) _ _ _
    refine wpAny_bind (wpAny_setField_rec hI (by simp) fun h1 hI1 b1 => wpAny_bind (wpAny_setField_rec hI1 (by simp) fun h2 hI2 b2 => ?_))
    refine wpAny_pure ⟨_, rfl, wpAny_pure (hQ _ h2 s.toks (List.getElem?_eq_getElem hi) ⟨hI2, ?_⟩ fun b o hb e => ?_)⟩
    · exact b2.extBut _ _ hne (b1.extBut _ _ hne ho)
    · have nb : b ≠ I := by simpa using hb
      exact b2.extBut _ _ nb (b1.extBut _ _ nb e)
  done := fun s Q E st hQ => by
    obtain ⟨hI, ho⟩ := st
    have hT : s.TypeIs (.ref I) "set_iterator" := ⟨_, hI, rfl⟩
    unfold pyNext
    refine wpAny_bind (wpAny_attempt (wpAny_callSpecial?_slot (name := Str.ofString "__next__") hT FS.slot_sin (wpAny_call_entry FS.slot_sin hT FS.entry_sin ?_ (FS.args_sin _))))
    unfold Builtin.«set_iterator.__next__»
    refine wpAny_bind (wpAny_pure (wpAny_bind (wpAny_fieldsOf hI rfl ?_)))
    show wpAny _ _ (setEntries a >>= _) _ _ _
    refine wpAny_bind (wpAny_setEntries_of ho rfl hf ?_)
    rw [if_neg (by simp)]
    show wpAny _ _ (setNext a (sl order.length) order.length ep >>= _) _ _ _
    refine wpAny_bind (nx _ _ s _ order.length (Nat.le_refl _) ho ?_)
    rw [List.getElem?_eq_none (Nat.le_refl _)]
    refine sit_stop (pre := pure ()) (T := sOb es ep t) (by exact hh) hI (fun q => wpAny_pure (q _ (Heap.SameBut.refl ..) ⟨_, hI⟩)) fun h' e k he => ?_
    obtain ⟨oe, h1, h2⟩ := he
    refine wpAny_bind (wpAny_isInstance (T := "StopIteration") (b := true) ⟨oe, h1, h2⟩ isSubtype_stop (wpAny_pure (hQ _ s.toks fun b o hb e => k _ _ (by simpa using hb) e)))
  self := fun i s Q E st hQ => by
    have hT : s.TypeIs (.ref I) "set_iterator" := ⟨_, st.1, rfl⟩
    refine wpAny_pyIter_slot hT FS.slot_sii (wpAny_call_entry FS.slot_sii hT FS.entry_sii ?_ (FS.args_sii _))
    exact wpAny_pure ⟨_, rfl, "set_iterator", _, hT, FS.slot_sin.lookup, hQ⟩ }
end
end L2
namespace L2
open PySem PySem.Spec PyProof.Rows
abbrev tOb (xs : Array Value) : Obj := { cls := .type "tuple", data := .seq xs }
section
variable {P : Program} {w : World} {a I T : Addr} {es : Array (Int × Value)} {ep : Nat} {t : SetTable}
theorem walk_setD (hne : a ≠ I) (hT0 : T ≠ I) (hf : t.fits es.size = true) (ps : List Nat) (order : List Value) (hl : order.length = ps.length) (hp : ∀ (i p : Nat), ps[i]? = some p → ∃ k x, es[p]? = some (k, x) ∧ order[i]? = some x) :
    ∀ A : Around, A.handled = none → Walks P w A I [I, a, T] [I] order.length (fun i v => order[i]? = some v) (fun i h => h.get? I = some (sIt a (.ref T) i es.size ep) ∧ h.get? a = some (sOb es ep t) ∧ h.get? T = some (tOb (ps.map fun (p : Nat) => rawInt p).toArray)) := fun A hh => {
  sub := fun b hb => by simp at hb ⊢; exact .inl hb
  frame := fun i h h' st k => ⟨k I (by simp) _ st.1, k a (by simp) _ st.2.1, k T (by simp) _ st.2.2⟩
  item := fun i s Q E hi st hQ => by
    obtain ⟨hI, ho, hTt⟩ := st
    have hT : s.TypeIs (.ref I) "set_iterator" := ⟨_, hI, rfl⟩
    unfold pyNext
    refine wpAny_bind (wpAny_attempt (wpAny_callSpecial?_slot (name := Str.ofString "__next__") hT FS.slot_sin (wpAny_call_entry FS.slot_sin hT FS.entry_sin ?_ (FS.args_sin _))))
    unfold Builtin.«set_iterator.__next__»
    refine wpAny_bind (wpAny_pure (wpAny_bind (wpAny_fieldsOf hI rfl ?_)))
    show wpAny _ _ (setEntries a >>= _) _ _ _
    refine wpAny_bind (wpAny_setEntries_of ho rfl hf ?_)
    rw [if_neg (by simp)]
    show wpAny _ _ (seqItems? (.ref T) >>= _) _ _ _
    refine wpAny_bind (wpAny_seqItems hTt rfl ?_)
    have hip : i < ps.length := by rw [← hl]; exact hi
    obtain ⟨k, x, h1, h2⟩ := hp i _ (List.getElem?_eq_getElem hip)
    have e1 : ((ps.map fun (p : Nat) => rawInt p).toArray)[i]? = some (rawInt ((ps[i] : Nat) : Int)) := by simp [hip]
    show wpAny _ _ (match ((ps.map fun (p : Nat) => rawInt p).toArray)[((i : Int)).toNat]? with | some (.int place _) => _ | some _ => _ | none => _) _ _ _
    rw [Int.toNat_natCast, e1]
    show wpAny _ _ (setNextDrawn a ps[i] ep >>= _) _ _ _
    unfold setNextDrawn
    refine wpAny_bind (wpAny_bind (wpAny_setState_of ho rfl hf ?_))
    dsimp only
    rw [if_neg (by simp), h1]
    refine wpAny_pure (wpAny_bind (wpAny_setField_rec hI (by simp) fun h3 hI3 b3 => ?_))
    refine wpAny_pure ⟨_, rfl, wpAny_pure (hQ _ h3 s.toks h2 ⟨hI3, b3.extBut _ _ hne ho, b3.extBut _ _ hT0 hTt⟩ fun b o hb e => b3.extBut _ _ (by simpa using hb) e)⟩
  done := fun s Q E st hQ => by
    obtain ⟨hI, ho, hTt⟩ := st
    have hT : s.TypeIs (.ref I) "set_iterator" := ⟨_, hI, rfl⟩
    unfold pyNext
    refine wpAny_bind (wpAny_attempt (wpAny_callSpecial?_slot (name := Str.ofString "__next__") hT FS.slot_sin (wpAny_call_entry FS.slot_sin hT FS.entry_sin ?_ (FS.args_sin _))))
    unfold Builtin.«set_iterator.__next__»
    refine wpAny_bind (wpAny_pure (wpAny_bind (wpAny_fieldsOf hI rfl ?_)))
    show wpAny _ _ (setEntries a >>= _) _ _ _
    refine wpAny_bind (wpAny_setEntries_of ho rfl hf ?_)
    rw [if_neg (by simp)]
    show wpAny _ _ (seqItems? (.ref T) >>= _) _ _ _
    refine wpAny_bind (wpAny_seqItems hTt rfl ?_)
    have e1 : ((ps.map fun (p : Nat) => rawInt p).toArray)[order.length]? = none := by simp [hl]
    show wpAny _ _ (match ((ps.map fun (p : Nat) => rawInt p).toArray)[((order.length : Int)).toNat]? with | some (.int place _) => _ | some _ => _ | none => _) _ _ _
    rw [Int.toNat_natCast, e1]
    refine sit_stop (pre := setField (.ref I) 0 (rawInt 0)) (T := sOb es ep t) (by exact hh) hI (fun q => wpAny_setField_rec hI (by simp) fun h1 hI1 b1 => q _ b1 ⟨_, hI1⟩) fun h' e k he => ?_
    obtain ⟨oe, h1, h2⟩ := he
    refine wpAny_bind (wpAny_isInstance (T := "StopIteration") (b := true) ⟨oe, h1, h2⟩ isSubtype_stop (wpAny_pure (hQ _ s.toks fun b o hb e => k _ _ (by simpa using hb) e)))
  self := fun i s Q E st hQ => by
    have hT : s.TypeIs (.ref I) "set_iterator" := ⟨_, st.1, rfl⟩
    refine wpAny_pyIter_slot hT FS.slot_sii (wpAny_call_entry FS.slot_sii hT FS.entry_sii ?_ (FS.args_sii _))
    exact wpAny_pure ⟨_, rfl, "set_iterator", _, hT, FS.slot_sin.lookup, hQ⟩ }
end
theorem below_lt {p j : Nat} (h : j ≤ p) : SetTable.below #[p] j = 0 := by
  unfold SetTable.below
  show SetTable.below.go #[p] j 1 0 1 = 0
  unfold SetTable.below.go
  have e : ¬ (#[p] : Array Nat).getD ((0 + 1) / 2) j < j := by show ¬ p < j; omega
  rw [if_pos (by decide)]
  dsimp only
  rw [if_neg e]
  rfl
theorem below_ge {p j : Nat} (h : p < j) : SetTable.below #[p] j = 1 := by
  unfold SetTable.below
  show SetTable.below.go #[p] j 1 0 1 = 1
  unfold SetTable.below.go
  have e : (#[p] : Array Nat).getD ((0 + 1) / 2) j < j := by show p < j; omega
  rw [if_pos (by decide)]
  dsimp only
  rw [if_pos e]
  rfl
theorem below_nil (j : Nat) : SetTable.below #[] j = 0 := rfl
section
variable {P : Program} {w : World} {A : Around} {E : Value → Shared → Prop} {s : Shared} {a : Addr} {ss : List Str}
theorem iter_setT {Q : Value → Shared → Prop} (hS : qBk P w s.heap a ss)
    (h : ∀ (I : Addr) (fp : List Addr) (vs : List Value) (ss1 : List Str) (St : Nat → Heap → Prop) (h1 : Heap) (d : Drawn), StrsAre vs ss1 → ss1.Perm ss → (∀ b o, s.heap.get? b = some o → h1.get? b = some o) → (∀ A : Around, A.handled = none → Walks P w A I fp [I] vs.length (fun i v => vs[i]? = some v) St) →
      St 0 h1 → I ∈ fp → (∀ b ∈ fp, b < h1.objs.size ∧ (b = a ∨ s.heap.objs.size ≤ b)) → s.heap.objs.size ≤ I → s.heap.objs.size ≤ h1.objs.size → Q (.ref I) { s with heap := h1, drawn := d }) : wpAny (model P w) A (pyIter (.ref a)) Q E s := by
  obtain ⟨es, ep, t, ho, e1, e2, e3, e4, e5, e6⟩ := hS
  have hT : s.TypeIs (.ref a) "set" := ⟨_, ho, rfl⟩
  have ha : a < s.heap.objs.size := Heap.lt_size ho
  have hp4 : t.place.size = es.size := by
    unfold SetTable.fits at e4
    rw [Bool.and_eq_true] at e4
    exact eq_of_beq e4.1
  refine wpAny_pyIter_slot hT PySem.F.slot_set_iter (wpAny_call_entry PySem.F.slot_set_iter hT FS.entry_set_iter' ?_ (PySem.F.args_set_iter_1 _))
  unfold Builtin.«frozenset.__iter__» Builtin.Frozenset.slot0
  refine wpAny_bind (wpAny_bind (wpAny_pure (wpAny_pure ?_)))
  unfold Builtin.Frozenset.sizeOf
  refine wpAny_bind (wpAny_bind (wpAny_setEntries_of ho rfl e4 (wpAny_pure ?_)))
  refine wpAny_bind (wp_setDrawn ho e4 ?_)
  dsimp only
  cases hb : w.params.followText "set-order" with
  | true =>
    rw [if_neg (by simp)]
    refine wpAny_bind (wpAny_pure (wpAny_bind (wpAny_setEpoch_of ho rfl e4 ?_)))
    show wpAny _ _ (newFields "set_iterator" _ >>= _) _ _ _
    refine wpAny_bind (wpAny_newObj_type (wpAny_pure ⟨_, rfl, "set_iterator", _, ⟨_, Heap.get?_push_size _ rfl, rfl⟩, FS.slot_sin.lookup, ?_⟩) (by show 5 ≤ _; decide))
    have p := pick_perm (w.params.setOrder a ep) es
    obtain ⟨ss1, q1, q2⟩ := qEp e2 p
    refine h s.heap.objs.size [s.heap.objs.size, a] _ ss1 _ _ s.drawn q1 q2 (fun b o e => Heap.get?_push_of_some _ e) (walk_setI (ep := ep) (es := es) (t := t) (Nat.ne_of_lt ha) e4 _ (fun _ => 0) ?_) ⟨Heap.get?_push_size _ rfl, Heap.get?_push_of_some _ ho⟩ (by simp) ?_ (Nat.le_refl _) (by rw [Heap.size_push]; exact Nat.le_succ _)
    · intro A' E' s' Q' i hi ho' hq
      refine wp_setNextT ho' e4 hb ?_
      rw [List.getElem?_map, Array.getElem?_toList, Option.map_map] at hq
      exact hq
    · intro b hbm
      rw [Heap.size_push]
      simp at hbm
      rcases hbm with rfl | rfl
      · exact ⟨Nat.lt_succ_self _, .inr (Nat.le_refl _)⟩
      · exact ⟨Nat.lt_succ_of_lt ha, .inl rfl⟩
  | false =>
    have led : t.led = true := by rw [e5, hb]; rfl
    by_cases hz : es.size > 1
    · have pl : t.plain = false := e6 (by omega)
      rw [if_pos (by rw [pl, decide_eq_true hz]; rfl)]
      refine wpAny_bind (qEy es.size (List.range es.size) s _ (by simp) fun ps d pp => ?_)
      refine wpAny_bind (wpAny_newTuple (s := { s with drawn := d }) ?_ (by rw [List.length_map, pp.length_eq, List.length_range]; exact fits_of_scanBound e3))
      have ho1 : (s.heap.push (tOb (ps.map fun (p : Nat) => rawInt p).toArray)).get? a = some (sOb es ep t) := Heap.get?_push_of_some _ ho
      refine wpAny_bind (wpAny_setEpoch_of (s := { s with heap := s.heap.push (tOb (ps.map fun (p : Nat) => rawInt p).toArray), drawn := d }) ho1 rfl e4 ?_)
      show wpAny _ _ (newFields "set_iterator" _ >>= _) _ _ _
      refine wpAny_bind (wpAny_newObj_type (wpAny_pure ⟨_, rfl, "set_iterator", _, ⟨_, Heap.get?_push_size _ rfl, rfl⟩, FS.slot_sin.lookup, ?_⟩) (by show 5 ≤ _; decide))
      have hlt : ∀ p ∈ ps, p < es.size := fun p hm => List.mem_range.mp (pp.mem_iff.mp hm)
      have ep1 : (ps.filterMap fun p => es[p]?).Perm es.toList := by
        have q := pp.filterMap fun p => es[p]?
        rw [filterMap_getElem?_range] at q
        exact q
      have hfm : ∀ l : List Nat, (∀ p ∈ l, p < es.size) → (l.filterMap fun p => es[p]?).length = l.length ∧ ∀ (i p : Nat), l[i]? = some p → ∃ k x, es[p]? = some (k, x) ∧ ((l.filterMap fun p => es[p]?).map (·.2))[i]? = some x := by
        intro l
        induction l with
        | nil => intro _; exact ⟨rfl, fun i p z => by simp at z⟩
        | cons c l ih =>
          intro hm
          obtain ⟨i1, i2⟩ := ih fun p hp => hm p (List.mem_cons_of_mem _ hp)
          have hcl : c < es.size := hm c List.mem_cons_self
          have hc : es[c]? = some es[c] := Array.getElem?_eq_getElem hcl
          rw [List.filterMap_cons, hc]
          refine ⟨by simp [i1], fun i p z => ?_⟩
          cases i with
          | zero =>
            have e : c = p := by simpa using z
            subst e
            exact ⟨_, _, hc, by simp⟩
          | succ i =>
            obtain ⟨k, x, a1, a2⟩ := i2 i p (by simpa using z)
            exact ⟨k, x, a1, by simpa using a2⟩
      obtain ⟨f1, f2⟩ := hfm ps hlt
      obtain ⟨ss1, q1, q2⟩ := qEp e2 ep1
      have sz1 : (s.heap.push (tOb (ps.map fun (p : Nat) => rawInt p).toArray)).objs.size = s.heap.objs.size + 1 := Heap.size_push ..
      refine h (s.heap.push (tOb (ps.map fun (p : Nat) => rawInt p).toArray)).objs.size [(s.heap.push (tOb (ps.map fun (p : Nat) => rawInt p).toArray)).objs.size, a, s.heap.objs.size] _ ss1 _ _ d q1 q2 (fun b o e => Heap.get?_push_of_some _ (Heap.get?_push_of_some _ e))
        (walk_setD (ep := ep) (es := es) (t := t) (T := s.heap.objs.size) ?_ ?_ e4 ps _ (by rw [List.length_map, f1]) f2) ⟨Heap.get?_push_size _ rfl, Heap.get?_push_of_some _ ho1, Heap.get?_push_of_some _ (Heap.get?_push_size _ rfl)⟩ (by simp) ?_ ?_ ?_
      · rw [sz1]; exact Nat.ne_of_lt (Nat.lt_succ_of_lt ha)
      · rw [sz1]; exact Nat.ne_of_lt (Nat.lt_succ_self _)
      · intro b hbm
        rw [Heap.size_push, sz1]
        rw [sz1] at hbm
        simp at hbm
        rcases hbm with rfl | rfl | rfl
        · exact ⟨Nat.lt_succ_self _, .inr (Nat.le_succ _)⟩
        · exact ⟨Nat.lt_succ_of_lt (Nat.lt_succ_of_lt ha), .inl rfl⟩
        · exact ⟨Nat.lt_succ_of_lt (Nat.lt_succ_self _), .inr (Nat.le_refl _)⟩
      · rw [sz1]; exact Nat.le_succ _
      · rw [Heap.size_push, sz1]; exact Nat.le_succ_of_le (Nat.le_succ _)
    · rw [if_neg (by rw [decide_eq_false hz]; simp)]
      refine wpAny_bind (wpAny_pure (wpAny_bind (wpAny_setEpoch_of ho rfl e4 ?_)))
      show wpAny _ _ (newFields "set_iterator" _ >>= _) _ _ _
      refine wpAny_bind (wpAny_newObj_type (wpAny_pure ⟨_, rfl, "set_iterator", _, ⟨_, Heap.get?_push_size _ rfl, rfl⟩, FS.slot_sin.lookup, ?_⟩) (by show 5 ≤ _; decide))
      refine h s.heap.objs.size [s.heap.objs.size, a] _ ss _ _ s.drawn e2 (List.Perm.refl _) (fun b o e => Heap.get?_push_of_some _ e) (walk_setI (ep := ep) (es := es) (t := t) (Nat.ne_of_lt ha) e4 _ (fun i => if i = 0 then 0 else t.place.getD 0 0 + 1) ?_) ⟨Heap.get?_push_size _ rfl, Heap.get?_push_of_some _ ho⟩ (by simp) ?_ (Nat.le_refl _) (by rw [Heap.size_push]; exact Nat.le_succ _)
      · intro A' E' s' Q' i hi ho' hq
        refine wp_setNext1 ho' e4 hb (by omega) led ?_
        rw [List.length_map, Array.length_toList] at hi
        rcases Nat.lt_or_ge es.size 1 with z0 | z1
        · have e0 : es = #[] := Array.eq_empty_of_size_eq_zero (by omega)
          have p0 : t.place = #[] := Array.eq_empty_of_size_eq_zero (by omega)
          subst e0
          rw [p0] at hq ⊢
          rw [below_nil]
          simpa using hq
        · have z : es.size = 1 := by omega
          obtain ⟨x, e0⟩ : ∃ x, es = #[x] := by
            have := Array.size_eq_one_iff.mp z
            exact this
          obtain ⟨p, p0⟩ : ∃ p, t.place = #[p] := Array.size_eq_one_iff.mp (by omega)
          subst e0
          rw [p0] at hq ⊢
          obtain ⟨k, x⟩ := x
          by_cases i0 : i = 0
          · subst i0
            rw [if_pos rfl, below_lt (Nat.zero_le _)]
            simpa using hq
          · have i1 : i = 1 := by simp at hi; omega
            subst i1
            rw [if_neg (by decide)]
            show Q' (match (#[(k, x)] : Array (Int × Value))[SetTable.below #[p] (p + 1)]?, (#[p] : Array Nat)[SetTable.below #[p] (p + 1)]? with | some (_, x), some j => some (x, j + 1) | _, _ => none) s'
            rw [below_ge (Nat.lt_succ_self _)]
            simpa using hq
      · intro b hbm
        rw [Heap.size_push]
        simp at hbm
        rcases hbm with rfl | rfl
        · exact ⟨Nat.lt_succ_self _, .inr (Nat.le_refl _)⟩
        · exact ⟨Nat.lt_succ_of_lt ha, .inl rfl⟩
end
end L2
namespace L2
open PySem PySem.Spec PyProof.Rows
section
variable {X : Cx} {pins : List (Addr × Obj)} {σ : St} {H : Hp} {s : Shared} {h' : Heap}
theorem Inv.turnedT {t' : Nat} {d' : Drawn} {ch : List Addr} {a : Addr} {o : HO} (I : Inv X pins σ H s) (k : ∀ b u, b ∉ ch → s.heap.get? b = some u → h'.get? b = some u) (f : ∀ b ∈ ch, FpOk X pins H b) (hp : s.heap.objs.size ≤ a) (new : qCe X.prog X.w (upd H a o) h' a o) :
    Inv X pins σ (upd H a o) { s with heap := h', toks := t', drawn := d' } := by
  have nit : ∀ b u, H b = some u → b ∉ ch := fun b u e z => by rw [(f b z).1] at e; cases e
  have hn : H a = none := I.hok.fresh hp
  refine I.step (g' := s.gens) (d' := d') (ch := ch) (fun b hb => ?_) (fun b u _ _ hc e _ => k b u hc e) (fun b u _ _ hc e _ => ⟨u.slots, k b u hc e⟩) (fun b u _ e n => ?_) (fun b u hc e => ⟨u, k b u hc e⟩) (fun b xs q => by rw [qAr (qAp q hn)]; exact q) (fun b u v q => by rw [qAr (qAp q hn)]; exact q)
    (fun b ps q => ⟨#[], by rw [qAr (qAp q hn), q]; simp⟩) (fun m hm => ?_) (fun b u e => ?_) I.bare
  · obtain ⟨_, f1, _, f3, f4, f5⟩ := f b hb
    exact ⟨f3, f1, f4, f5⟩
  · rw [qAr (Nat.ne_of_lt (Nat.lt_of_lt_of_le (Heap.lt_size e) hp))]; exact n
  · obtain ⟨ob, es, ep, ho, r⟩ := hm
    exact ⟨ob, es, ep, k _ ob (fun z => (f _ z).2.1 rfl) ho, r⟩
  · by_cases hb : b = a
    · subst hb; rw [upd_same] at e; cases e; exact new
    · rw [qAr hb] at e
      refine (I.hok b u e).stay (fun c v hc q => k c v ?_ q) (fun c q => by rw [qAr (qAp q hn)]; exact q) fun c xs q => by rw [qAr (qAp q hn)]; exact q
      rcases hc with z | z
      · rw [z]; exact nit b u e
      · exact nit c _ z
end
section
variable {P : Program} {w : World} {A : Around} {E : Value → Shared → Prop} {s : Shared} {a : Addr} {ss : List Str}
theorem collect_setT {Q : List Value → Shared → Prop} (hh : A.handled = none) (hS : qBk P w s.heap a ss)
    (h : ∀ (vs : List Value) (ss1 : List Str) (h1 : Heap) (tk : Nat) (d : Drawn), StrsAre vs ss1 → ss1.Perm ss → (∀ b o, s.heap.get? b = some o → h1.get? b = some o) → s.heap.objs.size ≤ h1.objs.size → Q vs { s with heap := h1, toks := tk, drawn := d }) : wpAny (model P w) A (collect (.ref a)) Q E s := by
  unfold collect
  refine wpAny_bind (wpAny_runValue (codeAny_builtin PySem.F.entry_proto_collect ?_))
  rw [Around.under_plainId PySem.F.plain_proto_collect _]
  show wpAny _ A.in1 (newList [] >>= fun l => again (.builtin "list.__iadd__" ⟨[l, .ref a], []⟩)) _ _ _
  refine wpAny_bind (wpAny_newObj_type ?_)
  refine wpAny_pure ⟨plainId_quiet PySem.F.plain_list_iadd _, codeAny_builtin PySem.F.entry_list_iadd ?_⟩
  rw [Around.under_plainId PySem.F.plain_list_iadd _]
  have hS1 : qBk P w (s.heap.push (seqObj "list" #[] 0)) a ss := hS.at fun o e => Heap.get?_push_of_some _ e
  have hL1 : (s.heap.push (seqObj "list" #[] 0)).get? s.heap.objs.size = some (seqObj "list" #[] 0) := Heap.get?_push_size _ rfl
  have hT : ∀ s' : Shared, qBk P w s'.heap a ss → s'.TypeIs (.ref a) "set" := fun s' z => by
    obtain ⟨es, ep, t, ho, _⟩ := z
    exact ⟨_, ho, rfl⟩
  have ha : a < s.heap.objs.size := by
    obtain ⟨es, ep, t, ho, _⟩ := hS
    exact Heap.lt_size ho
  have hz : ss.length < scanBound := by
    obtain ⟨es, ep, t, _, _, e2, e3, _⟩ := hS
    rw [← e2.strs, List.length_map, List.length_map, Array.length_toList]
    exact e3
  have hne : Builtin.List.listSameRef (.ref s.heap.objs.size) (.ref a) = false := by
    show (s.heap.objs.size == a) = false
    exact beq_eq_false_iff_ne.mpr (Nat.ne_of_gt ha)
  show wpAny _ A.in1 (Builtin.List.listExtendWith (.ref s.heap.objs.size) (.ref a) (.ref s.heap.objs.size)) _ _ { s with heap := s.heap.push (seqObj "list" #[] 0) }
  unfold Builtin.List.listExtendWith
  refine wpAny_bind (wpAny_typeOf (hT _ hS1) ?_)
  rw [if_neg (by rw [hne]; decide)]
  refine wpAny_bind (iter_setT hS1 fun I fp vs ss1 St h1 d q1 q2 q3 W st hI hfp hge hsz => ?_)
  have hS2 : qBk P w h1 a ss := hS1.at fun o e => q3 _ _ e
  have hL2 : h1.get? s.heap.objs.size = some (seqObj "list" #[] 0) := q3 _ _ hL1
  refine wpAny_bind (wpAny_holding ?_)
  unfold Builtin.List.listLengthHint
  refine wpAny_bind (wpAny_specialOf (hT { s with heap := h1, drawn := d } hS2) PySem.F.slot_set_len.lookup ?_)
  dsimp only
  rw [show splitId "set.__len__" = some ("set", "__len__") from by decide +kernel]
  dsimp only
  refine wpAny_bind (wpAny_isInstance (b := true) (hT { s with heap := h1, drawn := d } hS2) sub_set_self ?_)
  rw [if_neg (by decide), if_pos (by decide +kernel)]
  refine wpAny_bind (wpAny_typeOf (hT { s with heap := h1, drawn := d } hS2) (wpAny_pure ?_))
  rw [if_pos (by decide +kernel)]
  refine wpAny_bind (wpAny_rule ?_)
  unfold Builtin.List.listTouch
  have hL3 := get?_update_seq hL2 (·.push .none)
  have hL4 := get?_update_seq hL3 (·.pop)
  refine wpAny_bind (wpAny_bind (listUpdate_at (s := { s with heap := h1, drawn := d }) hL2 rfl (listUpdate_at (s := { s with heap := h1.update s.heap.objs.size (Obj.mapSeq (·.push .none)), drawn := d }) hL3 rfl ?_)))
  have nS : s.heap.objs.size ∉ fp := fun z => by
    rcases (hfp _ z).2 with e | e
    · exact absurd e (Nat.ne_of_gt ha)
    · rw [size_push'] at e
      exact absurd e (Nat.not_succ_le_self _)
  have upd2 : ∀ b o, b ≠ s.heap.objs.size → h1.get? b = some o → ((h1.update s.heap.objs.size (Obj.mapSeq (·.push .none))).update s.heap.objs.size (Obj.mapSeq (·.pop))).get? b = some o := fun b o hb e => by
    rw [Heap.get?_update_ne _ _ _ _ hb, Heap.get?_update_ne _ _ _ _ hb]; exact e
  have hv : vs.length ≤ sizeLine := by
    have e1 := q2.length_eq
    have e2 : vs.length = ss1.length := by rw [← q1.strs, List.length_map]
    rw [e2, e1]
    exact fits_of_scanBound hz
  have st3 := (W A.in1.in1.in1 (by exact hh)).frame 0 _ ((h1.update s.heap.objs.size (Obj.mapSeq (·.push .none))).update s.heap.objs.size (Obj.mapSeq (·.pop))) st fun b hb o e => upd2 b o (fun z => nS (z ▸ hb)) e
  refine wpAny_pure ⟨plainId_quiet PySem.F.plain_extend_loop _, codeAny_extend_loopS ((W _ (by exact hh)).toS) hv _ nS _ vs.length 0 _ _ _ rfl (Nat.zero_le _) st3 hL4 (ItemsOf.nil _) fun s' acc' c' hm hS' hacc => ?_⟩
  show wpAny _ A (load s.heap.objs.size >>= _) _ _ s'
  refine wpAny_bind (wpAny_load hS' ?_)
  have eacc : acc'.toList = vs := by
    refine List.ext_getElem? fun i => ?_
    by_cases hi : i < vs.length
    · have hi' : i < acc'.size := by rw [hacc.1]; exact hi
      rw [Array.getElem?_toList, Array.getElem?_eq_getElem hi']
      exact (hacc.2 i _ (Array.getElem?_eq_getElem hi')).symm
    · rw [Array.getElem?_toList, Array.getElem?_eq_none (by rw [hacc.1]; omega), List.getElem?_eq_none (by omega)]
  show wpAny _ A (pure acc'.toList) _ _ s'
  rw [eacc]
  obtain ⟨h5, g5, d5, tk5, os5⟩ := s'
  cases (show g5 = s.gens from hm.gens)
  cases (show d5 = d from hm.drawn)
  cases (show os5 = s.os from hm.os)
  have keep : ∀ b o, h1.get? b = some o → b ≠ s.heap.objs.size → b ≠ I → h5.get? b = some o := fun b o e n1 n2 => hm.heap b o (by simp only [List.mem_cons, List.not_mem_nil, or_false, not_or]; exact ⟨n1, n2⟩) (upd2 b o n1 e)
  refine wpAny_pure (h vs ss1 h5 tk5 d q1 q2 (fun b o e => ?_) ?_)
  · have lt := Heap.lt_size e
    refine keep b o (q3 b o (Heap.get?_push_of_some _ e)) (Nat.ne_of_lt lt) (Nat.ne_of_lt (Nat.lt_of_lt_of_le lt ?_))
    rw [size_push'] at hge
    exact Nat.le_of_succ_le hge
  · exact Nat.le_of_lt (Heap.lt_size hS')
end
def SetS (P : Program) (w : World) (a : Addr) (ss : List Str) : HO := .ext fun h => qBk P w h a ss
section
variable {X : Cx}
theorem call_setS (hc : X.calm = true) : qCr X (.type "set") (fun xs H Q => ∃ (p : Addr) (ss0 : List Str), xs = [.ref p] ∧ SqL X.K H p (ss0.map V.str) ∧ ss0.length < 1000 ∧ ∀ (r : Addr) (ss : List Str), H r = none → ss.Nodup → ss.length ≤ ss0.length → (∀ x, x ∈ ss ↔ x ∈ ss0) → Q (.ref r) (upd H r (SetS X.prog X.w r ss))) := by
  intro pins s σ H xs us Q I r h
  obtain ⟨p, ss0, rfl, hq, hl, q⟩ := h
  obtain ⟨u, rfl, rx⟩ := qDx r
  cases rx
  obtain ⟨its, rv, pl, hz⟩ := I.list hq
  have hlen := rv.length
  rw [List.length_map] at hlen
  refine call_setT (I.ok.hd hc) pl.isList (by simpa using qCv rv) (by have : scanBound = 4096 := rfl; simp; omega) fun h' tk ss hS hO hk => ?_
  obtain ⟨o1, o2, o3⟩ := hO
  rw [List.size_toArray, ← hlen] at o2 o3
  refine ⟨.ref s.heap.objs.size, _, I.laid (t' := tk) (a := s.heap.objs.size) (o := SetS X.prog X.w s.heap.objs.size ss) (fun b o e => hk b o (Heap.lt_size e) e) (Nat.le_refl _) ⟨hS, ?_, fun h1 h2 z k => z.at k⟩, rfl, q _ ss (I.hok.fresh (Nat.le_refl _)) o1 o2 fun x => ?_⟩
  · obtain ⟨es, ep, t, ho, _⟩ := hS
    exact ⟨_, ho⟩
  · rw [o3 x, List.mem_iff_getElem?]
    constructor
    · rintro ⟨j, hj, rfl⟩
      exact ⟨j, by show ss0[j]? = some (ss0.getD j default); rw [List.getD_eq_getElem?_getD, List.getElem?_eq_getElem hj]; rfl⟩
    · rintro ⟨j, hj⟩
      exact ⟨j, (List.getElem?_eq_some_iff.mp hj).1, by show ss0.getD j default = x; rw [List.getD_eq_getElem?_getD, hj]; rfl⟩
theorem qDw (hc : X.calm = true) : qCr X (.builtin "sorted") (fun xs H Q => ∃ (p : Addr) (ss : List Str), xs = [.ref p] ∧ H p = some (SetS X.prog X.w p ss) ∧ ss.length < 64 ∧ ∀ (r : Addr) (ss' : List Str), H r = none → ss'.Perm ss → sortedS ss' = true → Q (.ref r) (upd H r (.lst (ss'.map V.str)))) := by
  intro pins s σ H xs us Q I r h
  obtain ⟨p, ss, rfl, hp, h64, q⟩ := h
  obtain ⟨u, rfl, rx⟩ := qDx r
  cases rx
  have hS : qBk X.prog X.w s.heap p ss := (I.hok p _ hp).1
  refine Calls.call_function_entry kind_sorted plain_sorted entry_sorted (args_sorted1 _) ?_
  unfold Builtin.«sorted»
  refine wpAny_bind (m := checkCount "sorted" 1 1 _) (wpAny_pure (wpAny_bind (collect_setT (I.ok.hd hc) hS fun vs ss1 h1 tk d a1 a2 a3 a4 => ?_)))
  have hvl : vs.length = ss1.length := by rw [← a1.strs, List.length_map]
  have hl64 : vs.length < 64 := by rw [hvl, a2.length_eq]; exact h64
  refine wpAny_bind (wpAny_newList ?_ (by have : sizeLine > 64 := by decide
                                          omega))
  have hoL : (h1.push (seqObj "list" vs.toArray 0)).get? h1.objs.size = some (seqObj "list" vs.toArray 0) := Heap.get?_push_size _ rfl
  refine wpAny_bind (wpAny_holding (wpAny_call_entry slot_list_sort ⟨_, hoL, rfl⟩ entry_list_sort (list_sort_treeK strKind_oneLt hoL a1.keysOf (fun v1 v2 rest e => keyKind_strs (by rw [← e]; exact a1)) hl64 fun st' b1 b2 => ⟨_, rfl, ?_⟩) (args_list_sort _)))
  obtain ⟨ss', c1, c2, c3⟩ := sorted_out_str a1 b1 b2
  refine wpAny_pure ⟨_, rfl, ?_⟩
  have nz : H h1.objs.size = none := I.hok.fresh a4
  obtain ⟨e, he⟩ := sortedHeap_at (out := (arrOf st').map (·.2)) hoL
  refine ⟨.ref h1.objs.size, _, I.turnedT (t' := tk) (d' := d) (ch := []) (a := h1.objs.size) (o := .lst (ss'.map V.str)) (fun b o _ eb => ?_) (fun b z => nomatch z) a4 ?_, rfl, q _ ss' nz (c2.trans a2) c3⟩
  · have e1 := a3 b o eb
    have lt := Heap.lt_size e1
    rw [sortedHeap_old (Nat.ne_of_lt lt) (by rw [size_push']; exact Nat.lt_succ_of_lt lt)]
    exact Heap.get?_push_of_some _ e1
  · refine ⟨?_, ((arrOf st').map (·.2)).toList, e, qGf c1, he⟩
    rw [List.length_map, c2.length_eq, a2.length_eq]
    exact Nat.le_of_lt (qAf (by omega))
end
end L2
namespace L2
open PySem PySem.Spec PyProof.Rows
section
variable {X : Cx} {pins : List (Addr × Obj)} {σ : St} {H : Hp} {s : Shared} {h' : Heap}
theorem Inv.turnedL {t' : Nat} {ch : List Addr} (I : Inv X pins σ H s) (k : ∀ b u, b ∉ ch → s.heap.get? b = some u → h'.get? b = some u) (f : ∀ b ∈ ch, FpOk X pins H b) : Inv X pins σ H { s with heap := h', toks := t' } := by
  have nit : ∀ b u, H b = some u → b ∉ ch := fun b u e z => by rw [(f b z).1] at e; cases e
  refine I.step (g' := s.gens) (d' := s.drawn) (ch := ch) (fun b hb => ?_) (fun b u _ _ hc e _ => k b u hc e) (fun b u _ _ hc e _ => ⟨u.slots, k b u hc e⟩) (fun b u _ e n => n) (fun b u hc e => ⟨u, k b u hc e⟩) (fun b xs q => q) (fun b u v q => q) (fun b ps q => ⟨#[], by rw [q]; simp⟩) (fun m hm => ?_) (fun b u e => ?_) I.bare
  · obtain ⟨_, f1, _, f3, f4, f5⟩ := f b hb
    exact ⟨f3, f1, f4, f5⟩
  · obtain ⟨ob, es, ep, ho, r⟩ := hm
    exact ⟨ob, es, ep, k _ ob (fun z => (f _ z).2.1 rfl) ho, r⟩
  · refine (I.hok b u e).stay (fun c v hc q => k c v ?_ q) (fun c q => q) fun c xs q => q
    rcases hc with z | z
    · rw [z]; exact nit b u e
    · exact nit c _ z
end
def Itp (n : Nat) (Ls : Hp → Prop) (xv : Nat → List V) : It := ⟨fun i H => Ls H ∧ i < n, fun i H x H' => ∃ T, H T = none ∧ H' = upd H T (.tup (xv i)) ∧ x = .ref T, fun i H => Ls H ∧ i = n⟩
theorem qF4 {P : Program} {w : World} {K : PySem.W.Frag} {elts : List Expr} {ct : Nat} {pos : Pos} (it : Addr) (fp fpW wr : List Addr) (n : Nat) (Ls : Hp → Prop) (xv : Nat → List V) (tn : Nat → Heap → Prop)
    (hit : it ∈ fp) (hwr : ∀ b ∈ wr, b ∈ fp) (hobj : ∀ i h, tn i h → ∀ b ∈ fp, ∃ o, h.get? b = some o ∧ ∀ v, o.data ≠ .cell v) (hkeep : ∀ i h h', tn i h → (∀ b ∈ fp, ∀ o, h.get? b = some o → h'.get? b = some o) → tn i h')
    (hx : ∀ i, (xv i).length ≤ sizeLine)
    (W : ∀ (X : Cx), X.prog = P → X.w = w → X.K = K → X.calm = true → ∀ (pins : List (Addr × Obj)) (s : Shared) (σ : L2.St) (H : Hp), Inv X pins σ H s → Ls H → ∃ (Pt : Nat → Array Value → Prop) (St : Nat → Heap → Prop) (Mid : Nat → Addr → Heap → Prop), WalksT P w X.A it fpW wr n Pt St Mid ∧ (∀ i, tn i s.heap → St i s.heap) ∧ (∀ i h, St i h → tn i h) ∧
      (∀ i vals, Pt i vals → qBa (xv i) vals.toList))
    (hself : ∀ (A : Around) (i : Nat) (s : Shared) (Q : Value → Shared → Prop) (E : Value → Shared → Prop), tn i s.heap → Q (.ref it) s → wpAny (model P w) A (pyIter (.ref it)) Q E s) : Turn P w K (.Tuple elts ct pos) (Itp n Ls xv) fp it tn where
  mem := hit
  obj := hobj
  keep := hkeep
  item := by
    intro X hP hw hK hc i pins s σ H E I hf st hg
    obtain ⟨hL, hi⟩ := hg
    obtain ⟨Pt, St, Mid, Wt, w1, w2, w3⟩ := W X hP hw hK hc pins s σ H I hL
    subst hP hw hK
    refine Wt.item i s _ _ hi (w1 i st) fun T vals h1 tk pv hT ht mid k1 => ?_
    have hTw : T ∉ wr := Wt.apart i T h1 mid
    refine ⟨_, rfl, Wt.go elts ct pos i T _ _ _ mid fun h2 st2 k2 => ?_⟩
    have ht2 : IsTup h2 T (vals.toList).toArray := by
      obtain ⟨o, a1, a2, nn, a3⟩ := ht
      exact ⟨o, k2 _ _ hTw a1, a2, nn, by simpa using a3⟩
    refine ⟨.ref T, upd H T (.tup (xv i)), I.turnedT (t' := tk) (d' := s.drawn) (ch := wr) (fun b u hb e => k2 b u hb (k1 b u hb e)) (fun b hb => hf b (hwr b hb)) hT ⟨hx i, vals.toList, w3 i vals pv, ht2⟩, rfl, ⟨T, I.hok.fresh hT, rfl, rfl⟩, w2 _ _ st2, fun b hb => ?_⟩
    have e : b ≠ T := by
      obtain ⟨o, ho, _⟩ := hobj i _ st b hb
      exact Nat.ne_of_lt (Nat.lt_of_lt_of_le (Heap.lt_size ho) hT)
    rw [qAr e]
    exact (hf b hb).1
  done := by
    intro X hP hw hK hc i pins s σ H E I hf st hg
    obtain ⟨hL, hi⟩ := hg
    obtain ⟨Pt, St, Mid, Wt, w1, w2, w3⟩ := W X hP hw hK hc pins s σ H I hL
    subst hP hw hK hi
    exact Wt.done s _ _ (w1 _ st) fun h1 tk k1 => ⟨rfl, I.turnedL (ch := wr) (fun b u hb e => k1 b u hb e) fun b hb => hf b (hwr b hb)⟩
  self := hself
theorem zip_apart (n a b : Nat) (h1 : a < n) (h2 : b < n) : ZipApart (n + 4) (n + 2) (n + 3) n (n + 1) a b := by
  constructor <;> (show @Ne Nat _ _; omega)
section
variable {X : Cx}
def iZip (K : PySem.W.Frag) (ta : TA) : TI := fun σ H R => ta σ H fun vs H1 => ∃ (a b : Addr) (xs ys : List V), vs = [.ref a, .ref b] ∧ SqL K H1 a xs ∧ SqL K H1 b ys ∧ R (Itp (min xs.length ys.length) (fun H => SqL K H a xs ∧ SqL K H b ys) (fun i => [xs.getD i .non, ys.getD i .non])) H1
theorem boot_zip : bootBuiltins "zip" = some (.type "zip") := by decide +kernel
theorem pi_zip {a b : Expr} {ta : TA} {p pos tpos : Pos} {elts : List Expr} {ct : Nat} (hg : Gl X "zip") (hm : X.mg "zip" = none) (ha : PA X [a, b] ta) (hs : starEach [a, b] X.env = [(false, eval a X.env), (false, eval b X.env)] := by rfl) (hs2 : starEach [b] X.env = [(false, eval b X.env)] := by rfl) :
    PI X (.Tuple elts ct tpos) (.Call (.Name "zip" p) [a, b] [] pos) (iZip X.K ta) := by
  intro pins s σ H R I h
  refine Call_ (qFr I hg hm boot_zip (PyProof.Rows.callWith_type1 (thn (ha pos pins s σ H _ I h) fun us s1 ⟨vs, H1, I1, r1, q1⟩ => ?_) (by rw [hs, hs2]) (by rw [hs2]; rfl)))
  obtain ⟨l1, l2, xs, ys, e, hx, hy, q⟩ := q1
  subst e
  obtain ⟨u1, u2, rfl, r1, r2⟩ := vals2 r1
  cases r1
  cases r2
  obtain ⟨it1, rv1, pl1, hz1⟩ := I1.list hx
  obtain ⟨it2, rv2, pl2, hz2⟩ := I1.list hy
  have n1 := rv1.length
  have n2 := rv2.length
  have b1 : l1 < s1.heap.objs.size := by obtain ⟨o, n, e, _⟩ := pl1; exact Heap.lt_size e
  have b2 : l2 < s1.heap.objs.size := by obtain ⟨o, n, e, _⟩ := pl2; exact Heap.lt_size e
  refine call_zip_2 pl1.isList pl2.isList fun h1 z1 z2 z3 z4 z5 z6 z7 => ?_
  refine wpAny_pyIter_zip z1 ?_
  have D := zip_apart s1.heap.objs.size l1 l2 b1 b2
  have hfp : ∀ b ∈ [s1.heap.objs.size + 4, s1.heap.objs.size + 2, s1.heap.objs.size + 3, s1.heap.objs.size, s1.heap.objs.size + 1], s1.heap.objs.size ≤ b := fun b hb => by
    simp only [List.mem_cons, List.not_mem_nil, or_false] at hb
    rcases hb with rfl | rfl | rfl | rfl | rfl
    · exact Nat.le_add_right _ _
    · exact Nat.le_add_right _ _
    · exact Nat.le_add_right _ _
    · exact Nat.le_refl _
    · exact Nat.le_add_right _ _
  refine ⟨s1.heap.objs.size + 4, [s1.heap.objs.size + 4, s1.heap.objs.size + 2, s1.heap.objs.size + 3, s1.heap.objs.size, s1.heap.objs.size + 1],
    fun i h => IsZip h (s1.heap.objs.size + 4) (s1.heap.objs.size + 2) (s1.heap.objs.size + 3) .none ∧ IsPair h (s1.heap.objs.size + 2) (.ref s1.heap.objs.size) (.ref (s1.heap.objs.size + 1)) ∧ (∃ a b, IsPair h (s1.heap.objs.size + 3) a b) ∧ h.IsListIter s1.heap.objs.size l1 i ∧ h.IsListIter (s1.heap.objs.size + 1) l2 i,
    _, H1, rfl, I1.kept (t' := s1.toks) z7,
    qF4 (s1.heap.objs.size + 4) _ [s1.heap.objs.size + 4, s1.heap.objs.size + 2, s1.heap.objs.size + 3, s1.heap.objs.size, s1.heap.objs.size + 1, l1, l2] [s1.heap.objs.size + 4, s1.heap.objs.size + 3, s1.heap.objs.size, s1.heap.objs.size + 1] _ _ _ _ (by simp) (fun b hb => ?_) (fun i h st b hb => ?_) (fun i h h' st k => ?_) (fun i => by show 2 ≤ sizeLine; decide) ?_ (fun A i s' Q E st hQ => wpAny_pyIter_zip st.1 hQ),
    ⟨z1, z2, ⟨_, _, z3⟩, z4, z5⟩, fun b hb => I1.fpOk (hfp b hb) (I1.hok.fresh (hfp b hb)), q⟩
  · simp only [List.mem_cons, List.not_mem_nil, or_false] at hb ⊢
    rcases hb with h | h | h | h
    · exact .inl h
    · exact .inr (.inr (.inl h))
    · exact .inr (.inr (.inr (.inl h)))
    · exact .inr (.inr (.inr (.inr h)))
  · obtain ⟨a1, a2, ⟨c, d, a3⟩, ⟨o4, a4, c4, d4⟩, ⟨o5, a5, c5, d5⟩⟩ := st
    simp only [List.mem_cons, List.not_mem_nil, or_false] at hb
    rcases hb with rfl | rfl | rfl | rfl | rfl
    · exact ⟨_, a1, fun v z => by cases z⟩
    · exact ⟨_, a2, fun v z => by cases z⟩
    · exact ⟨_, a3, fun v z => by cases z⟩
    · exact ⟨_, a4, fun v z => by rw [d4] at z; cases z⟩
    · exact ⟨_, a5, fun v z => by rw [d5] at z; cases z⟩
  · obtain ⟨a1, a2, ⟨c, d, a3⟩, a4, a5⟩ := st
    exact ⟨k _ (by simp) _ a1, k _ (by simp) _ a2, ⟨c, d, k _ (by simp) _ a3⟩, a4.at fun o e => k _ (by simp) o e, a5.at fun o e => k _ (by simp) o e⟩
  · intro X' hP hw hK hc pins' s' σ' H' I' hL
    obtain ⟨hx', hy'⟩ := hL
    rw [← hK] at hx' hy'
    obtain ⟨jt1, sv1, ql1, _⟩ := I'.list hx'
    obtain ⟨jt2, sv2, ql2, _⟩ := I'.list hy'
    have m1 := sv1.length
    have m2 := sv2.length
    have Wz := WalksT.zip2 (prog := X.prog) (w := X.w) (I'.ok.hd hc) _ _ _ _ _ l1 l2 D jt1.toArray jt2.toArray
    rw [show min jt1.toArray.size jt2.toArray.size = min xs.length ys.length by show min jt1.length jt2.length = _; rw [m1, m2]] at Wz
    refine ⟨_, _, _, Wz, fun i st => ?_, fun i h st => ?_, fun i vals pv => ?_⟩
    · obtain ⟨a1, a2, a3, a4, a5⟩ := st
      exact ⟨a1, a2, a3, a4, a5, ql1.isList, ql2.isList⟩
    · obtain ⟨a1, a2, a3, a4, a5, _⟩ := st
      exact ⟨a1, a2, a3, a4, a5⟩
    · obtain ⟨x, y, e1, e2, rfl⟩ := pv
      have e1 : jt1[i]? = some x := by simpa using e1
      have e2 : jt2[i]? = some y := by simpa using e2
      have c1 : i < xs.length := by rw [m1]; exact (List.getElem?_eq_some_iff.mp e1).1
      have c2 : i < ys.length := by rw [m2]; exact (List.getElem?_eq_some_iff.mp e2).1
      obtain ⟨u, d1, d2⟩ := sv1.get (List.getElem?_eq_getElem c1)
      obtain ⟨v, f1, f2⟩ := sv2.get (List.getElem?_eq_getElem c2)
      rw [e1] at d1
      rw [e2] at f1
      cases d1
      cases f1
      show qBa [xs.getD i .non, ys.getD i .non] [x, y]
      rw [List.getD_eq_getElem?_getD, List.getElem?_eq_getElem c1, List.getD_eq_getElem?_getD, List.getElem?_eq_getElem c2]
      exact .cons d2 (.cons f2 .nil)
end
section
variable {σ0 : St} {g : TG} {tt : TT} {te : TE} {Q : List V → Hp → Prop} {H1 : Hp}
theorem qD5 {n : Nat} {Ls : Hp → Prop} {xv : Nat → List V} (Pv : Nat → List V → Hp → Prop) (h0 : Pv 0 [] H1) (hl : ∀ i ys H, i ≤ n → Pv i ys H → Ls H)
    (hs : ∀ i ys H T, i < n → Pv i ys H → H T = none → g (.ref T) σ0 (upd H T (.tup (xv i))) fun σ2 H2 => Sle σ0 σ2 ∧ tt σ2 H2 fun b H3 => if b = true then te σ2 H3 (fun v H4 => ys.length < sizeLine ∧ Nxt n i Pv (ys ++ [v]) H4) else Nxt n i Pv ys H3)
    (hd : ∀ ys H, Pv n ys H → Q ys H) : qDl (Itp n Ls xv) σ0 g tt te Q H1 := by
  refine ⟨fun i m ys H => m = n - i ∧ i ≤ n ∧ Pv i ys H, ⟨n, by simp, Nat.zero_le _, h0⟩, ?_⟩
  rintro i m ys H ⟨rfl, hi, p⟩
  have q := hl i ys H hi p
  by_cases hlt : i < n
  · refine .inr ⟨⟨q, hlt⟩, fun x H' y => ?_⟩
    obtain ⟨T, e1, e2, e3⟩ := y
    subst e2 e3
    exact hs i ys H T hlt p e1
  · have e : i = n := by omega
    subst e
    exact .inl ⟨⟨q, rfl⟩, hd ys H p⟩
end
end L2
namespace L2
open PySem PySem.Spec PyProof.Rows
section
variable {X : Cx} {pins : List (Addr × Obj)} {σ : St} {H H' : Hp} {s : Shared}
theorem inv_compO {o0 : Obj} {N' : List Str} {scope : Scope} {sub : List (Option Nat)} {fp : List Addr} (I : Inv X pins σ H s) (O : CmpOk X.N X.env.scope N' scope sub) (hf : ∀ b ∈ fp, FpOk X pins H b)
    (hfl : ∀ b ∈ fp, b < s.heap.objs.size) (nf : o0.isFreed = false) (nc : ∀ v, o0.data ≠ .cell v) :
    Inv (qB6 X scope N' (s.heap.objs.size + 1) s H fp) [(s.heap.objs.size, o0)] (subσ sub σ) H
      { s with heap := pushCells ((s.heap.push o0).push { cls := .type "dict", data := .dict #[] }) scope.names } := by
  have hk3 : ∀ b o, s.heap.get? b = some o → (s.heap.push o0).get? b = some o := fun b o e => Heap.get?_push_of_some _ e
  have sz3 : (s.heap.push o0).objs.size = s.heap.objs.size + 1 := Heap.size_push ..
  have hk : ∀ b o, s.heap.get? b = some o → (pushCells ((s.heap.push o0).push { cls := .type "dict", data := .dict #[] }) scope.names).get? b = some o :=
    fun b o e => pushCells_keeps _ _ b o (Heap.get?_push_of_some _ (hk3 b o e))
  have cf := qFu (h3 := s.heap.push o0) I O hk3
  rw [sz3] at cf
  have hC : H (s.heap.objs.size + 1) = none := I.hok.fresh (Nat.le_succ _)
  have nsC : (pushCells ((s.heap.push o0).push { cls := .type "dict", data := .dict #[] }) scope.names).Ns (s.heap.objs.size + 1) (fun _ => none) := by
    rw [← sz3]
    exact (Heap.Ns.new _ _).keeps (pushCells_keeps _ _)
  have has : ∀ x, (scope.names.lookup x = some .cell ∨ scope.names.lookup x = some .free) → ∃ c, (cellsFrom (s.heap.objs.size + 1 + 1) scope.names (qCj X.env.cells scope.names [])).lookup x = some c := fun x hx => by
    refine Option.isSome_iff_exists.mp (PySem.W.cellsFrom_some _ _ _ ?_)
    rcases hx with z | z
    · exact .inl z
    · exact .inr (qDu (.inl (PySem.mem_of_lookup z)))
  have kindB : ∀ x, (qB1 X.env scope (s.heap.objs.size + 1)).kindOf x = (scope.names.lookup x).map fun k => if (k == NameKind.free && X.env.scope.kind == .function && X.env.scope.names.lookup x == some .cell) then NameKind.cell else k := fun x => qDh
  have cellOk : ∀ x c, (qB1 X.env scope (s.heap.objs.size + 1)).cells.lookup x = some c → ∃ v, (pushCells ((s.heap.push o0).push { cls := .type "dict", data := .dict #[] }) scope.names).IsCell c v := fun x c h => by
    rcases cf.1 x c h with q | q
    · exact ⟨_, q.1⟩
    · obtain ⟨v, z⟩ := I.cell x c q.2
      exact ⟨v, z.keeps hk⟩
  refine ⟨⟨I.ok.mod, O.kind, I.ok.glob, I.ok.blt, Nat.le_succ _, fun x y c h1 h2 => cf.2 x y c h1 h2, fun x hx => ?_, fun x c hx h => ?_, I.ok.hd, I.ok.frames, .inl rfl, fun b hb => ?_, fun b o e => I.bs b o e, Nat.le_trans I.ok.bsz I.sz, fun b o e hb => ?_, fun b hb => ?_, I.stack, I.stkFree⟩,
    rfl, I.bare, Un.kept hk, ⟨fun _ => none, nsC, fun i x v h1 h2 h3 => ?_⟩, cellOk, hC, fun x c h => ?_, fun p hp => ?_, I.hok.kept hk, ?_⟩
  · -- has
    refine has x ?_
    have hx : (qB1 X.env scope (s.heap.objs.size + 1)).kindOf x = some .cell ∨ (qB1 X.env scope (s.heap.objs.size + 1)).kindOf x = some .free := hx
    rw [kindB] at hx
    cases e : scope.names.lookup x with
    | none => rw [e] at hx; rcases hx with z | z <;> cases z
    | some k =>
      rw [e] at hx
      cases k with
      | cell => exact .inl rfl
      | free => exact .inr rfl
      | _ => exfalso; rcases hx with z | z <;> simp at z
  · -- cab
    rcases cf.1 x c h with q | q
    · have := q.2.1
      show s.heap.objs.size ≤ c
      omega
    · exfalso
      have e := qBo O.nd q.1
      have hx' : (!(scope.names.lookup x == some NameKind.free)) = true := hx
      rw [e] at hx'
      exact absurd hx' (by decide)
  · -- exf
    obtain ⟨f0, f1, f2, f3, f4, f5⟩ := hf b hb
    have lt := hfl b hb
    refine ⟨fun e => ?_, fun x c h e => ?_⟩
    · have e' : b = s.heap.objs.size + 1 := e
      rw [e'] at lt
      exact absurd lt (Nat.not_lt.mpr (Nat.le_succ _))
    · rcases cf.1 x c h with q | q
      · have z := q.2.1
        rw [e] at z
        exact absurd lt (Nat.not_lt.mpr (Nat.le_trans (Nat.le_trans (Nat.le_succ _) (Nat.le_succ _)) z))
      · exact f4 x c q.2 e
  · -- noex
    obtain ⟨f0, f1, f2, f3, f4, f5⟩ := hf b hb
    rcases f3 with z | z
    · exact I.ok.noex b o e z
    · exact absurd (Nat.lt_of_lt_of_le (Heap.lt_size (I.ok.bs b o e).1) z) (Nat.lt_irrefl _)
  · -- exfs
    obtain ⟨f0, f1, f2, f3, f4, f5⟩ := hf b hb
    exact fun z => f2 (qGk I z f1)
  · -- loc
    have h1' : N'[i]? = some x := h1
    have hsub : ∃ k, sub[i]? = some (some k) ∧ (σ[k]?).join = some v := by
      unfold subσ at h2
      rw [List.getElem?_map] at h2
      cases e : sub[i]? with
      | none => rw [e] at h2; cases h2
      | some o =>
        rw [e] at h2
        cases o with
        | none => cases h2
        | some k => exact ⟨k, rfl, by simpa using h2⟩
    obtain ⟨k, hk1, hk2⟩ := hsub
    obtain ⟨nk, fx⟩ := O.sub i k x hk1 h1'
    have sk : σ[k]? = some (some v) := by
      cases e : σ[k]? with
      | none => rw [e] at hk2; cases hk2
      | some o => rw [e] at hk2; cases o with
        | none => cases hk2
        | some y => cases hk2; rfl
    have cx := O.free _ (PySem.mem_of_lookup fx) rfl
    obtain ⟨m, hn, hl⟩ := I.loc
    obtain ⟨u, ru, lk⟩ := hl k x v nk sk (by
      rcases cx with z | z
      · exact .inr (.inl z)
      · exact .inr (.inr z))
    refine ⟨u, ru, .inr ⟨?_, ?_⟩⟩
    · show (qB1 X.env scope (s.heap.objs.size + 1)).kindOf x = some .cell ∨ (qB1 X.env scope (s.heap.objs.size + 1)).kindOf x = some .free
      rw [kindB, fx]
      by_cases hc : (NameKind.free == NameKind.free && X.env.scope.kind == .function && X.env.scope.names.lookup x == some .cell) = true
      · exact .inl (by rw [Option.map_some, if_pos hc])
      · exact .inr (by rw [Option.map_some, if_neg hc])
    · rcases lk with ⟨kl, _⟩ | ⟨_, c, hc, hcell⟩
      · exfalso
        have kl' : X.env.scope.names.lookup x = some .local := kl
        rcases cx with z | z <;> rw [kl'] at z <;> cases z
      · obtain ⟨c', hc'⟩ := has x (.inr fx)
        refine ⟨c', hc', ?_⟩
        rcases cf.1 x c' hc' with q | q
        · exfalso
          have e := qBo O.nd q.2.2
          rw [fx] at e; cases e
        · rw [hc] at q
          have e : c = c' := Option.some.inj q.2
          subst e
          exact hcell.keeps hk
  · -- freeC
    rcases cf.1 x c h with q | q
    · exact I.hok.fresh (by have := q.2.1; omega)
    · exact I.freeC x c q.2
  · -- pin
    have hp' : p = (s.heap.objs.size, o0) := by
      have : p ∈ ([] ++ [(s.heap.objs.size, o0)] : List (Addr × Obj)) := hp
      simpa using this
    subst hp'
    refine ⟨pushCells_keeps _ _ _ _ (Heap.get?_push_of_some _ (Heap.get?_push_size _ nf)), I.hok.fresh (Nat.le_refl _), Nat.ne_of_lt (Nat.lt_succ_self _), fun z => ?_, fun v z => ?_⟩
    · rcases List.mem_cons.mp (I.stkSub _ z) with e | e
      · exact absurd I.lt (by rw [← e]; exact Nat.lt_irrefl _)
      · exact I.nofs (Nat.le_refl _) e
    · exact nc v z
  · -- len
    show (subσ sub σ).length = N'.length
    unfold subσ
    rw [List.length_map, O.len]
theorem Inv.repin {acc : Addr} {o o' : Obj} {h' : Heap} {t' : Nat} (I : Inv X ((acc, o) :: pins) σ H s) (k : ∀ b u, b ≠ acc → s.heap.get? b = some u → h'.get? b = some u) (e : h'.get? acc = some o') (nc : ∀ v, o'.data ≠ .cell v) (hx : acc ∈ X.ex ∨ X.s₀.heap.objs.size ≤ acc) (np : ∀ p ∈ X.pn ++ pins, p.1 ≠ acc) :
    Inv X ((acc, o') :: pins) σ H { s with heap := h', toks := t' } := by
  have pa := I.pin (acc, o) (List.mem_append_right _ List.mem_cons_self)
  have I1 : Inv X pins σ H s := I.pins_of fun p hp => I.pin p (List.mem_append_right _ (List.mem_cons_of_mem _ hp))
  have I2 : Inv X pins σ H { s with heap := h', toks := t' } := I1.turned (t' := t') (it := acc) k pa.2.1 pa.2.2.1 hx
    (fun y c hy z => by
      obtain ⟨w', o2, ho2, hd2⟩ := I.cell y c hy
      rw [z, pa.1] at ho2
      exact pa.2.2.2.2 _ (by cases ho2; exact hd2)) np
  refine I2.pins_of fun p hp => ?_
  rcases List.mem_cons.mp hp with z | z
  · subst z
    exact ⟨e, pa.2.1, pa.2.2.1, pa.2.2.2.1, nc⟩
  · exact I2.pin p (List.mem_append_right _ z)
end
def qCp (tpos : Pos) (it : Value) (target : Expr) (env : Env) (ifs : List Expr) (body : Sem Unit) (k : Sem Fin) : Sem Fin := do
  standAt tpos
  match ← pyNext it with
  | none => pure (.done .next)
  | some v =>
    letOwnedTupleGo target it v
    assign target env v
    let mut ok := true
    for c in ifs do
      if ok then ok ← isTrue c env (eval c env)
    if ok then
      body
    k
theorem compLoop_gen {prog : Program} {w : World} {A : Around} {R : Result → Shared → Prop} {s : Shared} {e target : Expr} {d : Nat} {tpos : Pos} {ifs : List Expr} {it acc : Value} {env : Env} {body : Sem Unit} (hsh : compTurn e d it acc env = qCp tpos it target env ifs body (again (.compLoop e d it acc env))) (hdn : ∀ (A : Around) (Q : PySem.Fin → Shared → Prop) (E : Value → Shared → Prop) (s : Shared), wpAny (model prog w) A ((compTurn e d it acc env).onRaise (fun x => do noteFrame x env; theTreesLotGoes x)) Q E s → wpAny (model prog w) (A.under (.compLoop e d it acc env)) ((model prog w).den (.compLoop e d it acc env)) Q E s) (I : Nat → Shared → Prop)
    (turn : ∀ n s, I n s → wpAny (model prog w) A (pyNext it) (fun r s₁ => match r with
      | none => R (.ok .next) s₁
      | some v => wpAny (model prog w) A (letOwnedTupleGo target it v) (fun _ s₁' => wpAny (model prog w) A (assign target env v) (fun _ s₂ =>
          wpAny (model prog w) A (forIn ifs true fun c r => if r = true then do let ok ← isTrue c env (eval c env); pure (ForInStep.yield ok) else pure (ForInStep.yield r)) (fun ok s₃ =>
            if ok = true then wpAny (model prog w) A body (fun _ s₅ => ∃ m, m < n ∧ I m s₅) (fun _ _ => False) s₃
            else ∃ m, m < n ∧ I m s₃) (fun _ _ => False) s₂) (fun _ _ => False) s₁') (fun _ _ => False) s₁) (fun _ _ => False) s)
    (n : Nat) (h : I n s) : codeAny (model prog w) A (.compLoop e d it acc env) R s := by
  refine codeAny_loop rfl I (fun n s hI => ?_) n h
  refine hdn _ _ _ _ (wpAny_noted ?_)
  rw [hsh]
  unfold qCp
  refine wpAny_bind (wpAny_standAt (wpAny_bind (wpAny_mono (turn n s hI) (fun r s₁ h₁ => ?_) fun _ _ h' => h'.elim)))
  cases r with
  | none => exact wpAny_pure h₁
  | some v =>
    refine wpAny_bind (wpAny_mono h₁ (fun _ s₁' h₁ => ?_) fun _ _ h' => h'.elim)
    refine wpAny_bind (wpAny_mono h₁ (fun _ s₂ h₂ => wpAny_bind (wpAny_mono h₂ (fun ok s₃ h₃ => ?_) fun _ _ h' => h'.elim)) fun _ _ h' => h'.elim)
    cases ok with
    | false => exact wpAny_pure ⟨rfl, h₃⟩
    | true => exact wpAny_bind (wpAny_mono h₃ (fun _ s₅ h₅ => wpAny_pure ⟨rfl, h₅⟩) fun _ _ h' => h'.elim)
section
variable {AS : Type}
abbrev TB (AS : Type) := AS → St → Hp → (AS → St → Hp → Prop) → Prop
def PBd (X : Cx) (AO : AS → Obj → Prop) (acc : Addr) (body : Sem Unit) (tb : TB AS) : Prop :=
  ∀ (pins : List (Addr × Obj)) (s : Shared) (σ : St) (H : Hp) (a : AS) (o : Obj) (Q : AS → St → Hp → Prop), Inv X ((acc, o) :: pins) σ H s → (∀ p ∈ X.pn ++ pins, p.1 ≠ acc) → (acc ∈ X.ex ∨ X.s₀.heap.objs.size ≤ acc) → AO a o → tb a σ H Q →
    wpAny (model X.prog X.w) X.A body (fun _ s' => ∃ (a' : AS) (o' : Obj) (σ' : St) (H' : Hp), Inv X ((acc, o') :: pins) σ' H' s' ∧ AO a' o' ∧ Q a' σ' H') (fun _ _ => False) s
def qGj (J : It) (g : TG) (tt : TT) (tb : TB AS) (Q : AS → St → Hp → Prop) (a0 : AS) (σ0 : St) (H0 : Hp) : Prop :=
  ∃ W : Nat → Nat → AS → St → Hp → Prop, (∃ m, W 0 m a0 σ0 H0) ∧ ∀ i m a σ H, W i m a σ H →
    (J.stop i H ∧ Q a σ H) ∨
    (J.go i H ∧ ∀ x H', J.yld i H x H' → g x σ H' fun σ2 H2 => tt σ2 H2 fun b H3 =>
      if b = true then tb a σ2 H3 (fun a' σ' H' => ∃ m', m' < m ∧ W (i + 1) m' a' σ' H') else ∃ m', m' < m ∧ W (i + 1) m' a σ2 H3)
theorem gloop {X : Cx} {AO : AS → Obj → Prop} {e target : Expr} {d : Nat} {tpos : Pos} {ifs : List Expr} {J : It} {fp : List Addr} {it acc : Addr} {tn : Nat → Heap → Prop} {body : Sem Unit} {g : TG} {tt : TT} {tb : TB AS} {Q : AS → St → Hp → Prop} {R : Result → Shared → Prop}
    {pins : List (Addr × Obj)} {s : Shared} {σ : St} {H : Hp} {a : AS} {o : Obj}
    (hc : X.calm = true) (xxe : X.xe = fun _ _ => False) (hsh : compTurn e d (.ref it) (.ref acc) X.env = qCp tpos (.ref it) target X.env ifs body (again (.compLoop e d (.ref it) (.ref acc) X.env))) (hdn : ∀ (A : Around) (Q : PySem.Fin → Shared → Prop) (E : Value → Shared → Prop) (s : Shared), wpAny (model X.prog X.w) A ((compTurn e d (.ref it) (.ref acc) X.env).onRaise (fun x => do noteFrame x X.env; theTreesLotGoes x)) Q E s → wpAny (model X.prog X.w) (A.under (.compLoop e d (.ref it) (.ref acc) X.env)) ((model X.prog X.w).den (.compLoop e d (.ref it) (.ref acc) X.env)) Q E s)
    (T : Turn X.prog X.w X.K target J fp it tn) (st : tn 0 s.heap) (hf : ∀ b ∈ fp, FpOk X ((acc, o) :: pins) H b) (hg : PG X target g) (ht : PTs X ifs tt) (hb : PBd X AO acc body tb)
    (I : Inv X ((acc, o) :: pins) σ H s) (np : ∀ p ∈ X.pn ++ pins, p.1 ≠ acc) (hx : acc ∈ X.ex ∨ X.s₀.heap.objs.size ≤ acc) (ha : AO a o) (rd : qGj J g tt tb Q a σ H)
    (hR : ∀ (s' : Shared) (a' : AS) (o' : Obj) (σ' : St) (H' : Hp), Inv X ((acc, o') :: pins) σ' H' s' → AO a' o' → Q a' σ' H' → (∀ b ∈ fp, H' b = none) → R (.ok .next) s') :
    codeAny (model X.prog X.w) X.A (.compLoop e d (.ref it) (.ref acc) X.env) R s := by
  obtain ⟨W, ⟨m0, w0⟩, turn⟩ := rd
  have stat : ∀ {o' : Obj} {H' : Hp}, (∀ b ∈ fp, H' b = none) → ∀ b ∈ fp, FpOk X ((acc, o') :: pins) H' b := fun {o' H'} hn b hb => by
    obtain ⟨f0, f1, f2, f3, f4, f5⟩ := hf b hb
    refine ⟨hn b hb, f1, f2, f3, f4, fun p hp => ?_⟩
    rcases List.mem_append.mp hp with z | z
    · exact f5 p (List.mem_append_left _ z)
    · rcases List.mem_cons.mp z with z | z
      · rw [z]; exact f5 (acc, o) (List.mem_append_right _ List.mem_cons_self)
      · exact f5 p (List.mem_append_right _ (List.mem_cons_of_mem _ z))
  refine compLoop_gen hsh hdn (fun n s' => ∃ (i : Nat) (a' : AS) (o' : Obj) (σ' : St) (H' : Hp), Inv X ((acc, o') :: pins) σ' H' s' ∧ AO a' o' ∧ tn i s'.heap ∧ (∀ b ∈ fp, H' b = none) ∧ W i n a' σ' H') ?_ m0 ⟨0, a, o, σ, H, I, ha, st, fun b hb => (hf b hb).1, w0⟩
  rintro n s4 ⟨i, a4, o4, σ4, H4, I4, ha4, st4, fr4, w4⟩
  rcases turn i n a4 σ4 H4 w4 with ⟨stop, q⟩ | ⟨go, step⟩
  · refine thn (T.done X rfl rfl rfl hc i _ s4 σ4 H4 (fun _ _ => False) I4 (stat fr4) st4 stop) fun r s5 ⟨hr, I5⟩ => ?_
    subst hr
    exact hR s5 a4 o4 σ4 H4 I5 ha4 q fr4
  · refine thn (T.item X rfl rfl rfl hc i _ s4 σ4 H4 (fun _ _ => False) I4 (stat fr4) st4 go) fun r s5 ⟨u, hr, h5⟩ => ?_
    subst hr
    refine thn h5 fun _ s6 ⟨x, H6, I6, r6, y6, st6, fr6⟩ => ?_
    have I6' := I6.pinned (stat fr6) (T.obj _ _ st6)
    have back : ∀ {o' : Obj} {σ' : St} {H' : Hp} {s' : Shared}, Inv X ((acc, o') :: (pins ++ pinsAt fp s6.heap)) σ' H' s' → Inv X ((acc, o') :: pins) σ' H' s' ∧ tn (i + 1) s'.heap ∧ ∀ b ∈ fp, H' b = none := fun {o' σ' H' s'} I' => by
      refine ⟨Inv.unpinned (pl := pinsAt fp s6.heap) I', T.keep _ _ _ st6 fun b hb o e => ?_, fun b hb => ?_⟩
      · exact (I'.pin (b, o) (List.mem_append_right _ (List.mem_cons_of_mem _ (List.mem_append_right _ (qBw hb e))))).1
      · obtain ⟨o, e, d⟩ := T.obj _ _ st6 b hb
        exact (I'.pin (b, o) (List.mem_append_right _ (List.mem_cons_of_mem _ (List.mem_append_right _ (qBw hb e))))).2.1
    have np' : ∀ p ∈ X.pn ++ (pins ++ pinsAt fp s6.heap), p.1 ≠ acc := fun p hp => by
      rcases List.mem_append.mp hp with z | z
      · exact np p (List.mem_append_left _ z)
      · rcases List.mem_append.mp z with z | z
        · exact np p (List.mem_append_right _ z)
        · obtain ⟨hb, _⟩ := of_pinsAt z
          exact Ne.symm ((stat (o' := o4) fr6 p.1 hb).2.2.2.2.2 (acc, o4) (List.mem_append_right _ List.mem_cons_self))
    have tg := hg _ s6 σ4 H6 x u _ I6' r6 (step x H6 y6)
    rw [xxe] at tg
    refine thn tg fun _ s7 ⟨σ7, H7, I7, q7⟩ => ?_
    have tts := ht _ s7 σ7 H7 _ I7 q7
    rw [xxe] at tts
    refine thn tts fun b s8 ⟨H8, I8, q8⟩ => ?_
    cases b with
    | false =>
      rw [if_neg Bool.false_ne_true] at q8 ⊢
      obtain ⟨m', hm', w8⟩ := q8
      obtain ⟨b1, b2, b3⟩ := back I8
      exact ⟨m', hm', i + 1, a4, o4, σ7, H8, b1, ha4, b2, b3, w8⟩
    | true =>
      rw [if_pos rfl] at q8 ⊢
      refine thn (hb _ s8 σ7 H8 a4 o4 _ I8 np' hx ha4 q8) fun _ s9 ⟨a9, o9, σ9, H9, I9, ha9, m', hm', w9⟩ => ?_
      obtain ⟨b1, b2, b3⟩ := back I9
      exact ⟨m', hm', i + 1, a9, o9, σ9, H9, b1, ha9, b2, b3, w9⟩
end
end L2
namespace L2
open PySem PySem.Spec PyProof.Rows
theorem qEi {prog : Program} {w : World} {A : Around} {R : Result → Shared → Prop} {s : Shared} {e : Expr} {d : Nat} {g : Comprehension} {it acc : Value} {env : Env} (hcl : (clausesOf e)[d]? = some g) (hga : g.is_async = 0)
    (hdn : ∀ (A : Around) (Q : PySem.Fin → Shared → Prop) (E : Value → Shared → Prop) (s : Shared), wpAny (model prog w) A ((compStart e d it acc env).onRaise (fun x => do noteFrame x env; standAt theWindowsPlace)) Q E s → wpAny (model prog w) (A.under (.compStart e d it acc env)) ((model prog w).den (.compStart e d it acc env)) Q E s)
    (hq : ∀ it', (Code.compLoop e d it' acc env).quiet = true)
    (h0 : codeAny (model prog w) A (.compLoop e d it acc env) R s)
    (h : wpAny (model prog w) A (pyIter it) (fun it' s' => codeAny (model prog w) A (.compLoop e d it' acc env) R s') (fun _ _ => False) s) : codeAny (model prog w) A (.compStart e d it acc env) R s := by
  refine codeAny_of_tree (hdn _ _ _ _ (wpAny_notedAt ?_))
  unfold compStart
  rw [hcl]
  show wpAny _ _ (if (g.is_async != 0) = true then _ else _) _ _ s
  rw [if_neg (by rw [hga]; decide)]
  refine wpAny_bind (wpAny_askSetting (wpAny_ite ?_))
  split
  · first
      | exact wpAny_bind (wpAny_pure (wpAny_pure (And.intro (hq _) h0)))
      | exact wpAny_pure (And.intro (hq _) h0)
  · exact wpAny_bind (wpAny_rule (wpAny_bind (wpAny_standAt (wpAny_bind (wpAny_mono h (fun it' s' h' => wpAny_pure (And.intro (hq _) h')) fun _ _ x => x.elim)))))
section
variable {X : Cx} {pins : List (Addr × Obj)} {σ : St} {H : Hp} {s : Shared} {AS : Type}
theorem gcore {e target : Expr} {gcl : Comprehension} {tpos : Pos} {ifs : List Expr} {scope : Scope} {N' : List Str} {sub : List (Option Nat)} {J : It} {fp : List Addr} {it : Addr} {tn : Nat → Heap → Prop} {g : TG} {tt : TT} {tb : TB AS} {o0 : Obj} {a0 : AS} {AO : AS → Obj → Prop} {HOf : Addr → AS → HO} {newAcc : Sem Value} {body : Addr → Env → Sem Unit}
    {Qe : AS → Hp → Prop} {E : Value → Shared → Prop} {RR : Value → Addr → Result → Shared → Prop}
    (hnew : ∀ (A : Around) (s : Shared) (Q : Value → Shared → Prop) (E : Value → Shared → Prop), Q (.ref s.heap.objs.size) { s with heap := s.heap.push o0 } → wpAny (model X.prog X.w) A newAcc Q E s) (nf : o0.isFreed = false) (nc : ∀ a o, AO a o → ∀ v, o.data ≠ .cell v) (hA0 : AO a0 o0)
    (hHO : ∀ (H' : Hp) (h : Heap) (acc : Addr) (a : AS) (o : Obj), sysModules < acc → AO a o → h.get? acc = some o → qCe X.prog X.w H' h acc (HOf acc a))
    (hcl : (clausesOf e)[0]? = some gcl) (hga : gcl.is_async = 0)
    (hdnS : ∀ (it acc : Value) (env : Env) (A : Around) (Q : PySem.Fin → Shared → Prop) (E : Value → Shared → Prop) (s : Shared), wpAny (model X.prog X.w) A ((compStart e 0 it acc env).onRaise (fun x => do noteFrame x env; standAt theWindowsPlace)) Q E s → wpAny (model X.prog X.w) (A.under (.compStart e 0 it acc env)) ((model X.prog X.w).den (.compStart e 0 it acc env)) Q E s)
    (hdnL : ∀ (it acc : Value) (env : Env) (A : Around) (Q : PySem.Fin → Shared → Prop) (E : Value → Shared → Prop) (s : Shared), wpAny (model X.prog X.w) A ((compTurn e 0 it acc env).onRaise (fun x => do noteFrame x env; theTreesLotGoes x)) Q E s → wpAny (model X.prog X.w) (A.under (.compLoop e 0 it acc env)) ((model X.prog X.w).den (.compLoop e 0 it acc env)) Q E s)
    (hq : ∀ it acc env, (Code.compLoop e 0 it acc env).quiet = true)
    (hsh : ∀ (it acc : Addr) (env : Env), compTurn e 0 (.ref it) (.ref acc) env = qCp tpos (.ref it) target env ifs (body acc env) (again (.compLoop e 0 (.ref it) (.ref acc) env)))
    (hc : X.calm = true) (I : Inv X pins σ H s) (O : CmpOk X.N X.env.scope N' scope sub) (T : Turn X.prog X.w X.K target J fp it tn) (st : tn 0 s.heap) (hf : ∀ b ∈ fp, FpOk X pins H b)
    (B : ∀ C s H fp, PG (qB6 X scope N' C s H fp) target g ∧ PTs (qB6 X scope N' C s H fp) ifs tt ∧ ∀ acc, PBd (qB6 X scope N' C s H fp) AO acc (body acc (qB6 X scope N' C s H fp).env) tb)
    (rd : qGj J g tt tb (fun a _ H' => Qe a H') a0 (subσ sub σ) H)
    (hRR : ∀ (acc C : Addr) (a : AS) (H' : Hp) (s' : Shared), Inv X pins σ (upd H' acc (HOf acc a)) s' → FpOk X pins (upd H' acc (HOf acc a)) C → (∃ m, s'.heap.Ns C m) → H' acc = none → Qe a H' → RR (.ref acc) C (.ok .next) s') :
    wpAny (model X.prog X.w) X.A newAcc (fun acc s₃ => wpAny (model X.prog X.w) X.A (newFunctionEnv scope X.env.globals (qCj X.env.cells scope.names []) [] X.env.qual none .none (some X.env)) (fun cenv s₄ =>
      codeAny (model X.prog X.w) X.A (.compStart e 0 (.ref it) acc { cenv with scope := relabel scope X.env }) (RR acc cenv.locals) s₄) E s₃) E s := by
  refine hnew _ _ _ _ (qD4 ?_)
  have hfl : ∀ b ∈ fp, b < s.heap.objs.size := fun b hb => by
    obtain ⟨o, e, _⟩ := T.obj _ _ st b hb
    exact Heap.lt_size e
  have I0 := inv_compO (o0 := o0) (sub := sub) I O hf hfl nf (nc a0 o0 hA0)
  have sz3 : (s.heap.push o0).objs.size = s.heap.objs.size + 1 := Heap.size_push ..
  dsimp only
  show codeAny _ _ (.compStart _ 0 (.ref it) (.ref s.heap.objs.size) { scope := relabel scope X.env, locals := (s.heap.push o0).objs.size, globals := X.env.globals, cells := cellsFrom ((s.heap.push o0).objs.size + 1) scope.names (qCj X.env.cells scope.names []), qual := X.env.qual, func := none, code := X.env.code, frame := X.env.frame, builtins := X.env.builtins })
    (RR (.ref s.heap.objs.size) (s.heap.push o0).objs.size) { s with heap := pushCells ((s.heap.push o0).push { cls := .type "dict", data := .dict #[] }) scope.names }
  rw [sz3]
  show codeAny _ _ (.compStart _ 0 (.ref it) (.ref s.heap.objs.size) (qB1 X.env scope (s.heap.objs.size + 1))) (RR (.ref s.heap.objs.size) (s.heap.objs.size + 1)) _
  generalize hs0 : ({ s with heap := pushCells ((s.heap.push o0).push { cls := .type "dict", data := .dict #[] }) scope.names } : Shared) = s0 at I0 ⊢
  have hk0 : ∀ b o, s.heap.get? b = some o → s0.heap.get? b = some o := fun b o e => by
    rw [← hs0]
    exact pushCells_keeps _ _ b o (Heap.get?_push_of_some _ (Heap.get?_push_of_some _ e))
  have st0 : tn 0 s0.heap := T.keep _ _ _ st fun b hb o e => hk0 b o e
  clear hs0 sz3
  generalize hX : qB6 X scope N' (s.heap.objs.size + 1) s H fp = X' at I0
  have xp : X'.prog = X.prog := by rw [← hX]; rfl
  have xw : X'.w = X.w := by rw [← hX]; rfl
  have xK : X'.K = X.K := by rw [← hX]; rfl
  have xA : X'.A = X.A := by rw [← hX]; rfl
  have xc : X'.calm = true := by rw [← hX]; exact hc
  have xe : X'.env = qB1 X.env scope (s.heap.objs.size + 1) := by rw [← hX]; rfl
  have xx : X'.ex = fp := by rw [← hX]; rfl
  have xf : X'.fs = frs X.stack := by rw [← hX]; rfl
  have xpn : X'.pn = [] := by rw [← hX]; rfl
  have x0 : X'.s₀ = s := by rw [← hX]; rfl
  have xh : X'.H₀ = H := by rw [← hX]; rfl
  have xxe : X'.xe = fun _ _ => False := by rw [← hX]; rfl
  obtain ⟨hg, ht, hbd⟩ := B (s.heap.objs.size + 1) s H fp
  rw [hX] at hg ht hbd
  clear hX
  have f0' : ∀ b ∈ fp, FpOk X' [(s.heap.objs.size, o0)] H b := fun b hb => by
    obtain ⟨f0, f1, f2, f3, f4, f5⟩ := hf b hb
    refine ⟨f0, (I0.ok.exf b (by rw [xx]; exact hb)).1, I0.ok.exfs b (by rw [xx]; exact hb), .inl (by rw [xx]; exact hb), (I0.ok.exf b (by rw [xx]; exact hb)).2, fun p hp' => ?_⟩
    rw [xpn, List.nil_append, List.mem_singleton] at hp'
    rw [hp']
    exact Nat.ne_of_gt (hfl b hb)
  have loop : codeAny (model X.prog X.w) X.A (.compLoop e 0 (.ref it) (.ref s.heap.objs.size) (qB1 X.env scope (s.heap.objs.size + 1))) (RR (.ref s.heap.objs.size) (s.heap.objs.size + 1)) s0 := by
    have T' : Turn X'.prog X'.w X'.K target J fp it tn := by rw [xp, xw, xK]; exact T
    have hb0 := hbd s.heap.objs.size
    have key := gloop (X := X') (AO := AO) (e := e) (d := 0) (tpos := tpos) (R := RR (.ref s.heap.objs.size) (s.heap.objs.size + 1)) (pins := []) (a := a0) (o := o0) (acc := s.heap.objs.size) xc xxe (hsh it s.heap.objs.size X'.env) (by rw [xp, xw]; exact hdnL _ _ _) T' st0 f0' hg ht hb0 I0 (by rw [xpn]; exact fun p hp => absurd hp (by simp)) (.inr (by rw [x0]; exact Nat.le_refl _)) hA0 rd ?_
    · rw [xp, xw, xA, xe] at key
      exact key
    intro s5 a5 o5 σ5 H4 I5 ha5 q fr5
    have pa := I5.pin (s.heap.objs.size, o5) (by rw [xpn]; simp)
    have nacc : H4 s.heap.objs.size = none := pa.2.1
    have nC : H4 (s.heap.objs.size + 1) = none := by have z := I5.free; rw [xe] at z; exact z
    have un : Un (frs X.stack) fp H H4 s.heap s5.heap := by have z := I5.base; rw [xf, xx, xh, x0] at z; exact z
    have un2 : Un (frs X.stack) fp H (upd H4 s.heap.objs.size (HOf s.heap.objs.size a5)) s.heap s5.heap := by
      refine ⟨un.keep, un.slot, fun b o e n hx => ?_, un.there, fun b xs e => ?_, fun b o u e => ?_, fun b ps e => ?_⟩
      · rw [qAr (Nat.ne_of_lt (Heap.lt_size e))]
        exact un.free b o e n hx
      · have z := un.tups b xs e
        rw [qAr (qAp z nacc)]; exact z
      · have z := un.frzs b o u e
        rw [qAr (qAp z nacc)]; exact z
      · obtain ⟨more, z⟩ := un.tbls b ps e
        exact ⟨more, by rw [qAr (qAp z nacc)]; exact z⟩
    have hok5 : HOk X.prog X.w H4 s5.heap := by have z := I5.hok; rw [xp, xw] at z; exact z
    have hok2 : HOk X.prog X.w (upd H4 s.heap.objs.size (HOf s.heap.objs.size a5)) s5.heap := fun b u e => by
      by_cases hb : b = s.heap.objs.size
      · subst hb
        rw [upd_same] at e
        cases e
        exact hHO _ _ _ _ _ I.big ha5 pa.1
      · rw [qAr hb] at e
        exact (hok5 b u e).stay (fun _ _ _ q => q) (fun c q => by rw [qAr (qAp q nacc)]; exact q) fun c xs q => by rw [qAr (qAp q nacc)]; exact q
    have os5 : s5.os = s.os := by have z := I5.os; rw [x0] at z; exact z
    have J5 : Inv X pins σ (upd H4 s.heap.objs.size (HOf s.heap.objs.size a5)) s5 := I.call' os5 un2 hok2 I5.bare fun b hb => by
      obtain ⟨f0, f1, f2, f3, f4, f5⟩ := hf b hb
      exact ⟨f3, f1, f4, f5⟩
    refine hRR _ _ a5 H4 s5 J5 (I.fpOk (Nat.le_succ _) ?_) ?_ nacc q
    · rw [qAr (Nat.succ_ne_self _)]; exact nC
    · obtain ⟨m, hn, _⟩ := I5.loc
      rw [xe] at hn
      exact ⟨m, hn⟩
  exact qEi hcl hga (hdnS _ _ _) (fun it' => hq _ _ _) loop (T.self _ 0 _ _ _ st0 loop)
end
end L2
namespace L2
open PySem PySem.Spec PyProof.Rows
def qE9 (e iter2 : Expr) (acc : Addr) (env : Env) : Sem Unit := do
  let x ← eval iter2 env
  standAt iter2.pos
  let x ← foldedSetIterable iter2 env x
  let _ ← runOwn (.compStart e 1 (← holding [x] (pyIter x)) (.ref acc) env) env
def tNest {AS : Type} (wi : TI) (g : TG) (tt : TT) (tb : TB AS) : TB AS := fun a σ H Q => wi σ H fun J H1 => qGj J g tt tb Q a σ H1
theorem pbd_nest {X : Cx} {AS : Type} {AO : AS → Obj → Prop} {acc : Addr} {e iter2 target2 : Expr} {ifs2 : List Expr} {tpos2 : Pos} {gcl : Comprehension} {body : Sem Unit} {wi : TI} {g : TG} {tt : TT} {tb : TB AS} (hc : X.calm = true) (xxe : X.xe = fun _ _ => False)
    (hi : PI X target2 iter2 wi) (hg : PG X target2 g) (ht : PTs X ifs2 tt) (hb : PBd X AO acc body tb) (hfold : ∀ x, foldedSetIterable iter2 X.env x = pure x)
    (hcl : (clausesOf e)[1]? = some gcl) (hga : gcl.is_async = 0)
    (hsh : ∀ it : Addr, compTurn e 1 (.ref it) (.ref acc) X.env = qCp tpos2 (.ref it) target2 X.env ifs2 body (again (.compLoop e 1 (.ref it) (.ref acc) X.env)))
    (hdnS : ∀ (it : Value) (A : Around) (Q : PySem.Fin → Shared → Prop) (E : Value → Shared → Prop) (s : Shared), wpAny (model X.prog X.w) A ((compStart e 1 it (.ref acc) X.env).onRaise (fun x => do noteFrame x X.env; standAt theWindowsPlace)) Q E s → wpAny (model X.prog X.w) (A.under (.compStart e 1 it (.ref acc) X.env)) ((model X.prog X.w).den (.compStart e 1 it (.ref acc) X.env)) Q E s)
    (hdnL : ∀ (it : Value) (A : Around) (Q : PySem.Fin → Shared → Prop) (E : Value → Shared → Prop) (s : Shared), wpAny (model X.prog X.w) A ((compTurn e 1 it (.ref acc) X.env).onRaise (fun x => do noteFrame x X.env; theTreesLotGoes x)) Q E s → wpAny (model X.prog X.w) (A.under (.compLoop e 1 it (.ref acc) X.env)) ((model X.prog X.w).den (.compLoop e 1 it (.ref acc) X.env)) Q E s)
    (hq : ∀ it, (Code.compLoop e 1 it (.ref acc) X.env).quiet = true) : PBd X AO acc (qE9 e iter2 acc X.env) (tNest wi g tt tb) := by
  intro pins s σ H a o Q I np hx ha h
  have h0 := hi _ s σ H _ I h
  rw [xxe] at h0
  unfold qE9
  refine wpAny_bind (thn h0 fun v s1 h1 => wpAny_bind (wpAny_standAt (wpAny_bind (wpAny_of_eq (hfold v) (wpAny_bind (wpAny_holding (thn h1 fun itv s2 h2 => ?_)))))))
  obtain ⟨it, fp, tn, J, H2, e2, I2, T, st2, f2, rd⟩ := h2
  subst e2
  refine wpAny_bind (wpAny_runOwn ?_)
  have loop := gloop (X := X) (AO := AO) (e := e) (d := 1) (tpos := tpos2) (R := fun r s' => match r with
      | .ok f => wpAny (model X.prog X.w) X.A (pure () : Sem Unit) (fun _ s' => ∃ (a' : AS) (o' : Obj) (σ' : St) (H' : Hp), Inv X ((acc, o') :: pins) σ' H' s' ∧ AO a' o' ∧ Q a' σ' H') (fun _ _ => False) s'
      | .error e => cameBackBy (model X.prog X.w) X.A X.env (fun _ _ => False) e s') hc xxe (hsh it) (hdnL _) T st2 f2 hg ht hb I2 np hx ha rd
    (fun s' a' o' σ' H' I' ha' q' _ => wpAny_pure ⟨a', o', σ', H', I', ha', q'⟩)
  exact qEi hcl hga (hdnS _) hq loop (T.self _ 0 _ _ _ st2 loop)
def qFz (P : Program) (w : World) (ss : List Str) (o : Obj) : Prop :=
  ∃ (es : Array (Int × Value)) (ep : Nat) (t : SetTable), o = sOb es ep t ∧ ElemsOf (PySem.strKind P w) es.toList ∧ StrsAre (es.toList.map (·.2)) ss ∧ es.size < scanBound ∧ t.fits es.size = true ∧ t.led = !w.params.followText "set-order" ∧ (es.size ≠ 0 → t.plain = false)
theorem qFz.set {P : Program} {w : World} {ss : List Str} {o : Obj} {h : Heap} {a : Addr} (x : qFz P w ss o) (e : h.get? a = some o) : qBk P w h a ss := by
  obtain ⟨es, ep, t, rfl, r⟩ := x
  exact ⟨es, ep, t, e, r⟩
theorem qBk.obj {P : Program} {w : World} {ss : List Str} {h : Heap} {a : Addr} (x : qBk P w h a ss) : ∃ o, h.get? a = some o ∧ qFz P w ss o := by
  obtain ⟨es, ep, t, e, r⟩ := x
  exact ⟨_, e, es, ep, t, rfl, r⟩
theorem qFz.nocell {P : Program} {w : World} {ss : List Str} {o : Obj} (x : qFz P w ss o) : ∀ v, o.data ≠ .cell v := by
  obtain ⟨es, ep, t, rfl, _⟩ := x
  intro v z; cases z
def setBody (elt : Expr) (acc : Addr) (env : Env) : Sem Unit := do
  let v ← eval elt env
  standAt elt.pos
  let _ ← call (.builtin "set.add") [.ref acc, v]
def tPut (te : TE) : TB (List Str) := fun ss σ H Q => te σ H fun v H' => ∃ x : Str, v = .str x ∧ ss.length < 1000 ∧ ∀ ss', (if x ∈ ss then ss' = ss else ss'.Perm (ss ++ [x])) → Q ss' σ H'
theorem pbd_set {X : Cx} {acc : Addr} {elt : Expr} {te : TE} (xxe : X.xe = fun _ _ => False) (he : PE X elt te) : PBd X (qFz X.prog X.w) acc (setBody elt acc X.env) (tPut te) := by
  intro pins s σ H a o Q I np hx ha h
  have h0 := he _ s σ H _ I h
  rw [xxe] at h0
  unfold setBody
  refine wpAny_bind (thn h0 fun v s1 ⟨y, H1, I1, r1, x, ex, hl, q⟩ => wpAny_bind (wpAny_standAt (wpAny_bind ?_)))
  subst ex
  obtain ⟨tk, rfl⟩ := r1
  have pa := I1.pin (acc, o) (List.mem_append_right _ List.mem_cons_self)
  have hS : qBk X.prog X.w s1.heap acc a := ha.set pa.1
  have hT : s1.TypeIs (.ref acc) "set" := by
    obtain ⟨es, ep, t, ho, _⟩ := hS
    exact ⟨_, ho, rfl⟩
  refine wpAny_call_entry PySem.F.slot_set_add hT PySem.F.entry_set_add ?_ (PySem.F.args_set_add_2 _ _)
  unfold Builtin.«set.add» Builtin.Frozenset.oneOther
  simp only [List.isEmpty_nil, bind_assoc]
  unfold Builtin.Frozenset.addrOf setAdd
  refine wpAny_bind (wpAny_pure ?_)
  try dsimp only
  refine wpAny_bind (wpAny_pure ?_)
  try dsimp only
  refine wpAny_bind (wpAny_holding (wpAny_bind ((PySem.strKind X.prog X.w).pyHash (strKind_is X.prog X.w x tk) ?_)))
  refine tset_add (s := { s1 with toks := s1.toks + 1 }) hS (by have : scanBound = 4096 := rfl; omega) fun h2 ss2 sb2 hS2 q2 => ?_
  show wpAny _ _ (ret Value.none) _ _ _
  refine wpAny_pure ⟨_, rfl, wpAny_pure ?_⟩
  obtain ⟨o2, e2, ho2⟩ := hS2.obj
  exact ⟨ss2, o2, σ, H1, I1.repin (t' := s1.toks + 1) (fun b u hb e => (sb2.2 b hb).trans e) e2 ho2.nocell hx np, ho2, q ss2 q2⟩
end L2
namespace L2
open PySem PySem.Spec PyProof.Rows
structure GC (P : Program) (w : World) {AS : Type} (e target iter : Expr) (ifs : List Expr) (scope : Scope) (tpos : Pos) (newAcc : Sem Value) (body : Addr → Env → Sem Unit) (o0 : Obj) (a0 : AS) (AO : AS → Obj → Prop) (HOf : Addr → AS → HO) : Prop where
  new : ∀ (A : Around) (s : Shared) (Q : Value → Shared → Prop) (E : Value → Shared → Prop), Q (.ref s.heap.objs.size) { s with heap := s.heap.push o0 } → wpAny (model P w) A newAcc Q E s
  nf : o0.isFreed = false
  nc : ∀ a o, AO a o → ∀ v, o.data ≠ .cell v
  hA0 : AO a0 o0
  hHO : ∀ (H' : Hp) (h : Heap) (acc : Addr) (a : AS) (o : Obj), sysModules < acc → AO a o → h.get? acc = some o → qCe P w H' h acc (HOf acc a)
  cl : ∃ gs, clausesOf e = ⟨target, iter, ifs, 0⟩ :: gs
  dnS : ∀ (it acc : Value) (env : Env) (A : Around) (Q : PySem.Fin → Shared → Prop) (E : Value → Shared → Prop) (s : Shared), wpAny (model P w) A ((compStart e 0 it acc env).onRaise (fun x => do noteFrame x env; standAt theWindowsPlace)) Q E s → wpAny (model P w) (A.under (.compStart e 0 it acc env)) ((model P w).den (.compStart e 0 it acc env)) Q E s
  dnL : ∀ (it acc : Value) (env : Env) (A : Around) (Q : PySem.Fin → Shared → Prop) (E : Value → Shared → Prop) (s : Shared), wpAny (model P w) A ((compTurn e 0 it acc env).onRaise (fun x => do noteFrame x env; theTreesLotGoes x)) Q E s → wpAny (model P w) (A.under (.compLoop e 0 it acc env)) ((model P w).den (.compLoop e 0 it acc env)) Q E s
  q : ∀ it acc env, (Code.compLoop e 0 it acc env).quiet = true
  sh : ∀ (it acc : Addr) (env : Env), compTurn e 0 (.ref it) (.ref acc) env = qCp tpos (.ref it) target env ifs (body acc env) (again (.compLoop e 0 (.ref it) (.ref acc) env))
def tGath {AS : Type} (sub : List (Option Nat)) (wi : TI) (g : TG) (tt : TT) (tb : TB AS) (a0 : AS) (HOf : Addr → AS → HO) : TE := fun σ H Q => wi σ H fun J H1 =>
  qGj J g tt tb (fun a _ H' => ∀ r, H' r = none → Q (.ref r) (upd H' r (HOf r a))) a0 (subσ sub σ) H1
section
variable {X : Cx} {AS : Type} {e target iter : Expr} {ifs : List Expr} {scope sc : Scope} {pos tpos cpos : Pos} {N N' : List Str} {sub : List (Option Nat)} {wi : TI} {g : TG} {tt : TT} {tb : TB AS} {newAcc : Sem Value} {body : Addr → Env → Sem Unit} {o0 : Obj} {a0 : AS} {AO : AS → Obj → Prop} {HOf : Addr → AS → HO}
theorem pe_g (GG : GC X.prog X.w e target iter ifs scope tpos newAcc body o0 a0 AO HOf) (hev : eval e X.env = comprehension e scope X.env cpos newAcc false (eval iter X.env)) (hN : X.N = N) (hsc : X.env.scope = sc) (O : CmpOk N sc N' scope sub) (hc : X.calm = true) (hi : PI X target iter wi)
    (B : ∀ C s H fp, PG (qB6 X scope N' C s H fp) target g ∧ PTs (qB6 X scope N' C s H fp) ifs tt ∧ ∀ acc, PBd (qB6 X scope N' C s H fp) AO acc (body acc (qB6 X scope N' C s H fp).env) tb)
    (hs : ∀ x, foldedSetIterable iter X.env x = pure x := by intro _; rfl) : PE X e (tGath sub wi g tt tb a0 HOf) := by
  subst hN hsc
  intro pins s σ H Q I h
  rw [hev]
  obtain ⟨gs, hcl⟩ := GG.cl
  refine wpAny_comprehension_free (use := none) hcl hs (clos_of I O) O.kind (names_of O) (thn (hi pins s σ H _ I h) fun v s1 h1 => thn h1 fun itv s2 h2 => ?_)
  obtain ⟨it, fp, tn, J, H2, e, I2, T, st2, f2, rd⟩ := h2
  subst e
  refine gcore (RR := fun acc C => compPost (model X.prog X.w) X.A X.xe none (EP X pins σ Q) acc C) GG.new GG.nf GG.nc GG.hA0 GG.hHO (by rw [hcl]; rfl) rfl GG.dnS GG.dnL GG.q GG.sh hc I2 O T st2 f2 B rd fun acc C a H' s' I' fC hn na q => ?_
  obtain ⟨m, hn⟩ := hn
  obtain ⟨f0, f1, f3, f4, f5, f6⟩ := fC
  refine ⟨m, hn, fun h' sb => ?_⟩
  exact ⟨.ref acc, upd H' acc (HOf acc a), I'.turned (t' := s'.toks) (it := C) (fun b o hb e => (sb.2 b hb).trans e) f0 f1 f4 f5 f6, rfl, q acc na⟩
end
section
variable {P : Program} {w : World} {target iter target2 iter2 elt kx vx : Expr} {ifs ifs2 : List Expr} {scope : Scope} {pos : Pos}
theorem gc_set2 : GC P w (.SetComp elt [⟨target, iter, ifs, 0⟩, ⟨target2, iter2, ifs2, 0⟩] scope pos) target iter ifs scope iter.pos (newSet (.type "set")) (qE9 (.SetComp elt [⟨target, iter, ifs, 0⟩, ⟨target2, iter2, ifs2, 0⟩] scope pos) iter2) (setO w) ([] : List Str) (qFz P w) (SetS P w) where
  new := fun A s Q E h => by
    unfold newSet setsByText
    refine wpAny_bind (wpAny_bind (wpAny_askSetting (wpAny_pure ?_)))
    dsimp only
    simp only [newObj]
    exact wpAny_bind (wpAny_alloc (wpAny_pure h))
  nf := rfl
  nc := fun a o h => h.nocell
  hA0 := by
    obtain ⟨o, e, r⟩ := (setO_ok P w (h := (({} : Heap).push (setO w))) (a := ({} : Heap).objs.size) (Heap.get?_push_size _ rfl)).obj
    rw [Heap.get?_push_size _ rfl] at e
    cases e
    exact r
  hHO := fun H' h acc a o _ x e => ⟨x.set e, ⟨o, e⟩, fun h1 h2 z k => z.at k⟩
  cl := ⟨_, rfl⟩
  dnS := fun _ _ _ _ _ _ _ h => h
  dnL := fun _ _ _ _ _ _ _ h => h
  q := fun _ _ _ => rfl
  sh := fun it acc env => by
    unfold qCp qE9
    simp only [bind_assoc]
    rfl
end
end L2
namespace L2
open PySem PySem.Spec PyProof.Rows
end L2
namespace L2
open PySem PySem.Spec PyProof.Rows
end L2
namespace L2
open PySem PySem.Spec PyProof.Rows
section
variable {X : Cx}
end
end L2
namespace L2
open PySem PySem.Spec PyProof.Rows PySem.W
abbrev Rng (n : Nat) : Array Nat := List.toArray (List.range n)
def Gd (n : Nat) (p : Array Nat) : Prop := p.Perm (Rng n)
theorem Gd.lt {n : Nat} {p : Array Nat} (h : Gd n p) (h0 : 0 < n) (i : Nat) : p.getD i 0 < n := by
  by_cases hi : i < p.size
  · have e : p.getD i 0 = p[i] := by simp [Array.getD, hi]
    rw [e]
    have m : p[i] ∈ p.toList := by simp
    have m2 := (Array.perm_iff_toList_perm.mp h).mem_iff.mp m
    simpa using m2
  · have e : p.getD i 0 = 0 := by simp [Array.getD, hi]
    rw [e]; exact h0
theorem Gd.rev {n : Nat} {p : Array Nat} (h : Gd n p) (i j : Nat) : Gd n (kas_rev p i j) := (mirror_perm _ _ _ _).trans h
theorem Gd.bub {n : Nat} {p : Array Nat} (h : Gd n p) (i j : Nat) : Gd n (bubble p i j) := (bubble_perm _ _ _).trans h
section
variable {n : Nat} {cmp : Nat → Nat → (Bool → Shared → Prop) → Shared → Prop} {s : Shared} (hask : ∀ i j C, i < n → j < n → (∀ b, C b s) → cmp i j C s) (h0 : 0 < n)
include hask h0
end
def TupS (h : Heap) (v : Value) (t : List Str) : Prop := ∃ a its, v = .ref a ∧ IsTup h a its ∧ StrsAre its.toList t ∧ t ≠ []
section
variable {P : Program} {w : World} {A : Around} {E : Value → Shared → Prop} {s : Shared}
theorem qFe {h h' : Heap} {a : Addr} (k : ∀ b o, b ≠ a → h.get? b = some o → h'.get? b = some o) : ∀ {vs : List Value} {ts : List (List Str)}, Paired (TupS h) vs ts → (∀ v ∈ vs, v ≠ .ref a) → ∃ fs : List Value, KatTups h' vs fs ∧ fs.length = vs.length ∧ ∀ f ∈ fs, ∃ x t, f = Value.str x t
  | _, _, .nil, _ => ⟨[], trivial, rfl, fun f hf => by cases hf⟩
  | _, _, @Paired.cons _ _ _ v t l1 l2 hh tt, hn => by
    obtain ⟨fs, q1, q2, q3⟩ := qFe k tt fun u hu => hn u (List.mem_cons_of_mem _ hu)
    obtain ⟨b, its, rfl, ⟨o, g, c, n, d⟩, st, ne⟩ := hh
    have nb : b ≠ a := fun z => hn _ List.mem_cons_self (by rw [z])
    cases t with
    | nil => exact absurd rfl ne
    | cons x r =>
      have e := st.strs
      cases hi : its.toList with
      | nil => rw [hi] at e; cases e
      | cons f fr =>
        have hf : its[0]? = some f := by rw [← Array.getElem?_toList, hi]; rfl
        refine ⟨f :: fs, .cons (k b o nb g) c d hf q1, by simp [q2], fun g' hg' => ?_⟩
        rcases List.mem_cons.mp hg' with z | z
        · subst z
          exact st.all _ (by rw [hi]; exact List.mem_cons_self)
        · exact q3 g' z
end
end L2
namespace L2
open PySem PySem.Spec PyProof.Rows PySem.W
section
variable {X : Cx}
theorem refs_of : ∀ {as : List Addr} {us : List Value}, qBa (as.map V.ref) us → us = as.map Value.ref
  | [], _, r => by cases r; rfl
  | a :: as, _, r => by
    cases r with
    | cons h t => cases h; rw [refs_of t]; rfl
theorem vals_refs : ∀ as : List Addr, qBa (as.map V.ref) (as.map Value.ref)
  | [] => .nil
  | a :: as => .cons rfl (vals_refs as)
theorem tups_mk {pins : List (Addr × Obj)} {s : Shared} {σ : St} {H : Hp} {h' : Heap} (I : Inv X pins σ H s) (k : ∀ b o, s.heap.get? b = some o → h'.get? b = some o) : ∀ {as : List Addr} {ts : List (List Str)}, Paired (fun a t => SqT X.K H a (t.map V.str) ∧ t ≠ []) as ts → Paired (TupS h') (as.map Value.ref) ts
  | _, _, .nil => .nil
  | _, _, .cons h t => by
    obtain ⟨h1, h2⟩ := h
    obtain ⟨its, rv, ⟨o, g, c, n, d⟩, _⟩ := I.tuple h1
    exact .cons ⟨_, its.toArray, rfl, ⟨o, k _ _ g, c, n, d⟩, by simpa using qCv rv, h2⟩ (tups_mk I k t)
theorem tups_lt {pins : List (Addr × Obj)} {s : Shared} {σ : St} {H : Hp} (I : Inv X pins σ H s) : ∀ {as : List Addr} {ts : List (List Str)}, Paired (fun a t => SqT X.K H a (t.map V.str) ∧ t ≠ []) as ts → ∀ b ∈ as, b < s.heap.objs.size
  | _, _, .nil, b, hb => by cases hb
  | _, _, .cons h t, b, hb => by
    rcases List.mem_cons.mp hb with z | z
    · subst z
      obtain ⟨its, rv, ⟨o, g, _⟩, _⟩ := I.tuple h.1
      exact Heap.lt_size g
    · exact tups_lt I t b z
end
end L2
namespace L2
open PySem PySem.Spec PyProof.Rows PySem.W
section
variable {AS : Type} {g : TG} {tt : TT} {tb : TB AS} {Q : AS → St → Hp → Prop} {a0 : AS} {σ0 : St} {H0 : Hp}
def NxG (n i : Nat) (Pv : Nat → AS → St → Hp → Prop) (a : AS) (σ : St) (H : Hp) : Prop := ∃ m', m' < n - i ∧ m' = n - (i + 1) ∧ i + 1 ≤ n ∧ Pv (i + 1) a σ H
theorem nxg {n i : Nat} {Pv : Nat → AS → St → Hp → Prop} {a : AS} {σ : St} {H : Hp} (hi : i < n) (h : Pv (i + 1) a σ H) : NxG n i Pv a σ H := ⟨_, by omega, rfl, hi, h⟩
theorem g_list {K : PySem.W.Frag} {p : Addr} {xs : List V} (Pv : Nat → AS → St → Hp → Prop) (h0 : Pv 0 a0 σ0 H0) (hl : ∀ i a σ H, i ≤ xs.length → Pv i a σ H → SqL K H p xs)
    (hs : ∀ i x a σ H, xs[i]? = some x → Pv i a σ H → g x σ H fun σ2 H2 => tt σ2 H2 fun b H3 => if b = true then tb a σ2 H3 (NxG xs.length i Pv) else NxG xs.length i Pv a σ2 H3)
    (hd : ∀ a σ H, Pv xs.length a σ H → Q a σ H) : qGj (Itl K p) g tt tb Q a0 σ0 H0 := by
  refine ⟨fun i m a σ H => m = xs.length - i ∧ i ≤ xs.length ∧ Pv i a σ H, ⟨xs.length, by simp, Nat.zero_le _, h0⟩, ?_⟩
  rintro i m a σ H ⟨rfl, hi, pv⟩
  have q := hl i a σ H hi pv
  by_cases hlt : i < xs.length
  · refine .inr ⟨⟨xs, xs[i], q, by simp [hlt]⟩, fun x H' y => ?_⟩
    obtain ⟨e, y⟩ := y
    subst e
    exact hs i x a σ _ (y xs q) pv
  · have e : i = xs.length := by omega
    subst e
    exact .inl ⟨⟨xs, q, Nat.le_refl _⟩, hd a σ H pv⟩
theorem g_tuple {K : PySem.W.Frag} {p : Addr} {xs : List V} (Pv : Nat → AS → St → Hp → Prop) (h0 : Pv 0 a0 σ0 H0) (hl : ∀ i a σ H, i ≤ xs.length → Pv i a σ H → SqT K H p xs)
    (hs : ∀ i x a σ H, xs[i]? = some x → Pv i a σ H → g x σ H fun σ2 H2 => tt σ2 H2 fun b H3 => if b = true then tb a σ2 H3 (NxG xs.length i Pv) else NxG xs.length i Pv a σ2 H3)
    (hd : ∀ a σ H, Pv xs.length a σ H → Q a σ H) : qGj (Itt K p) g tt tb Q a0 σ0 H0 := by
  refine ⟨fun i m a σ H => m = xs.length - i ∧ i ≤ xs.length ∧ Pv i a σ H, ⟨xs.length, by simp, Nat.zero_le _, h0⟩, ?_⟩
  rintro i m a σ H ⟨rfl, hi, pv⟩
  have q := hl i a σ H hi pv
  by_cases hlt : i < xs.length
  · refine .inr ⟨⟨xs, xs[i], q, by simp [hlt]⟩, fun x H' y => ?_⟩
    obtain ⟨e, y⟩ := y
    subst e
    exact hs i x a σ _ (y xs q) pv
  · have e : i = xs.length := by omega
    subst e
    exact .inl ⟨⟨xs, q, Nat.le_refl _⟩, hd a σ H pv⟩
end
section
variable {X : Cx}
theorem call_range1' : qCr X (.type "range") (fun xs H Q => ∃ j : Int, xs = [.int j] ∧ 0 ≤ j ∧ j ≤ 1000 ∧ ∀ r, H r = none → Q (.ref r) (upd H r (.rng 0 j))) := by
  intro pins s σ H xs us Q I r h
  obtain ⟨j, rfl, h0, h1, q⟩ := h
  obtain ⟨u, rfl, t, rfl⟩ := qDx r
  refine call_range_1 ?_
  exact ⟨.ref s.heap.objs.size, _, I.laid (a := s.heap.objs.size) (o := .rng 0 j) (fun b o e => Heap.get?_push_of_some _ e) (Nat.le_refl _) ⟨_, _, _, Heap.get?_push_size _ rfl⟩, rfl, q _ (I.hok.fresh (Nat.le_refl _))⟩
theorem ints_vals : ∀ {its : List Value} {n : Nat} (k : Nat), its.length = n → (∀ i v, its[i]? = some v → ∃ t, v = Value.int ((k + i : Nat) : Int) t) → qBa ((List.range' k n).map fun (i : Nat) => V.int (i : Int)) its
  | [], n, k, hl, _ => by
    have e : n = 0 := hl.symm
    subst e; exact .nil
  | v :: r, n, k, hl, h => by
    obtain ⟨m, rfl⟩ : ∃ m, n = m + 1 := ⟨n - 1, by simp at hl; omega⟩
    rw [List.range'_succ, List.map_cons]
    refine .cons ?_ (ints_vals (k + 1) (by simpa using hl) fun i v hv => ?_)
    · obtain ⟨t, e⟩ := h 0 v rfl
      exact ⟨t, by rw [e, Nat.add_zero]⟩
    · obtain ⟨t, e⟩ := h (i + 1) v (by simpa using hv)
      exact ⟨t, by rw [e, show k + (i + 1) = k + 1 + i by omega]⟩
theorem call_list_rng (hc : X.calm = true) : qCr X (.type "list") (fun xs H Q => ∃ (r : Addr) (j : Int), xs = [.ref r] ∧ H r = some (.rng 0 j) ∧ 0 ≤ j ∧ j ≤ 1000 ∧ ∀ l, H l = none → Q (.ref l) (upd H l (.lst ((List.range j.toNat).map fun (i : Nat) => V.int (i : Int))))) := by
  intro pins s σ H xs us Q I r h
  obtain ⟨p, j, rfl, hp, h0, h1, q⟩ := h
  obtain ⟨u, rfl, rx⟩ := qDx r
  cases rx
  obtain ⟨t, u, v, e⟩ := I.hok p _ hp
  refine call_list_range (n := j.toNat) (a := 0) (b := j) (c := 1) (I.ok.hd hc) e (small_one (by decide) (by decide) (by omega) (by omega)) (by rw [rangeSize_one]; split <;> omega) (by omega) fun h' tk acc' c' hk hS hacc => ?_
  refine ⟨.ref s.heap.objs.size, _, I.laid (t' := tk) (a := s.heap.objs.size) (o := .lst ((List.range j.toNat).map fun (i : Nat) => V.int (i : Int))) (fun b o e => hk b o e) (Nat.le_refl _) ⟨?_, acc'.toList, c', ?_, by rw [Array.toArray_toList]; exact hS⟩, rfl, q _ (I.hok.fresh (Nat.le_refl _))⟩
  · rw [List.length_map, List.length_range]
    exact Nat.le_of_lt (qAf (by omega))
  · rw [List.range_eq_range']
    refine ints_vals 0 (by rw [Array.length_toList]; exact hacc.1) fun i v hv => ?_
    obtain ⟨t, e⟩ := hacc.2 i v (by rw [← Array.getElem?_toList]; exact hv)
    exact ⟨t, by rw [e]; congr 1; omega⟩
end
end L2
namespace L2
open PySem PySem.Spec PyProof.Rows PySem.W
structure Ordr (lt : Nat → Nat → Bool) : Prop where
  asym : ∀ a b, lt a b = true → lt b a = false
  tr : ∀ a b c, lt b a = false → lt c b = false → lt c a = false
theorem Ordr.irr {lt : Nat → Nat → Bool} (o : Ordr lt) (a : Nat) : lt a a = false := by
  cases h : lt a a with
  | false => rfl
  | true => exact (o.asym a a h).symm.trans h ▸ rfl
def SPk (lt : Nat → Nat → Bool) (p : Array Nat) (k : Nat) : Prop := ∀ i j, i < j → j < k → lt (p.getD j 0) (p.getD i 0) = false
def DPk (lt : Nat → Nat → Bool) (p : Array Nat) (k : Nat) : Prop := ∀ i j, i < j → j < k → lt (p.getD i 0) (p.getD j 0) = false
def ERk (lt : Nat → Nat → Bool) (p : Array Nat) (a b : Nat) : Prop := ∀ i j, a ≤ i → i < b → a ≤ j → j < b → lt (p.getD i 0) (p.getD j 0) = false
theorem Gd.size {n : Nat} {p : Array Nat} (h : Gd n p) : p.size = n := by
  have := Array.Perm.size_eq h
  simpa using this
theorem qGc {p : Array Nat} {i j : Nat} (hj : j ≤ p.size) (k : Nat) : (kas_rev p i j).getD k 0 = if i ≤ k ∧ k < j then p.getD (i + j - 1 - k) 0 else p.getD k 0 := by
  unfold kas_rev
  rw [Array.getD_eq_getD_getElem?, getElem?_mirror_all hj]
  split <;> rw [← Array.getD_eq_getD_getElem?]
theorem bub_at {p : Array Nat} {k l : Nat} (hk : k < p.size) (hl : l ≤ k) (i : Nat) : (bubble p k (k - l)).getD i 0 = if i = l then p.getD k 0 else if l < i ∧ i ≤ k then p.getD (i - 1) 0 else p.getD i 0 := by
  rw [Array.getD_eq_getD_getElem?, getElem?_bubble hk _ (by omega)]
  have e : k - (k - l) = l := by omega
  rw [e]
  by_cases e1 : i = l
  · rw [if_pos e1, if_pos e1, ← Array.getD_eq_getD_getElem?]
  · rw [if_neg e1, if_neg e1]
    by_cases e2 : l < i ∧ i ≤ k
    · rw [if_pos e2, if_pos e2, ← Array.getD_eq_getD_getElem?]
    · rw [if_neg e2, if_neg e2, ← Array.getD_eq_getD_getElem?]
section
variable {lt : Nat → Nat → Bool} (o : Ordr lt)
include o
theorem SPk.snoc {p : Array Nat} {k : Nat} (h : SPk lt p k) (h1 : 1 ≤ k) (hk : lt (p.getD k 0) (p.getD (k - 1) 0) = false) : SPk lt p (k + 1) := fun i j hij hj => by
  by_cases e : j = k
  · subst e
    by_cases e2 : i = j - 1
    · subst e2; exact hk
    · exact o.tr _ _ _ (h i (j - 1) (by omega) (by omega)) hk
  · exact h i j hij (by omega)
theorem DPk.snoc {p : Array Nat} {k : Nat} (h : DPk lt p k) (h1 : 1 ≤ k) (hk : lt (p.getD (k - 1) 0) (p.getD k 0) = false) : DPk lt p (k + 1) := fun i j hij hj => by
  by_cases e : j = k
  · subst e
    by_cases e2 : i = j - 1
    · subst e2; exact hk
    · exact o.tr _ _ _ hk (h i (j - 1) (by omega) (by omega))
  · exact h i j hij (by omega)
omit o in
theorem DPk.rev {p : Array Nat} {a b k : Nat} (h : DPk lt p k) (hb : b ≤ p.size) (hbk : b ≤ k) (e : ERk lt p a b) : DPk lt (kas_rev p a b) k := fun i j hij hj => by
  rw [qGc hb, qGc hb]
  split
  · split
    · exact e _ _ (by omega) (by omega) (by omega) (by omega)
    · exact h _ _ (by omega) (by omega)
  · split
    · exact h _ _ (by omega) (by omega)
    · exact h _ _ (by omega) (by omega)
omit o in
theorem DPk.turn {p : Array Nat} {k : Nat} (h : DPk lt p k) (hk : k ≤ p.size) : SPk lt (kas_rev p 0 k) k := fun i j hij hj => by
  rw [qGc hk, qGc hk, if_pos (by omega), if_pos (by omega)]
  exact h _ _ (by omega) (by omega)
variable {n : Nat} {cmp : Nat → Nat → (Bool → Shared → Prop) → Shared → Prop} {s : Shared} (hask : ∀ i j C, i < n → j < n → C (lt i j) s → cmp i j C s) (h0 : 0 < n)
include hask h0
theorem sk_asc {p : Array Nat} (g : Gd n p) {Q : Nat → Shared → Prop} (N : Nat) (hq : ∀ m, SPk lt p m → 1 ≤ m → m ≤ N → (m < N → lt (p.getD m 0) (p.getD (m - 1) 0) = true) → Q m s) : ∀ f m, 1 ≤ m → m + f = N → SPk lt p m → (kas_asc p f m).kasWp cmp Q s
  | 0, m, h1, hN, sp => hq m sp h1 (by omega) (fun z => by omega)
  | f + 1, m, h1, hN, sp => by
    refine hask _ _ _ (g.lt h0 _) (g.lt h0 _) ?_
    dsimp only
    split
    · rename_i c
      exact hq m sp h1 (by omega) fun _ => c
    · rename_i c
      exact sk_asc g N hq f (m + 1) (by omega) (by omega) (sp.snoc o h1 (by simpa using c))
theorem sk_desc {Q : Array Nat × Nat × Nat → Shared → Prop} (N : Nat) (hN : N ≤ n) (hq : ∀ p m q, Gd n p → 1 ≤ m → q + 1 ≤ m → m ≤ N → DPk lt p m → ERk lt p (m - (q + 1)) m → Q (p, m, q) s) : ∀ f p m q, Gd n p → 1 ≤ m → q + 1 ≤ m → m + f = N → DPk lt p m → ERk lt p (m - (q + 1)) m → (kas_desc f p m q).kasWp cmp Q s
  | 0, p, m, q, g, h1, h2, h3, dp, er => hq p m q g h1 h2 (by omega) dp er
  | f + 1, p, m, q, g, h1, h2, h3, dp, er => by
    have sz := g.size
    refine hask _ _ _ (g.lt h0 _) (g.lt h0 _) ?_
    dsimp only
    split
    · rename_i c
      have dp' := dp.snoc o h1 (o.asym _ _ c)
      have one : ∀ p' : Array Nat, ERk lt p' (m + 1 - (0 + 1)) (m + 1) := fun p' i j hi hi' hj hj' => by
        have e1 : i = m := by omega
        have e2 : j = m := by omega
        subst e1 e2
        exact o.irr _
      split
      · exact sk_desc N hN hq f _ (m + 1) 0 (g.rev _ _) (by omega) (by omega) (by omega) (dp'.rev (by omega) (by omega) er) (one _)
      · exact sk_desc N hN hq f p (m + 1) 0 g (by omega) (by omega) (by omega) dp' (one _)
    · rename_i c
      refine hask _ _ _ (g.lt h0 _) (g.lt h0 _) ?_
      dsimp only
      split
      · exact hq p m q g h1 h2 (by omega) dp er
      · rename_i d
        have c' : lt (p.getD m 0) (p.getD (m - 1) 0) = false := by simpa using c
        have d' : lt (p.getD (m - 1) 0) (p.getD m 0) = false := by simpa using d
        refine sk_desc N hN hq f p (m + 1) (q + 1) g (by omega) (by omega) (by omega) (dp.snoc o h1 d') fun i j hi hi' hj hj' => ?_
        by_cases ei : i = m
        · subst ei
          by_cases ej : j = i
          · subst ej; exact o.irr _
          · exact o.tr _ _ _ (er (i - 1) j (by omega) (by omega) (by omega) (by omega)) c'
        · by_cases ej : j = m
          · subst ej
            exact o.tr _ _ _ d' (er i (j - 1) (by omega) (by omega) (by omega) (by omega))
          · exact er i j (by omega) (by omega) (by omega) (by omega)
theorem sk_tail3 {p : Array Nat} (g : Gd n p) {Q : Nat × Array Nat → Shared → Prop} (N : Nat) (hN : N ≤ n) (hq : ∀ m p, Gd n p → SPk lt p m → 1 ≤ m → m ≤ N → Q (m, p) s) (m : Nat) (h1 : 1 ≤ m) (h2 : m ≤ N) (dp : DPk lt p m) : (kas_tail3 m N p).kasWp cmp Q s := by
  unfold kas_tail3
  rw [KasT.kasWp_bind]
  have sz := g.size
  exact sk_asc o hask h0 (g.rev _ _) N (fun m' sp a b _ => hq m' _ (g.rev _ _) sp a b) _ _ h1 (by omega) (dp.turn (by omega))
theorem qFf {p : Array Nat} (g : Gd n p) {Q : Nat × Array Nat → Shared → Prop} (N : Nat) (hN : N ≤ n) (hq : ∀ m p, Gd n p → SPk lt p m → 1 ≤ m → m ≤ N → Q (m, p) s) (m : Nat) (h2 : m + 1 ≤ N) (dp : DPk lt p (m + 1)) : (kas_descPart m N p).kasWp cmp Q s := by
  unfold kas_descPart
  rw [KasT.kasWp_bind]
  refine sk_desc o hask h0 N hN (fun p' m' q g' a b c dp' er => ?_) _ _ _ _ g (by omega) (by omega) (by omega) dp fun i j hi hi' hj hj' => ?_
  · have sz := g'.size
    dsimp only
    split
    · exact sk_tail3 o hask h0 (g'.rev _ _) N hN hq _ a c (dp'.rev (by omega) (Nat.le_refl _) er)
    · exact sk_tail3 o hask h0 g' N hN hq _ a c dp'
  · have e1 : i = m := by omega
    have e2 : j = m := by omega
    subst e1 e2
    exact o.irr _
theorem sk_count {p : Array Nat} (g : Gd n p) {Q : Nat × Array Nat → Shared → Prop} (hq : ∀ m p, Gd n p → SPk lt p m → 1 ≤ m → m ≤ n → Q (m, p) s) : (kas_count n p).kasWp cmp Q s := by
  unfold kas_count
  rw [KasT.kasWp_bind]
  have sz := g.size
  refine sk_asc o hask h0 g n (fun m sp m1 mn st => ?_) _ _ (Nat.le_refl _) (by omega) (fun i j hij hj => by omega)
  split
  · exact hq _ _ g sp m1 mn
  · rename_i c
    have c' : m ≠ n := by simpa using c
    have lt1 := st (by omega)
    have ge1 := o.asym _ _ lt1
    split
    · refine hask _ _ _ (g.lt h0 _) (g.lt h0 _) ?_
      dsimp only
      split
      · exact hq _ _ g sp m1 mn
      · rename_i d
        have d' : lt (p.getD 0 0) (p.getD (m - 1) 0) = false := by simpa using d
        have lo : ∀ i, i < m → lt (p.getD (m - 1) 0) (p.getD i 0) = false := fun i hi => by
          by_cases e : i = m - 1
          · subst e; exact o.irr _
          · exact sp i (m - 1) (by omega) (by omega)
        have hi0 : ∀ j, j < m → lt (p.getD j 0) (p.getD 0 0) = false := fun j hj => by
          by_cases e : j = 0
          · subst e; exact o.irr _
          · exact sp 0 j (by omega) hj
        have er : ERk lt p 0 m := fun i j _ hi _ hj => o.tr _ _ _ (o.tr _ _ _ (lo j hj) d') (hi0 i hi)
        refine qFf o hask h0 (g.rev _ _) n (Nat.le_refl _) hq m (by omega) fun i j hij hj => ?_
        rw [qGc (by omega), qGc (by omega)]
        by_cases ej : j = m
        · subst ej
          rw [if_pos (by omega), if_neg (by omega)]
          exact o.tr _ _ _ ge1 (er _ _ (by omega) (by omega) (by omega) (by omega))
        · rw [if_pos (by omega), if_pos (by omega)]
          exact er _ _ (by omega) (by omega) (by omega) (by omega)
    · have e : m = 1 := by omega
      subst e
      refine qFf o hask h0 g n (Nat.le_refl _) hq 1 (by omega) fun i j hij hj => ?_
      have e1 : i = 0 := by omega
      have e2 : j = 1 := by omega
      subst e1 e2
      exact ge1
theorem sk_place {p : Array Nat} (g : Gd n p) {Q : Nat → Shared → Prop} (k : Nat) (sp : SPk lt p k) (hq : ∀ l, l ≤ k → (∀ i, i < l → lt (p.getD k 0) (p.getD i 0) = false) → (∀ i, l ≤ i → i < k → lt (p.getD i 0) (p.getD k 0) = false) → Q l s) :
    ∀ f l r, l ≤ r → r ≤ k → r - l ≤ f → (∀ i, i < l → lt (p.getD k 0) (p.getD i 0) = false) → (∀ i, r ≤ i → i < k → lt (p.getD i 0) (p.getD k 0) = false) → (kas_place p k f l r).kasWp cmp Q s
  | 0, l, r, h1, h2, h3, a, b => hq l (by omega) a fun i hi hk => b i (by omega) hk
  | f + 1, l, r, h1, h2, h3, a, b => by
    unfold kas_place
    split
    · exact hq l (by omega) a fun i hi hk => b i (by omega) hk
    · refine hask _ _ _ (g.lt h0 _) (g.lt h0 _) ?_
      dsimp only
      split
      · rename_i c
        have c' := o.asym _ _ c
        refine sk_place g k sp hq f l ((l + r) / 2) (by omega) (by omega) (by omega) a fun i hi hk => ?_
        by_cases e : i = (l + r) / 2
        · subst e; exact c'
        · exact o.tr _ _ _ c' (sp _ _ (by omega) hk)
      · rename_i c
        have c' : lt (p.getD k 0) (p.getD ((l + r) / 2) 0) = false := by simpa using c
        refine sk_place g k sp hq f ((l + r) / 2 + 1) r (by omega) h2 (by omega) (fun i hi => ?_) b
        by_cases e : i = (l + r) / 2
        · subst e; exact c'
        · exact o.tr _ _ _ (sp i ((l + r) / 2) (by omega) (by omega)) c'
theorem sk_bin {Q : Array Nat → Shared → Prop} (hq : ∀ p, Gd n p → SPk lt p n → Q p s) : ∀ f p k, Gd n p → k + f = n → SPk lt p k → (kas_bin f p k).kasWp cmp Q s
  | 0, p, k, g, h1, sp => hq p g (by rw [← h1]; exact sp)
  | f + 1, p, k, g, h1, sp => by
    unfold kas_bin
    rw [KasT.kasWp_bind]
    have sz := g.size
    refine sk_place o hask h0 g k sp (fun l hl a b => sk_bin hq f _ _ (g.bub _ _) (by omega) fun i j hij hj => ?_) k 0 k (by omega) (Nat.le_refl _) (by omega) (fun i hi => by omega) (fun i hi hk => by omega)
    rw [bub_at (by omega) hl, bub_at (by omega) hl]
    by_cases ej : j = l
    · rw [if_pos ej, if_neg (by omega), if_neg (by omega)]
      exact a i (by omega)
    · rw [if_neg ej]
      by_cases ej2 : l < j ∧ j ≤ k
      · rw [if_pos ej2]
        by_cases ei : i = l
        · rw [if_pos ei]
          exact b (j - 1) (by omega) (by omega)
        · rw [if_neg ei]
          split
          · exact sp _ _ (by omega) (by omega)
          · exact sp _ _ (by omega) (by omega)
      · rw [if_neg ej2, if_neg (by omega), if_neg (by omega)]
        exact sp _ _ hij (by omega)
theorem sk_sort {Q : Array Nat → Shared → Prop} (hq : ∀ p, Gd n p → SPk lt p n → Q p s) : (kas_sort n).kasWp cmp Q s := by
  unfold kas_sort
  rw [KasT.kasWp_bind]
  refine sk_count o hask h0 (Array.Perm.refl _) (fun m p g sp m1 mn => ?_)
  dsimp only
  have e : max m 1 = m := by omega
  rw [e]
  split
  · exact sk_bin o hask h0 hq _ _ _ g (by omega) sp
  · have e2 : m = n := by omega
    subst e2
    exact hq _ g sp
end
end L2
namespace L2
open PySem PySem.Spec PyProof.Rows PySem.W
theorem txTri : ∀ a b : List Nat, a < b ∨ a = b ∨ b < a
  | [], [] => .inr (.inl rfl)
  | [], _ :: _ => .inl (List.nil_lt_cons _ _)
  | _ :: _, [] => .inr (.inr (List.nil_lt_cons _ _))
  | x :: a, y :: b => by
    rcases Nat.lt_trichotomy x y with h | h | h
    · exact .inl (List.cons_lt_cons_iff.mpr (.inl h))
    · subst h
      rcases txTri a b with h | h | h
      · exact .inl (List.cons_lt_cons_iff.mpr (.inr ⟨rfl, h⟩))
      · exact .inr (.inl (by rw [h]))
      · exact .inr (.inr (List.cons_lt_cons_iff.mpr (.inr ⟨rfl, h⟩)))
    · exact .inr (.inr (List.cons_lt_cons_iff.mpr (.inl h)))
theorem txExt {x y : Str} (h : x.cps.toList = y.cps.toList) : x = y := by
  cases x; cases y
  simp only [Str.mk.injEq]
  exact Array.toList_inj.mp h
def sLtB (x y : Str) : Bool := decide (x.cps.toList < y.cps.toList)
theorem sLtB_irr (x : Str) : sLtB x x = false := decide_eq_false (List.lt_irrefl _)
theorem qGa {x y z : Str} (h : sLtB x y = true) (h' : sLtB y z = true) : sLtB x z = true := decide_eq_true (List.lt_trans (of_decide_eq_true h) (of_decide_eq_true h'))
theorem sLtB_tri (x y : Str) : sLtB x y = true ∨ x = y ∨ sLtB y x = true := by
  rcases txTri x.cps.toList y.cps.toList with h | h | h
  · exact .inl (decide_eq_true h)
  · exact .inr (.inl (txExt h))
  · exact .inr (.inr (decide_eq_true h))
def ltL : List Str → List Str → Bool
  | [], [] => false
  | [], _ :: _ => true
  | _ :: _, [] => false
  | x :: r, y :: t => if x = y then ltL r t else sLtB x y
theorem ltL_irr : ∀ a : List Str, ltL a a = false
  | [] => rfl
  | x :: r => by unfold ltL; rw [if_pos rfl]; exact ltL_irr r
theorem ltL_tri : ∀ a b : List Str, ltL a b = true ∨ a = b ∨ ltL b a = true
  | [], [] => .inr (.inl rfl)
  | [], _ :: _ => .inl rfl
  | _ :: _, [] => .inr (.inr rfl)
  | x :: r, y :: t => by
    unfold ltL
    by_cases e : x = y
    · subst e
      rw [if_pos rfl, if_pos rfl]
      rcases ltL_tri r t with h | h | h
      · exact .inl h
      · exact .inr (.inl (by rw [h]))
      · exact .inr (.inr h)
    · rw [if_neg e, if_neg (fun z => e z.symm)]
      rcases sLtB_tri x y with h | h | h
      · exact .inl h
      · exact absurd h e
      · exact .inr (.inr h)
theorem qFq : ∀ a b c : List Str, ltL a b = true → ltL b c = true → ltL a c = true
  | [], _, [], h, h' => by
    rename_i b
    cases b with
    | nil => exact h
    | cons _ _ => cases h'
  | [], _, _ :: _, _, _ => rfl
  | _ :: _, [], _, h, _ => by cases h
  | _ :: _, _ :: _, [], _, h' => by cases h'
  | x :: r, y :: t, z :: u, h, h' => by
    unfold ltL at h h' ⊢
    by_cases e1 : x = y
    · subst e1
      rw [if_pos rfl] at h
      by_cases e2 : x = z
      · subst e2
        rw [if_pos rfl] at h' ⊢
        exact qFq r t u h h'
      · rw [if_neg e2] at h' ⊢
        exact h'
    · rw [if_neg e1] at h
      by_cases e2 : y = z
      · subst e2
        rw [if_neg e1]
        exact h
      · rw [if_neg e2] at h'
        have q := qGa h h'
        have e3 : ¬ x = z := fun e => by rw [e, sLtB_irr] at q; cases q
        rw [if_neg e3]
        exact q
theorem ltL_asym (a b : List Str) (h : ltL a b = true) : ltL b a = false := by
  cases q : ltL b a with
  | false => rfl
  | true => have := qFq a b a h q; rw [ltL_irr] at this; cases this
def ltI (ts : List (List Str)) (i j : Nat) : Bool := ltL (ts.getD i []) (ts.getD j [])
theorem ltI_ord (ts : List (List Str)) : Ordr (ltI ts) := ⟨fun a b h => ltL_asym _ _ h, fun a b c h h' => by
  have h1 : ltL (ts.getD b []) (ts.getD a []) = false := h
  have h2 : ltL (ts.getD c []) (ts.getD b []) = false := h'
  show ltL (ts.getD c []) (ts.getD a []) = false
  rcases ltL_tri (ts.getD a []) (ts.getD b []) with q | q | q
  · rcases ltL_tri (ts.getD b []) (ts.getD c []) with r | r | r
    · exact ltL_asym _ _ (qFq _ _ _ q r)
    · rw [← r]; exact h1
    · rw [h2] at r; cases r
  · rw [q]; exact h2
  · rw [h1] at q; cases q⟩
theorem qGi (vs : List Value) : (List.range vs.length).map (fun i => vs.getD i Value.none) = vs := by
  refine List.ext_getElem? fun i => ?_
  by_cases hi : i < vs.length
  · rw [List.getElem?_map, List.getElem?_range hi, List.getElem?_eq_getElem hi]
    show some (vs.getD i Value.none) = _
    rw [List.getD_eq_getElem?_getD, List.getElem?_eq_getElem hi]; rfl
  · rw [List.getElem?_eq_none (by simp; omega), List.getElem?_eq_none (by omega)]
theorem katlex_ex {P : Program} {w : World} {A : Around} {s : Shared} {b fin : Bool} {Q : Bool → Shared → Prop} : ∀ {vs us : List Value} {x y : List Str} (i : Nat), StrsAre vs x → StrsAre us y → Q (ltL x y) s → fin = decide (x.length < y.length) → KatLex P w A b fin Q (vs.zip us) i s
  | _, _, _, _, i, .nil, .nil, hQ, hf => by rw [hf]; exact hQ
  | _, _, _, _, i, .nil, .cons _ _ _, hQ, hf => by rw [hf]; exact hQ
  | _, _, _, _, i, .cons _ _ _, .nil, hQ, hf => by rw [hf]; exact hQ
  | _, _, _, _, i, .cons p t r, .cons q u r', hQ, hf => by
    refine kat_cons (wpAny_eqBool_str (kat_go (fun e => kat_yes (katlex_ex (i + 1) r r' ?_ ?_)) fun e => kat_no ?_))
    · have e' := of_decide_eq_true e
      unfold ltL at hQ
      rw [if_pos e'] at hQ
      exact hQ
    · rw [hf]
      simp
    · have e' := of_decide_eq_false e
      unfold ltL at hQ
      rw [if_neg e'] at hQ
      cases hb : (b && i == 0) with
      | true => exact strKind_oneLt P w A _ s _ _ _ _ rfl rfl hQ
      | false => exact kat_one _ _ (lt_str hQ)
section
variable {P : Program} {w : World} {A : Around} {E : Value → Shared → Prop} {s : Shared}
theorem tups_atO {h h' : Heap} {a : Addr} (k : ∀ b o, b ≠ a → h.get? b = some o → h'.get? b = some o) : ∀ {vs : List Value} {ts : List (List Str)} {i : Nat}, Paired (TupS h) vs ts → (∀ v ∈ vs, v ≠ .ref a) → i < vs.length → ∃ (b : Addr) (its : Array Value), IsTup h' b its ∧ vs.getD i Value.none = .ref b ∧ StrsAre its.toList (ts.getD i [])
  | _, _, i, .nil, _, hi => absurd hi (Nat.not_lt_zero _)
  | _, _, 0, @Paired.cons _ _ _ v t l1 l2 hh tt, hn, _ => by
    obtain ⟨b, its, rfl, ⟨o, g, c, n, d⟩, st, ne⟩ := hh
    have nb : b ≠ a := fun z => hn _ List.mem_cons_self (by rw [z])
    exact ⟨b, its, ⟨o, k b o nb g, c, n, d⟩, rfl, st⟩
  | _, _, i + 1, @Paired.cons _ _ _ v t l1 l2 hh tt, hn, hi => tups_atO (i := i) k tt (fun u hu => hn u (List.mem_cons_of_mem _ hu)) (by simpa using hi)
theorem sort_tupsO {a : Addr} {vs : List Value} {ts : List (List Str)} {n : Nat} {R : PySem.Fin → Shared → Prop} (ho : s.heap.get? a = some (seqObj "list" vs.toArray n)) (ht : Paired (TupS s.heap) vs ts) (h64 : vs.length < 64) (hna : ∀ v ∈ vs, v ≠ .ref a)
    (h : ∀ (out : List Value) (p : Array Nat), out.Perm vs → Gd vs.length p → SPk (ltI ts) p vs.length → out = p.toList.map (fun i => vs.getD i Value.none) → R (.done (.ret .none)) { s with heap := sortedHeap s.heap a vs out.toArray }) : wpAny (model P w) A (Builtin.«list.sort» ⟨[.ref a], []⟩) R E s := by
  rw [list_sort_plain]
  have ha : a < s.heap.objs.size := Heap.lt_size ho
  refine wpAny_bind (listItems_at ho rfl (wpAny_bind (listUpdate_at ho rfl ?_ (by rw [List.size_toArray, sizeLine_eq]; omega) (Nat.zero_le _))))
  obtain ⟨e1, ho1⟩ : ∃ e1, (s.heap.update a (Obj.mapSeq fun _ => #[])).get? a = some (seqObj "list" #[] e1) := ⟨_, get?_update_seq ho (fun _ => #[])⟩
  refine wpAny_bind (seqEpoch_at ho1 rfl (wpAny_bind (wpAny_newTuple ?_ (by show vs.length ≤ _; rw [sizeLine_eq]; omega))))
  refine wpAny_bind (wpAny_newList ?_ (Nat.zero_le _))
  refine wpAny_holding ?_
  have ho6 : (((s.heap.update a (Obj.mapSeq fun _ => #[])).push (seqObj "tuple" vs.toArray 0)).push (seqObj "list" #[] 0)).get? a = some (seqObj "list" #[] e1) := Heap.get?_push_of_some _ (Heap.get?_push_of_some _ ho1)
  have keep : ∀ b o, b ≠ a → s.heap.get? b = some o → (((s.heap.update a (Obj.mapSeq fun _ => #[])).push (seqObj "tuple" vs.toArray 0)).push (seqObj "list" #[] 0)).get? b = some o := fun b o hb e => by
    refine Heap.get?_push_of_some _ (Heap.get?_push_of_some _ ?_)
    rw [Heap.get?_update_ne _ _ _ _ hb]; exact e
  show wpAny (model P w) A _ R E { s with heap := ((s.heap.update a (Obj.mapSeq fun _ => #[])).push (seqObj "tuple" vs.toArray 0)).push (seqObj "list" #[] 0) }
  dsimp only
  have fin : ∀ (st' : SortSt) (out : List Value), (arrOf st').map (·.2) = out.toArray → failedOf st' = none → out.Perm vs → (∃ p, Gd vs.length p ∧ SPk (ltI ts) p vs.length ∧ out = p.toList.map (fun i => vs.getD i Value.none)) → wpAny (model P w) A (do
      let touched := (← seqEpoch a) != e1
      Builtin.List.listUpdate (.ref a) fun _ => (arrOf st').map (·.2)
      if let some e := failedOf st' then rule "list.sort.comparison-raised"; throw e
      if touched then rule "list.sort.modified"; raiseError "ValueError" "list modified during sort"
      ret .none) R E { s with heap := ((s.heap.update a (Obj.mapSeq fun _ => #[])).push (seqObj "tuple" vs.toArray 0)).push (seqObj "list" #[] 0) } := by
    intro st' out e hf hp ⟨p, hg, hsp, ep⟩
    refine wpAny_bind (seqEpoch_at ho6 rfl ?_)
    refine wpAny_bind (listUpdate_at ho6 rfl ?_ (Nat.zero_le _) (by rw [e, List.size_toArray, hp.length_eq, sizeLine_eq]; omega))
    rw [hf]
    simp only [bne_self_eq_false, Bool.false_eq_true, if_false]
    rw [e]
    exact wpAny_pure (h out p hp hg hsp ep)
  by_cases h2 : vs.toArray.size < 2
  · rw [if_pos h2, if_pos h2]
    refine wpAny_bind (wpAny_pure ?_)
    rw [StateT.run_pure]
    refine wpAny_bind (wpAny_pure (fin _ vs ?_ rfl (List.Perm.refl _) ⟨Rng vs.length, Array.Perm.refl _, fun i j hij hj => absurd hj (by rw [List.size_toArray] at h2; omega), (qGi vs).symm⟩))
    show (vs.toArray.zip vs.toArray).map (·.2) = vs.toArray
    apply Array.toList_inj.mp
    rw [Array.toList_map, Array.toList_zip]
    exact List.map_snd_zip (Nat.le_refl _)
  · rw [if_neg h2, if_neg h2]
    have hl2 : 2 ≤ vs.length := by rw [List.size_toArray] at h2; omega
    obtain ⟨fs, kt, fl, fa⟩ := qFe (a := a) keep ht hna
    refine wpAny_bind (kat_kind (T := .type "str") kt (by omega) (fun v hv => ?_) (by decide) ?_)
    · obtain ⟨x, t, rfl⟩ := fa v hv
      exact .now
    refine wpAny_bind (wpAny_mono (kat_run (ks := vs) (Q := fun st' s' => s' = { s with heap := ((s.heap.update a (Obj.mapSeq fun _ => #[])).push (seqObj "tuple" vs.toArray 0)).push (seqObj "list" #[] 0) } ∧ ∃ out : List Value, (arrOf st').map (·.2) = out.toArray ∧ failedOf st' = none ∧ out.Perm vs ∧ ∃ p, Gd vs.length p ∧ SPk (ltI ts) p vs.length ∧ out = p.toList.map (fun i => vs.getD i Value.none)) (G := fun p s' => s' = { s with heap := ((s.heap.update a (Obj.mapSeq fun _ => #[])).push (seqObj "tuple" vs.toArray 0)).push (seqObj "list" #[] 0) } ∧ Gd vs.length p ∧ SPk (ltI ts) p vs.length) rfl hl2 h64 (fun p st' s' a1 a2 a3 a4 => ?_) ?_) ?_ fun _ _ e => e)
    · obtain ⟨rfl, g, sp⟩ := a4
      refine ⟨rfl, _, kat_snds rfl a2, a3, ?_, p, g, sp, rfl⟩
      have q := (Array.perm_iff_toList_perm.mp g).map fun i => vs.getD i Value.none
      exact q.trans (List.Perm.of_eq (qGi vs))
    · refine sk_sort (ltI_ord ts) (fun i j C hi hj hC => ?_) (by omega) fun p g sp => ⟨rfl, g, sp⟩
      obtain ⟨x1, y1, z1, v1, w1⟩ := tups_atO keep ht hna hi
      obtain ⟨x2, y2, z2, v2, w2⟩ := tups_atO keep ht hna hj
      show wpAny _ _ (keyLt' _ (vs.getD i Value.none) (vs.getD j Value.none)) C _ _
      rw [v1, v2]
      obtain ⟨o1, g1, c1, n1, d1⟩ := z1
      obtain ⟨o2, g2, c2, n2, d2⟩ := z2
      have l1 : y1.size = (ts.getD i []).length := by rw [← w1.strs]; simp
      have l2 : y2.size = (ts.getD j []).length := by rw [← w2.strs]; simp
      exact kat_lt g1 d1 g2 d2 (katlex_ex 0 w1 w2 hC (by rw [l1, l2]))
    · rintro ⟨⟨⟩, st'⟩ s' ⟨rfl, out, q1, q2, q3, q4⟩
      exact fin st' out q1 q2 q3 q4
end
end L2
namespace L2
open PySem PySem.Spec PyProof.Rows PySem.W
theorem gd_mem {n : Nat} {o : Array Nat} (g : Gd n o) {i : Nat} (hi : i ∈ o.toList) : i < n := by
  have := (Array.perm_iff_toList_perm.mp g).mem_iff.mp hi
  simpa using this
theorem gd_len {n : Nat} {o : Array Nat} (g : Gd n o) : o.toList.length = n := by
  have := g.size
  simpa using this
theorem outs_refs {as : List Addr} {l : List Nat} (h : ∀ i ∈ l, i < as.length) : l.map (fun i => (as.map Value.ref).getD i Value.none) = (l.map fun i => as.getD i 0).map Value.ref := by
  rw [List.map_map]
  refine List.map_congr_left fun i hi => ?_
  have := h i hi
  show (as.map Value.ref).getD i Value.none = Value.ref (as.getD i 0)
  rw [List.getD_eq_getElem?_getD, List.getD_eq_getElem?_getD, List.getElem?_map, List.getElem?_eq_getElem this]; rfl
section
variable {X : Cx}
theorem call_sortedTO : qCr X (.builtin "sorted") (fun xs H Q => ∃ (p : Addr) (as : List Addr) (ts : List (List Str)), xs = [.ref p] ∧ SqL X.K H p (as.map V.ref) ∧ Paired (fun a t => SqT X.K H a (t.map V.str) ∧ t ≠ []) as ts ∧ as.length < 64 ∧ ∀ (r : Addr) (o : Array Nat), H r = none → Gd as.length o → SPk (ltI ts) o as.length → Q (.ref r) (upd H r (.lst ((o.toList.map fun i => as.getD i 0).map V.ref)))) := by
  intro pins s σ H xs us Q I r h
  obtain ⟨p, as, ts, rfl, hq, ht, h64, q⟩ := h
  obtain ⟨u, rfl, rx⟩ := qDx r
  cases rx
  obtain ⟨its, rv, pl, hz⟩ := I.list hq
  have ei := refs_of rv
  subst ei
  refine Calls.call_function_entry kind_sorted plain_sorted entry_sorted (args_sorted1 _) ?_
  unfold Builtin.«sorted»
  refine wpAny_bind (m := checkCount "sorted" 1 1 _) (wpAny_pure (wpAny_bind (collect_list pl.isList ?_ (by rw [List.length_map, sizeLine_eq]; omega))))
  refine wpAny_bind (wpAny_newList ?_ (by rw [List.length_map, sizeLine_eq]; omega))
  have hsz : ((s.heap.push (seqObj "list" #[] 0)).update s.heap.objs.size (Obj.mapSeq (· ++ (as.map Value.ref).toArray))).objs.size = s.heap.objs.size + 1 := by rw [Heap.size_update, size_push']
  have hoL : (((s.heap.push (seqObj "list" #[] 0)).update s.heap.objs.size (Obj.mapSeq (· ++ (as.map Value.ref).toArray))).push (seqObj "list" (as.map Value.ref).toArray 0)).get? (s.heap.objs.size + 1) = some (seqObj "list" (as.map Value.ref).toArray 0) := by
    rw [← hsz]; exact Heap.get?_push_size _ rfl
  have keep : ∀ b o, s.heap.get? b = some o → (((s.heap.push (seqObj "list" #[] 0)).update s.heap.objs.size (Obj.mapSeq (· ++ (as.map Value.ref).toArray))).push (seqObj "list" (as.map Value.ref).toArray 0)).get? b = some o := fun b o e => by
    have hlt : b < s.heap.objs.size := Heap.lt_size e
    rw [Heap.get?_push_ne _ _ _ (by rw [hsz]; exact Nat.ne_of_lt (Nat.lt_succ_of_lt hlt)), Heap.get?_update_ne _ _ _ _ (Nat.ne_of_lt hlt), Heap.get?_push_ne _ _ _ (Nat.ne_of_lt hlt)]
    exact e
  show wpAny _ _ _ _ _ { s with heap := ((s.heap.push (seqObj "list" #[] 0)).update s.heap.objs.size (Obj.mapSeq (· ++ (as.map Value.ref).toArray))).push (seqObj "list" (as.map Value.ref).toArray 0) }
  rw [hsz]
  have tp := tups_mk (h' := ((s.heap.push (seqObj "list" #[] 0)).update s.heap.objs.size (Obj.mapSeq (· ++ (as.map Value.ref).toArray))).push (seqObj "list" (as.map Value.ref).toArray 0)) I keep ht
  refine wpAny_bind (wpAny_holding (wpAny_call_entry slot_list_sort ⟨_, hoL, rfl⟩ entry_list_sort (sort_tupsO hoL tp (by rw [List.length_map]; exact h64) (fun v hv z => ?_) fun out o hp hg hsp eo => ⟨_, rfl, ?_⟩) (args_list_sort _)))
  · obtain ⟨b, hb, e⟩ := List.mem_map.mp hv
    rw [← e] at z
    injection z with z
    have lt := tups_lt I ht b hb
    exact absurd lt (by rw [z]; exact Nat.not_lt_of_le (Nat.le_succ _))
  rw [List.length_map] at hg hsp
  rw [outs_refs fun i hi => gd_mem hg hi] at eo
  subst eo
  have nz : H (s.heap.objs.size + 1) = none := I.hok.fresh (Nat.le_succ _)
  obtain ⟨e, he⟩ := sortedAll_at s.heap (as.map Value.ref) ((o.toList.map fun i => as.getD i 0).map Value.ref).toArray
  refine wpAny_pure ⟨_, rfl, .ref (s.heap.objs.size + 1), _, I.laid (t' := s.toks) (a := s.heap.objs.size + 1) (o := .lst ((o.toList.map fun i => as.getD i 0).map V.ref)) (h' := sortedAll s.heap (as.map Value.ref) ((o.toList.map fun i => as.getD i 0).map Value.ref).toArray) (fun b o eb => sortedAll_old eb) (Nat.le_succ _) ⟨?_, (o.toList.map fun i => as.getD i 0).map Value.ref, e, vals_refs _, he⟩, rfl, q _ o nz hg hsp⟩
  rw [List.length_map, List.length_map, gd_len hg]
  exact Nat.le_of_lt (qAf (by omega))
end
end L2
namespace L2
open PySem PySem.Spec PyProof.Rows PySem.W
open AutoSeq1 (wpAny_loadPart')
open MeetsSeq MeetsSeq2 MeetsSeq3 SeqRoads2
end L2
namespace L2
open PySem PySem.Spec PyProof.Rows PySem.W
section
variable {P : Program} {w : World} {A : Around} {E : Value → Shared → Prop} {s : Shared}
end
section
variable {X : Cx}
end
end L2
namespace L2
open PySem PySem.Spec PyProof.Rows
section
variable {P : Program} {w : World} {target iter target2 iter2 elt : Expr} {ifs ifs2 : List Expr} {scope : Scope} {pos : Pos}
end
end L2
namespace L2
open PySem PySem.Spec PyProof.Rows PySem.W
abbrev Srt (a : List (List Str)) : Prop := a.Pairwise fun x y => ltL y x = false
theorem getD_rangeL (ts : List (List Str)) : (List.range ts.length).map (fun i => ts.getD i []) = ts := by
  refine List.ext_getElem? fun i => ?_
  by_cases hi : i < ts.length
  · rw [List.getElem?_map, List.getElem?_range hi, List.getElem?_eq_getElem hi]
    show some (ts.getD i []) = _
    rw [List.getD_eq_getElem?_getD, List.getElem?_eq_getElem hi]; rfl
  · rw [List.getElem?_eq_none (by simp; omega), List.getElem?_eq_none (by omega)]
theorem order_rows {ts : List (List Str)} {o : Array Nat} (g : Gd ts.length o) (sp : SPk (ltI ts) o ts.length) : Srt (o.toList.map fun i => ts.getD i []) ∧ (o.toList.map fun i => ts.getD i []).Perm ts := by
  have sz := g.size
  refine ⟨?_, ?_⟩
  · rw [Srt, List.pairwise_iff_getElem]
    intro i j hi hj hij
    rw [List.length_map] at hi hj
    have h := sp i j hij (by simpa [sz] using hj)
    rw [List.getElem_map, List.getElem_map]
    have e : ∀ k (hk : k < o.toList.length), o.getD k 0 = o.toList[k] := fun k hk => by
      have hk' : k < o.size := by simpa using hk
      simp [Array.getD, hk']
    rw [e i hi, e j hj] at h
    exact h
  · have q := (Array.perm_iff_toList_perm.mp g).map fun i => ts.getD i []
    exact q.trans (List.Perm.of_eq (getD_rangeL ts))
end L2
namespace L2
open PySem PySem.Spec PyProof.Rows
section
variable {X : Cx}
theorem ints_of {ns : List Int} : ∀ {us : List Value}, qBa (ns.map V.int) us → ∃ xs : List (Int × Tok), us = xs.map (fun p => Value.int p.1 p.2) ∧ xs.map (·.1) = ns := by
  induction ns with
  | nil => intro us r; cases r; exact ⟨[], rfl, rfl⟩
  | cons a l ih =>
    intro us r
    cases r with
    | cons r rr =>
      obtain ⟨t, rfl⟩ := r
      obtain ⟨xs, rfl, rfl⟩ := ih rr
      exact ⟨(a, t) :: xs, rfl, rfl⟩
theorem qDj (hc : X.calm = true) : qCr X (.builtin "sum") (fun xs H Q => ∃ (p : Addr) (ns : List Int), xs = [.ref p] ∧ SqL X.K H p (ns.map V.int) ∧ Q (.int ns.sum) H) := by
  intro pins s σ H xs us Q I r h
  obtain ⟨p, ns, rfl, hq, q⟩ := h
  obtain ⟨u, rfl, rx⟩ := qDx r
  cases rx
  obtain ⟨its, rv, pl, hz⟩ := I.list hq
  obtain ⟨ys, rfl, rfl⟩ := ints_of rv
  have e : (ys.map (fun p => Value.int p.1 p.2)).toArray = intItems ys.toArray := by unfold intItems; simp
  have pl' := pl.isList
  rw [e] at pl'
  refine sum_intListG (I.ok.hd hc) pl' fun h' tk t' hk => ⟨.int _, H, I.kept (t' := tk) hk, ⟨t', rfl⟩, ?_⟩
  rw [preSum_eq, List.take_of_length_le (by simp)]
  exact q
theorem intsAre_ofV {ns : List Int} : ∀ {us : List Value}, qBa (ns.map V.int) us → IntsAre us ns := by
  induction ns with
  | nil => intro us r; cases r; exact .nil
  | cons a l ih =>
    intro us r
    cases r with
    | cons r rr =>
      obtain ⟨t, rfl⟩ := r
      exact .cons a t (ih rr)
theorem of_intsAre {ns : List Int} : ∀ {us : List Value}, IntsAre us ns → qBa (ns.map V.int) us := by
  induction ns with
  | nil => intro us r; cases r; exact .nil
  | cons a l ih =>
    intro us r
    cases r with
    | cons _ _ r => exact .cons ⟨_, rfl⟩ (ih r)
def tSortRev (K : PySem.W.Frag) (t : TA) : TE := fun σ H Q => t σ H fun vs H1 => ∃ (p : Addr) (ns : List Int), vs = [.ref p] ∧ SqL K H1 p (ns.map V.int) ∧ ns.length < 64 ∧ ∀ (r : Addr) (ns' : List Int), H1 r = none → ns'.Perm ns → Ordered true ns' → Q (.ref r) (upd H1 r (.lst (ns'.map V.int)))
theorem pe_sortRev {e : Expr} {t : TA} {p pos kp cp : Pos} {j : Nat} (hg : Gl X "sorted") (hm : X.mg "sorted" = none) (ha : PA X [e] t)
    (he : backTo pos (starEach [e] X.env) = (false, eval e X.env) :: backTo pos (starEach [] X.env) := by rfl)
    (hplain : (backTo pos (starEach [e] X.env)).any (·.1) = false := by rfl) : PE X (.Call (.Name "sorted" p) [e] [⟨some "reverse", .Constant (.bool true) j cp, kp⟩] pos) (tSortRev X.K t) := by
  intro pins s σ H Q I h
  refine wpAny_Call_Name_kw (qFr I hg hm (by decide +kernel : bootBuiltins "sorted" = some (.builtin "sorted")) ?_ (by decide) (by decide))
  refine PyProof.Rows.callWith_kw (thn (ha pos pins s σ H _ I h) fun us s1 ⟨vs, H1, I1, r1, q1⟩ => ?_) he hplain
  obtain ⟨a, ns, rfl, hq, h64, q⟩ := q1
  obtain ⟨u, rfl, rx⟩ := qDx r1
  cases rx
  refine PyProof.Rows.kws_cons (Constant_bool (PyProof.Rows.kws_nil ?_))
  obtain ⟨its, rv, pl, hz⟩ := I1.list hq
  have hl := rv.length
  rw [List.length_map] at hl
  refine sorted_ints_rev (b := true) pl.isList (intsAre_ofV rv) (by omega) fun out ns' h1 h2 h3 => ?_
  obtain ⟨e, he⟩ := sortedAll_at s1.heap its out
  have nz : H1 (s1.heap.objs.size + 1) = none := I1.hok.fresh (Nat.le_succ _)
  refine ⟨.ref (s1.heap.objs.size + 1), _, I1.laid (t' := s1.toks) (a := s1.heap.objs.size + 1) (o := .lst (ns'.map V.int)) (fun b o eb => sortedAll_old eb) (Nat.le_succ _) ?_, rfl, q _ ns' nz h2 h3⟩
  refine ⟨?_, out.toList, e, of_intsAre h1, by simpa using he⟩
  rw [List.length_map, h2.length_eq]
  exact Nat.le_of_lt (qAf (by omega))
def rBits : V → List V → Hp → VK → Prop := fun x vs H Q => ∃ i : Int, x = .int i ∧ vs = [] ∧ Q (.int (Builtin.Int.intBits i : Nat)) H
theorem mt_bits : MtR X "int.bit_length" rBits := by
  intro pins s σ H x vs v us Q I rx rv h
  obtain ⟨i, rfl, rfl, q⟩ := h
  obtain ⟨t, rfl⟩ := rx
  have hus := rv.zero
  subst hus
  exact call_int_bit_length ⟨.int _, H, I.tok _, ⟨_, rfl⟩, q⟩
def rIndex (K : PySem.W.Frag) : V → List V → Hp → VK → Prop := fun x vs H Q => ∃ (l : Addr) (ss : List Str) (z : Str) (j : Nat), x = .ref l ∧ vs = [.str z] ∧ H l = some (.lst (ss.map V.str)) ∧ ss[j]? = some z ∧ (∀ k, k < j → ss[k]? ≠ some z) ∧ j < 1000 ∧ Q (.int (j : Nat)) H
theorem mt_index : MtR X "list.index" (rIndex X.K) := by
  intro pins s σ H x vs v us Q I rx rv h
  obtain ⟨l, ss, z, j, rfl, rfl, hH, hj, hno, hsm, q⟩ := h
  cases rx
  obtain ⟨u, rfl, ru⟩ := rv.one
  obtain ⟨t, rfl⟩ := ru
  obtain ⟨zz, its, n, r, hl, e⟩ := I.lstM hH
  have at_ : ∀ k (hk : k < its.length), ∃ y t', ss[k]? = some y ∧ its[k] = Value.str y t' := fun k hk => by
    have hk' : k < ss.length := by rw [List.length_map] at hl; omega
    obtain ⟨w, hw, rw'⟩ := r.get (i := k) (x := V.str ss[k]) (by rw [List.getElem?_map, List.getElem?_eq_getElem hk']; rfl)
    obtain ⟨t', rfl⟩ := rw'
    rw [List.getElem?_eq_getElem hk] at hw
    exact ⟨ss[k], t', List.getElem?_eq_getElem hk', Option.some.inj hw⟩
  have jl : j < its.length := by
    have := (List.getElem?_eq_some_iff.mp hj).1
    rw [List.length_map] at hl; omega
  refine call_meets F.slot_list_index ⟨_, e, rfl⟩ F.entry_list_index (F.args_list_index_2 _ _)
    (MeetsSeq.list_index l its.toArray n (.str z t) (fun y => match y with | .str y _ => y == z | _ => false) (fun y hy => ?_) j (by rw [List.size_toArray]; exact jl) (by omega) ?_ (fun m hm hmj => ?_)) ⟨e, ⟨.int _, H, I.tok _, ⟨_, rfl⟩, q⟩⟩
  · have hy' : y ∈ its := by simpa using hy
    obtain ⟨k, hk, rfl⟩ := List.getElem_of_mem hy'
    obtain ⟨y, t', _, e2⟩ := at_ k hk
    rw [e2]
    exact eqGives_str y z t' t
  · obtain ⟨y, t', h1, e2⟩ := at_ j jl
    have : its.toArray[j] = Value.str y t' := by simpa using e2
    rw [this]
    rw [hj] at h1
    cases h1
    exact beq_self_eq_true _
  · have hm' : m < its.length := by simpa using hm
    obtain ⟨y, t', h1, e2⟩ := at_ m hm'
    have : its.toArray[m] = Value.str y t' := by simpa using e2
    rw [this]
    show (y == z) = false
    rw [beq_eq_false_iff_ne]
    intro w
    exact hno m hmj (by rw [h1, w])
end
end L2
namespace L2
open PySem PySem.Spec PyProof.Rows
section
variable {X : Cx}
def iEnum (K : PySem.W.Frag) (ta : TA) : TI := fun σ H R => ta σ H fun vs H1 => ∃ (a : Addr) (xs : List V), vs = [.ref a] ∧ SqL K H1 a xs ∧ R (Itp xs.length (fun H => SqL K H a xs) (fun i => [.int (i : Nat), xs.getD i .non])) H1
theorem boot_enum : bootBuiltins "enumerate" = some (.type "enumerate") := by decide +kernel
theorem pi_enum {a : Expr} {ta : TA} {p pos tpos : Pos} {elts : List Expr} {ct : Nat} (hg : Gl X "enumerate") (hm : X.mg "enumerate" = none) (ha : PA X [a] ta) (hs : starEach [a] X.env = [(false, eval a X.env)] := by rfl) :
    PI X (.Tuple elts ct tpos) (.Call (.Name "enumerate" p) [a] [] pos) (iEnum X.K ta) := by
  intro pins s σ H R I h
  refine Call_ (qFr I hg hm boot_enum (PyProof.Rows.callWith_type1 (thn (ha pos pins s σ H _ I h) fun us s1 ⟨vs, H1, I1, r1, q1⟩ => ?_) (by rw [hs]; rfl) (by rfl)))
  obtain ⟨l, xs, e, hx, q⟩ := q1
  subst e
  obtain ⟨u, rfl, rx⟩ := qDx r1
  cases rx
  obtain ⟨it1, rv1, pl1, hz1⟩ := I1.list hx
  have b1 : l < s1.heap.objs.size := by obtain ⟨o, n, e, _⟩ := pl1; exact Heap.lt_size e
  refine call_enumerate_list pl1.isList fun h1 z1 z2 z3 z7 => ?_
  refine wpAny_pyIter_enum z1 ?_
  have hfp : ∀ b ∈ [s1.heap.objs.size + 1, s1.heap.objs.size], s1.heap.objs.size ≤ b := fun b hb => by
    simp only [List.mem_cons, List.not_mem_nil, or_false] at hb
    rcases hb with rfl | rfl
    · exact Nat.le_add_right _ _
    · exact Nat.le_refl _
  refine ⟨s1.heap.objs.size + 1, [s1.heap.objs.size + 1, s1.heap.objs.size],
    fun i h => (∃ old, IsEnum h (s1.heap.objs.size + 1) s1.heap.objs.size i old) ∧ h.IsListIter s1.heap.objs.size l i,
    _, H1, rfl, I1.kept (t' := s1.toks) z7,
    qF4 (s1.heap.objs.size + 1) _ [s1.heap.objs.size + 1, s1.heap.objs.size, l] [s1.heap.objs.size + 1, s1.heap.objs.size] _ _ _ _ (by simp) (fun b hb => hb) (fun i h st b hb => ?_) (fun i h h' st k => ?_) (fun i => by show 2 ≤ sizeLine; decide) ?_ (fun A i s' Q E st hQ => by
      obtain ⟨⟨old, he⟩, _⟩ := st
      exact wpAny_pyIter_enum he hQ),
    ⟨⟨_, z1⟩, z2⟩, fun b hb => I1.fpOk (hfp b hb) (I1.hok.fresh (hfp b hb)), q⟩
  · obtain ⟨⟨old, a1⟩, ⟨o4, a4, c4, d4⟩⟩ := st
    simp only [List.mem_cons, List.not_mem_nil, or_false] at hb
    rcases hb with rfl | rfl
    · exact ⟨_, a1, fun v z => by cases z⟩
    · exact ⟨_, a4, fun v z => by rw [d4] at z; cases z⟩
  · obtain ⟨⟨old, a1⟩, a4⟩ := st
    exact ⟨⟨old, k _ (by simp) _ a1⟩, a4.at fun o e => k _ (by simp) o e⟩
  · intro X' hP hw hK hc pins' s' σ' H' I' hL
    rw [← hK] at hL
    obtain ⟨jt1, sv1, ql1, _⟩ := I'.list hL
    have m1 := sv1.length
    have ne1 : l ≠ s1.heap.objs.size := Nat.ne_of_lt b1
    have Wz := WalksT.enumerateD (A := X'.A) (Draws.list (prog := X.prog) (w := X.w) (A := X'.A.in1) (I'.ok.hd hc) s1.heap.objs.size l ne1 jt1.toArray) (s1.heap.objs.size + 1) (Nat.succ_ne_self _) (fun z => by
      simp only [List.mem_cons, List.not_mem_nil, or_false] at z
      rcases z with z | z
      · exact Nat.succ_ne_self _ z
      · exact absurd b1 (by rw [← z]; exact Nat.not_lt_of_le (Nat.le_succ _))) (by simp)
    rw [show jt1.toArray.size = xs.length by show jt1.length = _; rw [m1]] at Wz
    refine ⟨_, _, _, Wz, fun i st => ?_, fun i h st => ?_, fun i vals pv => ?_⟩
    · exact ⟨st.1, st.2, ql1.isList⟩
    · exact ⟨st.1, st.2.1⟩
    · obtain ⟨t, x, e1, rfl⟩ := pv
      have e1 : jt1[i]? = some x := by simpa using e1
      have c1 : i < xs.length := by rw [m1]; exact (List.getElem?_eq_some_iff.mp e1).1
      obtain ⟨u, d1, d2⟩ := sv1.get (List.getElem?_eq_getElem c1)
      rw [e1] at d1
      cases d1
      show qBa [.int (i : Nat), xs.getD i .non] [.int i t, x]
      rw [List.getD_eq_getElem?_getD, List.getElem?_eq_getElem c1]
      exact .cons ⟨t, rfl⟩ (.cons d2 .nil)
end
end L2
namespace L2
open PySem PySem.Spec PyProof.Rows
section
variable {X : Cx}
def rInsert : V → List V → Hp → VK → Prop := fun x vs H Q => ∃ (l : Addr) (xs : List V) (i : Nat) (y : V), x = .ref l ∧ vs = [.int (i : Int), y] ∧ H l = some (.lst xs) ∧ i ≤ xs.length ∧ xs.length < 1000 ∧ Q .non (upd H l (.lst (xs.take i ++ y :: xs.drop i)))
theorem qBa.takeL : ∀ {xs : List V} {us : List Value} (i : Nat), qBa xs us → qBa (xs.take i) (us.take i)
  | _, _, 0, _ => .nil
  | _, _, _ + 1, .nil => .nil
  | _, _, i + 1, .cons r t => .cons r (qBa.takeL i t)
theorem qBa.dropL : ∀ {xs : List V} {us : List Value} (i : Nat), qBa xs us → qBa (xs.drop i) (us.drop i)
  | _, _, 0, h => h
  | _, _, _ + 1, .nil => .nil
  | _, _, i + 1, .cons _ t => qBa.dropL i t
theorem mt_insert : MtM X "list.insert" rInsert := by
  intro pins s σ H x vs v us Q I rx rv h
  obtain ⟨l, xs, i, y, rfl, rfl, hH, hi, hz, q⟩ := h
  cases rx
  obtain ⟨u, w', rfl, r1, r2⟩ := vals2 rv
  obtain ⟨t, rfl⟩ := r1
  obtain ⟨z, its, n, r, hl, e⟩ := I.lstM hH
  have fi : ¬ (!Builtin.List.listFitsIndex (i : Int)) = true := by
    rw [fitsIndex_both (by omega) (by omega)]
    exact Bool.false_ne_true
  have zz : its.toArray.size ≤ sizeLine := by rw [List.size_toArray, ← hl]; exact z
  obtain ⟨k, hk⟩ : ∃ k : Int, k = (i : Int) := ⟨_, rfl⟩
  rw [← hk] at fi ⊢
  have M := AutoListH.list_insert_list_int_val_1 l its.toArray n k t w' fi zz
  refine call_meets F.slot_list_insert ⟨_, e, rfl⟩ F.entry_list_insert (F.args_list_insert_3 _ _ _) M ⟨e, ?_⟩
  refine ⟨.non, _, I.lset (its' := its.take i ++ w' :: its.drop i) hH e ?_ (qBa.append (qBa.takeL i r) (.cons r2 (qBa.dropL i r))) ?_, rfl, q⟩
  · have k' : (if k < 0 then (k + ((its.toArray.size : Nat) : Int)).toNat else min k.toNat its.toArray.size) = i := by
      rw [hk, if_neg (by omega), Int.toNat_natCast, List.size_toArray]
      omega
    dsimp only
    rw [k']
    apply Array.ext'
    simp
    rw [List.take_of_length_le (by rw [List.length_drop]; exact Nat.le_refl _)]
  · rw [List.length_append, List.length_cons, List.length_take, List.length_drop]
    exact Nat.le_of_lt (qAf (by omega))
end
end L2
namespace L2
open PySem PySem.Spec PyProof.Rows PySem.SeqAt PySem.MeetsSeq
section
variable {X : Cx}
end
end L2
namespace L2
open PySem PySem.Spec PyProof.Rows
section
variable {X : Cx} {e st : Expr} {te ts : TE} {p2 pos : Pos}
end
end L2
namespace L2
open PySem PySem.Spec PyProof.Rows PySem.SeqAt
section
variable {X : Cx}
theorem op_le_str : OpR X (compareOp .LtE) (fun x y H Q => ∃ i j, x = .str i ∧ y = .str j ∧ Q (.bl (!decide (j.cps.toList < i.cps.toList))) H) := by
  intro pins s σ H x y v u Q I rx ry h
  obtain ⟨i, j, rfl, rfl, q⟩ := h
  obtain ⟨t, rfl⟩ := rx
  obtain ⟨t', rfl⟩ := ry
  exact PySem.P.le_str (fin_bl I q rfl)
end
end L2
namespace L2
open PySem PySem.Spec PyProof.Rows PySem.Builtin PySem.Builtin.Str
def rJoin : V → List V → Hp → VK → Prop := fun x vs H Q => ∃ (l : Addr) (ss : List Str) (z : Str), x = .str z ∧ vs = [.ref l] ∧ H l = some (.lst (ss.map V.str)) ∧ (ss.map (·.length)).sum + ss.length * z.length ≤ 16777216 ∧ Q (.str (Txt.join z ss)) H
theorem mt_join {X : Cx} : MtR X "str.join" rJoin := by
  intro pins s σ H x vs v us Q I rx rv h
  obtain ⟨l, ss, z, rfl, rfl, hH, hz, q⟩ := h
  obtain ⟨t, rfl⟩ := rx
  obtain ⟨u, rfl, ru⟩ := rv.one
  cases ru
  obtain ⟨zz, its, n, r, hl, e⟩ := I.lstM hH
  exact join_list (items := its.toArray) ⟨_, e, rfl, n, rfl⟩ (qCv r) hz fun t' k => ⟨.str _, H, I.tok _, ⟨_, rfl⟩, q⟩
def rJoinT (K : PySem.W.Frag) : V → List V → Hp → VK → Prop := fun x vs H Q => ∃ (l : Addr) (ss : List Str) (z : Str), x = .str z ∧ vs = [.ref l] ∧ SqT K H l (ss.map V.str) ∧ (ss.map (·.length)).sum + ss.length * z.length ≤ 16777216 ∧ Q (.str (Txt.join z ss)) H
theorem mt_joinT {X : Cx} : MtR X "str.join" (rJoinT X.K) := by
  intro pins s σ H x vs v us Q I rx rv h
  obtain ⟨l, ss, z, rfl, rfl, hH, hz, q⟩ := h
  obtain ⟨t, rfl⟩ := rx
  obtain ⟨u, rfl, ru⟩ := rv.one
  cases ru
  obtain ⟨its, r, pl, _⟩ := I.tuple hH
  exact join_tuple (items := its.toArray) pl (qCv r) hz fun t' k => ⟨.str _, H, I.tok _, ⟨_, rfl⟩, q⟩
theorem vals_strs : ∀ l : List (Str × Tok), qBa ((l.map (·.1)).map V.str) (strValues l)
  | [] => .nil
  | (x, t) :: l => .cons ⟨t, rfl⟩ (vals_strs l)
def rSplit : V → List V → Hp → VK → Prop := fun x vs H Q => ∃ z y : Str, x = .str z ∧ vs = [.str y] ∧ (y.length == 0) = false ∧ z.length + 2 ≤ sizeLine ∧ ∀ l, H l = none → Q (.ref l) (upd H l (.lst ((Txt.split z y).map V.str)))
theorem qFa {X : Cx} : MtR X "str.split" rSplit := by
  intro pins s σ H xv vs v us Q I rx rv h
  obtain ⟨x, y, rfl, rfl, hy, hsz, q⟩ := h
  obtain ⟨t, rfl⟩ := rx
  obtain ⟨w, rfl, ru⟩ := rv.one
  obtain ⟨u, rfl⟩ := ru
  have hn : (partsBetween x (occurrences x y 0 x.length (x.length + 1)) y.length).length ≤ sizeLine := by
    have e1 := StrLaws.occ_length_le x y 0 x.length (x.length + 1)
    rw [length_partsBetween]; omega
  have fin : ∀ (l : List (Str × Tok)) (k : Nat), l.map (·.1) = Txt.split x y → l.length ≤ sizeLine → EP X pins σ Q (.ref s.heap.objs.size) { s with heap := s.heap.push { cls := .type "list", data := .seq (strValues l).toArray }, toks := k } := fun l k e hl => by
    have r := vals_strs l
    rw [e] at r
    have hz : ((Txt.split x y).map V.str).length ≤ sizeLine := by rw [← e, List.length_map, List.length_map]; exact hl
    exact ⟨.ref s.heap.objs.size, _, I.laid (t' := k) (fun b o e => Heap.get?_push_of_some _ e) (Nat.le_refl _) (show qCe X.prog X.w _ _ _ (.lst ((Txt.split x y).map V.str)) from ⟨hz, _, _, r, Heap.get?_push_size _ rfl⟩), rfl, q _ (I.hok.fresh (Nat.le_refl _))⟩
  cases h1 : (decide (x.length < y.length) || decide (strKind x < strKind y))
  · cases hf : (occurrences x y 0 x.length (x.length + 1)).isEmpty
    · refine call_meets F.slot_str_split (typeIs_str _ _ _) F.entry_str_split (F.args_str_split_2 _ _) (meets_str_split_sep x y t u h1 hy hf (by omega) hn) ?_
      show wants _ _ _ { s with toks := _, heap := s.heap.push { cls := .type "list", data := .seq (strsFrom s.toks (partsBetween x (occurrences x y 0 x.length (x.length + 1)) y.length)).toArray } }
      rw [strsFrom_eq]
      have e : (numbered s.toks (partsBetween x (occurrences x y 0 x.length (x.length + 1)) y.length)).map (·.1) = Txt.split x y := (numbered_texts s.toks (partsBetween x (occurrences x y 0 x.length (x.length + 1)) y.length)).trans ((if_neg (ne_true_of_eq_false h1)).trans (if_neg (ne_true_of_eq_false hf))).symm
      refine fin (numbered s.toks _) _ e ?_
      have e2 := congrArg List.length (numbered_texts s.toks (partsBetween x (occurrences x y 0 x.length (x.length + 1)) y.length))
      rw [List.length_map] at e2
      rw [e2]; exact hn
    · exact call_meets F.slot_str_split (typeIs_str _ _ _) F.entry_str_split (F.args_str_split_2 _ _) (meets_str_split_not_found x y t u h1 hy hf) (fin [(x, t)] s.toks ((if_neg (ne_true_of_eq_false h1)).trans (if_pos hf)).symm (by show 1 ≤ sizeLine; decide))
  · exact call_meets F.slot_str_split (typeIs_str _ _ _) F.entry_str_split (F.args_str_split_2 _ _) (meets_str_split_cannot_occur x y t u h1) (fin [(x, t)] s.toks (if_pos h1).symm (by show 1 ≤ sizeLine; decide))
theorem Walks.shift {prog : Program} {w : World} {A : Around} {I : Addr} {fp wr : List Addr} {n : Nat} {P : Nat → Value → Prop} {St : Nat → Heap → Prop} (W : Walks prog w A I fp wr (n + 1) P St) : Walks prog w A I fp wr n (fun i v => P (i + 1) v) (fun i h => St (i + 1) h) where
  sub := W.sub
  frame := fun i h h' st hk => W.frame (i + 1) h h' st hk
  item := fun i s Q E hi st hQ => W.item (i + 1) s Q E (by omega) st hQ
  done := fun s Q E st hQ => W.done s Q E st hQ
  self := fun i s Q E st hQ => W.self (i + 1) s Q E st hQ
section
variable {prog : Program} {w : World} {A : Around} {E : Value → Shared → Prop} {s : Shared}
theorem draw_one {it t : Addr} {items : Array Value} {x : Value} (Q : List Value → Shared → Prop) (hit : s.heap.IsListIter it t 0) (ht : s.heap.IsList t items) (hx : items[0]? = some x)
    (hQ : ∀ h', h'.IsListIter it t 1 → Heap.ExtBut it s.heap h' → Q [x] { s with heap := h' }) : wpAny (model prog w) A (draw (.ref it) 1) Q E s := by
  show wpAny _ _ (pyNext (.ref it) >>= _) Q E s
  refine wpAny_bind (wpAny_pyNext_list_item hit ht (x := x) hx fun h₁ hit₁ hs₁ => ?_)
  refine wpAny_bind (wpAny_holding ?_)
  show wpAny _ _ (pure []) _ _ _
  exact wpAny_pure (wpAny_pure (hQ h₁ hit₁ hs₁.extBut))
theorem qFb {t : Addr} {x : Value} {xs : List Value} {Q : List Value → Shared → Prop} (hh : A.handled = none) (ht : s.heap.IsList t (x :: xs).toArray) (hz : xs.length ≤ sizeLine)
    (hQ : ∀ (s' : Shared), (∀ b o, b < s.heap.objs.size → s.heap.get? b = some o → s'.heap.get? b = some o) → s'.gens = s.gens → s'.drawn = s.drawn → s'.os = s.os → Q [x, .ref s'.heap.objs.size] { s' with heap := s'.heap.push { cls := .type "list", data := .seq xs.toArray } }) : wpAny (model prog w) A (unpackItems (.ref t) 2 (some 1)) Q E s := by
  have hlt : t ≠ s.heap.objs.size := by obtain ⟨o, ho, _⟩ := ht; exact Nat.ne_of_lt (Heap.lt_size ho)
  have ltT : t < s.heap.objs.size := by obtain ⟨o, ho, _⟩ := ht; exact Heap.lt_size ho
  unfold unpackItems
  refine wpAny_bind ?_
  unfold notIterableAtAll
  refine wpAny_bind (wpAny_specialOf ht.typeIs PySem.F.slot_list_iter.lookup ?_)
  refine wpAny_pure ?_
  simp only [Bool.false_eq_true, if_false]
  refine wpAny_bind (wpAny_holding (wpAny_pyIter_list ht ?_))
  refine wpAny_bind (wpAny_holding (draw_one (x := x) _ ⟨_, Heap.get?_push_size _ rfl, rfl, rfl⟩ (ht.push _) (by simp) fun h₁ hit₁ hs₁ => ?_))
  rw [if_neg (by simp)]
  have ht₁ : h₁.IsList t (x :: xs).toArray := (ht.push _).extBut hs₁ hlt
  have sz : s.heap.objs.size < h₁.objs.size := by
    obtain ⟨o, ho, _⟩ := hit₁
    exact Heap.lt_size ho
  have W := (Walks.shift (n := xs.length) (Walks.list (prog := prog) (w := w) (A := A.in1) hh s.heap.objs.size t hlt (x :: xs).toArray)).toS
  refine wpAny_bind (wpAny_holding (wpAny_collect_iter (T := "list_iterator") (.inr (.inr (.inl rfl))) W (fun i s' st => by obtain ⟨⟨o, ho, hc, _⟩, _⟩ := st; exact ⟨o, ho, hc⟩) ⟨hit₁, ht₁⟩ (fun b hb => ?_) (by simp) (fun s' acc hm ha => ?_) hz))
  · simp only [List.mem_cons, List.not_mem_nil, or_false] at hb
    rcases hb with rfl | rfl
    · exact sz
    · exact Nat.lt_trans ltT sz
  · have ea : acc.toList = xs := by
      obtain ⟨a1, a2⟩ := ha
      refine List.ext_getElem? fun i => ?_
      by_cases hi : i < acc.size
      · have e1 : acc[i]? = some acc[i] := Array.getElem?_eq_getElem hi
        have e2 := a2 i acc[i] e1
        rw [Array.getElem?_toList, e1]
        simpa using e2.symm
      · rw [List.getElem?_eq_none (by simpa using hi), List.getElem?_eq_none (by omega)]
    rw [ea]
    simp only [Nat.reduceSub, Nat.sub_zero, Nat.not_lt_zero, if_false, List.take_length, List.drop_length]
    refine wpAny_bind (wpAny_newList ?_ hz)
    refine wpAny_pure ?_
    have := hQ s' (fun b o hb e => hm.heap b o (fun h => by
      simp only [List.mem_cons, List.not_mem_nil, or_false] at h
      rw [h] at hb
      exact Nat.lt_irrefl _ hb) (hs₁ b o (Nat.ne_of_lt hb) (Heap.get?_push_of_some _ e))) hm.gens hm.drawn hm.os
    simpa using this
end
theorem shared_eq {s s' : Shared} (h1 : s'.gens = s.gens) (h2 : s'.drawn = s.drawn) (h3 : s'.os = s.os) : s' = { s with heap := s'.heap, toks := s'.toks } := by
  cases s'
  cases s
  simp_all
theorem pgs_star {X : Cx} {e : Expr} {p : Pos} {es : List Expr} {t : TG} {u : TGs} (h1 : PG X e t) (h2 : PGs X es u)
    (hs : (assignEach (.Starred e p :: es) X.env).map (·.2) = assign e X.env :: (assignEach es X.env).map (·.2) := by rfl) : PGs X (.Starred e p :: es) (gCons t u) := by
  intro pins s σ H vs us Q I r h
  obtain ⟨v, vr, e1, h⟩ := h
  subst e1
  cases r with
  | cons r rr =>
    rw [hs]
    refine assignInOrder_cons (thn (h1 pins s σ H _ _ _ I r h) fun _ s1 ⟨σ1, H1, I1, q1⟩ => ?_)
    exact h2 pins s1 σ1 H1 _ _ Q I1 rr q1
def gStar (K : PySem.W.Frag) (t : TGs) : TG := fun v σ H Q => ∃ a x xs, v = .ref a ∧ SqL K H a (x :: xs) ∧ ∀ l, H l = none → t [x, .ref l] σ (upd H l (.lst xs)) Q
theorem pg_star {X : Cx} {pos : Pos} {es : List Expr} {k : Nat} {t : TGs} (hc : X.calm = true) (h : PGs X es t)
    (hn : (assignEach es X.env).length = 2 := by rfl) (hst : (assignEach es X.env).findIdx? (·.1) = some 1 := by rfl) : PG X (.Tuple es k pos) (gStar X.K t) := by
  intro pins s σ H v u Q I r hw
  obtain ⟨a, x, xs, e1, hq, hw⟩ := hw
  subst e1
  cases r
  obtain ⟨its, rv, pl, hz⟩ := I.list hq
  cases rv with
  | cons rx rr =>
    rename_i y its'
    rw [assign_Tuple]
    refine wpAny_bind (wpAny_standAt ?_)
    unfold unpack
    rw [hn, hst]
    have lz : its'.length ≤ sizeLine := by
      have := rr.length
      have h2 : (x :: xs).length ≤ sizeLine := hz
      rw [List.length_cons] at h2
      omega
    refine wpAny_bind (wpAny_holding (qFb (I.ok.hd hc) pl.isList lz fun s' hk h1 h2 h3 => ?_))
    have es := shared_eq h1 h2 h3
    have I1 : Inv X pins σ H s' := by
      rw [es]
      exact I.kept (t' := s'.toks) fun b o e => hk b o (Heap.lt_size e) e
    have hxs : xs.length ≤ sizeLine := by rw [rr.length]; exact lz
    have I2 : Inv X pins σ (upd H s'.heap.objs.size (.lst xs)) { s' with heap := s'.heap.push { cls := .type "list", data := .seq its'.toArray } } :=
      I1.laid (t' := s'.toks) (fun b o e => Heap.get?_push_of_some _ e) (Nat.le_refl _) (show qCe X.prog X.w _ _ _ (.lst xs) from ⟨hxs, _, _, rr, Heap.get?_push_size _ rfl⟩)
    exact h pins _ σ _ [x, .ref s'.heap.objs.size] _ Q I2 (.cons rx (.cons rfl .nil)) (hw _ (I1.hok.fresh (Nat.le_refl _)))
end L2
namespace L2
open PySem PySem.Spec PyProof.Rows
theorem pe_lc {X : Cx} {target iter elt : Expr} {ifs : List Expr} {scope sc : Scope} {pos : Pos} {N N' : List Str} {sub : List (Option Nat)} {wi : TI} {g : TG} {tt : TT} {te : TE} (hN : X.N = N) (hsc : X.env.scope = sc)
    (O : CmpOk N sc N' scope sub) (hc : X.calm = true) (hi : PI X target iter wi)
    (B : ∀ C s H fp, PG (qB6 X scope N' C s H fp) target g ∧ PTs (qB6 X scope N' C s H fp) ifs tt ∧ PE (qB6 X scope N' C s H fp) elt te)
    (hs : ∀ x, foldedSetIterable iter X.env x = pure x := by intro _; rfl) : PE X (.ListComp elt [⟨target, iter, ifs, 0⟩] scope pos) (tComp sub wi g tt te) :=
  pe_comp hc (by rw [hN, hsc]; exact O) hi B hs
theorem ps_lc {X : Cx} {target iter elt : Expr} {ifs : List Expr} {scope sc : Scope} {pos : Pos} {N N' : List Str} {sub : List (Option Nat)} {wi : TI} {g : TG} {tt : TT} {te : TE} {i : Nat} {y : Str} {py spos : Pos} (hN : X.N = N) (hsc : X.env.scope = sc)
    (O : CmpOk N sc N' scope sub) (hc : X.calm = true) (hi : PI X target iter wi)
    (B : ∀ C s H fp, PG (qB6 X scope N' C s H fp) target g ∧ PTs (qB6 X scope N' C s H fp) ifs tt ∧ PE (qB6 X scope N' C s H fp) elt te)
    (nd : X.N.Nodup) (hy : X.N[i]? = some y) (hx : Loc X.env.scope y)
    (hsw : swapsWith (.ListComp elt [⟨target, iter, ifs, 0⟩] scope pos) (some (.Name y py)) spos.line X.env = pure true := by rfl)
    (hs : ∀ x, foldedSetIterable iter X.env x = pure x := by intro _; rfl) (hf : X.fn y = true ∨ X.env.scope.names.lookup y = some .local := by first | exact .inl rfl | exact .inr rfl | assumption) :
    PS X (.Assign [.Name y py] (.ListComp elt [⟨target, iter, ifs, 0⟩] scope pos) spos) (tAsg (tComp sub wi g tt te) (gName i)) :=
  ps_comp hc (by rw [hN, hsc]; exact O) hi B nd hy hx hsw hs hf
end L2
namespace My
open PySem L2
def top (i : Nat) : Stmt := PySem.Challenge.pw_roundsalone_k72_texts_written.main.body.getD i (.Pass ⟨0, 0, 0, 0⟩)
abbrev sName : Stmt := top 7
abbrev sIsRow : Stmt := top 8
abbrev sMask : Stmt := top 10
abbrev sRowOf : Stmt := top 11
abbrev sLess : Stmt := top 12
abbrev sRedu : Stmt := top 13
abbrev sLead : Stmt := top 14
abbrev sCrM : Stmt := top 15
abbrev sTabF : Stmt := top 16
abbrev sHtf : Stmt := top 21
abbrev sKeep : Stmt := top 22
abbrev sStepM : Stmt := top 23
abbrev sCross : Stmt := top 24
abbrev sIsTie : Stmt := top 26
abbrev sForm : Stmt := top 27
abbrev sKNB : Stmt := top 28
abbrev sTies : Stmt := top 29
abbrev sPoints : Stmt := top 30
abbrev sMet : Stmt := top 31
abbrev sTable : Stmt := top 32
abbrev sShRow : Stmt := top 35
abbrev sShRows : Stmt := top 36
abbrev sShTab : Stmt := top 37
abbrev sShNet : Stmt := top 38
abbrev sWords : Stmt := top 39
abbrev sRdTab : Stmt := top 40
abbrev sRdNet : Stmt := top 41
abbrev sCell : Stmt := top 43
abbrev sBig : Stmt := top 44
abbrev sNames : Stmt := top 45
abbrev sEnds : Stmt := top 46
abbrev sNet : Stmt := top 47
abbrev sLRed : Stmt := top 48
abbrev sLEven : Stmt := top 49
abbrev sLCro : Stmt := top 50
abbrev sLSma : Stmt := top 51
abbrev sLMor : Stmt := top 52
abbrev sLRow : Stmt := top 53
abbrev sLFre : Stmt := top 54
abbrev sLSto : Stmt := top 55
abbrev sLTab : Stmt := top 56
abbrev sLCop : Stmt := top 57
abbrev sLSame : Stmt := top 58
abbrev sLSNet : Stmt := top 59
abbrev sLWri : Stmt := top 60
abbrev sLTWr : Stmt := top 61
abbrev sLNWr : Stmt := top 62
abbrev sLaw : Stmt := top 63
def Ext (H H' : Hp) : Prop := ∀ b o, H b = some o → H' b = some o
theorem Ext.refl (H : Hp) : Ext H H := fun _ _ h => h
theorem Ext.trans {H H1 H2 : Hp} (a : Ext H H1) (b : Ext H1 H2) : Ext H H2 := fun c o h => b c o (a c o h)
theorem Ext.new {H : Hp} {p : Addr} (h : H p = none) (o : HO) : Ext H (upd H p o) := fun b u q => by rw [qAr (qAp q h)]; exact q
theorem Ext.none {H H' : Hp} (e : Ext H H') {p : Addr} (h : H' p = none) : H p = none := by
  cases q : H p with
  | none => rfl
  | some o => rw [e p o q] at h; cases h
theorem Ext.sqL {K : PySem.W.Frag} {H H' : Hp} {a : Addr} {xs : List V} (e : Ext H H') (h : SqL K H a xs) : SqL K H' a xs := by
  rcases h with (h | ⟨o, h⟩) | h
  · exact .inl (.inl (e _ _ h))
  · exact .inl (.inr ⟨o, e _ _ h⟩)
  · exact .inr h
def spCell (K : PySem.W.Frag) : Sp := fun vs H Q _ => ∃ (a : Addr) (ns : List Int) (k : Int), vs = [.ref a, .int k] ∧ SqL K H a (ns.map V.int) ∧ 0 ≤ k ∧ ∀ v, Q (.int v) H
section
variable {P : Program} {w : World} {K : PySem.W.Frag} {mg : Str → Option Value} {base : Heap} {f f1 : Addr} {fd fd1 : FuncData}
theorem scCell : FnScope ["_law_script", "_law_k"] ["_law_script", "_law_k"] (qAc sCell) := ⟨rfl, rfl, rfl, by decide +kernel, rfl, by decide +kernel, by decide +kernel⟩
theorem ok_cell (F : Fun K "_law_cell_at" "_law_cell_at" sCell f fd) (ml : mg "len" = none) : FnOk P w K mg base CX0 1 f fd ["_law_script", "_law_k"] (spCell K) := by
  refine F.ok scCell (fun vs H Q E h => ?_) (fun cdv A outer s H vs Q E hr h => ?_)
  · obtain ⟨a, ns, k, rfl, _⟩ := h
    rfl
  obtain ⟨a, ns, k, rfl, hS, h0, q⟩ := h
  refine ⟨_, qAa (qBf (qAn qE5 (pv 1) (qAh qAo rfl ml PySem.boot_len (pa_cons (pv 0) pa_nil)) (qAt _)) (qAd (qAm (qBb qBv (pv 0) (pv 1) (fun _ _ => rfl)))) qAx) (qAd (qAm qAb)), ?_⟩
  try dsimp only [Cx.wish, qB8]
  refine ⟨_, rfl, _, rfl, a, _, rfl, .inl hS, _, _, rfl, rfl, _, rfl, ?_⟩
  refine qCm (fun c => ?_) (fun c => q 0)
  have c' : k < (((ns.map V.int).length : Nat) : Int) := of_decide_eq_true c
  rw [List.length_map] at c'
  have hk : k.toNat < ns.length := by omega
  have hv : atI (ns.map V.int) ((k.toNat : Nat) : Int) = some (.int ns[k.toNat]) := qAv (by rw [List.getElem?_map, List.getElem?_eq_getElem hk] <;> rfl)
  rw [Int.toNat_of_nonneg h0] at hv
  exact ⟨_, rfl, _, rfl, a, _, _, _, rfl, rfl, hS, hv, q _⟩
end
end My
namespace My
open PySem L2
theorem qA4 : bootBuiltins "isinstance" = some (.builtin "isinstance") := by decide +kernel
theorem qBj (K : PySem.W.Frag) (t : Value) : PySem.W.kitOne K t t = some true := by unfold PySem.W.kitOne; rw [if_pos (beq_self_eq_true t)]
theorem boot_abs' : bootBuiltins "abs" = some (.builtin "abs") := by decide +kernel
theorem boot_range' : bootBuiltins "range" = some (.type "range") := by decide +kernel
end My
namespace My
open PySem L2
section
variable {σ0 : St} {g : TG} {tt : TT} {te : TE} {Q : List V → Hp → Prop} {H1 : Hp}
theorem turns_pure {K : PySem.W.Frag} {a : Addr} {xs : List V} (f : V → Option V) (hS : SqL K H1 a xs) (hz : xs.length ≤ sizeLine)
    (hs : ∀ x ∈ xs, ∀ C : Option V → Hp → Prop, C (f x) H1 → g x σ0 H1 fun σ2 H2 => Sle σ0 σ2 ∧ tt σ2 H2 fun b H3 => if b = true then te σ2 H3 (fun v H4 => C (some v) H4) else C none H3)
    (hd : Q (xs.filterMap f) H1) : qDl (Itl K a) σ0 g tt te Q H1 := by
  refine qAq (xs := xs) (fun i ys H => H = H1 ∧ ys = (xs.take i).filterMap f) ⟨rfl, by simp⟩ (fun i ys H _ h => by rw [h.1]; exact hS) ?_ ?_
  · rintro i x ys H hx ⟨rfl, rfl⟩
    have hi : i < xs.length := (List.getElem?_eq_some_iff.mp hx).1
    have hm : x ∈ xs := List.mem_of_getElem? hx
    have tk : (xs.take (i + 1)).filterMap f = (xs.take i).filterMap f ++ (f x).toList := by
      rw [List.take_add_one, hx, List.filterMap_append]
      cases e : f x <;> simp [e]
    have hl : ((xs.take i).filterMap f).length < sizeLine := by
      have h1 := List.length_filterMap_le f (xs.take i)
      rw [List.length_take] at h1
      omega
    refine hs x hm (fun o H4 => match o with | some v => ((xs.take i).filterMap f).length < sizeLine ∧ Nxt xs.length i _ ((xs.take i).filterMap f ++ [v]) H4 | none => Nxt xs.length i _ ((xs.take i).filterMap f) H4) ?_
    cases e : f x with
    | none => exact nxt hi ⟨rfl, by rw [tk, e]; simp⟩
    | some v => exact ⟨hl, nxt hi ⟨rfl, by rw [tk, e]; simp⟩⟩
  · rintro ys H ⟨rfl, rfl⟩
    rw [List.take_of_length_le (Nat.le_refl _)]
    exact hd
end
theorem inV_str (n : Str) : ∀ other : List Str, inV (.str n) (other.map V.str) = decide (n ∈ other)
  | [] => by simp [inV]
  | x :: r => by
    have ih := inV_str n r
    unfold inV at ih ⊢
    rw [List.map_cons, List.any_cons, ih]
    show (x == n || decide (n ∈ r)) = _
    by_cases e : n = x
    · subst e; simp
    · have e' : ¬ x = n := fun z => e z.symm
      simp [e, e']
theorem flat_strs : ∀ other : List Str, (other.map V.str).all flatV = true := fun other => by
  rw [List.all_eq_true]
  intro x hx
  obtain ⟨y, _, rfl⟩ := List.mem_map.mp hx
  rfl
def LsS (H : Hp) (a : Addr) (ss : List Str) : Prop := H a = some (.lst (ss.map V.str))
end My
namespace My
open PySem L2
abbrev sg : Str := "abcdefghijklmnopqrstuvwxyz0123456789"
def sgC (n : Nat) : Nat := sg.cps.toList.getD n 0
theorem sg_len : sg.cps.toList.length = 36 := by decide +kernel
theorem sg_nd : sg.cps.toList.Nodup := by decide +kernel
theorem sg_small : ∀ c ∈ sg.cps.toList, c < 128 := by decide +kernel
theorem sg_at {i : Int} (h0 : 0 ≤ i) (h1 : i < 36) : atI sg.cps.toList i = some (sgC i.toNat) := by
  have hk : i.toNat < sg.cps.toList.length := by rw [sg_len]; omega
  have := qAv (xs := sg.cps.toList) (j := i.toNat) (v := sgC i.toNat) (by
    unfold sgC
    rw [List.getD_eq_getElem?_getD, List.getElem?_eq_getElem hk]; rfl)
  rw [Int.toNat_of_nonneg h0] at this
  exact this
theorem sgC_inj {i j : Nat} (hi : i < 36) (hj : j < 36) (e : sgC i = sgC j) : i = j := by
  have hi' : i < sg.cps.toList.length := by rw [sg_len]; exact hi
  have hj' : j < sg.cps.toList.length := by rw [sg_len]; exact hj
  unfold sgC at e
  rw [List.getD_eq_getElem?_getD, List.getD_eq_getElem?_getD, List.getElem?_eq_getElem hi', List.getElem?_eq_getElem hj'] at e
  exact (List.getElem_inj sg_nd).mp e
def Sm (x : Str) : Prop := ∀ c ∈ x.cps.toList, c < 128
theorem Sm.ok {x : Str} (h : Sm x) : PyData.strOk x = true := by
  unfold PyData.strOk
  rw [Array.all_eq_true_iff_forall_mem]
  intro c hc
  have := h c (by simpa using hc)
  exact decide_eq_true (by omega)
end My
namespace My
open PySem L2
def qFj (r : List Str) : PyData := .list (r.map .str)
def rowsD (F : List (List Str)) : PyData := .list (F.map qFj)
theorem eqv_strs : ∀ a b : List Str, PyData.eqvAll (a.map .str) (b.map .str) = decide (a = b)
  | [], [] => rfl
  | [], _ :: _ => rfl
  | _ :: _, [] => rfl
  | x :: a, y :: b => by
    show (x == y && PyData.eqvAll (a.map .str) (b.map .str)) = _
    rw [eqv_strs a b]
    by_cases e : x = y
    · subst e; simp
    · simp [e]
theorem eqv_row (a b : List Str) : PyData.eqv (qFj a) (qFj b) = decide (a = b) := eqv_strs a b
def SOk (r : List Str) : Prop := ∀ x ∈ r, PyData.strOk x = true
theorem qEd : ∀ {r : List Str}, SOk r → PyData.canLayAll0 (r.map .str) = true ∧ PyData.depthAll (r.map .str) = 0
  | [], _ => ⟨rfl, rfl⟩
  | x :: r, h => by
    obtain ⟨h1, h2⟩ := qEd (r := r) fun y hy => h y (List.mem_cons_of_mem _ hy)
    refine ⟨?_, ?_⟩
    · show (PyData.strOk x && PyData.canLayAll0 (r.map .str)) = true
      rw [h1, h x List.mem_cons_self]; rfl
    · show max 0 (PyData.depthAll (r.map .str)) = 0
      rw [h2]; rfl
theorem qF8 {r : List Str} (h : SOk r) : SeqAt.shaped (qFj r) = true := by
  obtain ⟨h3, h4⟩ := qEd h
  show (PyData.canLayAll0 (r.map .str) && decide (PyData.depthAll (r.map .str) + 1 ≤ 64)) = true
  rw [h3, h4]; rfl
theorem dr_strs {K : PySem.W.Frag} {H : Hp} : ∀ r : List Str, DRs K H (r.map V.str) (r.map .str)
  | [] => .nil
  | x :: r => .cons (.str x) (dr_strs r)
theorem dr_row {K : PySem.W.Frag} {H : Hp} {a : Addr} {r : List Str} (h : LsS H a r) : DR K H (.ref a) (qFj r) := .lst (SqL.of h) (dr_strs r)
end My
namespace My
open PySem L2
theorem room64 {k : Nat} {A : Around} (hr : Room k A) : A.units + 64 < cLine := by have := hr.un; omega
theorem qA8 : bootBuiltins "list" = some (.type "list") := by decide +kernel
theorem qFw : bootBuiltins "str" = some (.type "str") := by decide +kernel
theorem qCa : bootBuiltins "sorted" = some (.builtin "sorted") := by decide +kernel
theorem qB3 : bootBuiltins "all" = some (.builtin "all") := by decide +kernel
theorem boot_set' : bootBuiltins "set" = some (.type "set") := by decide +kernel
theorem qB7 : bootBuiltins "tuple" = some (.type "tuple") := by decide +kernel
end My
namespace L2
open PySem PySem.Spec PyProof.Rows
def tCut (Pm : St → Hp → Prop) (t : TS) : TS := fun D σ H => t { D with nx := Pm } σ H ∧ ∀ σ' H', Pm σ' H' → D.nx σ' H'
theorem qFn {X : Cx} {st : Stmt} {t : TS} (Pm : St → Hp → Prop) (h : PS X st t) : PS X st (tCut Pm t) := by
  intro pins s σ H D I hw
  refine thn (h pins s σ H { D with nx := Pm } I hw.1) fun fl s' q => ?_
  cases fl with
  | next => obtain ⟨σ', H', I', q⟩ := q; exact ⟨σ', H', I', hw.2 σ' H' q⟩
  | brk => exact q
  | cont => exact q
  | ret u => exact q
end L2
namespace My
open PySem L2
theorem qC0 {α : Type} {P : List α → Prop} (h0 : P []) (hs : ∀ l t, P l → P (l ++ [t])) (l : List α) : P l := by
  have : ∀ r : List α, P r.reverse := fun r => by
    induction r with
    | nil => exact h0
    | cons a r ih => rw [List.reverse_cons]; exact hs _ _ ih
  have q := this l.reverse
  rwa [List.reverse_reverse] at q
abbrev Tr := Str × Str × Str
abbrev lab (f : Str → Str) (t : Tr) : Str → Str := fun p => if f p = f t.2.2 then f t.2.1 else f p
def qA1 (net : List Tr) : Str → Str := net.foldl lab id
theorem qCo (net : List Tr) (t : Tr) : qA1 (net ++ [t]) = lab (qA1 net) t := by unfold qA1; rw [List.foldl_append]; rfl
def isPt (net : List Tr) (x : Str) : Prop := ∃ t ∈ net, x = t.2.1 ∨ x = t.2.2
theorem qEf {net : List Tr} {t : Tr} {x : Str} : isPt (net ++ [t]) x ↔ isPt net x ∨ x = t.2.1 ∨ x = t.2.2 := by
  unfold isPt
  constructor
  · rintro ⟨u, hu, h⟩
    rcases List.mem_append.mp hu with z | z
    · exact .inl ⟨u, z, h⟩
    · rw [List.mem_singleton] at z; subst z; exact .inr h
  · rintro (⟨u, hu, h⟩ | h)
    · exact ⟨u, List.mem_append_left _ hu, h⟩
    · exact ⟨t, List.mem_append_right _ (List.mem_singleton.mpr rfl), h⟩
theorem homF_tie (net : List Tr) : ∀ t ∈ net, qA1 net t.2.1 = qA1 net t.2.2 := by
  refine qC0 (P := fun net => ∀ t ∈ net, qA1 net t.2.1 = qA1 net t.2.2) (fun t h => by cases h) (fun l t ih => ?_) net
  intro u hu
  rw [qCo]
  show (if qA1 l u.2.1 = qA1 l t.2.2 then qA1 l t.2.1 else qA1 l u.2.1) = if qA1 l u.2.2 = qA1 l t.2.2 then qA1 l t.2.1 else qA1 l u.2.2
  rcases List.mem_append.mp hu with z | z
  · rw [ih u z]
  · rw [List.mem_singleton] at z
    subst z
    rw [if_pos rfl]
    split <;> rfl
def wStep (kept : List Tr) (t : Tr) : List Tr := if qA1 kept t.2.1 = qA1 kept t.2.2 then kept else kept ++ [t]
def qCh (net : List Tr) : List Tr := net.foldl wStep []
theorem qDo (net : List Tr) (t : Tr) : qCh (net ++ [t]) = wStep (qCh net) t := by unfold qCh; rw [List.foldl_append]; rfl
theorem lab_same {f : Str → Str} {t : Tr} (h : f t.2.1 = f t.2.2) : lab f t = f := by
  funext p
  show (if f p = f t.2.2 then f t.2.1 else f p) = f p
  split
  · rename_i e; rw [e, h]
  · rfl
theorem qFt (net : List Tr) : qA1 (qCh net) = qA1 net := by
  refine qC0 (P := fun net => qA1 (qCh net) = qA1 net) rfl (fun l t ih => ?_) net
  rw [qDo, qCo]
  unfold wStep
  rw [ih]
  split
  · rename_i e
    rw [ih, lab_same e]
  · rw [qCo, ih]
theorem nodup_len {l1 l2 : List Str} (h1 : l1.Nodup) (h2 : l2.Nodup) (h : ∀ x, x ∈ l1 ↔ x ∈ l2) : l1.length = l2.length := ((List.perm_ext_iff_of_nodup h1 h2).mpr h).length_eq
theorem count (ps : List Str) (nd : ps.Nodup) (net : List Tr) : (∀ x, isPt net x → x ∈ ps) → ∃ labs : List Str, labs.Nodup ∧ (∀ x, x ∈ labs ↔ ∃ p ∈ ps, qA1 net p = x) ∧ labs.length + (qCh net).length = ps.length := by
  refine qC0 (P := fun net => (∀ x, isPt net x → x ∈ ps) → ∃ labs : List Str, labs.Nodup ∧ (∀ x, x ∈ labs ↔ ∃ p ∈ ps, qA1 net p = x) ∧ labs.length + (qCh net).length = ps.length) (fun _ => ⟨ps, nd, fun x => ⟨fun h => ⟨x, h, rfl⟩, fun ⟨p, hp, e⟩ => e ▸ hp⟩, rfl⟩) (fun l t ih hp => ?_) net
  obtain ⟨labs, n1, m1, c1⟩ := ih fun x hx => hp x (qEf.mpr (.inl hx))
  have o1 : t.2.1 ∈ ps := hp _ (qEf.mpr (.inr (.inl rfl)))
  have o2 : t.2.2 ∈ ps := hp _ (qEf.mpr (.inr (.inr rfl)))
  rw [qCo, qDo]
  unfold wStep
  rw [qFt]
  by_cases e : qA1 l t.2.1 = qA1 l t.2.2
  · rw [if_pos e, lab_same e]
    exact ⟨labs, n1, m1, c1⟩
  · rw [if_neg e]
    have mo : qA1 l t.2.2 ∈ labs := (m1 _).mpr ⟨_, o2, rfl⟩
    refine ⟨labs.erase (qA1 l t.2.2), n1.erase _, fun x => ?_, ?_⟩
    · rw [n1.mem_erase_iff, m1]
      constructor
      · rintro ⟨nx, p, hp', ex⟩
        refine ⟨p, hp', ?_⟩
        show (if qA1 l p = qA1 l t.2.2 then qA1 l t.2.1 else qA1 l p) = x
        rw [if_neg (by rw [ex]; exact nx), ex]
      · rintro ⟨p, hp', ex⟩
        have ex' : (if qA1 l p = qA1 l t.2.2 then qA1 l t.2.1 else qA1 l p) = x := ex
        by_cases z : qA1 l p = qA1 l t.2.2
        · rw [if_pos z] at ex'
          exact ⟨by rw [← ex']; exact e, _, o1, ex'⟩
        · rw [if_neg z] at ex'
          exact ⟨by rw [← ex']; exact z, p, hp', ex'⟩
    · rw [List.length_erase_of_mem mo, List.length_append]
      have : 0 < labs.length := List.length_pos_of_mem mo
      show labs.length - 1 + ((qCh l).length + 1) = _
      omega
end My
namespace My
open PySem L2
abbrev qF0 (l : List Str) : Prop := l.Pairwise fun a b => sLtB a b = true
end My
namespace My
open PySem L2
abbrev trV (t : Tr) : List V := [.str t.1, .str t.2.1, .str t.2.2]
def qCq (H : Hp) (p : Addr) (net : List Tr) : Prop := ∃ as : List Addr, H p = some (.lst (as.map V.ref)) ∧ Paired (fun a t => H a = some (.tup (trV t))) as net
theorem qCq.ext {H H' : Hp} {p : Addr} {net : List Tr} (h : qCq H p net) (e : Ext H H') : qCq H' p net := by
  obtain ⟨as, h1, h2⟩ := h
  exact ⟨as, e _ _ h1, Paired.mapP h2 fun a t z => e _ _ z⟩
theorem qAy {α β : Type} {R : α → β → Prop} : ∀ {as : List α} {bs : List β} {i : Nat} {a : α}, Paired R as bs → as[i]? = some a → ∃ b, bs[i]? = some b ∧ R a b
  | _, _, _, _, .nil, e => by simp at e
  | _, _, 0, _, .cons h _, e => by simp at e; subst e; exact ⟨_, rfl, h⟩
  | _, _, i + 1, _, .cons _ t, e => by
    obtain ⟨b, h1, h2⟩ := qAy (i := i) t (by simpa using e)
    exact ⟨b, by simpa using h1, h2⟩
theorem net_get {H : Hp} {as : List Addr} {net : List Tr} {i : Nat} {x : V} (h : Paired (fun a t => H a = some (.tup (trV t))) as net) (e : (as.map V.ref)[i]? = some x) : ∃ a t, x = .ref a ∧ net[i]? = some t ∧ H a = some (.tup (trV t)) := by
  rw [List.getElem?_map] at e
  cases ha : as[i]? with
  | none => rw [ha] at e; cases e
  | some a =>
    rw [ha] at e
    obtain ⟨t, h1, h2⟩ := qAy h ha
    exact ⟨a, t, (Option.some.inj e).symm, h1, h2⟩
theorem qAk {α : Type} {l : List α} {i : Nat} {t : α} (h : l[i]? = some t) : l.take (i + 1) = l.take i ++ [t] := by rw [List.take_add_one, h]; rfl
theorem qA2 {α : Type} {l : List α} {i : Nat} {t : α} (h : l[i]? = some t) : i < l.length := (List.getElem?_eq_some_iff.mp h).1
theorem rise_go : ∀ (l : List Str) (p : Str), PyProof.Rows.risingS p l = true → (p :: l).Nodup → qF0 (p :: l)
  | [], p, _, _ => List.pairwise_singleton _ _
  | x :: r, p, h, nd => by
    have h' : (!PySem.Spec.ltCps x.cps.toList p.cps.toList && PyProof.Rows.risingS x r) = true := h
    rw [Bool.and_eq_true] at h'
    have nd' := List.nodup_cons.mp nd
    have ih := rise_go r x h'.2 nd'.2
    have px : sLtB p x = true := by
      have z := h'.1
      rw [PyProof.Rows.ltCps_eq] at z
      rcases sLtB_tri p x with t | t | t
      · exact t
      · exact absurd t (fun e => nd'.1 (by rw [e]; exact List.mem_cons_self))
      · rw [decide_eq_true (of_decide_eq_true t)] at z; cases z
    refine List.pairwise_cons.mpr ⟨fun y hy => ?_, ih⟩
    rcases List.mem_cons.mp hy with e | hy
    · rw [e]; exact px
    · exact qGa px ((List.pairwise_cons.mp ih).1 y hy)
theorem rise_of {l : List Str} (h : PyProof.Rows.sortedS l = true) (nd : l.Nodup) : qF0 l := by
  cases l with
  | nil => exact List.Pairwise.nil
  | cons x r => exact rise_go r x h nd
def qF1 (net : List Tr) (ps : List Str) : Prop := ps.Nodup ∧ ∀ x, x ∈ ps ↔ isPt net x
def spPoints : Sp := fun vs H Q _ => ∃ (p : Addr) (net : List Tr), vs = [.ref p] ∧ qCq H p net ∧ net.length ≤ 12 ∧ ∀ r ps H', Ext H H' → H r = none → LsS H' r ps → qF1 net ps → qF0 ps → ps.length ≤ 24 → Q (.ref r) H'
section
variable {P : Program} {w : World} {K : PySem.W.Frag} {mg : Str → Option Value} {base : Heap} {f f1 : Addr} {fd fd1 : FuncData}
theorem scPoints : FnScope ["net"] ["net"] (qAc sPoints) := ⟨rfl, rfl, rfl, by decide +kernel, rfl, by decide +kernel, by decide +kernel⟩
abbrev ptN : List Str := ["tie", "one", "other", "end"]
set_option maxHeartbeats 4000000 in
theorem ok_points (F : Fun K "points" "points" sPoints f fd) (mso : mg "sorted" = none) : FnOk P w K mg base CX0 1 f fd ["net"] spPoints := by
  refine F.ok scPoints (fun vs H Q E h => ?_) (fun cdv A outer s H vs Q E hr h => ?_)
  · obtain ⟨p, net, rfl, _⟩ := h
    rfl
  obtain ⟨p, net, rfl, ⟨as, hp, pr⟩, hl, q⟩ := h
  refine ⟨_, qAd (qAm (qAh (qDw rfl) rfl mso qCa (pa_cons
    (pe_g gc_set2 rfl (N := ["net"]) (sc := qAc sPoints) (N' := ptN) (sub := [none, none, none, none]) rfl rfl (CmpOk.of (by decide +kernel)) rfl (qAs (pv 0))
      (fun C s H fp => ⟨(show PG _ _ (gTup K 3 _) from qBx rfl (qAl (qAe (i := 0) (by show ptN.Nodup; decide) rfl (Or.inl rfl)) (qAl (qAe (i := 1) (by show ptN.Nodup; decide) rfl (Or.inl rfl)) (qAl (qAe (i := 2) (by show ptN.Nodup; decide) rfl (Or.inl rfl)) qBc)))), qA0,
        fun acc => pbd_nest rfl rfl (show PI _ _ _ (iTup K _) from pi_tup (qBy (pa_cons (pv 1) (pa_cons (pv 2) pa_nil)))) (qAe (i := 3) (by show ptN.Nodup; decide) rfl (Or.inl rfl)) qA0 (pbd_set rfl (pv 3)) (fun _ => rfl) rfl rfl (fun _ => rfl) (fun _ _ _ _ _ h => h) (fun _ _ _ _ _ h => h) (fun _ => rfl)⟩)) pa_nil))), ?_⟩
  try dsimp only [Cx.wish, qB8]
  have lA : as.length = net.length := pr.length
  refine ⟨_, rfl, p, rfl, ⟨_, SqL.of hp⟩, ?_⟩
  refine g_list (xs := as.map V.ref) (fun i ss σ H' => Ext H H' ∧ (∃ x0 x1 x2 x3 : Option V, σ = [x0, x1, x2, x3]) ∧ ss.Nodup ∧ (∀ x, x ∈ ss ↔ isPt (net.take i) x) ∧ ss.length ≤ 2 * i) ⟨Ext.refl _, ⟨none, none, none, none, rfl⟩, List.nodup_nil, fun x => ⟨fun z => (by cases z), fun ⟨t, ht, _⟩ => (by simp at ht)⟩, Nat.zero_le _⟩ (fun i ss σ H' _ h => SqL.of (h.1 _ _ hp)) ?_ ?_
  · rintro i x ss σ H' hx ⟨he, ⟨x0, x1, x2, x3, rfl⟩, nd, mem, ln⟩
    obtain ⟨a, t, rfl, ht, ha⟩ := net_get pr hx
    have hi := qA2 ht
    refine ⟨a, _, rfl, SqT.of (he _ _ ha), rfl, _, _, rfl, _, _, rfl, _, _, rfl, rfl, iteT (B := False) ?_⟩
    refine ⟨_, rfl, _, rfl, (by show 2 ≤ sizeLine; decide), fun T hT => ⟨T, rfl, ⟨_, SqT.of upd_same⟩, ?_⟩⟩
    have X1 := Ext.new hT (.tup [V.str t.2.1, V.str t.2.2])
    refine g_tuple (xs := [V.str t.2.1, V.str t.2.2]) (fun j ss σ H2 => Ext (upd H' T (.tup [V.str t.2.1, V.str t.2.2])) H2 ∧ (∃ y : Option V, σ = [some (.str t.1), some (.str t.2.1), some (.str t.2.2), y]) ∧ ss.Nodup ∧ (∀ x, x ∈ ss ↔ isPt (net.take i) x ∨ (0 < j ∧ x = t.2.1) ∨ (1 < j ∧ x = t.2.2)) ∧ ss.length ≤ 2 * i + j)
      ⟨Ext.refl _, ⟨_, rfl⟩, nd, fun x => by rw [mem]; simp, by omega⟩ (fun j ss σ H2 _ h => SqT.of (h.1 _ _ upd_same)) ?_ ?_
    · rintro j z ss2 σ H2 hz ⟨h2, ⟨y, rfl⟩, nd2, mem2, ln2⟩
      have hj : j < 2 := qA2 hz
      obtain ⟨v, rfl, hv⟩ : ∃ v : Str, z = .str v ∧ ((j = 0 ∧ v = t.2.1) ∨ (j = 1 ∧ v = t.2.2)) := by
        rcases (show j = 0 ∨ j = 1 by omega) with rfl | rfl
        · exact ⟨t.2.1, (Option.some.inj hz).symm, .inl ⟨rfl, rfl⟩⟩
        · exact ⟨t.2.2, (Option.some.inj hz).symm, .inr ⟨rfl, rfl⟩⟩
      refine iteT (B := False) ⟨_, rfl, v, rfl, by omega, fun ss3 h3 => nxg hj ⟨h2, ⟨_, rfl⟩, ?_⟩⟩
      have key : ss3.Nodup ∧ (∀ x, x ∈ ss3 ↔ x ∈ ss2 ∨ x = v) ∧ ss3.length ≤ ss2.length + 1 := by
        by_cases m : v ∈ ss2
        · rw [if_pos m] at h3
          subst h3
          exact ⟨nd2, fun x => ⟨.inl, fun z => z.elim id fun e => e ▸ m⟩, Nat.le_succ _⟩
        · rw [if_neg m] at h3
          refine ⟨h3.nodup_iff.mpr ?_, fun x => by rw [h3.mem_iff, List.mem_append, List.mem_singleton], by rw [h3.length_eq, List.length_append]; exact Nat.le_refl _⟩
          rw [List.nodup_append]
          exact ⟨nd2, by simp, fun y hy z hz => by rw [List.mem_singleton] at hz; subst hz; rintro rfl; exact m hy⟩
      refine ⟨key.1, fun x => ?_, by have := key.2.2; omega⟩
      rw [key.2.1, mem2]
      rcases hv with ⟨rfl, rfl⟩ | ⟨rfl, rfl⟩
      · simp
      · simp [or_assoc]
    · rintro ss2 σ H2 ⟨h2, ⟨y, rfl⟩, nd2, mem2, ln2⟩
      refine nxg (qA2 hx) ⟨he.trans (X1.trans h2), ⟨_, _, _, _, rfl⟩, nd2, fun x => ?_, by have : ss2.length ≤ 2 * i + 2 := ln2; omega⟩
      rw [mem2, qAk ht, qEf]
      simp
  · rintro ss σ H' ⟨he, _, nd, mem, ln⟩ r hr1
    rw [List.length_map, lA, List.take_of_length_le (Nat.le_refl _)] at mem
    rw [List.length_map, lA] at ln
    refine ⟨r, ss, rfl, upd_same, by omega, fun r2 ss2 hr2 pm srt => ?_⟩
    exact q r2 ss2 _ ((he.trans (Ext.new hr1 _)).trans (Ext.new hr2 _)) ((he.trans (Ext.new hr1 _)).none hr2) upd_same ⟨pm.nodup_iff.mpr nd, fun x => by rw [pm.mem_iff, mem]⟩ (rise_of srt (pm.nodup_iff.mpr nd)) (by rw [pm.length_eq]; omega)
end
end My
namespace My
open PySem L2
theorem qGl (net : List Tr) : ∀ S : Str → Prop, (∀ t ∈ net, S t.2.1 ↔ S t.2.2) → ∀ x y, qA1 net x = qA1 net y → (S x ↔ S y) := by
  refine qC0 (P := fun net => ∀ S : Str → Prop, (∀ t ∈ net, S t.2.1 ↔ S t.2.2) → ∀ x y, qA1 net x = qA1 net y → (S x ↔ S y)) (fun S _ x y e => ?_) (fun l t ih S hS x y e => ?_) net
  · have : x = y := e
    rw [this]
  have ih' := ih S fun u hu => hS u (List.mem_append_left _ hu)
  have hT := hS t (by simp)
  rw [qCo] at e
  have e' : (if qA1 l x = qA1 l t.2.2 then qA1 l t.2.1 else qA1 l x) = (if qA1 l y = qA1 l t.2.2 then qA1 l t.2.1 else qA1 l y) := e
  by_cases a : qA1 l x = qA1 l t.2.2
  · by_cases b : qA1 l y = qA1 l t.2.2
    · exact ih' x y (a.trans b.symm)
    · rw [if_pos a, if_neg b] at e'
      exact (ih' x t.2.2 a).trans (hT.symm.trans (ih' t.2.1 y e'))
  · by_cases b : qA1 l y = qA1 l t.2.2
    · rw [if_neg a, if_pos b] at e'
      exact (ih' x t.2.1 e').trans (hT.trans (ih' t.2.2 y b.symm))
    · rw [if_neg a, if_neg b] at e'
      exact ih' x y e'
theorem qEg (net : List Tr) : ∀ x, qA1 net (qA1 net x) = qA1 net x := by
  refine qC0 (P := fun net => ∀ x, qA1 net (qA1 net x) = qA1 net x) (fun x => rfl) (fun l t ih x => ?_) net
  rw [qCo]
  show (if qA1 l (if qA1 l x = qA1 l t.2.2 then qA1 l t.2.1 else qA1 l x) = qA1 l t.2.2 then qA1 l t.2.1 else qA1 l (if qA1 l x = qA1 l t.2.2 then qA1 l t.2.1 else qA1 l x)) = if qA1 l x = qA1 l t.2.2 then qA1 l t.2.1 else qA1 l x
  by_cases a : qA1 l x = qA1 l t.2.2
  · rw [if_pos a, ih]
    split <;> rfl
  · rw [if_neg a, ih, if_neg a]
theorem hom_perm {a b : List Tr} (h : ∀ t, t ∈ a → t ∈ b) {x y : Str} (e : qA1 a x = qA1 a y) : qA1 b x = qA1 b y :=
  ((qGl a (fun z => qA1 b x = qA1 b z) (fun t ht => by rw [homF_tie b t (h t ht)]) x y e).mp rfl)
theorem wood_perm {a b : List Tr} {ps : List Str} (nd : ps.Nodup) (hp : ∀ x, isPt a x → x ∈ ps) (p : a.Perm b) : (qCh a).length = (qCh b).length := by
  have hp' : ∀ x, isPt b x → x ∈ ps := fun x ⟨t, ht, h⟩ => hp x ⟨t, p.mem_iff.mpr ht, h⟩
  obtain ⟨la, n1, m1, c1⟩ := count ps nd a hp
  obtain ⟨lb, n2, m2, c2⟩ := count ps nd b hp'
  have ab : ∀ {x y}, qA1 a x = qA1 a y → qA1 b x = qA1 b y := fun e => hom_perm (fun t ht => p.mem_iff.mp ht) e
  have ba : ∀ {x y}, qA1 b x = qA1 b y → qA1 a x = qA1 a y := fun e => hom_perm (fun t ht => p.mem_iff.mpr ht) e
  have n3 : (la.map (qA1 b)).Nodup := by
    unfold List.Nodup
    rw [List.pairwise_map]
    refine List.Pairwise.imp_of_mem (fun {x y} hx hy ne e => ne ?_) n1
    obtain ⟨q, _, rfl⟩ := (m1 x).mp hx
    obtain ⟨q', _, rfl⟩ := (m1 y).mp hy
    have := ba e
    rwa [qEg, qEg] at this
  have e : (la.map (qA1 b)).length = lb.length := nodup_len n3 n2 fun x => by
    rw [m2, List.mem_map]
    constructor
    · rintro ⟨z, hz, rfl⟩
      obtain ⟨q, hq, rfl⟩ := (m1 z).mp hz
      exact ⟨q, hq, (ab (qEg a q)).symm⟩
    · rintro ⟨q, hq, rfl⟩
      exact ⟨qA1 a q, (m1 _).mpr ⟨q, hq, rfl⟩, ab (qEg a q)⟩
  rw [List.length_map] at e
  omega
def labI (f : Int → Int) (e : Int × Int) : Int → Int := fun x => if f x = f e.2 then f e.1 else f x
def hwS (p : (Int → Int) × Nat) (e : Int × Int) : (Int → Int) × Nat := (labI p.1 e, if p.1 e.1 = p.1 e.2 then p.2 else p.2 + 1)
def hwF (es : List (Int × Int)) : (Int → Int) × Nat := es.foldl hwS (id, 0)
def hF (es : List (Int × Int)) : Int → Int := (hwF es).1
def wI (es : List (Int × Int)) : Nat := (hwF es).2
theorem hwF_snoc (es : List (Int × Int)) (e : Int × Int) : hwF (es ++ [e]) = hwS (hwF es) e := by unfold hwF; rw [List.foldl_append]; rfl
theorem hF_snoc (es : List (Int × Int)) (e : Int × Int) : hF (es ++ [e]) = labI (hF es) e := by unfold hF; rw [hwF_snoc]; rfl
theorem hF_same {es : List (Int × Int)} {e : Int × Int} (h : hF es e.1 = hF es e.2) : hF (es ++ [e]) = hF es := by
  rw [hF_snoc]
  funext x
  unfold labI
  rw [h]
  split
  · rename_i z; exact z.symm
  · rfl
theorem wI_same {es : List (Int × Int)} {e : Int × Int} (h : hF es e.1 = hF es e.2) : wI (es ++ [e]) = wI es := by
  unfold wI; rw [hwF_snoc]
  show (if hF es e.1 = hF es e.2 then _ else _) = _
  rw [if_pos h]
theorem wI_diff {es : List (Int × Int)} {e : Int × Int} (h : ¬ hF es e.1 = hF es e.2) : wI (es ++ [e]) = wI es + 1 := by
  unfold wI; rw [hwF_snoc]
  show (if hF es e.1 = hF es e.2 then _ else _) = _
  rw [if_neg h]
theorem lab_rel {α β : Type} [DecidableEq β] (f : α → β) (a b x y : α) : ((if f x = f b then f a else f x) = (if f y = f b then f a else f y)) ↔ (f x = f y ∨ (f x = f a ∧ f y = f b) ∨ (f x = f b ∧ f y = f a)) := by
  by_cases c : f x = f b
  · by_cases d : f y = f b
    · rw [if_pos c, if_pos d]; exact ⟨fun _ => .inl (c.trans d.symm), fun _ => rfl⟩
    · rw [if_pos c, if_neg d]
      constructor
      · intro e; exact .inr (.inr ⟨c, e.symm⟩)
      · rintro (e | ⟨_, e⟩ | ⟨_, e⟩)
        · exact absurd (e.symm.trans c) d
        · exact absurd e d
        · exact e.symm
  · by_cases d : f y = f b
    · rw [if_neg c, if_pos d]
      constructor
      · intro e; exact .inr (.inl ⟨e, d⟩)
      · rintro (e | ⟨e, _⟩ | ⟨e, _⟩)
        · exact absurd (e.trans d) c
        · exact e
        · exact absurd e c
    · rw [if_neg c, if_neg d]
      constructor
      · intro e; exact .inl e
      · rintro (e | ⟨_, e⟩ | ⟨e, _⟩)
        · exact e
        · exact absurd e d
        · exact absurd e c
abbrev knA (kn : List Str) (i : Int) : Str := kn.getD i.toNat ""
def Lnk (kn : List Str) (e : Int × Int) (t : Tr) : Prop := (t.2.1 = knA kn e.1 ∧ t.2.2 = knA kn e.2) ∨ (t.2.1 = knA kn e.2 ∧ t.2.2 = knA kn e.1)
theorem qDf {α β : Type} {R : α → β → Prop} : ∀ {l : List α} {t : α} {bs : List β}, Paired R (l ++ [t]) bs → ∃ bs' b, bs = bs' ++ [b] ∧ Paired R l bs' ∧ R t b
  | [], t, bs, h => by
    cases h with
    | cons h1 h2 => cases h2; exact ⟨[], _, rfl, .nil, h1⟩
  | a :: l, t, bs, h => by
    cases h with
    | cons h1 h2 =>
      obtain ⟨bs', b, rfl, p, r⟩ := qDf h2
      exact ⟨_ :: bs', b, rfl, .cons h1 p, r⟩
def InR (i : Int) : Prop := 0 ≤ i ∧ i < 10
theorem wood_link {kn : List Str} (nd : ∀ i j, InR i → InR j → knA kn i = knA kn j → i = j) (net : List Tr) : ∀ es : List (Int × Int), Paired (fun t e => Lnk kn e t) net es → (∀ e ∈ es, InR e.1 ∧ InR e.2) →
    (∀ i j, InR i → InR j → (qA1 net (knA kn i) = qA1 net (knA kn j) ↔ hF es i = hF es j)) ∧ (qCh net).length = wI es := by
  refine qC0 (P := fun net => ∀ es : List (Int × Int), Paired (fun t e => Lnk kn e t) net es → (∀ e ∈ es, InR e.1 ∧ InR e.2) →
    (∀ i j, InR i → InR j → (qA1 net (knA kn i) = qA1 net (knA kn j) ↔ hF es i = hF es j)) ∧ (qCh net).length = wI es) (fun es h _ => ?_) (fun l t ih es h hi => ?_) net
  · cases h
    exact ⟨fun i j hi hj => ⟨fun e => nd i j hi hj e, fun e => congrArg (knA kn) e⟩, rfl⟩
  obtain ⟨es', e, rfl, pr, lk⟩ := qDf h
  obtain ⟨h1, h2⟩ := ih es' pr fun x hx => hi x (List.mem_append_left _ hx)
  obtain ⟨ia, ib⟩ := hi e (List.mem_append_right _ (List.mem_singleton.mpr rfl))
  have key : qA1 l t.2.1 = qA1 l t.2.2 ↔ hF es' e.1 = hF es' e.2 := by
    rcases lk with ⟨z1, z2⟩ | ⟨z1, z2⟩
    · rw [z1, z2]; exact h1 _ _ ia ib
    · rw [z1, z2]; exact ⟨fun q => ((h1 _ _ ib ia).mp q).symm, fun q => (h1 _ _ ib ia).mpr q.symm⟩
  refine ⟨fun i j hi' hj' => ?_, ?_⟩
  · rw [qCo, hF_snoc]
    show ((if qA1 l (knA kn i) = qA1 l t.2.2 then qA1 l t.2.1 else qA1 l (knA kn i)) = (if qA1 l (knA kn j) = qA1 l t.2.2 then qA1 l t.2.1 else qA1 l (knA kn j))) ↔ ((if hF es' i = hF es' e.2 then hF es' e.1 else hF es' i) = (if hF es' j = hF es' e.2 then hF es' e.1 else hF es' j))
    rw [lab_rel (qA1 l), lab_rel (hF es')]
    rcases lk with ⟨z1, z2⟩ | ⟨z1, z2⟩
    · rw [z1, z2, h1 i j hi' hj', h1 i _ hi' ia, h1 j _ hj' ib, h1 i _ hi' ib, h1 j _ hj' ia]
    · rw [z1, z2, h1 i j hi' hj', h1 i _ hi' ia, h1 j _ hj' ib, h1 i _ hi' ib, h1 j _ hj' ia]
      constructor
      · rintro (q | q | q)
        · exact .inl q
        · exact .inr (.inr q)
        · exact .inr (.inl q)
      · rintro (q | q | q)
        · exact .inl q
        · exact .inr (.inr q)
        · exact .inr (.inl q)
  · rw [qDo]
    unfold wStep
    rw [qFt]
    by_cases c : qA1 l t.2.1 = qA1 l t.2.2
    · rw [if_pos c, wI_same (key.mp c)]; exact h2
    · rw [if_neg c, wI_diff (fun q => c (key.mpr q)), List.length_append, h2]; rfl
end My
namespace My
open PySem L2
def leB (x y : Str) : Bool := !decide (y.cps.toList < x.cps.toList)
theorem at_kn {kn : List Str} {i : Int} (h0 : 0 ≤ i) (h1 : i < (kn.length : Int)) : ∃ k, k = knA kn i ∧ k ∈ kn ∧ atI (kn.map V.str) i = some (.str k) := by
  have hk : i.toNat < kn.length := by omega
  have e : knA kn i = kn[i.toNat] := by unfold knA; rw [List.getD_eq_getElem?_getD, List.getElem?_eq_getElem hk]; rfl
  have hv : atI (kn.map V.str) ((i.toNat : Nat) : Int) = some (.str kn[i.toNat]) := qAv (by rw [List.getElem?_map, List.getElem?_eq_getElem hk] <;> rfl)
  rw [Int.toNat_of_nonneg h0] at hv
  exact ⟨kn[i.toNat], e.symm, List.getElem_mem hk, hv⟩
theorem kn_inj {kn : List Str} (nd : kn.Nodup) (l : kn.length = 10) : ∀ i j, InR i → InR j → knA kn i = knA kn j → i = j := fun i j hi hj e => by
  obtain ⟨a, b⟩ := hi
  obtain ⟨c, d⟩ := hj
  have hi' : i.toNat < kn.length := by omega
  have hj' : j.toNat < kn.length := by omega
  unfold knA at e
  rw [List.getD_eq_getElem?_getD, List.getD_eq_getElem?_getD, List.getElem?_eq_getElem hi', List.getElem?_eq_getElem hj'] at e
  have := (List.getElem_inj nd).mp (show kn[i.toNat] = kn[j.toNat] from e)
  omega
theorem perm2 {x y a b : Str} (p : [x, y].Perm [a, b]) : (x = a ∧ y = b) ∨ (x = b ∧ y = a) := by
  have hx : x ∈ [a, b] := p.mem_iff.mp (by simp)
  have ha : a ∈ [x, y] := p.mem_iff.mpr (by simp)
  have hb : b ∈ [x, y] := p.mem_iff.mpr (by simp)
  have hy : y ∈ [a, b] := p.mem_iff.mp (by simp)
  simp only [List.mem_cons, List.not_mem_nil, or_false] at hx ha hb hy
  rcases hx with rfl | rfl
  · rcases hb with rfl | rfl
    · left
      rcases hy with rfl | rfl <;> exact ⟨rfl, rfl⟩
    · exact .inl ⟨rfl, rfl⟩
  · rcases ha with rfl | rfl
    · right
      rcases hy with rfl | rfl <;> exact ⟨rfl, rfl⟩
    · exact .inr ⟨rfl, rfl⟩
theorem srt2 {x y : Str} (h : PyProof.Rows.sortedS [x, y] = true) : leB x y = true := by
  have h' : (!PySem.Spec.ltCps y.cps.toList x.cps.toList && true) = true := h
  rw [Bool.and_true, PyProof.Rows.ltCps_eq] at h'
  exact h'
theorem lnk2 {kn : List Str} {e : Int × Int} {k1 k2 x y n : Str} (p : [x, y].Perm [k1, k2]) (h1 : k1 = knA kn e.1) (h2 : k2 = knA kn e.2) : Lnk kn e (n, x, y) := by
  rcases perm2 p with ⟨z1, z2⟩ | ⟨z1, z2⟩
  · exact .inl ⟨z1.trans h1, z2.trans h2⟩
  · exact .inr ⟨z1.trans h2, z2.trans h1⟩
end My
namespace My
open PySem L2
theorem Ext.over {H H' : Hp} {d : Addr} (e : Ext H H') (h : H d = Option.none) (o : HO) : Ext H (upd H' d o) := fun b u q => by rw [qAr (qAp q h)]; exact e b u q
def hD (ps : List Str) (f : Str → Str) : List (Key × V) := ps.map fun p => (Sum.inr p, V.str (f p))
section
variable {P : Program} {w : World} {K : PySem.W.Frag} {mg : Str → Option Value} {base : Heap} {f f1 : Addr} {fd fd1 : FuncData}
end
end My
namespace My
open PySem L2
def qEl (H : Hp) (p : Addr) (F : List (List Str)) : Prop := ∃ as : List Addr, H p = some (.lst (as.map V.ref)) ∧ Paired (LsS H) as F
theorem qEl.ext {H H' : Hp} {p : Addr} {F : List (List Str)} (h : qEl H p F) (e : Ext H H') : qEl H' p F := by
  obtain ⟨as, h1, h2⟩ := h
  exact ⟨as, e _ _ h1, Paired.mapP h2 fun a r z => e _ _ z⟩
def RowsY (H0 H : Hp) (fo : Addr) (F : List (List Str)) : Prop := ∃ as : List Addr, H fo = some (.lst (as.map V.ref)) ∧ Paired (fun a r => LsS H a r ∧ H0 a = none ∧ a ≠ fo) as F
theorem RowsY.rows {H0 H : Hp} {p : Addr} {F : List (List Str)} (h : RowsY H0 H p F) : qEl H p F := by
  obtain ⟨as, h1, h2⟩ := h
  exact ⟨as, h1, Paired.mapP h2 fun a r z => z.1⟩
theorem getD_rangeA (as : List Addr) : (List.range as.length).map (fun i => as.getD i 0) = as := by
  refine List.ext_getElem? fun i => ?_
  by_cases hi : i < as.length
  · rw [List.getElem?_map, List.getElem?_range hi, List.getElem?_eq_getElem hi]
    show some (as.getD i 0) = _
    rw [List.getD_eq_getElem?_getD, List.getElem?_eq_getElem hi]; rfl
  · rw [List.getElem?_eq_none (by simp; omega), List.getElem?_eq_none (by omega)]
theorem pick_perm {as : List Addr} {o : Array Nat} (g : Gd as.length o) : (o.toList.map fun i => as.getD i 0).Perm as :=
  ((Array.perm_iff_toList_perm.mp g).map fun i => as.getD i 0).trans (List.Perm.of_eq (getD_rangeA as))
end My
namespace My
open PySem L2
def Sgd (s : Str) : Prop := ∀ c ∈ s.cps.toList, c ∈ sg.cps.toList
theorem sgC_mem {i : Nat} (hi : i < 36) : sgC i ∈ sg.cps.toList := by
  have hi' : i < sg.cps.toList.length := by rw [sg_len]; exact hi
  unfold sgC
  rw [List.getD_eq_getElem?_getD, List.getElem?_eq_getElem hi']
  exact List.getElem_mem hi'
theorem Sgd.sm {s : Str} (h : Sgd s) : Sm s := fun c hc => sg_small c (h c hc)
theorem Sgd.app {x y : Str} (h : Sgd x) (h' : Sgd y) : Sgd (x ++ y) := fun c hc => by
  rw [Str.cps_append, Array.toList_append, List.mem_append] at hc
  exact hc.elim (h c) (h' c)
theorem Sgd.one {i : Nat} (hi : i < 36) : Sgd ⟨#[sgC i]⟩ := fun d hd => by
  have : d = sgC i := by simpa using hd
  rw [this]; exact sgC_mem hi
theorem Sgd.nil : Sgd "" := fun c hc => by
  have : c ∈ ([] : List Nat) := hc
  cases this
theorem Sgd.slice {x : Str} (h : Sgd x) (l u : Option Int) : Sgd (Txt.slice x l u) := fun c hc => by
  unfold Txt.slice at hc
  split at hc
  · exact h c hc
  · simp only [List.mem_filterMap] at hc
    obtain ⟨i, _, hi⟩ := hc
    exact h c (by simpa using Array.mem_of_getElem? hi)
def qBu (s : Str) : Prop := Sgd s ∧ 1 ≤ s.length ∧ s.length ≤ 6
theorem slice_to_le {x : Str} {j : Int} (h0 : 0 ≤ j) (h1 : j ≤ x.length) : (Txt.slice x none (some j)).length ≤ j.toNat := by
  have e : Txt.slice x none (some j) = _ := PySem.StrLaws.sliceText_to (x := x) (j := j) ⟨h0, h1⟩
  rw [e]
  show (List.toArray _).size ≤ _
  rw [List.size_toArray, List.length_take]
  omega
theorem slice_from_le {x : Str} {j : Int} (h0 : 0 ≤ j) (h1 : j ≤ x.length) : (Txt.slice x (some j) none).length ≤ x.length - j.toNat := by
  have e : Txt.slice x (some j) none = _ := PySem.StrLaws.sliceText_from (x := x) (i := j) ⟨h0, h1⟩
  rw [e]
  show (List.toArray _).size ≤ _
  rw [List.size_toArray, List.length_take, List.length_drop]
  have : x.cps.toList.length = x.length := rfl
  omega
end My
namespace My
open PySem L2
def spBig (K : PySem.W.Frag) : Sp := fun vs H Q _ => ∃ (a : Addr) (ns : List Int) (k : Int), vs = [.ref a, .int k] ∧ SqL K H a (ns.map V.int) ∧ 0 ≤ k ∧ k ≤ 100 ∧ ∀ v, Q (.int v) H
def Tx (ss : List Str) : Prop := ∀ s ∈ ss, qBu s
def spNames : Sp := fun vs H Q _ => ∃ (b n : Int), vs = [.int b, .int n] ∧ 0 ≤ n ∧ n ≤ 100 ∧ ∀ (r : Addr) (ss : List Str) (H' : Hp), Ext H H' → H r = none → LsS H' r ss → ss.length = n.toNat → Tx ss → (n ≤ 36 → ss.Nodup) → Q (.ref r) H'
def nmF (pre post : Str) (f : Int) (k : Nat) : Str := pre ++ ⟨#[sgC ((f + 7 * (0 + (k : Int))) % 36).toNat]⟩ ++ post
theorem nmF_inj {pre post : Str} {f : Int} {i j : Nat} (hi : i < 36) (hj : j < 36) (e : nmF pre post f i = nmF pre post f j) : i = j := by
  have e1 := congrArg (fun s : Str => s.cps.toList) e
  unfold nmF at e1
  simp only [Str.cps_append, Array.toList_append] at e1
  have e2 := List.append_cancel_left (List.append_cancel_right e1)
  have a0 := Int.emod_nonneg (f + 7 * (0 + (i : Int))) (show (36 : Int) ≠ 0 by decide)
  have a1 := Int.emod_lt_of_pos (f + 7 * (0 + (i : Int))) (show (0 : Int) < 36 by decide)
  have b0 := Int.emod_nonneg (f + 7 * (0 + (j : Int))) (show (36 : Int) ≠ 0 by decide)
  have b1 := Int.emod_lt_of_pos (f + 7 * (0 + (j : Int))) (show (0 : Int) < 36 by decide)
  have e3 : sgC ((f + 7 * (0 + (i : Int))) % 36).toNat = sgC ((f + 7 * (0 + (j : Int))) % 36).toNat := by simpa using e2
  have e4 := sgC_inj (by omega) (by omega) e3
  omega
theorem nd_range {g : Nat → Str} : ∀ {n : Nat}, (∀ i j, i < n → j < n → g i = g j → i = j) → ((List.range n).map g).Nodup
  | 0, _ => List.nodup_nil
  | n + 1, h => by
    rw [List.range_succ, List.map_append, List.nodup_append]
    refine ⟨nd_range fun i j hi hj => h i j (by omega) (by omega), by simp, fun a ha b hb => ?_⟩
    obtain ⟨i, hi, rfl⟩ := List.mem_map.mp ha
    rw [List.map_singleton, List.mem_singleton] at hb
    subst hb
    rw [List.mem_range] at hi
    intro z
    have := h i n (by omega) (by omega) z
    omega
section
variable {P : Program} {w : World} {K : PySem.W.Frag} {mg : Str → Option Value} {base : Heap} {f f1 f2 : Addr} {fd fd1 fd2 : FuncData}
abbrev bgN : List Str := ["_law_script", "_law_k", "_law_x", "_law_total", "_law_j"]
theorem scBig : FnScope bgN ["_law_script", "_law_k"] (qAc sBig) := ⟨rfl, rfl, rfl, by decide +kernel, rfl, by decide +kernel, by decide +kernel⟩
set_option maxHeartbeats 4000000 in
theorem ok_big (F : Fun K "_law_big" "_law_big" sBig f fd) (G : FnOk P w K mg base CX0 1 f1 fd1 ["_law_script", "_law_k"] (spCell K)) (bG : qAz K fd1 ["_law_script", "_law_k"] []) (kG : PySem.W.keepIn K (.ref f1) = true) (mG : mg "_law_cell_at" = some (.ref f1)) (mr : mg "range" = none) (ma : mg "abs" = none) :
    FnOk P w K mg base CX0 2 f fd ["_law_script", "_law_k"] (spBig K) := by
  refine F.ok scBig (fun vs H Q E h => ?_) (fun cdv A outer s H vs Q E hr h => ?_)
  · obtain ⟨a, ns, k, rfl, _⟩ := h
    rfl
  obtain ⟨a, ns, k, rfl, hS, h0, h1, q⟩ := h
  refine ⟨_, qAa (qBf (qAn op_ge (qAh call_abs rfl ma boot_abs' (pa_cons (qAi G hr rfl mG kG bG .nil qAu (pa_cons (pv 0) (pa_cons (pv 1) pa_nil))) pa_nil)) (qAg op_pow qAb qAb) (qAt _))
      (qAd (qAm (qAg qE1 (qAh call_abs rfl ma boot_abs' (pa_cons (qAi G hr rfl mG kG bG .nil qAu (pa_cons (pv 0) (pa_cons (pv 1) pa_nil))) pa_nil)) (qAg op_pow qAb qAb)))) qAx)
    (qAa (qAj (i := 2) scBig.nd rfl (Or.inl rfl) (qAg qBm (qAg qBm (qAg qBm (qAg qBd (qAi G hr rfl mG kG bG .nil qAu (pa_cons (pv 0) (pa_cons qAb pa_nil))) qAb) (qAg qDv qAb (pv 1))) (qAg qDv qAb (qAi G hr rfl mG kG bG .nil qAu (pa_cons (pv 0) (pa_cons (pv 1) pa_nil))))) qAb))
    (qAa (qAj (i := 2) scBig.nd rfl (Or.inl rfl) (qAg qBm (qAg qBd (pv 2) qAb) qAb))
    (qAa (qAj (i := 3) scBig.nd rfl (Or.inl rfl) qAb)
    (qAa (qBl PassesOwn.never rfl (qBg rfl mr (pa_cons qAb pa_nil)) (qAe (i := 4) scBig.nd rfl (Or.inl rfl))
      (qAa (qAj (i := 2) scBig.nd rfl (Or.inl rfl) (qAg qBd (qAg qBm (qAg qBm (qAg qBm (qAg qDv (pv 2) qAb) (qAg qA5 (pv 2) qAb)) (qAg qDv (qAg qDv qAb (pv 4)) (pv 4))) (pv 1)) qAb))
      (qAd (qAj (i := 3) scBig.nd rfl (Or.inl rfl) (qAg qBm (qAg qDv (pv 3) qAb) (qAg qBd (qAg qDv (pv 2) qAb) qAb))))))
    (qAd (qAm (pv 3))))))), ?_⟩
  try dsimp only [Cx.wish, qB8]
  refine ⟨_, rfl, _, rfl, a, ns, k, rfl, hS, h0, fun v => ⟨v, rfl, ?_⟩⟩
  refine ⟨_, _, rfl, rfl, ⟨by decide, by decide, by decide⟩, _, _, rfl, rfl, _, rfl, ?_⟩
  refine qCm (fun c => ?_) (fun c => ?_)
  · refine ⟨_, rfl, _, rfl, a, ns, k, rfl, hS, h0, fun v => ⟨v, rfl, ?_⟩⟩
    exact ⟨_, _, rfl, rfl, ⟨by decide, by decide, by decide⟩, _, _, rfl, rfl, q _⟩
  refine ⟨_, rfl, a, ns, 0, rfl, hS, by decide, fun v1 => ?_⟩
  refine ⟨_, _, rfl, rfl, (by show (0 : Int) < _; decide), _, rfl, _, _, rfl, rfl, .inl ⟨by decide, by decide⟩, _, _, rfl, rfl, ?_⟩
  refine ⟨_, rfl, _, rfl, a, ns, k, rfl, hS, h0, fun v2 => ?_⟩
  refine ⟨_, _, rfl, rfl, .inl ⟨by decide, by decide⟩, _, _, rfl, rfl, _, _, rfl, rfl, ?_⟩
  refine ⟨_, rfl, _, _, rfl, rfl, (by show (0 : Int) < _; decide), _, _, rfl, rfl, ?_⟩
  refine ⟨8, rfl, by decide, by decide, qBt (lo := 0) (n := 8) (fun i σ H' => H' = H ∧ ∃ (x t : Int) (z : Option V), σ = [some (.ref a), some (.int k), some (.int x), some (.int t), z]) ⟨rfl, _, 0, none, rfl⟩ ?_ ?_⟩
  · rintro i σ H' hi ⟨rfl, x, t, z, rfl⟩
    refine ⟨_, rfl, _, _, rfl, rfl, .inr ⟨by decide, by decide⟩, _, rfl, _, _, rfl, rfl, ⟨by decide, by decide⟩, _, _, rfl, rfl, ?_⟩
    refine ⟨_, rfl, _, _, rfl, rfl, .inl ⟨by decide, by decide⟩, _, rfl, _, _, rfl, rfl, .inr ⟨by omega, by omega⟩, _, _, rfl, rfl, ?_⟩
    refine ⟨_, rfl, _, _, rfl, rfl, _, _, rfl, rfl, (by show (0 : Int) < _; decide), ?_⟩
    refine ⟨_, rfl, _, _, rfl, rfl, .inr ⟨by decide, by decide⟩, _, rfl, _, _, rfl, rfl, .inr ⟨by decide, by decide⟩, _, _, rfl, rfl, (by show (0 : Int) < _; decide), _, _, rfl, rfl, ?_⟩
    exact ⟨rfl, _, _, _, rfl⟩
  · rintro σ H' ⟨rfl, x, t, z, rfl⟩
    exact ⟨_, rfl, q _⟩
abbrev naN : List Str := ["_law_big_here", "_law_many", "_law_signs", "_law_word", "_law_k", "_law_spot", "_law_first", "_law_head", "_law_tail"]
theorem qCs : FnScope naN ["_law_big_here", "_law_many"] (qAc sNames) := ⟨rfl, rfl, rfl, by decide +kernel, rfl, by decide +kernel, by decide +kernel⟩
set_option maxHeartbeats 4000000 in
theorem ok_names (F : Fun K "_law_names" "_law_names" sNames f fd) (mr : mg "range" = none) (ml : mg "len" = none) : FnOk P w K mg base CX0 1 f fd ["_law_big_here", "_law_many"] spNames := by
  refine F.ok qCs (fun vs H Q E h => ?_) (fun cdv A outer s H vs Q E hr h => ?_)
  · obtain ⟨b, n, rfl, _⟩ := h
    rfl
  obtain ⟨b, n, rfl, n0, n1, q⟩ := h
  refine ⟨_, qAa (qAj (i := 2) qCs.nd rfl (Or.inr rfl) pe_str)
    (qAa (qAj (i := 3) qCs.nd rfl (Or.inl rfl) pe_str)
    (qAa (qBl PassesOwn.never rfl (qBg rfl mr (pa_cons (qAg qBm qAb (qAg qBd (pv 0) qAb)) pa_nil)) (qAe (i := 4) qCs.nd rfl (Or.inl rfl))
      (qAa (qAj (i := 3) qCs.nd rfl (Or.inl rfl) (qAg qA7 (pv 3) (qBb ix_str (pv 2) (qAg qBd (qAg qA5 (pv 0) qAb) qAb) (fun _ _ => rfl))))
      (qAd (qAj (i := 0) qCs.nd rfl (Or.inl rfl) (qAg qA5 (pv 0) qAb)))))
    (qAa (qAj (i := 5) qCs.nd rfl (Or.inl rfl) (qAg qBd (qAg qA5 (pv 0) qAb) (qAh qDk rfl ml PySem.boot_len (pa_cons (pv 3) pa_nil))))
    (qAa (qAj (i := 6) qCs.nd rfl (Or.inr rfl) (qAg qBd (qAg qA5 (pv 0) qAb) qAb))
    (qAa (qD9 (qBy (pa_cons (qCi sl_str (pv 3) qC4 (qC3 (pv 5))) (pa_cons (qCi sl_str (pv 3) (qC3 (qAg qBm (pv 5) qAb)) qC4) pa_nil))) (qBx rfl (qAl (qAe (i := 7) qCs.nd rfl (Or.inr rfl)) (qAl (qAe (i := 8) qCs.nd rfl (Or.inr rfl)) qBc))))
    (qAd (qAm (pe_lc (N := naN) (sc := qAc sNames) (N' := ["_law_k", "_law_head", "_law_signs", "_law_first", "_law_tail"]) (sub := [none, some 7, some 2, some 6, some 8]) rfl rfl (CmpOk.of (by decide +kernel)) rfl (qBg rfl mr (pa_cons (pv 1) pa_nil))
      (fun C s H fp => ⟨qAe (i := 0) (by show (["_law_k", "_law_head", "_law_signs", "_law_first", "_law_tail"] : List Str).Nodup; decide) rfl (Or.inl rfl), qA0,
        qAg qA7 (qAg qA7 (pv 1) (qBb ix_str (pv 2) (qAg qBd (qAg qBm (pv 3) (qAg qDv qAb (pv 0))) qAb) (fun _ _ => rfl))) (pv 4)⟩))))))))), ?_⟩
  try dsimp only [Cx.wish, qB8]
  have b6 := Int.emod_nonneg b (show (6 : Int) ≠ 0 by decide)
  have b6' := Int.emod_lt_of_pos b (show (0 : Int) < 6 by decide)
  refine ⟨_, rfl, _, _, rfl, rfl, (by show (0 : Int) < _; decide), _, _, rfl, rfl, 1 + b % 6, rfl, by omega, by omega, ?_⟩
  refine qBt (lo := 0) (n := (1 + b % 6).toNat) (fun i σ H' => H' = H ∧ ∃ (b' : Int) (word : Str) (x : Option V), σ = [some (.int b'), some (.int n), some (.str sg), some (.str word), x, none, none, none, none] ∧ word.length = i ∧ Sgd word) ⟨rfl, b, "", none, rfl, rfl, Sgd.nil⟩ ?_ ?_
  · rintro i σ H' hi ⟨rfl, b', word, x, rfl, hw, sm⟩
    have c1 := Int.emod_nonneg (b' / 6) (show (36 : Int) ≠ 0 by decide)
    have c2 := Int.emod_lt_of_pos (b' / 6) (show (0 : Int) < 36 by decide)
    refine ⟨_, rfl, _, rfl, _, rfl, _, _, rfl, rfl, ⟨by decide, by decide⟩, _, _, rfl, rfl, (by show (0 : Int) < _; decide), sg, _, sgC (b' / 6 % 36).toNat, rfl, rfl, by decide +kernel, sg_at c1 c2, word, ⟨#[sgC (b' / 6 % 36).toNat]⟩, rfl, rfl, ?_, ?_⟩
    · show word.length + 1 ≤ sizeLine
      exact Nat.le_of_lt (qAf (by omega))
    · refine ⟨_, rfl, _, _, rfl, rfl, ⟨by decide, by decide⟩, ?_⟩
      refine ⟨rfl, _, _, _, rfl, ?_, sm.app (Sgd.one (by omega))⟩
      rw [Str.length_append]
      show word.length + 1 = i + 1
      omega
  · rintro σ H' ⟨rfl, b', word, x, rfl, hw, sm⟩
    have wl : word.length ≤ sizeLine := Nat.le_of_lt (qAf (by omega))
    have fa := Int.emod_nonneg (b' / 216) (show (36 : Int) ≠ 0 by decide)
    have fb := Int.emod_lt_of_pos (b' / 216) (show (0 : Int) < 36 by decide)
    refine ⟨_, rfl, _, _, rfl, rfl, ⟨by decide, by decide⟩, _, rfl, word, rfl, wl, _, _, rfl, rfl, (by show (0 : Int) < _; omega), ?_⟩
    refine ⟨_, rfl, _, _, rfl, rfl, ⟨by decide, by decide⟩, _, _, rfl, rfl, (by show (0 : Int) < _; decide), ?_⟩
    obtain ⟨spot, hsp⟩ : ∃ spot, b' / 6 % ((word.length : Nat) : Int) = spot := ⟨_, rfl⟩
    refine ⟨_, rfl, _, rfl, _, rfl, word, rfl, wl, _, rfl, _, rfl, _, _, rfl, rfl, _, rfl, word, rfl, wl, (by show 2 ≤ sizeLine; decide), fun T hT => ⟨T, _, rfl, SqT.of upd_same, rfl, _, _, rfl, _, _, rfl, rfl, ?_⟩⟩
    have l1 := Txt.slice_le word none (some spot)
    have l2 := Txt.slice_le word (some (spot + 1)) none
    have s1 := sm.slice none (some spot)
    have s2 := sm.slice (some (spot + 1)) none
    have X1 := Ext.new hT (.tup [V.str (Txt.slice word none (some spot)), V.str (Txt.slice word (some (spot + 1)) none)])
    refine ⟨_, rfl, n, rfl, by omega, by omega, ?_⟩
    refine qFc (lo := 0) (n := n.toNat) (fun i ys H2 => H2 = upd H' T (.tup [V.str (Txt.slice word none (some spot)), V.str (Txt.slice word (some (spot + 1)) none)]) ∧ ∃ ss : List Str, ys = ss.map V.str ∧ ss.length = i ∧ Tx ss ∧ ss = (List.range i).map (nmF (Txt.slice word none (some spot)) (Txt.slice word (some (spot + 1)) none) (b' / 216 % 36))) ⟨by rw [hsp], [], rfl, rfl, (fun s hs => by cases hs), rfl⟩ ?_ ?_
    · rintro i ys H2 hi ⟨rfl, ss, rfl, ls, tx, eq⟩
      have ea := Int.emod_nonneg (b' / 216 % 36 + 7 * (0 + (i : Int))) (show (36 : Int) ≠ 0 by decide)
      have eb := Int.emod_lt_of_pos (b' / 216 % 36 + 7 * (0 + (i : Int))) (show (0 : Int) < 36 by decide)
      rw [hsp]
      refine ⟨Sle.set _ (Sle.refl _) (fun u z => by cases z), iteT (B := False) ⟨_, rfl, _, rfl, _, rfl, _, rfl, _, _, rfl, rfl, .inl ⟨by decide, by decide⟩, _, _, rfl, rfl, _, _, rfl, rfl, (by show (0 : Int) < _; decide), sg, _, sgC ((b' / 216 % 36 + 7 * (0 + (i : Int))) % 36).toNat, rfl, rfl, by decide +kernel, sg_at ea eb, _, _, rfl, rfl, ?_, _, rfl, _, _, rfl, rfl, ?_, ?_, nxt hi ⟨rfl, ss ++ [Txt.slice word none (some spot) ++ ⟨#[sgC ((b' / 216 % 36 + 7 * (0 + (i : Int))) % 36).toNat]⟩ ++ Txt.slice word (some (spot + 1)) none], ?_, ?_, ?_, ?_⟩⟩⟩
      · show _ + 1 ≤ sizeLine
        exact Nat.le_of_lt (qAf (by omega))
      · rw [Str.length_append]
        show _ + 1 + _ ≤ sizeLine
        exact Nat.le_of_lt (qAf (by omega))
      · rw [List.length_map]
        exact qAf (by omega)
      · rw [List.map_append]; rfl
      · rw [List.length_append, ls]; rfl
      · intro s hs
        rcases List.mem_append.mp hs with z | z
        · exact tx s z
        · rw [List.mem_singleton] at z
          subst z
          have sp0 : 0 ≤ spot := by rw [← hsp]; exact Int.emod_nonneg _ (by omega)
          have sp1 : spot < (word.length : Int) := by rw [← hsp]; exact Int.emod_lt_of_pos _ (by omega)
          have la := slice_to_le (x := word) (j := spot) sp0 (by omega)
          have lb := slice_from_le (x := word) (j := spot + 1) (by omega) (by omega)
          have lc : (⟨#[sgC ((b' / 216 % 36 + 7 * (0 + (i : Int))) % 36).toNat]⟩ : Str).length = 1 := rfl
          refine ⟨(s1.app (Sgd.one (by omega))).app s2, ?_, ?_⟩
          · rw [Str.length_append, Str.length_append, lc]; omega
          · rw [Str.length_append, Str.length_append, lc]; omega
      · rw [eq, List.range_succ, List.map_append]; rfl
    · rintro ys H2 ⟨rfl, ss, rfl, ls, tx, eq⟩ r hr'
      exact q r ss _ (X1.trans (Ext.new hr' _)) (X1.none hr') upd_same ls tx (fun n36 => by rw [eq]; exact nd_range fun i j hi hj => nmF_inj (by omega) (by omega))
end
end My
namespace My
open PySem L2
abbrev enV (e : Int × Int) : List V := [.int e.1, .int e.2]
def qDn (H : Hp) (p : Addr) (es : List (Int × Int)) : Prop := ∃ as : List Addr, H p = some (.lst (as.map V.ref)) ∧ Paired (fun a e => H a = some (.tup (enV e))) as es
theorem qDn.ext {H H' : Hp} {p : Addr} {es : List (Int × Int)} (h : qDn H p es) (e : Ext H H') : qDn H' p es := by
  obtain ⟨as, h1, h2⟩ := h
  exact ⟨as, e _ _ h1, Paired.mapP h2 fun a t z => e _ _ z⟩
theorem qDn.snoc {H H' : Hp} {k a : Addr} {as : List Addr} {net : List (Int × Int)} {t : Int × Int} (hk : H k = some (.lst (as.map V.ref))) (pr : Paired (fun a t => H a = some (.tup (enV t))) as net) (e : Ext H H') (ha : H' a = some (.tup (enV t))) : qDn (upd H' k (.lst (as.map V.ref ++ [V.ref a]))) k (net ++ [t]) := by
  have hk' := e _ _ hk
  have ne : ∀ {b : Addr} {xs : List V}, H' b = some (.tup xs) → b ≠ k := fun h z => by rw [z, hk'] at h; cases h
  refine ⟨as ++ [a], by rw [upd_same, List.map_append]; rfl, ?_⟩
  refine Paired.snoc (Paired.mapP pr fun b u z => ?_) ?_
  · have z' := e _ _ z
    rw [qAr (ne z')]; exact z'
  · rw [qAr (ne ha)]; exact ha
def InSp (sp : Int) (e : Int × Int) : Prop := (0 ≤ e.1 ∧ e.1 < sp) ∧ 0 ≤ e.2 ∧ e.2 < sp
def spEnds : Sp := fun vs H Q _ => ∃ (b n sp : Int), vs = [.int b, .int n, .int sp] ∧ 0 ≤ n ∧ n ≤ 12 ∧ 0 < sp ∧ sp ≤ 10 ∧ ∀ r es H', Ext H H' → H r = none → qDn H' r es → es.length ≤ n.toNat → (∀ e ∈ es, InSp sp e) → wI es ≤ 8 → es.length ≤ wI es + 8 → Q (.ref r) H'
theorem at_hs {hs : List Int} {es : List (Int × Int)} {sp i : Int} (hse : hs = (List.range sp.toNat).map fun (j : Nat) => hF es (j : Int)) (h0 : 0 ≤ i) (h1 : i < sp) : atI (hs.map V.int) i = some (.int (hF es i)) := by
  have hk : i.toNat < sp.toNat := by omega
  have hv : atI (hs.map V.int) ((i.toNat : Nat) : Int) = some (.int (hF es ((i.toNat : Nat) : Int))) := qAv (by rw [hse, List.map_map, List.getElem?_map, List.getElem?_range hk]; rfl)
  rw [Int.toNat_of_nonneg h0] at hv
  exact hv
theorem memE {sp : Int} {es : List (Int × Int)} {x : Int × Int} (h : ∀ e ∈ es, InSp sp e) (hx : InSp sp x) : ∀ e ∈ es ++ [x], InSp sp e := fun e he => by
  rcases List.mem_append.mp he with z | z
  · exact h e z
  · rw [List.mem_singleton] at z; subst z; exact hx
section
variable {P : Program} {w : World} {K : PySem.W.Frag} {mg : Str → Option Value} {base : Heap} {f f1 f2 : Addr} {fd fd1 fd2 : FuncData}
abbrev eN : List Str := ["_law_big_here", "_law_many", "_law_spread", "_law_heaps", "_law_found", "_law_high", "_law_k", "_law_one", "_law_other", "_law_gone"]
theorem qDb : FnScope eN ["_law_big_here", "_law_many", "_law_spread"] (qAc sEnds) := ⟨rfl, rfl, rfl, by decide +kernel, rfl, by decide +kernel, by decide +kernel⟩
structure EI (H : Hp) (sp n : Int) (i : Nat) (σ : St) (H' : Hp) (b' h : Int) (hp fo : Addr) (hs : List Int) (es : List (Int × Int)) : Prop where
  st : ∃ x6 x7 x8 x9 : Option V, σ = [some (.int b'), some (.int n), some (.int sp), some (.ref hp), some (.ref fo), some (.int h), x6, x7, x8, x9]
  ext : Ext H H'
  fo0 : H fo = none
  ne : hp ≠ fo
  hsA : H' hp = some (.lst (hs.map V.int))
  hsl : (hs.length : Int) = sp
  esA : qDn H' fo es
  esl : es.length ≤ i
  esi : ∀ e ∈ es, InSp sp e
  hse : hs = (List.range sp.toNat).map fun (j : Nat) => hF es (j : Int)
  hw : h = (wI es : Int)
  w8 : wI es ≤ 8
  l8 : es.length ≤ wI es + 8
set_option maxHeartbeats 8000000 in
theorem ok_ends (F : Fun K "_law_ends" "_law_ends" sEnds f fd) (mr : mg "range" = none) (ml : mg "len" = none) (mL : mg "list" = none) : FnOk P w K mg base CX0 1 f fd ["_law_big_here", "_law_many", "_law_spread"] spEnds := by
  refine F.ok qDb (fun vs H Q E h => ?_) (fun cdv A outer s H vs Q E hr h => ?_)
  · obtain ⟨b, n, sp, rfl, _⟩ := h
    rfl
  obtain ⟨b, n, sp, rfl, n0, n1, p0, p1, q⟩ := h
  refine ⟨_, qAa (qAj (i := 3) qDb.nd rfl (Or.inr rfl) (qBs (call_list_rng rfl) rfl mL qA8 (pa_cons (qBs call_range1' rfl mr boot_range' (pa_cons (pv 2) pa_nil)) pa_nil)))
    (qAa (qAj (i := 4) qDb.nd rfl (Or.inl rfl) (qBe pa_nil))
    (qAa (qAj (i := 5) qDb.nd rfl (Or.inl rfl) qAb)
    (qAa (qBl PassesOwn.never rfl (qBg rfl mr (pa_cons (pv 1) pa_nil)) (qAe (i := 6) qDb.nd rfl (Or.inl rfl))
      (qAa (qD9 (qBy (pa_cons (qAg qBd (pv 0) (pv 2)) (pa_cons (qAg qBd (qAg qA5 (pv 0) (pv 2)) (pv 2)) pa_nil))) (qBx rfl (qAl (qAe (i := 7) qDb.nd rfl (Or.inr rfl)) (qAl (qAe (i := 8) qDb.nd rfl (Or.inl rfl)) qBc))))
      (qAa (qAj (i := 0) qDb.nd rfl (Or.inl rfl) (qAg qA5 (qAg qA5 (pv 0) (pv 2)) (pv 2)))
      (qAd (qBf (PW.pt (pw_and (qAn qDg (qBb qBv (pv 3) (pv 7) (fun _ _ => rfl)) (qBb qBv (pv 3) (pv 8) (fun _ _ => rfl)) (qAt _)) (pw_and1 (qAn qE5 (qAg qE1 (qAh qAo rfl ml PySem.boot_len (pa_cons (pv 4) pa_nil)) (pv 5)) qAb (qAt _)))))
        (qAd (qB5 (pe_bm PySem.F.plainAttrs_list PySem.F.slot_list_append PySem.F.type_list_append qBn (pv 4) (pa_cons (qBy (pa_cons (pv 7) (pa_cons (pv 8) pa_nil))) pa_nil))))
        (qAd (qBf (PW.pt (pw_and (qAn qEb (qBb qBv (pv 3) (pv 7) (fun _ _ => rfl)) (qBb qBv (pv 3) (pv 8) (fun _ _ => rfl)) (qAt _)) (pw_and1 (qAn qE5 (pv 5) qAb (qAt _)))))
          (qAa (qB5 (pe_bm PySem.F.plainAttrs_list PySem.F.slot_list_append PySem.F.type_list_append qBn (pv 4) (pa_cons (qBy (pa_cons (pv 7) (pa_cons (pv 8) pa_nil))) pa_nil)))
          (qAa (ps_aug (i := 5) qDb.nd rfl (Or.inl rfl) qAb ip_add)
          (qAa (qAj (i := 9) qDb.nd rfl (Or.inr rfl) (qBb qBv (pv 3) (pv 8) (fun _ _ => rfl)))
          (qAd (qAj (i := 3) qDb.nd rfl (Or.inr rfl) (pe_lc (N := eN) (sc := qAc sEnds) (N' := ["_law_heap", "_law_heaps", "_law_one", "_law_gone"]) (sub := [none, some 3, some 7, some 9]) rfl rfl (CmpOk.of (by decide +kernel)) rfl (qAs (pv 3))
            (fun C s H fp => ⟨qAe (i := 0) (by show (["_law_heap", "_law_heaps", "_law_one", "_law_gone"] : List Str).Nodup; decide) rfl (Or.inl rfl), qA0, qC5 (qAn qDg (pv 0) (pv 3) (qAt _)) (qBb (show IxR _ (rIxL K) from qBv) (pv 1) (pv 2) (fun _ _ => rfl)) (pv 0)⟩)))))))
          qAx)))))))
    (qAd (qAm (pv 4)))))), ?_⟩
  try dsimp only [Cx.wish, qB8]
  refine ⟨_, rfl, sp, rfl, by omega, by omega, fun rg hrg => ⟨rg, sp, rfl, upd_same, by omega, by omega, fun hp hhp => ?_⟩⟩
  have X1 := Ext.new hrg (.rng 0 sp)
  have X2 := X1.trans (Ext.new hhp (.lst ((List.range sp.toNat).map fun (i : Nat) => V.int (i : Int))))
  refine ⟨Nat.zero_le _, fun fo hfo => ?_⟩
  have f0 := X2.none hfo
  refine ⟨_, rfl, n, rfl, by omega, by omega, qBt (lo := 0) (n := n.toNat) (fun i σ H' => ∃ b' h hp fo hs es, EI H sp n i σ H' b' h hp fo hs es)
    ⟨b, 0, hp, fo, (List.range sp.toNat).map fun (i : Nat) => (i : Int), [], ⟨_, _, _, _, rfl⟩, X2.trans (Ext.new hfo _), f0, fun e => (by rw [← e, upd_same] at hfo; cases hfo), ?_, ?_, ⟨[], upd_same, .nil⟩, Nat.le_refl _, fun e he => (by cases he), rfl, rfl, Nat.zero_le _, Nat.zero_le _⟩ ?_ ?_⟩
  · rw [qAr (fun e => by rw [← e, upd_same] at hfo; cases hfo), upd_same, List.map_map]; rfl
  · rw [List.length_map, List.length_range]; omega
  · rintro i σ H' hi ⟨b', h, hp, fo, hs, es, ⟨x6, x7, x8, x9, rfl⟩, ext, fo0, ne, hsA, hsl, esA, esl, esi, hse, hw, w8, l8⟩
    have sp0 : (0 : Int) < sp := p0
    have o0 := Int.emod_nonneg b' (show sp ≠ 0 by omega)
    have o1 := Int.emod_lt_of_pos b' p0
    have t0 := Int.emod_nonneg (b' / sp) (show sp ≠ 0 by omega)
    have t1 := Int.emod_lt_of_pos (b' / sp) p0
    have cd : CDiv (b' / sp) sp := ⟨p0, by omega⟩
    have cd' : CDiv b' sp := ⟨p0, by omega⟩
    refine ⟨_, rfl, _, rfl, _, _, rfl, rfl, p0, _, rfl, _, rfl, _, _, rfl, rfl, cd', _, rfl, _, _, rfl, rfl, p0, (by show 2 ≤ sizeLine; decide), fun T hT => ⟨T, _, rfl, SqT.of upd_same, rfl, _, _, rfl, _, _, rfl, rfl, ?_⟩⟩
    have X3 := Ext.new hT (.tup [V.int (b' % sp), V.int (b' / sp % sp)])
    refine ⟨_, rfl, _, rfl, _, _, rfl, rfl, cd', _, rfl, _, _, rfl, rfl, cd, ?_⟩
    have a1 := at_hs hse o0 o1
    have a2 := at_hs hse t0 t1
    obtain ⟨v1, hv1⟩ : ∃ v, hF es (b' % sp) = v := ⟨_, rfl⟩
    obtain ⟨v2, hv2⟩ : ∃ v, hF es (b' / sp % sp) = v := ⟨_, rfl⟩
    rw [hv1] at a1
    rw [hv2] at a2
    have hs3 := X3 _ _ hsA
    have es3 := esA.ext X3
    obtain ⟨as, ea1, ea2⟩ := id esA
    have la : as.length = es.length := ea2.length
    have inn : InSp sp ((b' % sp), (b' / sp % sp)) := ⟨⟨o0, o1⟩, t0, t1⟩
    refine ⟨_, rfl, _, rfl, hp, _, _, _, rfl, rfl, SqL.of hs3, a1, _, rfl, _, rfl, hp, _, _, _, rfl, rfl, SqL.of hs3, a2, rfl, _, rfl, ?_⟩
    refine qCm (fun c => ?_) (fun c => ?_)
    · refine ⟨_, rfl, fo, _, rfl, .inl (SqL.of (X3 _ _ ea1)), _, rfl, _, _, rfl, rfl, _, _, rfl, rfl, _, rfl, ?_⟩
      refine qCm (fun c2 => ?_) (fun c2 => ?_)
      · refine ⟨_, rfl, .inl ⟨rfl, _, SqL.of (X3 _ _ ea1)⟩, _, rfl, _, rfl, (by show 2 ≤ sizeLine; decide), fun T2 hT2 => ?_⟩
        have X4 := X3.trans (Ext.new hT2 (.tup (enV ((b' % sp), (b' / sp % sp)))))
        refine ⟨fo, _, _, rfl, rfl, X4 _ _ ea1, by rw [List.length_map]; exact qAf (by omega), ?_⟩
        refine ⟨_, _, hp, fo, hs, es ++ [((b' % sp), (b' / sp % sp))], ⟨_, _, _, _, rfl⟩, (ext.trans X4).over fo0 _, fo0, ne, by rw [qAr ne]; exact X4 _ _ hsA, hsl, qDn.snoc ea1 ea2 X4 upd_same, by rw [List.length_append]; exact Nat.succ_le_succ esl, memE esi inn, ?_, ?_, ?_, ?_⟩
        · rw [hF_same (hv1.trans ((by simpa using c : v1 = v2).trans hv2.symm))]; exact hse
        · rw [wI_same (hv1.trans ((by simpa using c : v1 = v2).trans hv2.symm))]; exact hw
        · rw [wI_same (hv1.trans ((by simpa using c : v1 = v2).trans hv2.symm))]; exact w8
        · rw [wI_same (hv1.trans ((by simpa using c : v1 = v2).trans hv2.symm)), List.length_append]
          have c9 := of_decide_eq_true c2
          rw [List.length_map, la] at c9
          show es.length + 1 ≤ _
          omega
      · refine ⟨_, rfl, _, rfl, hp, _, _, _, rfl, rfl, SqL.of hs3, a1, _, rfl, _, rfl, hp, _, _, _, rfl, rfl, SqL.of hs3, a2, rfl, _, rfl, ?_⟩
        refine qCm (fun c3 => ?_) (fun c3 => ?_)
        · have e1 : v1 = v2 := by simpa using c
          have e2 : ¬ v1 = v2 := by simpa using c3
          exact absurd e1 e2
        · refine qCu ?_
          exact ⟨_, _, hp, fo, hs, es, ⟨_, _, _, _, rfl⟩, ext.trans X3, fo0, ne, hs3, hsl, es3, by omega, esi, hse, hw, w8, l8⟩
    · refine qCu ?_
      refine ⟨_, rfl, _, rfl, hp, _, _, _, rfl, rfl, SqL.of hs3, a1, _, rfl, _, rfl, hp, _, _, _, rfl, rfl, SqL.of hs3, a2, rfl, _, rfl, ?_⟩
      refine qCm (fun c3 => ?_) (fun c3 => ?_)
      · refine ⟨_, rfl, _, _, rfl, rfl, _, rfl, ?_⟩
        refine qCm (fun c2 => ?_) (fun c2 => ?_)
        · refine ⟨_, rfl, .inl ⟨rfl, _, SqL.of (X3 _ _ ea1)⟩, _, rfl, _, rfl, (by show 2 ≤ sizeLine; decide), fun T2 hT2 => ?_⟩
          have X4 := X3.trans (Ext.new hT2 (.tup (enV ((b' % sp), (b' / sp % sp)))))
          refine ⟨fo, _, _, rfl, rfl, X4 _ _ ea1, by rw [List.length_map]; exact qAf (by omega), ?_⟩
          have hs4 : upd (upd (upd H' T (.tup [V.int (b' % sp), V.int (b' / sp % sp)])) T2 (.tup (enV ((b' % sp), (b' / sp % sp))))) fo (.lst (as.map V.ref ++ [V.ref T2])) hp = some (.lst (hs.map V.int)) := by rw [qAr ne]; exact X4 _ _ hsA
          have en4 := qDn.snoc (t := ((b' % sp), (b' / sp % sp))) ea1 ea2 X4 upd_same
          have X5 := (ext.trans X4).over fo0 (.lst (as.map V.ref ++ [V.ref T2]))
          refine ⟨_, rfl, _, _, rfl, rfl, ?_⟩
          refine ⟨_, rfl, _, rfl, hp, _, _, _, rfl, rfl, SqL.of hs4, a2, ?_⟩
          refine ⟨_, rfl, hp, rfl, ⟨_, SqL.of hs4⟩, ?_⟩
          refine turns_pure (fun v => some (if v = .int v2 then .int v1 else v)) (SqL.of hs4) (by rw [List.length_map]; exact Nat.le_of_lt (qAf (by omega))) (fun x hx C hC => ?_) (fun r hr' => ?_)
          · obtain ⟨y, _, rfl⟩ := List.mem_map.mp hx
            refine ⟨Sle.set _ (Sle.refl _) (fun u z => by cases z), iteT (B := False) ?_⟩
            refine ⟨_, rfl, _, rfl, rfl, _, rfl, ?_⟩
            refine qCm (fun c5 => ?_) (fun c5 => ?_)
            · have e5 : y = v2 := by simpa using c5
              subst e5
              refine ⟨_, rfl, _, rfl, hp, _, _, _, rfl, rfl, SqL.of hs4, a1, ?_⟩
              rw [if_pos rfl] at hC
              exact hC
            · have e5 : ¬ y = v2 := by simpa using c5
              rw [if_neg (fun z => e5 (V.int.inj z))] at hC
              exact ⟨_, rfl, hC⟩
          · have rf : r ≠ fo := fun e => by rw [e, upd_same] at hr'; cases hr'
            have em : (hs.map V.int).filterMap (fun v => some (if v = .int v2 then .int v1 else v)) = (hs.map fun y => if y = v2 then v1 else y).map V.int := by
              rw [List.filterMap_eq_map', List.map_map, List.map_map]
              refine List.map_congr_left fun y _ => ?_
              show (if V.int y = V.int v2 then V.int v1 else V.int y) = V.int (if y = v2 then v1 else y)
              by_cases z : y = v2
              · subst z; rw [if_pos rfl, if_pos rfl]
              · rw [if_neg (fun e => z (V.int.inj e)), if_neg z]
            rw [em]
            refine ⟨_, _, r, fo, _, es ++ [((b' % sp), (b' / sp % sp))], ⟨_, _, _, _, rfl⟩, X5.trans (Ext.new hr' _), fo0, rf, upd_same, by rw [List.length_map]; exact hsl, en4.ext (Ext.new hr' _), by rw [List.length_append]; exact Nat.succ_le_succ esl, memE esi inn, ?_, ?_, ?_, ?_⟩
            · rw [hse, List.map_map]
              refine List.map_congr_left fun j _ => ?_
              rw [hF_snoc]
              show (if hF es (j : Int) = v2 then v1 else hF es (j : Int)) = if hF es (j : Int) = hF es (b' / sp % sp) then hF es (b' % sp) else hF es (j : Int)
              rw [hv1, hv2]
            · rw [wI_diff (by show ¬ hF es (b' % sp) = hF es (b' / sp % sp); rw [hv1, hv2]; simpa using c), hw]; rfl
            · rw [wI_diff (by show ¬ hF es (b' % sp) = hF es (b' / sp % sp); rw [hv1, hv2]; simpa using c)]
              have c9 := of_decide_eq_true c2
              omega
            · rw [wI_diff (by show ¬ hF es (b' % sp) = hF es (b' / sp % sp); rw [hv1, hv2]; simpa using c), List.length_append]
              show es.length + 1 ≤ _
              omega
        · exact ⟨_, _, hp, fo, hs, es, ⟨_, _, _, _, rfl⟩, ext.trans X3, fo0, ne, hs3, hsl, es3, by omega, esi, hse, hw, w8, l8⟩
      · refine qCu ?_
        exact ⟨_, _, hp, fo, hs, es, ⟨_, _, _, _, rfl⟩, ext.trans X3, fo0, ne, hs3, hsl, es3, by omega, esi, hse, hw, w8, l8⟩
  · rintro σ H' ⟨b', h, hp, fo, hs, es, ⟨x6, x7, x8, x9, rfl⟩, ext, fo0, ne, hsA, hsl, esA, esl, esi, hse, hw, w8, l8⟩
    exact ⟨_, rfl, q fo es H' ext fo0 esA esl esi w8 l8⟩
end
end My
namespace L2
open PySem PySem.Spec PyProof.Rows
theorem for_pairs {n : Nat} {Ls : Hp → Prop} {xv : Nat → List V} {g : TG} {tb : TS} {D : Ends} {σ : St} {H : Hp} (Pv : Nat → St → Hp → Prop) (h0 : Pv 0 σ H) (hl : ∀ i σ H, i ≤ n → Pv i σ H → Ls H)
    (hs : ∀ i σ H T, i < n → Pv i σ H → H T = none → g (.ref T) σ (upd H T (.tup (xv i))) fun σ2 H2 => tb { D with nx := Pv (i + 1), ct := Pv (i + 1), bk := D.nx } σ2 H2) (hd : ∀ σ H, Pv n σ H → D.nx σ H) :
    ∃ W : Nat → Nat → St → Hp → Prop, (∃ m, W 0 m σ H) ∧ ∀ i m σ H, W i m σ H →
      ((Itp n Ls xv).stop i H ∧ D.nx σ H) ∨ ((Itp n Ls xv).go i H ∧ ∃ N : St → Hp → Prop, (∀ σ' H', N σ' H' → ∃ m', m' < m ∧ W (i + 1) m' σ' H') ∧ ∀ x H', (Itp n Ls xv).yld i H x H' → g x σ H' fun σ2 H2 => tb { D with nx := N, ct := N, bk := D.nx } σ2 H2) := by
  refine ⟨fun i m σ H => m = n - i ∧ i ≤ n ∧ Pv i σ H, ⟨n, by simp, Nat.zero_le _, h0⟩, ?_⟩
  rintro i m σ H ⟨rfl, hi, p⟩
  have q := hl i σ H hi p
  by_cases hlt : i < n
  · refine .inr ⟨⟨q, hlt⟩, Pv (i + 1), fun σ' H' p' => ⟨n - (i + 1), by omega, rfl, hlt, p'⟩, fun x H' y => ?_⟩
    obtain ⟨T, e1, e2, e3⟩ := y
    subst e2 e3
    exact hs i σ H T hlt p e1
  · have e : i = n := by omega
    subst e
    exact .inl ⟨⟨q, rfl⟩, hd σ H p⟩
end L2
namespace My
open PySem L2
theorem at_intM {hs : List Int} {i : Int} (h0 : 0 ≤ i) (h1 : i < (hs.length : Int)) : ∃ v ∈ hs, atI (hs.map V.int) i = some (.int v) := by
  have hk : i.toNat < hs.length := by omega
  have hv : atI (hs.map V.int) ((i.toNat : Nat) : Int) = some (.int hs[i.toNat]) := qAv (by rw [List.getElem?_map, List.getElem?_eq_getElem hk] <;> rfl)
  rw [Int.toNat_of_nonneg h0] at hv
  exact ⟨_, List.getElem_mem hk, hv⟩
theorem qGd {α β γ : Type} {R : α → β → Prop} {S : α → γ → Prop} (g : β → γ) (h : ∀ a b, R a b → S a (g b)) : ∀ {as : List α} {bs : List β}, Paired R as bs → Paired S as (bs.map g)
  | _, _, .nil => .nil
  | _, _, .cons x t => .cons (h _ _ x) (qGd g h t)
theorem qCq.snoc {H H' : Hp} {k a : Addr} {as : List Addr} {net : List Tr} {t : Tr} (hk : H k = some (.lst (as.map V.ref))) (pr : Paired (fun a t => H a = some (.tup (trV t))) as net) (e : Ext H H') (ha : H' a = some (.tup (trV t))) : qCq (upd H' k (.lst (as.map V.ref ++ [V.ref a]))) k (net ++ [t]) := by
  have hk' := e _ _ hk
  have ne : ∀ {b : Addr} {xs : List V}, H' b = some (.tup xs) → b ≠ k := fun h z => by rw [z, hk'] at h; cases h
  refine ⟨as ++ [a], by rw [upd_same, List.map_append]; rfl, ?_⟩
  refine Paired.snoc (Paired.mapP pr fun b u z => ?_) ?_
  · have z' := e _ _ z
    rw [qAr (ne z')]; exact z'
  · rw [qAr (ne ha)]; exact ha
def rowT (t : Tr) : List Str := [t.1, t.2.1, t.2.2]
def t0 : Tr := ("", "", "")
theorem rowT_at : ∀ {net : List Tr} {i : Nat}, i < net.length → rowT (net.getD i t0) = (net.map rowT).getD i []
  | [], _, h => absurd h (Nat.not_lt_zero _)
  | t :: r, 0, _ => rfl
  | t :: r, i + 1, h => by simpa using rowT_at (net := r) (i := i) (by simpa using h)
theorem net_pick {H : Hp} : ∀ {as : List Addr} {net : List Tr} {i : Nat}, Paired (fun a t => H a = some (.tup (trV t))) as net → i < as.length → H (as.getD i 0) = some (.tup (trV (net.getD i t0)))
  | _, _, i, .nil, hi => absurd hi (Nat.not_lt_zero _)
  | _, _, 0, .cons h _, _ => h
  | _, _, i + 1, .cons _ t, hi => by simpa using net_pick (i := i) t (by simpa using hi)
theorem net_picks {H : Hp} {as : List Addr} {net : List Tr} (pr : Paired (fun a t => H a = some (.tup (trV t))) as net) : ∀ {l : List Nat}, (∀ i ∈ l, i < as.length) → Paired (fun a t => H a = some (.tup (trV t))) (l.map fun i => as.getD i 0) (l.map fun i => net.getD i t0)
  | [], _ => .nil
  | i :: l, h => .cons (net_pick pr (h i List.mem_cons_self)) (net_picks pr fun j hj => h j (List.mem_cons_of_mem _ hj))
theorem qGb {net : List Tr} : ∀ {l : List Nat}, (∀ i ∈ l, i < net.length) → (l.map fun i => net.getD i t0).map rowT = l.map fun i => (net.map rowT).getD i []
  | [], _ => rfl
  | i :: l, h => by
    rw [List.map_cons, List.map_cons, List.map_cons, qGb fun j hj => h j (List.mem_cons_of_mem _ hj), rowT_at (h i List.mem_cons_self)]
theorem rowT_inj {t u : Tr} (e : rowT t = rowT u) : t = u := by
  obtain ⟨a, b, c⟩ := t
  obtain ⟨a', b', c'⟩ := u
  unfold rowT at e
  simp at e
  obtain ⟨e1, e2, e3⟩ := e
  subst e1 e2 e3; rfl
theorem map_names (net : List Tr) : (net.map rowT).map (fun r => r.getD 0 "") = net.map (·.1) := by
  rw [List.map_map]; rfl
theorem rise_srt : ∀ {net : List Tr}, Srt (net.map rowT) → (net.map (·.1)).Nodup → qF0 (net.map (·.1))
  | [], _, _ => List.Pairwise.nil
  | t :: r, h, nd => by
    rw [List.map_cons] at h nd
    obtain ⟨h1, h2⟩ := List.pairwise_cons.mp h
    obtain ⟨n1, n2⟩ := List.nodup_cons.mp nd
    rw [List.map_cons]
    refine List.pairwise_cons.mpr ⟨fun x hx => ?_, rise_srt h2 n2⟩
    obtain ⟨u, hu, rfl⟩ := List.mem_map.mp hx
    have q := h1 (rowT u) (List.mem_map_of_mem hu)
    have ne : ¬ u.1 = t.1 := fun z => n1 (z ▸ List.mem_map_of_mem hu)
    unfold rowT ltL at q
    rw [if_neg ne] at q
    rcases sLtB_tri t.1 u.1 with z | z | z
    · exact z
    · exact absurd z.symm ne
    · rw [z] at q; cases q
def TxT (t : Tr) : Prop := qBu t.1 ∧ qBu t.2.1 ∧ qBu t.2.2 ∧ leB t.2.1 t.2.2 = true
def TxN (net : List Tr) : Prop := ∀ t ∈ net, TxT t
def spNet (K : PySem.W.Frag) : Sp := fun vs H Q _ => ∃ (a : Addr) (ns : List Int) (at0 : Int), vs = [.ref a, .int at0] ∧ 0 ≤ at0 ∧ at0 ≤ 20 ∧ SqL K H a (ns.map V.int) ∧ ∀ r net H', Ext H H' → H r = none → qCq H' r net → net.length ≤ 12 → TxN net → qF0 (net.map (·.1)) → (qCh net).length ≤ 8 → net.length ≤ (qCh net).length + 8 → Q (.ref r) H'
section
variable {P : Program} {w : World} {K : PySem.W.Frag} {mg : Str → Option Value} {base : Heap} {f f1 f2 f3 : Addr} {fd fd1 fd2 fd3 : FuncData}
abbrev neN : List Str := ["_law_script", "_law_at", "_law_head", "_law_ends_here", "_law_ties", "_law_knots", "_law_net_here", "_law_tie", "_law_two"]
theorem scNet : FnScope neN ["_law_script", "_law_at"] (qAc sNet) := ⟨rfl, rfl, rfl, by decide +kernel, rfl, by decide +kernel, by decide +kernel⟩
abbrev spr : List Int := [4, 5, 3, 6, 5, 9, 2, 10]
set_option maxHeartbeats 8000000 in
theorem ok_net (F : Fun K "_law_net" "_law_net" sNet f fd)
    (G1 : FnOk P w K mg base CX0 2 f1 fd1 ["_law_script", "_law_k"] (spBig K)) (bG1 : qAz K fd1 ["_law_script", "_law_k"] []) (kG1 : PySem.W.keepIn K (.ref f1) = true) (mG1 : mg "_law_big" = some (.ref f1))
    (G2 : FnOk P w K mg base CX0 1 f2 fd2 ["_law_big_here", "_law_many", "_law_spread"] spEnds) (bG2 : qAz K fd2 ["_law_big_here", "_law_many", "_law_spread"] []) (kG2 : PySem.W.keepIn K (.ref f2) = true) (mG2 : mg "_law_ends" = some (.ref f2))
    (G3 : FnOk P w K mg base CX0 1 f3 fd3 ["_law_big_here", "_law_many"] spNames) (bG3 : qAz K fd3 ["_law_big_here", "_law_many"] []) (kG3 : PySem.W.keepIn K (.ref f3) = true) (mG3 : mg "_law_names" = some (.ref f3))
    (ml : mg "len" = none) (mz : mg "zip" = none) (mtu : mg "tuple" = none) (mso : mg "sorted" = none) : FnOk P w K mg base CX0 3 f fd ["_law_script", "_law_at"] (spNet K) := by
  refine F.ok scNet (fun vs H Q E h => ?_) (fun cdv A outer s H vs Q E hr h => ?_)
  · obtain ⟨a, ns, at0, rfl, _⟩ := h
    rfl
  obtain ⟨a, ns, at0, rfl, a0, a20, hS, q⟩ := h
  have hr1 := hr.mono (j := 1) (by decide)
  refine ⟨_, qAa (qAj (i := 2) scNet.nd rfl (Or.inl rfl) (qAi G1 hr rfl mG1 kG1 bG1 .nil qAu (pa_cons (pv 0) (pa_cons (pv 1) pa_nil))))
    (qAa (qAj (i := 3) scNet.nd rfl (Or.inl rfl) (qAi G2 hr1 rfl mG2 kG2 bG2 .nil qAu (pa_cons (qAi G1 hr rfl mG1 kG1 bG1 .nil qAu (pa_cons (pv 0) (pa_cons (qAg qBm (pv 1) qAb) pa_nil))) (pa_cons (qAg qBd (qAg qA5 (pv 2) qAb) qAb) (pa_cons
        (qBb qBv (qBe (pa_cons qAb (pa_cons qAb (pa_cons qAb (pa_cons qAb (pa_cons qAb (pa_cons qAb (pa_cons qAb (pa_cons qAb pa_nil))))))))) (qAg qBd (pv 2) qAb) (fun _ _ => rfl)) pa_nil)))))
    (qAa (qAj (i := 4) scNet.nd rfl (Or.inl rfl) (qAi G3 hr1 rfl mG3 kG3 bG3 .nil qAu (pa_cons (qAg qA5 (pv 2) qAb) (pa_cons (qAh qAo rfl ml PySem.boot_len (pa_cons (pv 3) pa_nil)) pa_nil))))
    (qAa (qAj (i := 5) scNet.nd rfl (Or.inl rfl) (qAi G3 hr1 rfl mG3 kG3 bG3 .nil qAu (pa_cons (qAi G1 hr rfl mG1 kG1 bG1 .nil qAu (pa_cons (pv 0) (pa_cons (qAg qBm (pv 1) qAb) pa_nil))) (pa_cons qAb pa_nil))))
    (qAa (qAj (i := 6) scNet.nd rfl (Or.inl rfl) (qBe pa_nil))
    (qAa (qBl PassesOwn.never rfl (pi_zip rfl mz (pa_cons (pv 4) (pa_cons (pv 3) pa_nil))) (qBx rfl (qAl (qAe (i := 7) scNet.nd rfl (Or.inl rfl)) (qAl (qAe (i := 8) scNet.nd rfl (Or.inl rfl)) qBc)))
      (qAd (qB5 (pe_bm PySem.F.plainAttrs_list PySem.F.slot_list_append PySem.F.type_list_append qBn (pv 6) (pa_cons
        (qAg op_catT (qBy (pa_cons (pv 7) pa_nil)) (qBs qEj rfl mtu qB7 (pa_cons (qAh qE3 rfl mso qCa (pa_cons
          (qBe (pa_cons (qBb qBv (pv 5) (qBb qBh (pv 8) qAb (fun _ _ => rfl)) (fun _ _ => rfl)) (pa_cons (qBb qBv (pv 5) (qBb qBh (pv 8) qAb (fun _ _ => rfl)) (fun _ _ => rfl)) pa_nil))) pa_nil)) pa_nil))) pa_nil)))))
    (qAd (qAm (qAh call_sortedTO rfl mso qCa (pa_cons (pv 6) pa_nil))))))))), ?_⟩
  try dsimp only [Cx.wish, qB8]
  refine ⟨_, rfl, _, rfl, a, ns, at0, rfl, hS, a0, by omega, fun hd => ?_⟩
  have d1 := Int.emod_nonneg (hd / 8) (show (13 : Int) ≠ 0 by decide)
  have d2 := Int.emod_lt_of_pos (hd / 8) (show (0 : Int) < 13 by decide)
  have d3 := Int.emod_nonneg hd (show (8 : Int) ≠ 0 by decide)
  have d4 := Int.emod_lt_of_pos hd (show (0 : Int) < 8 by decide)
  refine ⟨_, rfl, _, rfl, _, _, rfl, rfl, a, ns, _, rfl, hS, (by show (0 : Int) ≤ at0 + 1; omega), (by show at0 + 1 ≤ (100 : Int); omega), fun v1 => ?_⟩
  refine ⟨_, rfl, _, _, rfl, rfl, ⟨by decide, by decide⟩, _, _, rfl, rfl, (by show (0 : Int) < _; decide), (by show 8 ≤ sizeLine; decide), fun L hL => ?_⟩
  have X1 := Ext.new hL (.lst (spr.map V.int))
  obtain ⟨sp, spm, spa⟩ := at_intM (hs := spr) d3 (by show hd % 8 < 8; exact d4)
  have spb : 0 < sp ∧ sp ≤ 10 := by
    have : ∀ z ∈ spr, 0 < z ∧ z ≤ 10 := by decide
    exact this sp spm
  refine ⟨_, rfl, _, _, rfl, rfl, (by show (0 : Int) < _; decide), L, spr.map V.int, _, _, rfl, rfl, SqL.of upd_same, spa, ?_⟩
  refine ⟨_, _, sp, rfl, d1, by omega, spb.1, spb.2, fun en es H2 e2 en0 hen esl esi w8 l8 => ?_⟩
  have E2 := X1.trans e2
  obtain ⟨bs, hb1, hb2⟩ := id hen
  have lb : bs.length = es.length := hb2.length
  have esl' : es.length ≤ 12 := by omega
  refine ⟨_, rfl, _, _, rfl, rfl, ⟨by decide, by decide⟩, _, rfl, en, _, rfl, .inl (SqL.of hb1), ?_⟩
  refine ⟨_, _, rfl, by omega, by rw [List.length_map]; omega, fun tl ts H3 e3 tl0 htl tsl tsx tnd => ?_⟩
  have E3 := E2.trans e3
  refine ⟨_, rfl, _, rfl, _, _, rfl, rfl, a, ns, _, rfl, E3.sqL hS, (by show (0 : Int) ≤ at0 + 2; omega), (by show at0 + 2 ≤ (100 : Int); omega), fun v2 => ?_⟩
  refine ⟨_, 10, rfl, by decide, by decide, fun kl kn H4 e4 kl0 hkl knl knx knd => ?_⟩
  have E4 := E3.trans e4
  refine ⟨Nat.zero_le _, fun nl hnl => ?_⟩
  have nl0 := E4.none hnl
  have E5 := E4.trans (Ext.new hnl (.lst []))
  have tsl' : ts.length = es.length := by rw [tsl, List.length_map, lb]; omega
  have mn : min (ts.map V.str).length (bs.map V.ref).length = es.length := by rw [List.length_map, List.length_map, lb, tsl']; exact Nat.min_self _
  have htl5 := (Ext.new hnl (.lst [])) _ _ (e4 _ _ htl)
  have hen5 := (Ext.new hnl (.lst [])) _ _ (e4 _ _ (e3 _ _ hb1))
  refine ⟨_, rfl, _, rfl, tl, en, _, _, rfl, SqL.of htl5, SqL.of hen5, ?_⟩
  refine for_pairs (fun i σ H6 => ∃ (x7 x8 : Option V) (net : List Tr), σ = [some (.ref a), some (.int at0), some (.int hd), some (.ref en), some (.ref tl), some (.ref kl), some (.ref nl), x7, x8] ∧ Ext H4 H6 ∧ qCq H6 nl net ∧ net.length = i ∧ TxN net ∧ net.map (·.1) = ts.take i ∧ Paired (fun t e => Lnk kn e t) net (es.take i))
    ⟨none, none, [], rfl, Ext.new hnl _, ⟨[], upd_same, .nil⟩, rfl, (fun t ht => by cases ht), rfl, by rw [List.take_zero]; exact .nil⟩ ?_ ?_ ?_
  · rintro i σ H6 _ ⟨x7, x8, net, _, e6, _⟩
    exact ⟨SqL.of (e6 _ _ (e4 _ _ htl)), SqL.of (e6 _ _ (e4 _ _ (e3 _ _ hb1)))⟩
  · rintro i σ H6 T hi ⟨x7, x8, net, rfl, e6, nt, nl', tx, nm, lks⟩ hT
    rw [mn] at hi
    have hit : i < ts.length := by omega
    have hib : i < bs.length := by omega
    have g1 : (ts.map V.str).getD i .non = .str ts[i] := by rw [List.getD_eq_getElem?_getD, List.getElem?_map, List.getElem?_eq_getElem hit]; rfl
    have g2 : (bs.map V.ref).getD i .non = .ref bs[i] := by rw [List.getD_eq_getElem?_getD, List.getElem?_map, List.getElem?_eq_getElem hib]; rfl
    obtain ⟨e, he, hbe⟩ := qAy hb2 (List.getElem?_eq_getElem hib)
    obtain ⟨⟨i0, i1⟩, j0, j1⟩ := esi e (List.mem_of_getElem? he)
    obtain ⟨k1, k1e, k1m, k1a⟩ := at_kn (kn := kn) i0 (by rw [knl]; show e.1 < 10; omega)
    obtain ⟨k2, k2e, k2m, k2a⟩ := at_kn (kn := kn) j0 (by rw [knl]; show e.2 < 10; omega)
    obtain ⟨as, ea1, ea2⟩ := id nt
    have la : as.length = net.length := ea2.length
    dsimp only
    rw [g1, g2]
    have Y1 := Ext.new hT (.tup [V.str ts[i], V.ref bs[i]])
    refine ⟨T, _, rfl, SqT.of upd_same, rfl, _, _, rfl, _, _, rfl, rfl, ?_⟩
    refine ⟨_, rfl, .inl ⟨rfl, _, SqL.of (Y1 _ _ ea1)⟩, _, rfl, (by show 1 ≤ sizeLine; decide), fun T1 hT1 => ?_⟩
    have Y2 := Y1.trans (Ext.new hT1 (.tup [V.str ts[i]]))
    have hb6 := Y2 _ _ (e6 _ _ (e4 _ _ (e3 _ _ hbe)))
    have hk6 := Y2 _ _ (e6 _ _ hkl)
    refine ⟨_, rfl, _, rfl, bs[i], _, _, _, rfl, rfl, SqT.of hb6, (by exact qAv (j := 0) rfl), kl, _, _, _, rfl, rfl, SqL.of hk6, k1a, ?_⟩
    refine ⟨_, rfl, _, rfl, bs[i], _, _, _, rfl, rfl, SqT.of hb6, (by exact qAv (j := 1) rfl), kl, _, _, _, rfl, rfl, SqL.of hk6, k2a, ?_⟩
    refine ⟨(by show 2 ≤ sizeLine; decide), fun L2 hL2 => ⟨L2, [k1, k2], rfl, SqL.of upd_same, (by show 2 < 64; decide), fun S ss hS' perm srt => ?_⟩⟩
    have Y3 := Y2.trans (Ext.new hL2 (.lst [V.str k1, V.str k2]))
    have Y4 := Y3.trans (Ext.new hS' (.lst (ss.map V.str)))
    refine ⟨S, _, rfl, .inl ⟨SqL.of upd_same, fun T2 hT2 => ?_⟩⟩
    have lss : ss.length = 2 := perm.length_eq
    obtain ⟨x, y, rfl⟩ : ∃ x y, ss = [x, y] := by
      match ss, lss with
      | [x, y], _ => exact ⟨x, y, rfl⟩
    have sx : qBu x := by
      have : x ∈ [k1, k2] := perm.mem_iff.mp (by simp)
      simp at this
      rcases this with rfl | rfl
      · exact knx _ k1m
      · exact knx _ k2m
    have sy : qBu y := by
      have : y ∈ [k1, k2] := perm.mem_iff.mp (by simp)
      simp at this
      rcases this with rfl | rfl
      · exact knx _ k1m
      · exact knx _ k2m
    have Y5 := Y4.trans (Ext.new hT2 (.tup ([x, y].map V.str)))
    have t1 : upd (upd H6 T (.tup [V.str ts[i], V.ref bs[i]])) T1 (.tup [V.str ts[i]]) T1 = some (.tup [V.str ts[i]]) := upd_same
    have t15 := Ext.new hT2 (.tup ([x, y].map V.str)) _ _ (Ext.new hS' (.lst ([x, y].map V.str)) _ _ (Ext.new hL2 (.lst [V.str k1, V.str k2]) _ _ t1))
    refine ⟨T1, T2, _, _, rfl, rfl, SqT.of t15, SqT.of upd_same, (by simp), (by show 3 ≤ sizeLine; decide), (fun z => by cases z), fun _ T3 hT3 => ?_⟩
    have Y6 := Y5.trans (Ext.new hT3 (.tup (trV (ts[i], x, y))))
    refine ⟨nl, _, _, rfl, rfl, Y6 _ _ ea1, ?_, ?_⟩
    · rw [List.length_map]; exact qAf (by omega)
    · refine ⟨_, _, net ++ [(ts[i], x, y)], rfl, (e6.trans Y6).over hnl _, qCq.snoc ea1 ea2 Y6 upd_same, by rw [List.length_append, nl']; rfl, (fun t ht => ?_), by rw [List.map_append, nm, qAk (List.getElem?_eq_getElem hit)]; rfl, by rw [qAk he]; exact Paired.snoc lks (lnk2 perm k1e k2e)⟩
      rcases List.mem_append.mp ht with z | z
      · exact tx t z
      · rw [List.mem_singleton] at z
        subst z
        exact ⟨tsx _ (List.getElem_mem hit), sx, sy, srt2 srt⟩
  · rintro σ H6 ⟨x7, x8, net, rfl, e6, nt, nl', tx, nm, lks⟩
    rw [mn] at nl' nm lks
    rw [List.take_of_length_le (Nat.le_refl _)] at lks
    obtain ⟨as, ea1, ea2⟩ := id nt
    have la : as.length = net.length := ea2.length
    refine ⟨_, rfl, nl, as, net.map rowT, rfl, SqL.of ea1, qGd _ (fun a t z => ⟨SqT.of z, by simp [rowT]⟩) ea2, by omega, fun r o hr' g sp => ?_⟩
    have E6 := E4.trans e6
    have gm : ∀ i ∈ o.toList, i < as.length := fun i hi => gd_mem g hi
    have gm' : ∀ i ∈ o.toList, i < net.length := fun i hi => by have := gm i hi; omega
    have gl := gd_len g
    have lt : as.length = (net.map rowT).length := by rw [List.length_map]; exact la
    rw [lt] at g sp
    obtain ⟨s1, s2⟩ := order_rows g sp
    rw [← qGb gm'] at s1 s2
    have nd : ((o.toList.map fun i => net.getD i t0).map (·.1)).Nodup := by
      rw [← map_names]
      refine (s2.map _).nodup_iff.mpr ?_
      rw [map_names, nm, ← tsl', List.take_of_length_le (Nat.le_refl _)]
      refine tnd ?_
      rw [List.length_map]; omega
    have inR : ∀ e ∈ es, InR e.1 ∧ InR e.2 := fun e he => by
      obtain ⟨⟨z1, z2⟩, z3, z4⟩ := esi e he
      exact ⟨⟨z1, by omega⟩, z3, by omega⟩
    have kn10 : kn.length = 10 := knl
    have knd' := knd (by decide)
    have wl := (wood_link (kn_inj knd' kn10) net es lks inR).2
    have pm : (o.toList.map fun i => net.getD i t0).Perm net := by
      have z := s2.map (fun r : List Str => ((r.getD 0 "", r.getD 1 "", r.getD 2 "") : Tr))
      have id1 : ∀ l : List Tr, (l.map rowT).map (fun r : List Str => ((r.getD 0 "", r.getD 1 "", r.getD 2 "") : Tr)) = l := fun l => by
        rw [List.map_map]; exact List.map_id l
      rw [id1, id1] at z
      exact z
    have ptk : ∀ x, isPt net x → x ∈ kn := fun x ⟨t, ht, hx⟩ => by
      obtain ⟨j, hj, rfl⟩ := List.getElem_of_mem ht
      obtain ⟨e, he, lk⟩ := qAy lks (List.getElem?_eq_getElem hj)
      obtain ⟨⟨i1, i2⟩, i3, i4⟩ := inR e (List.mem_of_getElem? he)
      obtain ⟨k1, k1e, k1m, _⟩ := at_kn (kn := kn) i1 (by rw [kn10]; exact i2)
      obtain ⟨k2, k2e, k2m, _⟩ := at_kn (kn := kn) i3 (by rw [kn10]; exact i4)
      rcases lk with ⟨z1, z2⟩ | ⟨z1, z2⟩ <;> rcases hx with rfl | rfl <;> first | (rw [z1, ← k1e]; exact k1m) | (rw [z2, ← k2e]; exact k2m) | (rw [z1, ← k2e]; exact k2m) | (rw [z2, ← k1e]; exact k1m)
    have wp := wood_perm knd' ptk pm.symm
    have pl := pm.length_eq
    have esn : net.length = es.length := lks.length
    refine q r (o.toList.map fun i => net.getD i t0) _ (E6.trans (Ext.new hr' _)) (E6.none hr') ⟨_, upd_same, Paired.mapP (net_picks ea2 gm) fun a' t z => Ext.new hr' _ _ _ z⟩ ?_ (fun t ht => ?_) (rise_srt s1 nd) (by omega) (by omega)
    · rw [List.length_map, gl]; omega
    · have m : rowT t ∈ net.map rowT := s2.mem_iff.mp (List.mem_map_of_mem ht)
      obtain ⟨u, hu, e⟩ := List.mem_map.mp m
      rw [← rowT_inj e]
      exact tx u hu
end
end My
namespace My
open PySem L2
section
variable {P : Program} {w : World} {K : PySem.W.Frag} {mg : Str → Option Value} {base : Heap} {f f1 f2 : Addr} {fd fd1 fd2 : FuncData}
theorem qFd {as : List Addr} {net : List Tr} {Q : List V → Hp → Prop} {H1 : Hp} {σ0 : St} {g : TG} {tt : TT} {te : TE} {p : Addr} (h : Tr → Str) (hp : H1 p = some (.lst (as.map V.ref))) (pr : Paired (fun a t => H1 a = some (.tup (trV t))) as net) (ln : net.length ≤ 20)
    (hs : ∀ a t, H1 a = some (.tup (trV t)) → ∀ (C : V → Hp → Prop) (B : Hp → Prop), C (.str (h t)) H1 → g (.ref a) σ0 H1 fun σ2 H2 => Sle σ0 σ2 ∧ tt σ2 H2 fun b H3 => if b = true then te σ2 H3 C else B H3)
    (hd : Q ((net.map h).map V.str) H1) : qDl (Itl K p) σ0 g tt te Q H1 := by
  have lA : as.length = net.length := pr.length
  refine qAq (xs := as.map V.ref) (fun j ys H2 => H2 = H1 ∧ ys = ((net.take j).map h).map V.str) ⟨rfl, rfl⟩ (fun j ys H2 _ h => by rw [h.1]; exact SqL.of hp) ?_ ?_
  · rintro j x ys H2 hx ⟨rfl, rfl⟩
    obtain ⟨a, t, rfl, ht, ha⟩ := net_get pr hx
    have hi := qA2 ht
    have sz : (((net.take j).map h).map V.str).length < sizeLine := by
      rw [List.length_map, List.length_map, List.length_take]
      exact qAf (by omega)
    exact hs a t ha _ _ ⟨sz, nxt (qA2 hx) ⟨rfl, by rw [qAk ht, List.map_append, List.map_append]; rfl⟩⟩
  · rintro ys H2 ⟨rfl, rfl⟩
    rw [List.length_map, lA, List.take_of_length_le (Nat.le_refl _)]
    exact hd
end
end My
namespace My
theorem qEn {x i : Nat} (h : x < 2 ^ i) {j : Nat} (hj : i ≤ j) : x.testBit j = false :=
  Nat.testBit_lt_two_pow (Nat.lt_of_lt_of_le h (Nat.pow_le_pow_right (by decide) hj))
theorem tb_ge {x i : Nat} (h : x.testBit i = true) : 2 ^ i ≤ x := by
  rcases Nat.lt_or_ge x (2 ^ i) with z | z
  · rw [Nat.testBit_lt_two_pow z] at h; cases h
  · exact z
theorem log2_of {x i : Nat} (h1 : x.testBit i = true) (h2 : x < 2 ^ (i + 1)) : x.log2 = i := by
  have g := tb_ge h1
  have nz : x ≠ 0 := fun z => by subst z; simp at h1
  have a := (Nat.log2_lt nz).mpr h2
  have b := (Nat.le_log2 nz).mpr g
  omega
theorem tb_le {x i : Nat} (h : x.testBit i = true) : i ≤ x.log2 := by
  have nz : x ≠ 0 := fun z => by subst z; simp at h
  exact (Nat.le_log2 nz).mpr (tb_ge h)
theorem tb_above {x i : Nat} (h : x.log2 < i) : x.testBit i = false := qEn Nat.lt_log2_self h
theorem qEx {n : Nat} (h : n % 2 = 0) : n ^^^ 1 = n + 1 := by
  have d : (n ^^^ 1) / 2 = n / 2 := by rw [Nat.xor_div_two]; simp
  have b : (n ^^^ 1).testBit 0 = true := by rw [Nat.testBit_xor, Nat.testBit_zero, Nat.testBit_zero]; simp [h]
  rw [Nat.testBit_zero] at b
  have b' := of_decide_eq_true b
  omega
theorem xor_one_odd {n : Nat} (h : n % 2 = 1) : n ^^^ 1 = n - 1 := by
  have d : (n ^^^ 1) / 2 = n / 2 := by rw [Nat.xor_div_two]; simp
  have b : (n ^^^ 1).testBit 0 = false := by rw [Nat.testBit_xor, Nat.testBit_zero, Nat.testBit_zero]; simp [h]
  rw [Nat.testBit_zero] at b
  have b' := of_decide_eq_false b
  omega
theorem shr_log2 {s : Nat} (hs : s ≠ 0) : s >>> s.log2 = 1 := by
  rw [Nat.shiftRight_eq_div_pow]
  have a := Nat.log2_self_le hs
  have b : s < 2 ^ (s.log2 + 1) := Nat.lt_log2_self
  rw [Nat.pow_succ] at b
  have p : 0 < 2 ^ s.log2 := Nat.pow_pos (by decide)
  exact Nat.div_eq_of_lt_le (by omega) (by omega)
theorem qF2 (x : Nat) {s : Nat} (hs : s ≠ 0) : x ^^^ s < x ↔ x.testBit s.log2 = true := by
  have e : (x ^^^ s) >>> s.log2 = (x >>> s.log2) ^^^ 1 := by rw [Nat.shiftRight_xor_distrib, shr_log2 hs]
  have tb : x.testBit s.log2 = decide ((x >>> s.log2) % 2 = 1) := by rw [Nat.testBit_eq_decide_div_mod_eq, Nat.shiftRight_eq_div_pow]
  rw [tb]
  have lt : ∀ {a b : Nat}, a >>> s.log2 < b >>> s.log2 → a < b := fun {a b} h => by
    rw [Nat.shiftRight_eq_div_pow, Nat.shiftRight_eq_div_pow] at h
    rcases Nat.lt_or_ge a b with z | z
    · exact z
    · have := Nat.div_le_div_right (c := 2 ^ s.log2) z
      omega
  rcases Nat.mod_two_eq_zero_or_one (x >>> s.log2) with h | h
  · rw [qEx h] at e
    have : x < x ^^^ s := lt (by omega)
    constructor
    · intro z; omega
    · intro z; rw [h] at z; simp at z
  · rw [xor_one_odd h] at e
    have : x ^^^ s < x := lt (by rw [e]; exact Nat.sub_one_lt fun z => by rw [z] at h; cases h)
    exact ⟨fun _ => by simp [h], fun _ => this⟩
def rd1 (x s : Nat) : Nat := if x.testBit s.log2 = true then x ^^^ s else x
theorem min_rd1 (x : Nat) {s : Nat} (hs : s ≠ 0) : (if x ^^^ s < x then x ^^^ s else x) = rd1 x s := by
  unfold rd1
  by_cases h : x.testBit s.log2 = true
  · rw [if_pos h, if_pos ((qF2 x hs).mpr h)]
  · rw [if_neg h, if_neg (fun z => h ((qF2 x hs).mp z))]
theorem qCt (x s i : Nat) : (rd1 x s).testBit i = (x.testBit i ^^ (x.testBit s.log2 && s.testBit i)) := by
  unfold rd1
  by_cases h : x.testBit s.log2 = true
  · rw [if_pos h, Nat.testBit_xor, h, Bool.true_and]
  · rw [if_neg h]
    have : x.testBit s.log2 = false := by simpa using h
    rw [this]; simp
theorem rd1_zero (s : Nat) : rd1 0 s = 0 := by unfold rd1; simp
theorem rd1_lin (x y s : Nat) : rd1 (x ^^^ y) s = rd1 x s ^^^ rd1 y s := by
  refine Nat.eq_of_testBit_eq fun i => ?_
  rw [qCt, Nat.testBit_xor, Nat.testBit_xor, Nat.testBit_xor, qCt, qCt]
  cases x.testBit i <;> cases y.testBit i <;> cases x.testBit s.log2 <;> cases y.testBit s.log2 <;> cases s.testBit i <;> rfl
def red1 (k : List Nat) (x : Nat) : Nat := k.foldl rd1 x
theorem qFl : ∀ k : List Nat, red1 k 0 = 0
  | [] => rfl
  | s :: k => by show red1 k (rd1 0 s) = 0; rw [rd1_zero]; exact qFl k
theorem red1_lin : ∀ (k : List Nat) (x y : Nat), red1 k (x ^^^ y) = red1 k x ^^^ red1 k y
  | [], _, _ => rfl
  | s :: k, x, y => by show red1 k (rd1 (x ^^^ y) s) = red1 k (rd1 x s) ^^^ red1 k (rd1 y s); rw [rd1_lin]; exact red1_lin k _ _
structure RR (k : List Nat) : Prop where
  nz : ∀ s ∈ k, s ≠ 0
  ap : k.Pairwise fun s t => t.testBit s.log2 = false ∧ s.testBit t.log2 = false
theorem RR.nil : RR [] := ⟨fun s h => (by cases h), .nil⟩
theorem RR.tl {s : Nat} {k : List Nat} (h : RR (s :: k)) : RR k := ⟨fun t ht => h.nz t (List.mem_cons_of_mem _ ht), (List.pairwise_cons.mp h.ap).2⟩
theorem RR.hd {s : Nat} {k : List Nat} (h : RR (s :: k)) : ∀ t ∈ k, t.testBit s.log2 = false ∧ s.testBit t.log2 = false := (List.pairwise_cons.mp h.ap).1
theorem RR.ne : ∀ {k : List Nat}, RR k → ∀ {s t : Nat}, s ∈ k → t ∈ k → s ≠ t → s.testBit t.log2 = false
  | [], _, _, _, hs, _, _ => by cases hs
  | a :: k, h, s, t, hs, ht, e => by
    rcases List.mem_cons.mp hs with rfl | zs
    · rcases List.mem_cons.mp ht with rfl | zt
      · exact absurd rfl e
      · exact (h.hd t zt).2
    · rcases List.mem_cons.mp ht with rfl | zt
      · exact (h.hd s zs).1
      · exact RR.ne h.tl zs zt e
theorem RR.self {k : List Nat} (h : RR k) {s : Nat} (hs : s ∈ k) : s.testBit s.log2 = true := Nat.testBit_log2 (h.nz s hs)
theorem RR.nd {k : List Nat} (h : RR k) : k.Nodup := by
  have : ∀ {k : List Nat}, RR k → k.Nodup := fun {k} h => by
    induction k with
    | nil => exact List.nodup_nil
    | cons s k ih =>
      refine List.nodup_cons.mpr ⟨fun z => ?_, ih h.tl⟩
      have := (h.hd s z).1
      rw [h.self List.mem_cons_self] at this; cases this
  exact this h
theorem qD7 : ∀ {k : List Nat} {x i : Nat}, RR k → (∀ s ∈ k, x.testBit s.log2 = true → s.testBit i = false) → (red1 k x).testBit i = x.testBit i
  | [], _, _, _, _ => rfl
  | s :: k, x, i, h, hx => by
    show (red1 k (rd1 x s)).testBit i = _
    have b1 : (rd1 x s).testBit i = x.testBit i := by
      rw [qCt]
      cases q : x.testBit s.log2 with
      | false => simp
      | true => rw [hx s List.mem_cons_self q]; simp
    rw [qD7 h.tl fun t ht hb => ?_, b1]
    refine hx t (List.mem_cons_of_mem _ ht) ?_
    rw [qCt, (h.hd t ht).2] at hb
    simpa using hb
theorem qFm : ∀ {k : List Nat} {x : Nat}, RR k → ∀ s ∈ k, (red1 k x).testBit s.log2 = false
  | [], _, _, _, hs => by cases hs
  | a :: k, x, h, s, hs => by
    show (red1 k (rd1 x a)).testBit s.log2 = false
    rcases List.mem_cons.mp hs with rfl | z
    · rw [qD7 h.tl fun t ht _ => (h.hd t ht).1, qCt, h.self List.mem_cons_self]
      cases x.testBit s.log2 <;> rfl
    · exact qFm h.tl s z
theorem red1_mem : ∀ {k : List Nat}, RR k → ∀ s ∈ k, red1 k s = 0
  | [], _, _, hs => by cases hs
  | a :: k, h, s, hs => by
    show red1 k (rd1 s a) = 0
    rcases List.mem_cons.mp hs with rfl | z
    · have : rd1 s s = 0 := by unfold rd1; rw [if_pos (h.self List.mem_cons_self), Nat.xor_self]
      rw [this]; exact qFl k
    · have : rd1 s a = s := by unfold rd1; rw [if_neg (by rw [(h.hd s z).1]; decide)]
      rw [this]; exact red1_mem h.tl s z
theorem red1_none {k : List Nat} (h : RR k) {x : Nat} (hx : ∀ s ∈ k, x.testBit s.log2 = false) : red1 k x = x :=
  Nat.eq_of_testBit_eq fun i => qD7 h fun s hs z => by rw [hx s hs] at z; cases z
inductive Spn (l : List Nat) : Nat → Prop
  | zero : Spn l 0
  | add {x y : Nat} : x ∈ l → Spn l y → Spn l (x ^^^ y)
theorem Spn.mem {l : List Nat} {x : Nat} (h : x ∈ l) : Spn l x := by
  have := Spn.add h Spn.zero
  rwa [Nat.xor_zero] at this
theorem Spn.xor {l : List Nat} {x y : Nat} (h : Spn l x) (h' : Spn l y) : Spn l (x ^^^ y) := by
  induction h with
  | zero => rwa [Nat.zero_xor]
  | add m _ ih => rw [Nat.xor_assoc]; exact .add m ih
theorem Spn.mono {l l' : List Nat} (h : ∀ x ∈ l, Spn l' x) {y : Nat} (hy : Spn l y) : Spn l' y := by
  induction hy with
  | zero => exact .zero
  | add m _ ih => exact (h _ m).xor ih
theorem Spn.lt {l : List Nat} {m : Nat} (h : ∀ x ∈ l, x < 2 ^ m) {y : Nat} (hy : Spn l y) : y < 2 ^ m := by
  induction hy with
  | zero => exact Nat.pow_pos (by decide)
  | add hm _ ih => exact Nat.xor_lt_two_pow (h _ hm) ih
theorem qBi (x y : Nat) : (x ^^^ y) ^^^ y = x := by rw [Nat.xor_assoc, Nat.xor_self, Nat.xor_zero]
theorem rd1_spn {k : List Nat} {x s : Nat} (hs : s ∈ k) : Spn k (rd1 x s ^^^ x) := by
  unfold rd1
  split
  · rw [Nat.xor_comm x s, qBi]; exact .mem hs
  · rw [Nat.xor_self]; exact .zero
theorem red1_spn (k : List Nat) : ∀ (k' : List Nat), (∀ s ∈ k', s ∈ k) → ∀ x, Spn k (red1 k' x ^^^ x)
  | [], _, x => by show Spn k (x ^^^ x); rw [Nat.xor_self]; exact .zero
  | s :: k', h, x => by
    have a := red1_spn k k' (fun t ht => h t (List.mem_cons_of_mem _ ht)) (rd1 x s)
    have b := rd1_spn (x := x) (h s List.mem_cons_self)
    have c := a.xor b
    rw [← Nat.xor_assoc, qBi] at c
    exact c
theorem spn_red1 {k : List Nat} (h : RR k) {y : Nat} (hy : Spn k y) : red1 k y = 0 := by
  induction hy with
  | zero => exact qFl k
  | add m _ ih => rw [red1_lin, red1_mem h _ m, ih]; rfl
theorem spn_zero {k : List Nat} (h : RR k) {y : Nat} (hy : Spn k y) (hx : ∀ s ∈ k, y.testBit s.log2 = false) : y = 0 := (red1_none h hx).symm.trans (spn_red1 h hy)
theorem spn_lead {k : List Nat} (h : RR k) {y : Nat} (hy : Spn k y) (nz : y ≠ 0) : ∃ s ∈ k, s.log2 = y.log2 := by
  refine Classical.byContradiction fun no => ?_
  have e : (red1 k y).testBit y.log2 = y.testBit y.log2 := qD7 h fun s hs hb => by
    have le := tb_le hb
    have ne : s.log2 ≠ y.log2 := fun z => no ⟨s, hs, z⟩
    exact tb_above (by omega)
  rw [spn_red1 h hy, Nat.testBit_log2 nz] at e
  simp at e
theorem qEs {a b : List Nat} (ha : RR a) (hb : RR b) (h : ∀ y, Spn a y ↔ Spn b y) : ∀ s ∈ a, s ∈ b := fun s hs => by
  obtain ⟨t, ht, e⟩ := spn_lead hb ((h s).mp (.mem hs)) (ha.nz s hs)
  have d : s ^^^ t = 0 := by
    refine spn_zero ha ((Spn.mem hs).xor ((h t).mpr (.mem ht))) fun u hu => ?_
    rw [Nat.testBit_xor]
    by_cases z : u = s
    · subst z
      have h2 := hb.self ht
      rw [e] at h2
      rw [ha.self hs, h2]; rfl
    · have s1 := ha.ne hs hu (fun w => z w.symm)
      obtain ⟨v, hv, ev⟩ := spn_lead hb ((h u).mp (.mem hu)) (ha.nz u hu)
      have us := ha.ne hu hs z
      have vt : t ≠ v := fun w => by
        have h3 := ha.self hu
        rw [← ev, ← w, e] at h3
        rw [h3] at us; cases us
      have t1 := hb.ne ht hv vt
      rw [ev] at t1
      rw [s1, t1]; rfl
  have : s = t := by
    have q := qBi s t
    rw [d, Nat.zero_xor] at q
    exact q.symm
  rw [this]; exact ht
def redS (k : List Nat) (x : Nat) : List Nat := if red1 k x = 0 then k else k.map (fun s => rd1 s (red1 k x)) ++ [red1 k x]
def red (xs : List Nat) : List Nat := xs.foldl redS []
theorem qDs (xs : List Nat) (x : Nat) : red (xs ++ [x]) = redS (red xs) x := by unfold red; rw [List.foldl_append]; rfl
theorem rd1_log2 {s f : Nat} (hs : s ≠ 0) (hf : f ≠ 0) (h : f.testBit s.log2 = false) : (rd1 s f).log2 = s.log2 ∧ rd1 s f ≠ 0 := by
  have ss := Nat.testBit_log2 hs
  have bit : (rd1 s f).testBit s.log2 = true := by rw [qCt, ss, h]; simp
  refine ⟨log2_of bit ?_, fun z => by rw [z] at bit; simp at bit⟩
  unfold rd1
  split
  · rename_i q
    have le := tb_le q
    exact Nat.xor_lt_two_pow Nat.lt_log2_self (Nat.lt_of_lt_of_le Nat.lt_log2_self (Nat.pow_le_pow_right (by decide) (by omega)))
  · exact Nat.lt_log2_self
theorem RR.step {k : List Nat} (h : RR k) (x : Nat) : RR (redS k x) := by
  unfold redS
  by_cases z : red1 k x = 0
  · rw [if_pos z]; exact h
  rw [if_neg z]
  have ld := fun s hs => qFm (x := x) h s hs
  generalize red1 k x = f at z ld
  have l2 : ∀ s ∈ k, (rd1 s f).log2 = s.log2 ∧ rd1 s f ≠ 0 := fun s hs => rd1_log2 (h.nz s hs) z (ld s hs)
  have ff := Nat.testBit_log2 z
  refine ⟨fun s hs => ?_, ?_⟩
  · rcases List.mem_append.mp hs with w | w
    · obtain ⟨u, hu, rfl⟩ := List.mem_map.mp w
      exact (l2 u hu).2
    · rw [List.mem_singleton] at w; rw [w]; exact z
  · rw [List.pairwise_append]
    refine ⟨?_, List.pairwise_singleton _ _, fun a ha b hb => ?_⟩
    · rw [List.pairwise_map]
      refine List.Pairwise.imp_of_mem (fun {a b} ha hb r => ?_) h.ap
      rw [(l2 a ha).1, (l2 b hb).1, qCt, qCt, r.1, r.2, ld a ha, ld b hb]
      simp
    · rw [List.mem_singleton] at hb
      obtain ⟨u, hu, rfl⟩ := List.mem_map.mp ha
      subst hb
      refine ⟨by rw [(l2 u hu).1]; exact ld u hu, ?_⟩
      rw [qCt, ff]
      cases u.testBit b.log2 <;> rfl
theorem redS_spn {k : List Nat} (x y : Nat) : Spn (redS k x) y ↔ Spn (k ++ [x]) y := by
  have rx := red1_spn k k (fun _ h => h) x
  unfold redS
  have inl : ∀ {z}, Spn k z → Spn (k ++ [x]) z := fun {z} hz => hz.mono fun u hu => .mem (List.mem_append_left _ hu)
  have xm : Spn (k ++ [x]) x := .mem (by simp)
  by_cases z : red1 k x = 0
  · rw [if_pos z]
    rw [z, Nat.zero_xor] at rx
    refine ⟨inl, fun h => h.mono fun u hu => ?_⟩
    rcases List.mem_append.mp hu with w | w
    · exact .mem w
    · rw [List.mem_singleton] at w; rw [w]; exact rx
  rw [if_neg z]
  have fm : Spn (k ++ [x]) (red1 k x) := by
    have := (inl rx).xor xm
    rwa [qBi] at this
  revert rx fm
  generalize red1 k x = f
  intro rx fm
  have ff : Spn (k.map (fun s => rd1 s f) ++ [f]) f := .mem (by simp)
  have sk : ∀ s ∈ k, Spn (k.map (fun s => rd1 s f) ++ [f]) s := fun s hs => by
    have a : Spn (k.map (fun s => rd1 s f) ++ [f]) (rd1 s f) := .mem (List.mem_append_left _ (List.mem_map_of_mem (f := fun s => rd1 s f) hs))
    by_cases q : s.testBit f.log2 = true
    · have b := a.xor ff
      rw [show rd1 s f = s ^^^ f from if_pos q, qBi] at b
      exact b
    · rw [show rd1 s f = s from if_neg q] at a
      exact a
  constructor
  · intro h
    refine h.mono fun u hu => ?_
    rcases List.mem_append.mp hu with w | w
    · obtain ⟨s, hs, rfl⟩ := List.mem_map.mp w
      unfold rd1
      split
      · exact (inl (.mem hs)).xor fm
      · exact inl (.mem hs)
    · rw [List.mem_singleton] at w; rw [w]; exact fm
  · intro h
    refine h.mono fun u hu => ?_
    rcases List.mem_append.mp hu with w | w
    · exact sk u w
    · rw [List.mem_singleton] at w
      subst w
      have b := ff.xor (rx.mono sk)
      rw [← Nat.xor_assoc, Nat.xor_self, Nat.zero_xor] at b
      exact b
theorem snocN {P : List Nat → Prop} (h0 : P []) (hs : ∀ l t, P l → P (l ++ [t])) (l : List Nat) : P l := by
  have : ∀ r : List Nat, P r.reverse := fun r => by
    induction r with
    | nil => exact h0
    | cons a r ih => rw [List.reverse_cons]; exact hs _ _ ih
  have q := this l.reverse
  rwa [List.reverse_reverse] at q
theorem qCx (xs : List Nat) : RR (red xs) := snocN (P := fun xs => RR (red xs)) RR.nil (fun l t ih => by rw [qDs]; exact ih.step t) xs
theorem qC2 (xs : List Nat) : ∀ y, Spn (red xs) y ↔ Spn xs y := by
  refine snocN (P := fun xs => ∀ y, Spn (red xs) y ↔ Spn xs y) (fun y => Iff.rfl) (fun l t ih y => ?_) xs
  rw [qDs, redS_spn]
  constructor
  · exact fun h => h.mono fun u hu => by
      rcases List.mem_append.mp hu with w | w
      · exact ((ih u).mp (.mem w)).mono fun v hv => .mem (List.mem_append_left _ hv)
      · exact .mem (List.mem_append_right _ w)
  · exact fun h => h.mono fun u hu => by
      rcases List.mem_append.mp hu with w | w
      · exact ((ih u).mpr (.mem w)).mono fun v hv => .mem (List.mem_append_left _ hv)
      · exact .mem (List.mem_append_right _ w)
theorem red_lt {xs : List Nat} {m : Nat} (h : ∀ x ∈ xs, x < 2 ^ m) : ∀ s ∈ red xs, s < 2 ^ m := fun s hs => Spn.lt h ((qC2 xs s).mp (.mem hs))
def Fsh (xs : List Nat) : Prop := ∀ i x, xs[i]? = some x → ∃ j, x.testBit j = true ∧ ∀ y ∈ xs.take i, y.testBit j = false
theorem spn_bit {l : List Nat} {j : Nat} (h : ∀ x ∈ l, x.testBit j = false) {y : Nat} (hy : Spn l y) : y.testBit j = false := by
  induction hy with
  | zero => simp
  | add m _ ih => rw [Nat.testBit_xor, h _ m, ih]; rfl
theorem red_len (xs : List Nat) : Fsh xs → (red xs).length = xs.length := by
  refine snocN (P := fun xs => Fsh xs → (red xs).length = xs.length) (fun _ => rfl) (fun l t ih h => ?_) xs
  have ih' := ih fun i x hx => by
    have hi : i < l.length := (List.getElem?_eq_some_iff.mp hx).1
    obtain ⟨j, h1, h2⟩ := h i x (by rw [List.getElem?_append_left hi]; exact hx)
    exact ⟨j, h1, fun y hy => h2 y (by rw [List.take_append_of_le_length (by omega)]; exact hy)⟩
  obtain ⟨j, h1, h2⟩ := h l.length t (by simp)
  rw [List.take_append_of_le_length (Nat.le_refl _), List.take_of_length_le (Nat.le_refl _)] at h2
  rw [qDs]
  unfold redS
  have nz : red1 (red l) t ≠ 0 := fun z => by
    have rx := red1_spn (red l) (red l) (fun _ h => h) t
    rw [z, Nat.zero_xor] at rx
    have := spn_bit h2 ((qC2 l t).mp rx)
    rw [this] at h1; cases h1
  rw [if_neg nz, List.length_append, List.length_map, List.length_append, ih']
  rfl
end My
namespace My
def xsum : Nat → (Nat → Bool) → Bool
  | 0, _ => false
  | m + 1, f => xsum m f ^^ f m
theorem qA6 {f g : Nat → Bool} : ∀ {m : Nat}, (∀ j, j < m → f j = g j) → xsum m f = xsum m g
  | 0, _ => rfl
  | m + 1, h => by unfold xsum; rw [qA6 fun j hj => h j (by omega), h m (by omega)]
theorem qE7 (f g : Nat → Bool) : ∀ m : Nat, xsum m (fun j => f j ^^ g j) = (xsum m f ^^ xsum m g)
  | 0 => rfl
  | m + 1 => by
    unfold xsum
    rw [qE7 f g m]
    show ((xsum m f ^^ xsum m g) ^^ (f m ^^ g m)) = _
    cases xsum m f <;> cases xsum m g <;> cases f m <;> cases g m <;> rfl
theorem qCl : ∀ m : Nat, xsum m (fun _ => false) = false
  | 0 => rfl
  | m + 1 => by unfold xsum; rw [qCl m]; rfl
theorem qD3 {f : Nat → Bool} {l : Nat} : ∀ {m : Nat}, (∀ j, j < m → j ≠ l → f j = false) → xsum m f = (decide (l < m) && f l)
  | 0, _ => by simp [xsum]
  | m + 1, h => by
    unfold xsum
    rw [qD3 (m := m) fun j hj => h j (by omega)]
    by_cases e : l = m
    · subst e; simp
    · have n := h m (by omega) (fun z => e z.symm)
      rw [n]
      have : decide (l < m) = decide (l < m + 1) := by
        by_cases q : l < m
        · rw [decide_eq_true q, decide_eq_true (by omega)]
        · rw [decide_eq_false q, decide_eq_false (by omega)]
      rw [this]; simp
theorem xsum_head (f : Nat → Bool) : ∀ m : Nat, xsum (m + 1) f = (f 0 ^^ xsum m fun j => f (j + 1))
  | 0 => by simp [xsum]
  | m + 1 => by
    rw [xsum, xsum_head f m, xsum]
    cases f 0 <;> cases xsum m (fun j => f (j + 1)) <;> cases f (m + 1) <;> rfl
theorem xsum_rev (f : Nat → Bool) : ∀ m : Nat, xsum m (fun j => f (m - 1 - j)) = xsum m f
  | 0 => rfl
  | m + 1 => by
    rw [xsum_head]
    have : xsum m (fun j => f (m + 1 - 1 - (j + 1))) = xsum m fun j => f (m - 1 - j) := qA6 fun j hj => by
      rw [show m + 1 - 1 - (j + 1) = m - 1 - j by omega]
    rw [this, xsum_rev f m]
    show (f m ^^ xsum m f) = (xsum m f ^^ f m)
    cases f m <;> cases xsum m f <;> rfl
def dot (m x y : Nat) : Bool := xsum m fun j => x.testBit j && y.testBit j
theorem dot_left (m x x' y : Nat) : dot m (x ^^^ x') y = (dot m x y ^^ dot m x' y) := by
  unfold dot
  rw [← qE7]
  refine qA6 fun j _ => ?_
  rw [Nat.testBit_xor]
  cases x.testBit j <;> cases x'.testBit j <;> cases y.testBit j <;> rfl
theorem dot_right (m x y y' : Nat) : dot m x (y ^^^ y') = (dot m x y ^^ dot m x y') := by
  unfold dot
  rw [← qE7]
  refine qA6 fun j _ => ?_
  rw [Nat.testBit_xor]
  cases x.testBit j <;> cases y.testBit j <;> cases y'.testBit j <;> rfl
theorem dot_zero (m y : Nat) : dot m 0 y = false := by
  unfold dot
  rw [qA6 (g := fun _ => false) fun j _ => by simp, qCl]
theorem dot_zero' (m y : Nat) : dot m y 0 = false := by
  unfold dot
  rw [qA6 (g := fun _ => false) fun j _ => by simp, qCl]
theorem dot_pow {m p y : Nat} (hp : p < m) : dot m (2 ^ p) y = y.testBit p := by
  unfold dot
  rw [qD3 (l := p) fun j _ ne => by rw [Nat.testBit_two_pow, decide_eq_false (fun z => ne z.symm)]; rfl]
  rw [Nat.testBit_two_pow]
  simp [hp]
theorem dot_only {m x s l : Nat} (hl : l < m) (hs : s.testBit l = true) (h : ∀ j, j < m → j ≠ l → (x.testBit j && s.testBit j) = false) : dot m x s = x.testBit l := by
  unfold dot
  rw [qD3 (l := l) h, decide_eq_true hl, hs]
  simp
theorem spn_dot {l : List Nat} {m y : Nat} (h : ∀ s ∈ l, dot m y s = false) {z : Nat} (hz : Spn l z) : dot m y z = false := by
  induction hz with
  | zero => exact dot_zero' m y
  | add hm _ ih => rw [dot_right, h _ hm, ih]; rfl
theorem spn_dotL {l : List Nat} {m s : Nat} (h : ∀ x ∈ l, dot m x s = false) {z : Nat} (hz : Spn l z) : dot m z s = false := by
  induction hz with
  | zero => exact dot_zero m s
  | add hm _ ih => rw [dot_left, h _ hm, ih]; rfl
theorem qFy : ∀ (l x : Nat), x.testBit l = false → 2 ^ l + x = 2 ^ l ^^^ x
  | 0, x, h => by
    have e : x % 2 = 0 := by
      rw [Nat.testBit_zero] at h
      have := of_decide_eq_false h
      omega
    show 1 + x = 1 ^^^ x
    rw [Nat.xor_comm, qEx e, Nat.add_comm]
  | l + 1, x, h => by
    rw [Nat.testBit_succ] at h
    have ih := qFy l (x / 2) h
    have d : (2 ^ (l + 1) ^^^ x) / 2 = 2 ^ l + x / 2 := by
      rw [Nat.xor_div_two, ih, Nat.pow_succ, Nat.mul_div_cancel _ (by decide)]
    have b : (2 ^ (l + 1) ^^^ x).testBit 0 = x.testBit 0 := by rw [Nat.testBit_xor, Nat.testBit_two_pow]; simp
    rw [Nat.testBit_zero, Nat.testBit_zero] at b
    have b' : (2 ^ (l + 1) ^^^ x) % 2 = 1 ↔ x % 2 = 1 := by simpa using b
    have p := Nat.pow_succ (n := 2) (m := l)
    rcases Nat.mod_two_eq_zero_or_one x with q | q
    · have : ¬ (2 ^ (l + 1) ^^^ x) % 2 = 1 := fun z => by have := b'.mp z; omega
      omega
    · have := b'.mpr q
      omega
theorem qEo : ∀ (L : List Nat), L.Nodup → ∀ j, ((L.map fun l => 2 ^ l).sum).testBit j = decide (j ∈ L)
  | [], _, j => by simp
  | l :: L, nd, j => by
    obtain ⟨n1, n2⟩ := List.nodup_cons.mp nd
    have ih := qEo L n2
    rw [List.map_cons, List.sum_cons, qFy l _ (by rw [ih l, decide_eq_false n1]), Nat.testBit_xor, ih j, Nat.testBit_two_pow]
    by_cases e : l = j
    · subst e; simp [n1]
    · have e' : ¬ j = l := fun z => e z.symm
      simp [e, e']
def crM (S : List Nat) (p : Nat) : Nat := 2 ^ p + ((S.filter fun s : Nat => s.testBit p).map fun s : Nat => 2 ^ s.log2).sum
def isLd (S : List Nat) (p : Nat) : Prop := ∃ s ∈ S, s.log2 = p
instance (S : List Nat) : DecidablePred (isLd S) := fun p => inferInstanceAs (Decidable (∃ s ∈ S, s.log2 = p))
theorem ld_nd : ∀ {S : List Nat}, RR S → (S.map Nat.log2).Nodup
  | [], _ => List.nodup_nil
  | s :: S, h => by
    rw [List.map_cons]
    refine List.nodup_cons.mpr ⟨fun z => ?_, ld_nd h.tl⟩
    obtain ⟨t, ht, e⟩ := List.mem_map.mp z
    have a := (h.hd t ht).1
    rw [← e, h.self (List.mem_cons_of_mem _ ht)] at a
    cases a
theorem qEc {S : List Nat} (h : RR S) (p j : Nat) : (((S.filter fun s : Nat => s.testBit p).map fun s : Nat => 2 ^ s.log2).sum).testBit j = decide (∃ s ∈ S, s.testBit p = true ∧ s.log2 = j) := by
  have e : ((S.filter fun s : Nat => s.testBit p).map fun s : Nat => 2 ^ s.log2) = ((S.filter fun s : Nat => s.testBit p).map Nat.log2).map fun l => 2 ^ l := by rw [List.map_map]; rfl
  rw [e, qEo _ ((ld_nd h).sublist (List.filter_sublist.map _))]
  refine decide_eq_decide.mpr ?_
  rw [List.mem_map]
  constructor
  · rintro ⟨s, hs, rfl⟩
    exact ⟨s, (List.mem_filter.mp hs).1, (List.mem_filter.mp hs).2, rfl⟩
  · rintro ⟨s, hs, h1, rfl⟩
    exact ⟨s, List.mem_filter.mpr ⟨hs, h1⟩, rfl⟩
theorem leads_bit {S : List Nat} (h : RR S) (j : Nat) : ((S.map fun s : Nat => 2 ^ s.log2).sum).testBit j = decide (isLd S j) := by
  have e : (S.map fun s : Nat => 2 ^ s.log2) = (S.map Nat.log2).map fun l => 2 ^ l := by rw [List.map_map]; rfl
  rw [e, qEo _ (ld_nd h)]
  refine decide_eq_decide.mpr ?_
  rw [List.mem_map]
  exact Iff.rfl
theorem crM_bit {S : List Nat} (h : RR S) {p : Nat} (np : ¬ isLd S p) (j : Nat) : (crM S p).testBit j = (decide (p = j) ^^ decide (∃ s ∈ S, s.testBit p = true ∧ s.log2 = j)) := by
  unfold crM
  rw [qFy _ _ (by rw [qEc h]; exact decide_eq_false fun ⟨s, hs, _, e⟩ => np ⟨s, hs, e⟩), Nat.testBit_xor, Nat.testBit_two_pow, qEc h]
theorem crM_lt {S : List Nat} {m : Nat} (h : RR S) (hm : ∀ s ∈ S, s < 2 ^ m) {p : Nat} (hp : p < m) (np : ¬ isLd S p) : crM S p < 2 ^ m := by
  refine Nat.lt_pow_two_of_testBit _ fun i hi => ?_
  rw [crM_bit h np, decide_eq_false (by omega : ¬ p = i), decide_eq_false]
  · rfl
  · rintro ⟨s, hs, _, e⟩
    have := h.self hs
    rw [e, qEn (hm s hs) hi] at this
    cases this
theorem crM_dot {S : List Nat} {m : Nat} (h : RR S) (hm : ∀ s ∈ S, s < 2 ^ m) {p : Nat} (hp : p < m) (np : ¬ isLd S p) : ∀ s ∈ S, dot m (crM S p) s = false := fun s hs => by
  have e : crM S p = 2 ^ p ^^^ ((S.filter fun s : Nat => s.testBit p).map fun s : Nat => 2 ^ s.log2).sum := by
    unfold crM
    exact qFy _ _ (by rw [qEc h]; exact decide_eq_false fun ⟨s, hs, _, e⟩ => np ⟨s, hs, e⟩)
  have ls : s.log2 < m := by
    have := h.self hs
    rcases Nat.lt_or_ge s.log2 m with z | z
    · exact z
    · rw [qEn (hm s hs) z] at this; cases this
  rw [e, dot_left, dot_pow hp, dot_only (l := s.log2) ls (h.self hs) fun j hj ne => ?_, qEc h]
  · have : decide (∃ t ∈ S, t.testBit p = true ∧ t.log2 = s.log2) = s.testBit p := by
      cases q : s.testBit p with
      | true => exact decide_eq_true ⟨s, hs, q, rfl⟩
      | false =>
        refine decide_eq_false ?_
        rintro ⟨t, ht, h1, h2⟩
        by_cases z : t = s
        · subst z; rw [q] at h1; cases h1
        · have a := h.ne hs ht (fun w => z w.symm)
          rw [h2, h.self hs] at a; cases a
    rw [this]
    cases s.testBit p <;> rfl
  · rw [qEc h]
    by_cases q : ∃ t ∈ S, t.testBit p = true ∧ t.log2 = j
    · obtain ⟨t, ht, h1, h2⟩ := q
      have z : s ≠ t := fun w => ne (by rw [w, h2])
      have a := h.ne hs ht z
      rw [h2] at a
      rw [a]; simp
    · rw [decide_eq_false q]; rfl
def qEh (S : List Nat) (m : Nat) : List Nat := ((List.range m).filter fun p => !decide (isLd S p)).map (crM S)
def xl (L : List Nat) : Nat := L.foldr (· ^^^ ·) 0
theorem xl_spn {l L : List Nat} (h : ∀ x ∈ L, x ∈ l) : Spn l (xl L) := by
  induction L with
  | nil => exact .zero
  | cons a L ih => exact .add (h a List.mem_cons_self) (ih fun x hx => h x (List.mem_cons_of_mem _ hx))
theorem xl_cr {S : List Nat} (h : RR S) : ∀ (L : List Nat), L.Nodup → (∀ p ∈ L, ¬ isLd S p) → ∀ j, ¬ isLd S j → (xl (L.map (crM S))).testBit j = decide (j ∈ L)
  | [], _, _, j, _ => by simp [xl]
  | p :: L, nd, np, j, nj => by
    obtain ⟨n1, n2⟩ := List.nodup_cons.mp nd
    show (crM S p ^^^ xl (L.map (crM S))).testBit j = _
    rw [Nat.testBit_xor, xl_cr h L n2 (fun q hq => np q (List.mem_cons_of_mem _ hq)) j nj, crM_bit h (np p List.mem_cons_self), decide_eq_false (p := ∃ s ∈ S, s.testBit p = true ∧ s.log2 = j) fun ⟨s, hs, _, e⟩ => nj ⟨s, hs, e⟩]
    by_cases e : p = j
    · subst e; simp [n1]
    · have e' : ¬ j = p := fun z => e z.symm
      simp [e, e']
theorem cr_spn {S : List Nat} {m : Nat} (h : RR S) (hm : ∀ s ∈ S, s < 2 ^ m) (y : Nat) : Spn (qEh S m) y ↔ y < 2 ^ m ∧ ∀ s ∈ S, dot m y s = false := by
  have mem : ∀ x, x ∈ qEh S m ↔ ∃ p, p < m ∧ ¬ isLd S p ∧ crM S p = x := fun x => by
    unfold qEh
    rw [List.mem_map]
    constructor
    · rintro ⟨p, hp, rfl⟩
      obtain ⟨h1, h2⟩ := List.mem_filter.mp hp
      exact ⟨p, List.mem_range.mp h1, by simpa using h2, rfl⟩
    · rintro ⟨p, h1, h2, rfl⟩
      exact ⟨p, List.mem_filter.mpr ⟨List.mem_range.mpr h1, by simpa using h2⟩, rfl⟩
  constructor
  · intro hy
    refine ⟨Spn.lt (fun x hx => ?_) hy, fun s hs => spn_dotL (fun x hx => ?_) hy⟩
    · obtain ⟨p, h1, h2, rfl⟩ := (mem x).mp hx
      exact crM_lt h hm h1 h2
    · obtain ⟨p, h1, h2, rfl⟩ := (mem x).mp hx
      exact crM_dot h hm h1 h2 s hs
  · rintro ⟨hy, hd⟩
    have hL : ∀ p ∈ (List.range m).filter (fun p => !decide (isLd S p) && y.testBit p), p < m ∧ ¬ isLd S p ∧ y.testBit p = true := fun p hp => by
      obtain ⟨h1, h2⟩ := List.mem_filter.mp hp
      rw [Bool.and_eq_true] at h2
      exact ⟨List.mem_range.mp h1, by simpa using h2.1, h2.2⟩
    have nd : ((List.range m).filter (fun p => !decide (isLd S p) && y.testBit p)).Nodup := List.nodup_range.sublist List.filter_sublist
    have cov : ∀ j, j < m → ¬ isLd S j → (j ∈ (List.range m).filter (fun p => !decide (isLd S p) && y.testBit p) ↔ y.testBit j = true) := fun j hj nj => by
      rw [List.mem_filter, List.mem_range]
      simp [hj, nj]
    generalize (List.range m).filter (fun p => !decide (isLd S p) && y.testBit p) = L at hL nd cov
    have sp : Spn (qEh S m) (xl (L.map (crM S))) := xl_spn fun x hx => by
      obtain ⟨p, hp, rfl⟩ := List.mem_map.mp hx
      exact (mem _).mpr ⟨p, (hL p hp).1, (hL p hp).2.1, rfl⟩
    have lt1 : xl (L.map (crM S)) < 2 ^ m := Spn.lt (fun x hx => by
      obtain ⟨p, h1, h2, rfl⟩ := (mem x).mp hx
      exact crM_lt h hm h1 h2) sp
    have dz : ∀ s ∈ S, dot m (y ^^^ xl (L.map (crM S))) s = false := fun s hs => by
      rw [dot_left, hd s hs, spn_dotL (fun x hx => ?_) sp]
      · rfl
      · obtain ⟨p, h1, h2, rfl⟩ := (mem x).mp hx
        exact crM_dot h hm h1 h2 s hs
    have non : ∀ j, ¬ isLd S j → (y ^^^ xl (L.map (crM S))).testBit j = false := fun j nj => by
      rw [Nat.testBit_xor, xl_cr h L nd (fun p hp => (hL p hp).2.1) j nj]
      by_cases hj : j < m
      · cases q : y.testBit j with
        | true => rw [decide_eq_true ((cov j hj nj).mpr q)]; rfl
        | false => rw [decide_eq_false fun z => by rw [(cov j hj nj).mp z] at q; cases q]; rfl
      · rw [qEn hy (by omega), decide_eq_false fun z => hj (hL j z).1]; rfl
    have z0 : y ^^^ xl (L.map (crM S)) = 0 := by
      refine Nat.eq_of_testBit_eq fun j => ?_
      rw [Nat.zero_testBit]
      by_cases q : isLd S j
      · obtain ⟨s, hs, rfl⟩ := q
        have ls : s.log2 < m := by
          have := h.self hs
          rcases Nat.lt_or_ge s.log2 m with z | z
          · exact z
          · rw [qEn (hm s hs) z] at this; cases this
        rw [← dot_only (m := m) (s := s) ls (h.self hs) fun j hj ne => ?_]
        · exact dz s hs
        · by_cases q : isLd S j
          · obtain ⟨t, ht, rfl⟩ := q
            rw [h.ne hs ht (fun w => ne (by rw [w]))]; simp
          · rw [non j q]; rfl
      · exact non j q
    have : y = xl (L.map (crM S)) := by
      have q := qBi y (xl (L.map (crM S)))
      rw [z0, Nat.zero_xor] at q
      exact q.symm
    rw [this]; exact sp
end My
namespace My
open PySem
theorem add_xor : ∀ (n a b : Nat), a < n → a + b = (a ^^^ b) + 2 * (a &&& b)
  | 0, _, _, h => absurd h (Nat.not_lt_zero _)
  | n + 1, a, b, h => by
    by_cases a0 : a = 0
    · subst a0; simp
    have ih := add_xor n (a / 2) (b / 2) (by omega)
    have d1 : (a ^^^ b) / 2 = a / 2 ^^^ b / 2 := Nat.xor_div_two
    have d2 : (a &&& b) / 2 = a / 2 &&& b / 2 := Nat.and_div_two
    have b1 : (a ^^^ b).testBit 0 = (a.testBit 0 ^^ b.testBit 0) := Nat.testBit_xor ..
    have b2 : (a &&& b).testBit 0 = (a.testBit 0 && b.testBit 0) := Nat.testBit_and ..
    rw [Nat.testBit_zero, Nat.testBit_zero, Nat.testBit_zero] at b1 b2
    rw [← d1, ← d2] at ih
    generalize a ^^^ b = X at b1 ih ⊢
    generalize a &&& b = Y at b2 ih ⊢
    rcases Nat.mod_two_eq_zero_or_one a with p | p <;> rcases Nat.mod_two_eq_zero_or_one b with q | q <;> rw [p, q] at b1 b2 <;> simp at b1 b2 <;> omega
theorem qCk (a b : Nat) : Builtin.bitAnd (a : Int) (b : Int) = ((a &&& b : Nat) : Int) := by
  unfold Builtin.bitAnd
  rw [decide_eq_true (Int.natCast_nonneg a), decide_eq_true (Int.natCast_nonneg b)]
  simp
theorem qC8 (a b : Nat) : Builtin.bitXor (a : Int) (b : Int) = ((a ^^^ b : Nat) : Int) := by
  have e := add_xor (a + 1) a b (Nat.lt_succ_self a)
  have h : Builtin.bitXor (a : Int) (b : Int) = (a : Int) + b - 2 * Builtin.bitAnd a b := by
    have x : ∀ x y : Int, Builtin.bitNot (Builtin.bitNot x) = x := fun x y => by unfold Builtin.bitNot; omega
    unfold Builtin.bitXor Builtin.bitOr
    have na : ¬ (0 : Int) ≤ Builtin.bitNot (a : Int) := by unfold Builtin.bitNot; omega
    have nb : ¬ (0 : Int) ≤ Builtin.bitNot (b : Int) := by unfold Builtin.bitNot; omega
    have o : Builtin.bitAnd (Builtin.bitNot (a : Int)) (Builtin.bitNot (b : Int)) = Builtin.bitNot ((a ||| b : Nat) : Int) := by
      unfold Builtin.bitAnd
      rw [decide_eq_false na, decide_eq_false nb]
      show Builtin.bitNot _ = _
      rw [x a 0, x b 0]; simp
    rw [o, x _ 0, qCk]
    have e2 : (a ||| b) + (a &&& b) = a + b := by
      have := add_or (a + 1) a b (Nat.lt_succ_self a)
      omega
    omega
  rw [h, qCk]
  omega
where
  add_or : ∀ (n a b : Nat), a < n → (a ||| b) + (a &&& b) = a + b
  | 0, _, _, h => absurd h (Nat.not_lt_zero _)
  | n + 1, a, b, h => by
    by_cases a0 : a = 0
    · subst a0; simp
    have ih := add_or n (a / 2) (b / 2) (by omega)
    have d1 : (a ||| b) / 2 = a / 2 ||| b / 2 := Nat.or_div_two
    have d2 : (a &&& b) / 2 = a / 2 &&& b / 2 := Nat.and_div_two
    have b1 : (a ||| b).testBit 0 = (a.testBit 0 || b.testBit 0) := Nat.testBit_or ..
    have b2 : (a &&& b).testBit 0 = (a.testBit 0 && b.testBit 0) := Nat.testBit_and ..
    rw [Nat.testBit_zero, Nat.testBit_zero, Nat.testBit_zero] at b1 b2
    rw [← d1, ← d2] at ih
    generalize a ||| b = X at b1 ih ⊢
    generalize a &&& b = Y at b2 ih ⊢
    rcases Nat.mod_two_eq_zero_or_one a with p | p <;> rcases Nat.mod_two_eq_zero_or_one b with q | q <;> rw [p, q] at b1 b2 <;> simp at b1 b2 <;> omega
theorem low_ex : ∀ (n f : Nat), f < n → f ≠ 0 → ∃ i, f.testBit i = true ∧ ∀ j, j < i → f.testBit j = false
  | 0, _, h, _ => absurd h (Nat.not_lt_zero _)
  | n + 1, f, h, nz => by
    rcases Nat.mod_two_eq_zero_or_one f with p | p
    · obtain ⟨i, h1, h2⟩ := low_ex n (f / 2) (by omega) (by omega)
      refine ⟨i + 1, by rw [Nat.testBit_succ]; exact h1, fun j hj => ?_⟩
      cases j with
      | zero => rw [Nat.testBit_zero, p]; rfl
      | succ j => rw [Nat.testBit_succ]; exact h2 j (by omega)
    · exact ⟨0, by rw [Nat.testBit_zero, p]; rfl, fun j hj => absurd hj (Nat.not_lt_zero _)⟩
noncomputable def lo (f : Nat) : Nat := Classical.epsilon fun i => f.testBit i = true ∧ ∀ j, j < i → f.testBit j = false
theorem qEu {f : Nat} (h : f ≠ 0) : f.testBit (lo f) = true ∧ ∀ j, j < lo f → f.testBit j = false :=
  Classical.epsilon_spec (low_ex (f + 1) f (Nat.lt_succ_self _) h)
theorem pred_bit : ∀ (i f : Nat), f.testBit i = true → (∀ j, j < i → f.testBit j = false) → ∀ j, (f - 1).testBit j = (decide (j < i) || (decide (i < j) && f.testBit j))
  | 0, f, h1, _, j => by
    rw [Nat.testBit_zero] at h1
    have p := of_decide_eq_true h1
    cases j with
    | zero => rw [Nat.testBit_zero]; simp; omega
    | succ j => rw [Nat.testBit_succ, Nat.testBit_succ, show (f - 1) / 2 = f / 2 by omega]; simp
  | i + 1, f, h1, h2, j => by
    have z := h2 0 (by omega)
    rw [Nat.testBit_zero] at z
    have p := of_decide_eq_false z
    rw [Nat.testBit_succ] at h1
    have nz : f / 2 ≠ 0 := fun w => by rw [w] at h1; simp at h1
    cases j with
    | zero => rw [Nat.testBit_zero]; simp; omega
    | succ j =>
      rw [Nat.testBit_succ, Nat.testBit_succ, show (f - 1) / 2 = f / 2 - 1 by omega, pred_bit i (f / 2) h1 (fun k hk => by have := h2 (k + 1) (by omega); rwa [Nat.testBit_succ] at this) j]
      simp
theorem low_test (e : Nat) {f : Nat} (nz : f ≠ 0) : Builtin.bitAnd (Builtin.bitAnd (e : Int) (f : Int)) (-(f : Int)) ≠ 0 ↔ e.testBit (lo f) = true := by
  obtain ⟨h1, h2⟩ := qEu nz
  rw [qCk]
  have ev : Builtin.bitAnd (((e &&& f : Nat)) : Int) (-(f : Int)) = ((e &&& f : Nat) : Int) - (((e &&& f) &&& (f - 1) : Nat) : Int) := by
    unfold Builtin.bitAnd
    rw [decide_eq_true (Int.natCast_nonneg _), decide_eq_false (by omega : ¬ (0 : Int) ≤ -(f : Int))]
    show ((e &&& f : Nat) : Int) - (((((e &&& f : Nat) : Int).toNat) &&& (Builtin.bitNot (-(f : Int))).toNat : Nat) : Int) = _
    rw [show (Builtin.bitNot (-(f : Int))).toNat = f - 1 by unfold Builtin.bitNot; omega, Int.toNat_natCast]
  rw [ev]
  have pb := pred_bit (lo f) f h1 h2
  constructor
  · intro ne
    cases q : e.testBit (lo f) with
    | true => rfl
    | false =>
      refine absurd ?_ ne
      have : (e &&& f) &&& (f - 1) = e &&& f := by
        refine Nat.eq_of_testBit_eq fun j => ?_
        rw [Nat.testBit_and, Nat.testBit_and, pb j]
        rcases Nat.lt_trichotomy j (lo f) with z | z | z
        · rw [h2 j z]; simp
        · subst z; rw [q]; simp
        · simp [z]
          exact fun _ h => .inr h
      rw [this]; omega
  · intro q ne
    have this : (e &&& f) &&& (f - 1) = e &&& f := by omega
    have b := congrArg (fun x : Nat => x.testBit (lo f)) this
    simp only [Nat.testBit_and, pb, q, h1] at b
    simp at b
theorem low_bit {f : Nat} (nz : f ≠ 0) : Builtin.bitAnd (f : Int) (-(f : Int)) = ((2 ^ lo f : Nat) : Int) := by
  obtain ⟨h1, h2⟩ := qEu nz
  have ev : Builtin.bitAnd (f : Int) (-(f : Int)) = (f : Int) - ((f &&& (f - 1) : Nat) : Int) := by
    unfold Builtin.bitAnd
    rw [decide_eq_true (Int.natCast_nonneg _), decide_eq_false (by omega : ¬ (0 : Int) ≤ -(f : Int))]
    show (f : Int) - ((((f : Int).toNat) &&& (Builtin.bitNot (-(f : Int))).toNat : Nat) : Int) = _
    rw [show (Builtin.bitNot (-(f : Int))).toNat = f - 1 by unfold Builtin.bitNot; omega, Int.toNat_natCast]
  rw [ev]
  have pb := pred_bit (lo f) f h1 h2
  have e : f = 2 ^ lo f + (f &&& (f - 1)) := by
    rw [qFy _ _ (by rw [Nat.testBit_and, pb]; simp)]
    refine Nat.eq_of_testBit_eq fun j => ?_
    rw [Nat.testBit_xor, Nat.testBit_two_pow, Nat.testBit_and, pb j]
    rcases Nat.lt_trichotomy j (lo f) with z | z | z
    · have : ¬ lo f = j := by omega
      rw [h2 j z]; simp [this]
    · subst z; rw [h1]; simp
    · have n1 : ¬ lo f = j := by omega
      simp [z, n1]
      exact fun h => .inr h
  omega
theorem and_pow (x p : Nat) : x &&& 2 ^ p ≠ 0 ↔ x.testBit p = true := by
  constructor
  · intro ne
    cases q : x.testBit p with
    | true => rfl
    | false =>
      refine absurd (Nat.eq_of_testBit_eq fun j => ?_) ne
      rw [Nat.testBit_and, Nat.testBit_two_pow, Nat.zero_testBit]
      by_cases e : p = j
      · subst e; rw [q]; rfl
      · simp [e]
  · intro q z
    have := congrArg (fun x : Nat => x.testBit p) z
    simp [Nat.testBit_and, q] at this
def rv (m x : Nat) : Nat := ((((List.range m).filter fun i => x.testBit i).map fun i => m - 1 - i).map fun l => 2 ^ l).sum
theorem qCw (m x j : Nat) : (rv m x).testBit j = (decide (j < m) && x.testBit (m - 1 - j)) := by
  have nd : (((List.range m).filter fun i => x.testBit i).map fun i => m - 1 - i).Nodup := by
    have h : ((List.range m).filter fun i => x.testBit i).Pairwise fun a b => m - 1 - a ≠ m - 1 - b := by
      have : (List.range m).Pairwise fun a b => a ≠ b := List.nodup_range
      refine List.Pairwise.imp_of_mem (fun {a b} ha hb ne => ?_) (this.sublist List.filter_sublist)
      have a1 := List.mem_range.mp (List.mem_filter.mp ha).1
      have b1 := List.mem_range.mp (List.mem_filter.mp hb).1
      omega
    rw [List.Nodup, List.pairwise_map]
    exact h
  unfold rv
  rw [qEo _ nd]
  by_cases hj : j < m
  · rw [decide_eq_true hj, Bool.true_and]
    cases q : x.testBit (m - 1 - j) with
    | true => exact decide_eq_true (List.mem_map.mpr ⟨m - 1 - j, List.mem_filter.mpr ⟨List.mem_range.mpr (by omega), q⟩, by omega⟩)
    | false =>
      refine decide_eq_false fun z => ?_
      obtain ⟨i, hi, e⟩ := List.mem_map.mp z
      obtain ⟨h1, h2⟩ := List.mem_filter.mp hi
      have := List.mem_range.mp h1
      rw [show m - 1 - j = i by omega, h2] at q; cases q
  · rw [decide_eq_false hj, Bool.false_and]
    refine decide_eq_false fun z => ?_
    obtain ⟨i, hi, e⟩ := List.mem_map.mp z
    have := List.mem_range.mp (List.mem_filter.mp hi).1
    omega
theorem rv_lt (m x : Nat) : rv m x < 2 ^ m := Nat.lt_pow_two_of_testBit _ fun i hi => by rw [qCw, decide_eq_false (by omega)]; rfl
theorem rv_xor (m x y : Nat) : rv m (x ^^^ y) = rv m x ^^^ rv m y := Nat.eq_of_testBit_eq fun j => by
  rw [Nat.testBit_xor, qCw, qCw, qCw, Nat.testBit_xor]
  cases decide (j < m) <;> simp
theorem rv_rv {m x : Nat} (h : x < 2 ^ m) : rv m (rv m x) = x := Nat.eq_of_testBit_eq fun j => by
  rw [qCw, qCw]
  by_cases hj : j < m
  · rw [decide_eq_true hj, decide_eq_true (by omega), show m - 1 - (m - 1 - j) = j by omega]; rfl
  · rw [decide_eq_false hj, qEn h (Nat.le_of_not_lt hj)]; rfl
theorem qFi (m : Nat) : rv m 0 = 0 := Nat.eq_of_testBit_eq fun j => by rw [qCw]; simp
theorem rv_ne {m x : Nat} (h : x < 2 ^ m) (nz : x ≠ 0) : rv m x ≠ 0 := fun z => nz (by rw [← rv_rv h, z, qFi])
theorem lo_lt {m x : Nat} (h : x < 2 ^ m) (nz : x ≠ 0) : lo x < m := by
  rcases Nat.lt_or_ge (lo x) m with z | z
  · exact z
  · have := (qEu nz).1
    rw [qEn h z] at this; cases this
theorem rv_log2 {m x : Nat} (h : x < 2 ^ m) (nz : x ≠ 0) : (rv m x).log2 = m - 1 - lo x := by
  obtain ⟨h1, h2⟩ := qEu nz
  have l := lo_lt h nz
  refine log2_of ?_ (Nat.lt_pow_two_of_testBit _ fun i hi => ?_)
  · rw [qCw, decide_eq_true (by omega), show m - 1 - (m - 1 - lo x) = lo x by omega, h1]; rfl
  · rw [qCw]
    by_cases q : i < m
    · rw [h2 (m - 1 - i) (by omega)]; simp
    · rw [decide_eq_false q]; rfl
noncomputable def rdL (x s : Nat) : Nat := if x.testBit (lo s) = true then x ^^^ s else x
theorem rv_rdL {m x s : Nat} (hs : s < 2 ^ m) (nz : s ≠ 0) : rv m (rdL x s) = rd1 (rv m x) (rv m s) := by
  have l := lo_lt hs nz
  unfold rdL rd1
  have b : (rv m x).testBit (rv m s).log2 = x.testBit (lo s) := by
    rw [rv_log2 hs nz, qCw, decide_eq_true (by omega), show m - 1 - (m - 1 - lo s) = lo s by omega]; rfl
  rw [b]
  split
  · exact rv_xor m x s
  · rfl
theorem rdL_lt {m x s : Nat} (hx : x < 2 ^ m) (hs : s < 2 ^ m) : rdL x s < 2 ^ m := by
  unfold rdL
  split
  · exact Nat.xor_lt_two_pow hx hs
  · exact hx
noncomputable def redL1 (k : List Nat) (x : Nat) : Nat := k.foldl rdL x
def Gm (m : Nat) (k : List Nat) : Prop := ∀ s ∈ k, s < 2 ^ m ∧ s ≠ 0
theorem redL1_rv {m : Nat} : ∀ {k : List Nat} {x : Nat}, Gm m k → x < 2 ^ m → redL1 k x < 2 ^ m ∧ rv m (redL1 k x) = red1 (k.map (rv m)) (rv m x)
  | [], x, _, hx => ⟨hx, rfl⟩
  | s :: k, x, h, hx => by
    obtain ⟨h1, h2⟩ := h s List.mem_cons_self
    have ih := redL1_rv (x := rdL x s) (fun t ht => h t (List.mem_cons_of_mem _ ht)) (rdL_lt hx h1)
    refine ⟨ih.1, ?_⟩
    show rv m (redL1 k (rdL x s)) = red1 (k.map (rv m)) (rd1 (rv m x) (rv m s))
    rw [ih.2, rv_rdL h1 h2]
noncomputable def redLS (k : List Nat) (x : Nat) : List Nat := if redL1 k x = 0 then k else k.map (fun s => rdL s (redL1 k x)) ++ [redL1 k x]
noncomputable def redL (xs : List Nat) : List Nat := xs.foldl redLS []
theorem qFk (xs : List Nat) (x : Nat) : redL (xs ++ [x]) = redLS (redL xs) x := by unfold redL; rw [List.foldl_append]; rfl
theorem qDc {m : Nat} (xs : List Nat) : (∀ x ∈ xs, x < 2 ^ m) → Gm m (redL xs) ∧ (redL xs).map (rv m) = red (xs.map (rv m)) := by
  refine snocN (P := fun xs => (∀ x ∈ xs, x < 2 ^ m) → Gm m (redL xs) ∧ (redL xs).map (rv m) = red (xs.map (rv m))) (fun _ => ⟨fun s hs => (by cases hs), rfl⟩) (fun l t ih h => ?_) xs
  obtain ⟨g, e⟩ := ih fun x hx => h x (List.mem_append_left _ hx)
  have ht := h t (by simp)
  obtain ⟨l1, l2⟩ := redL1_rv g ht
  have sp : ∀ s ∈ redL l, rv m s ≠ 0 := fun s hs => rv_ne (g s hs).1 (g s hs).2
  rw [List.map_append, List.map_singleton, qDs, qFk, ← e]
  unfold redLS redS
  rw [← l2]
  by_cases z : redL1 (redL l) t = 0
  · rw [if_pos z, z, qFi, if_pos rfl]
    exact ⟨g, rfl⟩
  · have z' := rv_ne l1 z
    rw [if_neg z, if_neg z']
    have rr := qCx (l.map (rv m))
    rw [← e] at rr
    refine ⟨fun s hs => ?_, ?_⟩
    · rcases List.mem_append.mp hs with w | w
      · obtain ⟨u, hu, rfl⟩ := List.mem_map.mp w
        refine ⟨rdL_lt (g u hu).1 l1, fun q => ?_⟩
        have q2 := rv_rdL (x := u) l1 z
        rw [q, qFi] at q2
        have ld := qFm (x := rv m t) rr (rv m u) (List.mem_map_of_mem hu)
        rw [← l2] at ld
        exact (rd1_log2 (sp u hu) z' ld).2 q2.symm
      · rw [List.mem_singleton] at w; rw [w]; exact ⟨l1, z⟩
    · rw [List.map_append, List.map_singleton, List.map_map, List.map_map]
      congr 1
      refine List.map_congr_left fun s hs => ?_
      exact rv_rdL l1 z
end My
namespace My
open PySem
def bd (V : Nat → Nat) : Nat → Nat → Nat
  | 0, _ => 0
  | m + 1, y => bd V m y ^^^ (if y.testBit m = true then V m else 0)
theorem qCz (V : Nat → Nat) : ∀ (m x y : Nat), bd V m (x ^^^ y) = bd V m x ^^^ bd V m y
  | 0, _, _ => by simp [bd]
  | m + 1, x, y => by
    show bd V m (x ^^^ y) ^^^ _ = (bd V m x ^^^ _) ^^^ (bd V m y ^^^ _)
    rw [qCz V m x y, Nat.testBit_xor]
    refine Nat.eq_of_testBit_eq fun j => ?_
    simp only [Nat.testBit_xor]
    cases x.testBit m <;> cases y.testBit m <;> simp [Nat.testBit_xor] <;> cases (bd V m x).testBit j <;> cases (bd V m y).testBit j <;> cases (V m).testBit j <;> rfl
theorem qEw (V : Nat → Nat) : ∀ m : Nat, bd V m 0 = 0
  | 0 => rfl
  | m + 1 => by show bd V m 0 ^^^ _ = 0; rw [qEw V m]; simp
theorem bd_bit (V : Nat → Nat) (q : Nat) : ∀ m y : Nat, (bd V m y).testBit q = xsum m fun i => y.testBit i && (V i).testBit q
  | 0, _ => by simp [bd, xsum]
  | m + 1, y => by
    show (bd V m y ^^^ _).testBit q = (xsum m _ ^^ (y.testBit m && (V m).testBit q))
    rw [Nat.testBit_xor, bd_bit V q m y]
    cases y.testBit m <;> simp
theorem bd_pow {V : Nat → Nat} {m p : Nat} (hp : p < m) : bd V m (2 ^ p) = V p := by
  refine Nat.eq_of_testBit_eq fun q => ?_
  rw [bd_bit, qD3 (l := p) fun j _ ne => by rw [Nat.testBit_two_pow, decide_eq_false (fun z => ne z.symm)]; rfl, Nat.testBit_two_pow]
  simp [hp]
noncomputable def el1 (v f : Nat × Nat) : Nat × Nat := if v.1.testBit (lo f.1) = true then (v.1 ^^^ f.1, v.2 ^^^ f.2) else v
noncomputable def el (k : List (Nat × Nat)) (v : Nat × Nat) : Nat × Nat := k.foldl el1 v
abbrev Ech (k : List (Nat × Nat)) : Prop := k.Pairwise fun a b => b.1.testBit (lo a.1) = false
theorem el_keep : ∀ {k : List (Nat × Nat)} {v : Nat × Nat} {i : Nat}, (∀ f ∈ k, f.1.testBit i = false) → (el k v).1.testBit i = v.1.testBit i
  | [], _, _, _ => rfl
  | f :: k, v, i, h => by
    show (el k (el1 v f)).1.testBit i = _
    rw [el_keep fun g hg => h g (List.mem_cons_of_mem _ hg)]
    unfold el1
    split
    · show (v.1 ^^^ f.1).testBit i = _
      rw [Nat.testBit_xor, h f List.mem_cons_self]; simp
    · rfl
theorem el_low : ∀ {k : List (Nat × Nat)} {v : Nat × Nat}, Ech k → (∀ f ∈ k, f.1 ≠ 0) → ∀ f ∈ k, (el k v).1.testBit (lo f.1) = false
  | [], _, _, _, _, h => by cases h
  | g :: k, v, e, nz, f, hf => by
    obtain ⟨e1, e2⟩ := List.pairwise_cons.mp e
    show (el k (el1 v g)).1.testBit (lo f.1) = false
    rcases List.mem_cons.mp hf with rfl | z
    · rw [el_keep fun h hh => e1 h hh]
      unfold el1
      cases q : v.1.testBit (lo f.1) with
      | true =>
        rw [if_pos rfl]
        show (v.1 ^^^ f.1).testBit _ = false
        rw [Nat.testBit_xor, q, (qEu (nz f List.mem_cons_self)).1]; rfl
      | false => rw [if_neg (by decide)]; exact q
    · exact el_low e2 (fun h hh => nz h (List.mem_cons_of_mem _ hh)) f z
theorem el_spn (V : Nat → Nat) (m : Nat) (K : List (Nat × Nat)) : ∀ {k : List (Nat × Nat)} {v : Nat × Nat}, (∀ f ∈ k, f ∈ K ∧ f.1 = bd V m f.2) → v.1 = bd V m v.2 → (el k v).1 = bd V m (el k v).2 ∧ Spn (K.map (·.2)) ((el k v).2 ^^^ v.2)
  | [], v, _, hv => ⟨hv, by show Spn _ (v.2 ^^^ v.2); rw [Nat.xor_self]; exact .zero⟩
  | f :: k, v, h, hv => by
    have h1 : (el1 v f).1 = bd V m (el1 v f).2 := by
      unfold el1
      split
      · show v.1 ^^^ f.1 = bd V m (v.2 ^^^ f.2)
        rw [qCz, ← hv, ← (h f List.mem_cons_self).2]
      · exact hv
    have h2 : Spn (K.map (·.2)) ((el1 v f).2 ^^^ v.2) := by
      unfold el1
      split
      · show Spn _ ((v.2 ^^^ f.2) ^^^ v.2)
        rw [Nat.xor_comm v.2 f.2, qBi]
        exact .mem (List.mem_map_of_mem (h f List.mem_cons_self).1)
      · rw [Nat.xor_self]; exact .zero
    obtain ⟨a, b⟩ := el_spn V m K (k := k) (fun g hg => h g (List.mem_cons_of_mem _ hg)) h1
    refine ⟨a, ?_⟩
    have c := b.xor h2
    rw [← Nat.xor_assoc, qBi] at c
    exact c
theorem spn_cons {a : Nat} {l : List Nat} {y : Nat} (h : Spn (a :: l) y) : Spn l y ∨ Spn l (a ^^^ y) := by
  induction h with
  | zero => exact .inl .zero
  | add m _ ih =>
    rename_i x y _
    rcases List.mem_cons.mp m with rfl | z
    · rcases ih with ih | ih
      · refine .inr ?_
        rw [← Nat.xor_assoc, Nat.xor_self, Nat.zero_xor]; exact ih
      · exact .inl ih
    · rcases ih with ih | ih
      · exact .inl (.add z ih)
      · refine .inr ?_
        have := Spn.add z ih
        rw [← Nat.xor_assoc, Nat.xor_comm x a, Nat.xor_assoc] at this
        exact this
theorem qF6 {l l' : List Nat} {y : Nat} (h : Spn (l ++ l') y) : ∃ a b, Spn l a ∧ Spn l' b ∧ y = a ^^^ b := by
  induction h with
  | zero => exact ⟨0, 0, .zero, .zero, rfl⟩
  | add m _ ih =>
    obtain ⟨a, b, ha, hb, rfl⟩ := ih
    rename_i x _
    rcases List.mem_append.mp m with z | z
    · exact ⟨x ^^^ a, b, .add z ha, hb, by rw [Nat.xor_assoc]⟩
    · exact ⟨a, x ^^^ b, ha, .add z hb, by rw [← Nat.xor_assoc, ← Nat.xor_assoc, Nat.xor_comm x a]⟩
theorem spn_bd (V : Nat → Nat) (m : Nat) {k : List (Nat × Nat)} (h : ∀ f ∈ k, f.1 = bd V m f.2) {y : Nat} (hy : Spn (k.map (·.2)) y) : Spn (k.map (·.1)) (bd V m y) := by
  induction hy with
  | zero => rw [qEw]; exact .zero
  | add hm _ ih =>
    obtain ⟨f, hf, rfl⟩ := List.mem_map.mp hm
    rw [qCz, ← h f hf]
    exact .add (List.mem_map_of_mem hf) ih
theorem ech_zero (V : Nat → Nat) (m : Nat) : ∀ {k : List (Nat × Nat)}, Ech k → (∀ f ∈ k, f.1 ≠ 0 ∧ f.1 = bd V m f.2) → ∀ {y : Nat}, Spn (k.map (·.2)) y → (∀ f ∈ k, (bd V m y).testBit (lo f.1) = false) → y = 0
  | [], _, _, y, hy, _ => by
    cases hy with
    | zero => rfl
    | add m _ => cases m
  | f :: k, e, h, y, hy, hb => by
    obtain ⟨e1, e2⟩ := List.pairwise_cons.mp e
    obtain ⟨f1, f2⟩ := h f List.mem_cons_self
    have hk := fun g hg => h g (List.mem_cons_of_mem _ hg)
    rw [List.map_cons] at hy
    rcases spn_cons hy with z | z
    · exact ech_zero V m e2 hk z fun g hg => hb g (List.mem_cons_of_mem _ hg)
    · have b := spn_bit (j := lo f.1) (fun x hx => by
        obtain ⟨g, hg, rfl⟩ := List.mem_map.mp hx
        exact e1 g hg) (spn_bd V m (fun g hg => (hk g hg).2) z)
      rw [qCz, ← f2, Nat.testBit_xor, (qEu f1).1, hb f List.mem_cons_self] at b
      cases b
structure EIv (V : Nat → Nat) (m j : Nat) (K : List (Nat × Nat)) (F : List Nat) : Prop where
  k1 : ∀ f ∈ K, f.1 ≠ 0 ∧ f.1 = bd V m f.2
  kl : ∀ f ∈ K, f.2 < 2 ^ j
  k2 : Ech K
  f1 : ∀ y ∈ F, y < 2 ^ j ∧ bd V m y = 0
  cov : ∀ y, y < 2 ^ j → Spn (F ++ K.map (·.2)) y
  len : F.length + K.length = j
  fsh : Fsh F
theorem EIv.start (V : Nat → Nat) (m : Nat) : EIv V m 0 [] [] := ⟨fun f h => (by cases h), fun f h => (by cases h), .nil, fun y h => (by cases h), fun y hy => by
  have : y = 0 := by omega
  subst this; exact .zero, rfl, fun i x h => (by cases h)⟩
theorem EIv.run {V : Nat → Nat} {m j : Nat} {K : List (Nat × Nat)} {F : List Nat} (h : EIv V m j K F) (hj : j < m) :
    (el K (V j, 2 ^ j)).1 = bd V m (el K (V j, 2 ^ j)).2 ∧ Spn (K.map (·.2)) ((el K (V j, 2 ^ j)).2 ^^^ 2 ^ j) ∧ (el K (V j, 2 ^ j)).2 < 2 ^ (j + 1) ∧ (el K (V j, 2 ^ j)).2.testBit j = true ∧ ∀ f ∈ K, (el K (V j, 2 ^ j)).1.testBit (lo f.1) = false := by
  obtain ⟨a, b⟩ := el_spn V m K (k := K) (v := (V j, 2 ^ j)) (fun f hf => ⟨hf, (h.k1 f hf).2⟩) (by show V j = bd V m (2 ^ j); rw [bd_pow hj])
  have c : (el K (V j, 2 ^ j)).2 ^^^ 2 ^ j < 2 ^ j := Spn.lt (fun x hx => by
    obtain ⟨f, hf, rfl⟩ := List.mem_map.mp hx
    exact h.kl f hf) b
  have d : ((el K (V j, 2 ^ j)).2 ^^^ 2 ^ j) ^^^ 2 ^ j = (el K (V j, 2 ^ j)).2 := qBi _ _
  have p : 2 ^ j < 2 ^ (j + 1) := Nat.pow_lt_pow_right (by decide) (by omega)
  refine ⟨a, b, ?_, ?_, el_low h.k2 (fun f hf => (h.k1 f hf).1)⟩
  · rw [← d]; exact Nat.xor_lt_two_pow (by omega) p
  · rw [← d, Nat.testBit_xor, Nat.testBit_lt_two_pow c, Nat.testBit_two_pow]; simp
theorem Fsh.snoc {F : List Nat} {x j : Nat} (h : Fsh F) (hx : x.testBit j = true) (hF : ∀ y ∈ F, y < 2 ^ j) : Fsh (F ++ [x]) := fun i z hz => by
  by_cases hi : i < F.length
  · rw [List.getElem?_append_left hi] at hz
    obtain ⟨l, h1, h2⟩ := h i z hz
    exact ⟨l, h1, fun y hy => h2 y (by rwa [List.take_append_of_le_length (by omega)] at hy)⟩
  · have hl : i < (F ++ [x]).length := (List.getElem?_eq_some_iff.mp hz).1
    rw [List.length_append] at hl
    have e : i = F.length := by
      have : i < F.length + 1 := hl
      omega
    subst e
    have ez : x = z := by simpa using hz
    subst ez
    refine ⟨j, hx, fun y hy => ?_⟩
    rw [List.take_append_of_le_length (Nat.le_refl _), List.take_of_length_le (Nat.le_refl _)] at hy
    exact Nat.testBit_lt_two_pow (hF y hy)
theorem EIv.next {V : Nat → Nat} {m j : Nat} {K : List (Nat × Nat)} {F : List Nat} (h : EIv V m j K F) (hj : j < m) :
    if (el K (V j, 2 ^ j)).1 = 0 then EIv V m (j + 1) K (F ++ [(el K (V j, 2 ^ j)).2]) else EIv V m (j + 1) (K ++ [el K (V j, 2 ^ j)]) F := by
  obtain ⟨a, b, c, d, e⟩ := h.run hj
  have mono : ∀ {x : Nat}, x < 2 ^ j → x < 2 ^ (j + 1) := fun hx => Nat.lt_trans hx (Nat.pow_lt_pow_right (by decide) (by omega))
  generalize el K (V j, 2 ^ j) = r at a b c d e
  have big : ∀ {l : List Nat}, (∀ x ∈ F ++ K.map (·.2), Spn l x) → Spn l r.2 → ∀ y, y < 2 ^ (j + 1) → Spn l y := fun {l} hl hr y hy => by
    by_cases q : y.testBit j = true
    · have lt : y ^^^ r.2 < 2 ^ j := by
        refine Nat.lt_pow_two_of_testBit _ fun i hi => ?_
        rw [Nat.testBit_xor]
        by_cases e2 : i = j
        · subst e2; rw [q, d]; rfl
        · rw [qEn hy (by omega), qEn c (by omega)]; rfl
      have := ((h.cov _ lt).mono hl).xor hr
      rwa [qBi] at this
    · have lt : y < 2 ^ j := by
        refine Nat.lt_pow_two_of_testBit _ fun i hi => ?_
        by_cases e2 : i = j
        · subst e2; simpa using q
        · exact qEn hy (by omega)
      exact (h.cov _ lt).mono hl
  split
  · rename_i z
    refine ⟨h.k1, fun f hf => mono (h.kl f hf), h.k2, fun y hy => ?_, big (fun x hx => ?_) ?_, ?_, h.fsh.snoc d fun y hy => (h.f1 y hy).1⟩
    · rcases List.mem_append.mp hy with w | w
      · exact ⟨mono (h.f1 y w).1, (h.f1 y w).2⟩
      · rw [List.mem_singleton] at w; rw [w]; exact ⟨c, by rw [← a, z]⟩
    · refine .mem ?_
      rcases List.mem_append.mp hx with w | w
      · exact List.mem_append_left _ (List.mem_append_left _ w)
      · exact List.mem_append_right _ w
    · exact .mem (List.mem_append_left _ (by simp))
    · rw [List.length_append]
      have := h.len
      show F.length + 1 + K.length = j + 1
      omega
  · rename_i z
    refine ⟨fun f hf => ?_, fun f hf => ?_, ?_, fun y hy => ⟨mono (h.f1 y hy).1, (h.f1 y hy).2⟩, big (fun x hx => ?_) ?_, ?_, h.fsh⟩
    · rcases List.mem_append.mp hf with w | w
      · exact h.k1 f w
      · rw [List.mem_singleton] at w; rw [w]; exact ⟨z, a⟩
    · rcases List.mem_append.mp hf with w | w
      · exact mono (h.kl f w)
      · rw [List.mem_singleton] at w; rw [w]; exact c
    · rw [Ech, List.pairwise_append]
      refine ⟨h.k2, List.pairwise_singleton _ _, fun x hx y hy => ?_⟩
      rw [List.mem_singleton] at hy; rw [hy]; exact e x hx
    · refine .mem ?_
      rw [List.map_append]
      rcases List.mem_append.mp hx with w | w
      · exact List.mem_append_left _ w
      · exact List.mem_append_right _ (List.mem_append_left _ w)
    · refine .mem (List.mem_append_right _ ?_)
      rw [List.map_append]; simp
    · rw [List.length_append]
      have := h.len
      show F.length + (K.length + 1) = j + 1
      omega
theorem EIv.done {V : Nat → Nat} {m : Nat} {K : List (Nat × Nat)} {F : List Nat} (h : EIv V m m K F) (y : Nat) : Spn F y ↔ y < 2 ^ m ∧ bd V m y = 0 := by
  have bF : ∀ {a}, Spn F a → bd V m a = 0 := fun {a} ha => by
    induction ha with
    | zero => exact qEw V m
    | add hm _ ih => rw [qCz, (h.f1 _ hm).2, ih]; rfl
  constructor
  · intro hy
    exact ⟨Spn.lt (fun x hx => (h.f1 x hx).1) hy, bF hy⟩
  · rintro ⟨h1, h2⟩
    obtain ⟨a, b, ha, hb, rfl⟩ := qF6 (h.cov y h1)
    rw [qCz, bF ha, Nat.zero_xor] at h2
    have : b = 0 := ech_zero V m h.k2 h.k1 hb fun f hf => by rw [h2]; simp
    rw [this, Nat.xor_zero]; exact ha
theorem EIv.none {V : Nat → Nat} {m j : Nat} {K : List (Nat × Nat)} {F : List Nat} (h : EIv V m j K F) (hj : j < m) {y : Nat} (hy : y < 2 ^ j) (e : bd V m y = V j) : (el K (V j, 2 ^ j)).1 = 0 := by
  obtain ⟨a, b, _, _, d⟩ := h.run hj
  have bF : ∀ {a}, Spn F a → bd V m a = 0 := fun {a} ha => by
    induction ha with
    | zero => exact qEw V m
    | add hm _ ih => rw [qCz, (h.f1 _ hm).2, ih]; rfl
  have c : (el K (V j, 2 ^ j)).2 ^^^ 2 ^ j < 2 ^ j := Spn.lt (fun x hx => by
    obtain ⟨f, hf, rfl⟩ := List.mem_map.mp hx
    exact h.kl f hf) b
  have z : bd V m (((el K (V j, 2 ^ j)).2 ^^^ 2 ^ j) ^^^ y) = (el K (V j, 2 ^ j)).1 := by
    rw [qCz, qCz, bd_pow hj, e, ← a, qBi]
  obtain ⟨u, v, hu, hv, ez⟩ := qF6 (h.cov _ (Nat.xor_lt_two_pow c hy))
  rw [ez, qCz, bF hu, Nat.zero_xor] at z
  have : v = 0 := ech_zero V m h.k2 h.k1 hv fun f hf => by rw [z]; exact d f hf
  rw [← z, this, qEw]
end My
namespace My
open PySem L2
abbrev iV (n : Nat) : V := .int (n : Int)
def LsN (H : Hp) (a : Addr) (ms : List Nat) : Prop := H a = some (.lst (ms.map iV))
theorem qFx : bootBuiltins "min" = some (.builtin "min") := by decide +kernel
theorem qDm : bootBuiltins "sum" = some (.builtin "sum") := by decide +kernel
theorem qDy {as : List Str} {i : Nat} {x : V} (e : (as.map V.str)[i]? = some x) : ∃ a, x = .str a ∧ as[i]? = some a := by
  rw [List.getElem?_map] at e
  cases ha : as[i]? with
  | none => rw [ha] at e; cases e
  | some a => rw [ha] at e; exact ⟨a, (Option.some.inj e).symm, rfl⟩
theorem qB4 {as : List Addr} {i : Nat} {x : V} (e : (as.map V.ref)[i]? = some x) : ∃ a, x = .ref a ∧ as[i]? = some a := by
  rw [List.getElem?_map] at e
  cases ha : as[i]? with
  | none => rw [ha] at e; cases e
  | some a => rw [ha] at e; exact ⟨a, (Option.some.inj e).symm, rfl⟩
theorem qC9 {ms : List Nat} {i : Nat} {x : V} (e : (ms.map iV)[i]? = some x) : ∃ n, x = iV n ∧ ms[i]? = some n := by
  rw [List.getElem?_map] at e
  cases ha : ms[i]? with
  | none => rw [ha] at e; cases e
  | some a => rw [ha] at e; exact ⟨a, (Option.some.inj e).symm, rfl⟩
theorem qD1 (ms : List Nat) : ms.map iV = (ms.map fun n : Nat => (n : Int)).map V.int := by rw [List.map_map]; rfl
def maskF (names row : List Str) : Nat := names.foldl (fun m n => 2 * m + (if n ∈ row then 1 else 0)) 0
theorem qEt (names row : List Str) (n : Str) : maskF (names ++ [n]) row = 2 * maskF names row + (if n ∈ row then 1 else 0) := by unfold maskF; rw [List.foldl_append]; rfl
theorem qFp (row : List Str) (names : List Str) : ∀ j, (maskF names row).testBit j = (decide (j < names.length) && decide (∃ n, names[names.length - 1 - j]? = some n ∧ n ∈ row)) := by
  refine qC0 (P := fun names => ∀ j, (maskF names row).testBit j = (decide (j < names.length) && decide (∃ n, names[names.length - 1 - j]? = some n ∧ n ∈ row))) (fun j => by simp [maskF]) (fun l n ih j => ?_) names
  rw [qEt, List.length_append]
  show _ = (decide (j < l.length + 1) && decide (∃ m, (l ++ [n])[l.length + 1 - 1 - j]? = some m ∧ m ∈ row))
  cases j with
  | zero =>
    rw [Nat.testBit_zero, decide_eq_true (by omega : 0 < l.length + 1), Bool.true_and]
    refine decide_eq_decide.mpr ?_
    rw [show l.length + 1 - 1 - 0 = l.length by omega, List.getElem?_append_right (Nat.le_refl _)]
    simp
    by_cases h : n ∈ row
    · simp [h]
    · simp [h]
  | succ j =>
    rw [Nat.testBit_succ, show (2 * maskF l row + (if n ∈ row then 1 else 0)) / 2 = maskF l row by split <;> omega, ih j]
    by_cases hj : j < l.length
    · rw [decide_eq_true hj, decide_eq_true (by omega : j + 1 < l.length + 1), show l.length + 1 - 1 - (j + 1) = l.length - 1 - j by omega, List.getElem?_append_left (by omega)]
    · rw [decide_eq_false hj, decide_eq_false (by omega : ¬ j + 1 < l.length + 1)]; rfl
theorem maskF_lt (names row : List Str) : maskF names row < 2 ^ names.length := Nat.lt_pow_two_of_testBit _ fun i hi => by rw [qFp, decide_eq_false (by omega)]; rfl
def spMask : Sp := fun vs H Q _ => ∃ (pn pr : Addr) (names row : List Str), vs = [.ref pn, .ref pr] ∧ LsS H pn names ∧ LsS H pr row ∧ Q (iV (maskF names row)) H
def rowM (names : List Str) (x : Nat) : List Str := (List.range names.length).filterMap fun i => if x.testBit (names.length - 1 - i) = true then names[i]? else none
def spRowOf : Sp := fun vs H Q _ => ∃ (pn : Addr) (names : List Str) (x : Nat), vs = [.ref pn, iV x] ∧ LsS H pn names ∧ names.length ≤ 12 ∧ ∀ r H', Ext H H' → H r = none → LsS H' r (rowM names x) → Q (.ref r) H'
theorem qFg (x k : Nat) : Builtin.bitAnd ((x : Int) / 2 ^ k) 1 = if x.testBit k = true then 1 else 0 := by
  have e : (x : Int) / 2 ^ k = ((x / 2 ^ k : Nat) : Int) := by rw [Int.natCast_ediv, Int.natCast_pow]; rfl
  have e1 : (1 : Int) = ((1 : Nat) : Int) := rfl
  rw [e]
  show Builtin.bitAnd _ ((1 : Nat) : Int) = _
  rw [qCk, Nat.and_one_is_mod, Nat.testBit_eq_decide_div_mod_eq]
  rcases Nat.mod_two_eq_zero_or_one (x / 2 ^ k) with h | h <;> rw [h] <;> rfl
def spLess : Sp := fun vs H Q _ => ∃ (x : Nat) (p : Addr) (k : List Nat), vs = [iV x, .ref p] ∧ LsN H p k ∧ (∀ s ∈ k, s ≠ 0) ∧ Q (iV (red1 k x)) H
theorem min_int (x : Nat) {s : Nat} (hs : s ≠ 0) : (if Builtin.bitXor (x : Int) (s : Int) < (x : Int) then Builtin.bitXor (x : Int) (s : Int) else (x : Int)) = ((rd1 x s : Nat) : Int) := by
  rw [qC8, ← min_rd1 x hs]
  by_cases h : x ^^^ s < x
  · rw [if_pos h, if_pos (by omega)]
  · rw [if_neg h, if_neg (by omega)]
def spRedu : Sp := fun vs H Q _ => ∃ (p : Addr) (ms : List Nat), vs = [.ref p] ∧ LsN H p ms ∧ ms.length ≤ 24 ∧ ∀ (r : Addr) (M : List Nat) (H' : Hp), Ext H H' → H r = none → LsN H' r M → M.Perm (red ms) → M.Pairwise (fun a b => b ≤ a) → Q (.ref r) H'
def spLead : Sp := fun vs H Q _ => ∃ x : Nat, vs = [iV x] ∧ x ≠ 0 ∧ x < 2 ^ 24 ∧ Q (iV (2 ^ x.log2)) H
theorem redS_len (k : List Nat) (x : Nat) : (redS k x).length ≤ k.length + 1 := by
  unfold redS
  split
  · omega
  · rw [List.length_append, List.length_map]; exact Nat.le_refl _
theorem red_le (xs : List Nat) : (red xs).length ≤ xs.length := by
  refine snocN (P := fun xs => (red xs).length ≤ xs.length) (Nat.le_refl _) (fun l t ih => ?_) xs
  rw [qDs, List.length_append]
  have := redS_len (red l) t
  show _ ≤ l.length + 1
  omega
section
variable {P : Program} {w : World} {K : PySem.W.Frag} {mg : Str → Option Value} {base : Heap} {f f1 f2 : Addr} {fd fd1 fd2 : FuncData}
abbrev maN : List Str := ["names", "row", "mask", "name"]
theorem scMask : FnScope maN ["names", "row"] (qAc sMask) := ⟨rfl, rfl, rfl, by decide +kernel, rfl, by decide +kernel, by decide +kernel⟩
set_option maxHeartbeats 4000000 in
theorem ok_mask (F : Fun K "mask_of" "mask_of" sMask f fd) : FnOk P w K mg base CX0 1 f fd ["names", "row"] spMask := by
  refine F.ok scMask (fun vs H Q E h => ?_) (fun cdv A outer s H vs Q E hr h => ?_)
  · obtain ⟨pn, pr, names, row, rfl, _⟩ := h
    rfl
  obtain ⟨pn, pr, names, row, rfl, hn, hw, q⟩ := h
  refine ⟨_, qAa (qAj (i := 2) scMask.nd rfl (Or.inl rfl) qAb)
    (qAa (qBl PassesOwn.never rfl (qAs (pv 0)) (qAe (i := 3) scMask.nd rfl (Or.inl rfl))
      (qAd (qAj (i := 2) scMask.nd rfl (Or.inl rfl) (qAg qBm (qAg qDv qAb (pv 2)) (qC5 (qAn qFo (pv 3) (pv 1) (by with_unfolding_all rfl)) qAb qAb)))))
    (qAd (qAm (pv 2)))), ?_⟩
  try dsimp only [Cx.wish, qB8]
  refine ⟨_, rfl, pn, rfl, ⟨_, SqL.of hn⟩, ?_⟩
  refine qB0 (xs := names.map V.str) (fun i σ H' => H' = H ∧ ∃ x3 : Option V, σ = [some (.ref pn), some (.ref pr), some (iV (maskF (names.take i) row)), x3]) ⟨rfl, none, rfl⟩ (fun i σ H' _ h => by rw [h.1]; exact SqL.of hn) ?_ ?_
  · rintro i x σ H' hx ⟨rfl, x3, rfl⟩
    obtain ⟨y, rfl, hy⟩ := qDy hx
    refine ⟨_, rfl, _, _, rfl, rfl, .inl ⟨by decide, by decide⟩, _, rfl, _, rfl, pr, _, rfl, .inl (SqL.of hw), rfl, flat_strs _, _, rfl, ?_⟩
    rw [if_neg (by decide), inV_str]
    refine qCm (fun c => ?_) (fun c => ?_)
    · have c' : y ∈ row := by simpa using c
      refine ⟨_, _, rfl, rfl, rfl, some (.str y), ?_⟩
      rw [show iV (maskF (names.take (i + 1)) row) = V.int (2 * ((maskF (names.take i) row : Nat) : Int) + 1) by rw [qAk hy, qEt, if_pos c']; rfl]
      rfl
    · have c' : ¬ y ∈ row := by simpa using c
      refine ⟨_, _, rfl, rfl, rfl, some (.str y), ?_⟩
      rw [show iV (maskF (names.take (i + 1)) row) = V.int (2 * ((maskF (names.take i) row : Nat) : Int) + 0) by rw [qAk hy, qEt, if_neg c']; rfl]
      rfl
  · rintro σ H' ⟨rfl, x3, rfl⟩
    rw [List.length_map, List.take_of_length_le (Nat.le_refl _)]
    exact ⟨_, rfl, q⟩
theorem scRowOf : FnScope ["names", "mask", "last"] ["names", "mask"] (qAc sRowOf) := ⟨rfl, rfl, rfl, by decide +kernel, rfl, by decide +kernel, by decide +kernel⟩
abbrev roN : List Str := ["at", "name", "mask", "last"]
set_option maxHeartbeats 4000000 in
theorem ok_rowOf (F : Fun K "row_of" "row_of" sRowOf f fd) (ml : mg "len" = none) (me : mg "enumerate" = none) : FnOk P w K mg base CX0 1 f fd ["names", "mask"] spRowOf := by
  refine F.ok scRowOf (fun vs H Q E h => ?_) (fun cdv A outer s H vs Q E hr h => ?_)
  · obtain ⟨pn, names, x, rfl, _⟩ := h
    rfl
  obtain ⟨pn, names, x, rfl, hn, ln, q⟩ := h
  refine ⟨_, qAa (qAj (i := 2) scRowOf.nd rfl (Or.inr rfl) (qAg qE1 (qAh qAo rfl ml PySem.boot_len (pa_cons (pv 0) pa_nil)) qAb))
    (qAd (qAm (pe_lc (N := ["names", "mask", "last"]) (sc := qAc sRowOf) (N' := roN) (sub := [none, none, some 1, some 2]) rfl rfl (CmpOk.of (by decide +kernel)) rfl (pi_enum rfl me (pa_cons (pv 0) pa_nil))
      (fun C s H fp => ⟨(show PG _ _ (gTup K 2 _) from qBx rfl (qAl (qAe (i := 0) (by show roN.Nodup; decide) rfl (Or.inl rfl)) (qAl (qAe (i := 1) (by show roN.Nodup; decide) rfl (Or.inl rfl)) qBc))),
        qDe (qAn qDg (qAg qCg (qAg qGe (pv 2) (qAg qE1 (pv 3) (pv 0))) qAb) qAb (qAt _)), pv 1⟩)))), ?_⟩
  try dsimp only [Cx.wish, qB8]
  refine ⟨_, rfl, pn, _, rfl, .inl (SqL.of hn), _, _, rfl, rfl, ?_⟩
  refine ⟨_, rfl, pn, _, rfl, SqL.of hn, ?_⟩
  rw [List.length_map]
  refine qD5 (fun i ys H' => Ext H H' ∧ ys = ((List.range i).filterMap fun i => if x.testBit (names.length - 1 - i) = true then names[i]? else none).map V.str) ⟨Ext.refl _, rfl⟩ (fun i ys H' _ p => SqL.of (p.1 _ _ hn)) ?_ ?_
  · rintro i ys H' T hi ⟨e, rfl⟩ hT
    have gd : (names.map V.str).getD i .non = .str names[i] := by rw [List.getD_eq_getElem?_getD, List.getElem?_map, List.getElem?_eq_getElem hi]; rfl
    have e2 := e.trans (Ext.new hT (.tup [V.int (i : Nat), (names.map V.str).getD i .non]))
    refine ⟨T, _, rfl, SqT.of upd_same, rfl, _, _, rfl, _, _, rfl, rfl, ?_⟩
    refine ⟨Sle.set _ (Sle.set _ (Sle.refl _) (fun u z => by cases z)) (fun u z => by cases z), ?_⟩
    have k : (((names.length : Nat) : Int) - 1 - (i : Nat)) = ((names.length - 1 - i : Nat) : Int) := by omega
    refine ⟨_, rfl, _, rfl, _, rfl, _, _, rfl, rfl, _, _, rfl, rfl, (by show (0 : Int) ≤ _; omega), _, _, rfl, rfl, rfl, _, rfl, ?_⟩
    have fm : ((List.range (i + 1)).filterMap fun i => if x.testBit (names.length - 1 - i) = true then names[i]? else none) = ((List.range i).filterMap fun i => if x.testBit (names.length - 1 - i) = true then names[i]? else none) ++ (if x.testBit (names.length - 1 - i) = true then [names[i]] else []) := by
      rw [List.range_succ, List.filterMap_append]
      congr 1
      by_cases b : x.testBit (names.length - 1 - i) = true
      · simp [b, List.getElem?_eq_getElem hi]
      · simp [b]
    have sz := List.length_filterMap_le (fun i => if x.testBit (names.length - 1 - i) = true then names[i]? else none) (List.range i)
    rw [List.length_range] at sz
    have key : (decide (V.int (Builtin.bitAnd ((x : Int) / 2 ^ (((names.length : Nat) : Int) - 1 - (i : Nat)).toNat) 1) = V.int 1) = true) ↔ x.testBit (names.length - 1 - i) = true := by
      rw [decide_eq_true_iff, V.int.injEq, k, Int.toNat_natCast, qFg]
      by_cases b : x.testBit (names.length - 1 - i) = true
      · simp [b]
      · simp [b]
    refine qCm (fun c => ?_) (fun c => ?_)
    · have b := key.mp c
      refine ⟨_, rfl, by rw [List.length_map]; exact qAf (by omega), nxt hi ⟨e2, ?_⟩⟩
      rw [fm, if_pos b, List.map_append, gd]; rfl
    · have b : ¬ x.testBit (names.length - 1 - i) = true := fun z => c (key.mpr z)
      refine nxt hi ⟨e2, ?_⟩
      rw [fm, if_neg b, List.append_nil]
  · rintro ys H' ⟨e, rfl⟩ r hr'
    exact q r _ (e.trans (Ext.new hr' _)) (e.none hr') upd_same
theorem scLess : FnScope ["mask", "kept", "step"] ["mask", "kept"] (qAc sLess) := ⟨rfl, rfl, rfl, by decide +kernel, rfl, by decide +kernel, by decide +kernel⟩
set_option maxHeartbeats 4000000 in
theorem ok_less (F : Fun K "lessened" "lessened" sLess f fd) (mmi : mg "min" = none) : FnOk P w K mg base CX0 1 f fd ["mask", "kept"] spLess := by
  refine F.ok scLess (fun vs H Q E h => ?_) (fun cdv A outer s H vs Q E hr h => ?_)
  · obtain ⟨x, p, k, rfl, _⟩ := h
    rfl
  obtain ⟨x, p, k, rfl, hk, nz, q⟩ := h
  refine ⟨_, qAa (qBl PassesOwn.never rfl (qAs (pv 1)) (qAe (i := 2) scLess.nd rfl (Or.inl rfl))
      (qAd (qAj (i := 0) scLess.nd rfl (Or.inl rfl) (qAh (qFv rfl) rfl mmi qFx (pa_cons (pv 0) (pa_cons (qAg qE0 (pv 0) (pv 2)) pa_nil))))))
    (qAd (qAm (pv 0))), ?_⟩
  try dsimp only [Cx.wish, qB8]
  refine ⟨_, rfl, p, rfl, ⟨_, SqL.of hk⟩, ?_⟩
  refine qB0 (xs := k.map iV) (fun i σ H' => H' = H ∧ ∃ x2 : Option V, σ = [some (iV (red1 (k.take i) x)), some (.ref p), x2]) ⟨rfl, none, rfl⟩ (fun i σ H' _ h => by rw [h.1]; exact SqL.of hk) ?_ ?_
  · rintro i v σ H' hx ⟨rfl, x2, rfl⟩
    obtain ⟨s, rfl, hs⟩ := qC9 hx
    refine ⟨_, rfl, _, rfl, _, rfl, _, _, rfl, rfl, _, _, rfl, rfl, some (iV s), ?_⟩
    rw [min_int _ (nz s (List.mem_of_getElem? hs)), show red1 (k.take (i + 1)) x = rd1 (red1 (k.take i) x) s by rw [qAk hs]; unfold red1; rw [List.foldl_append]; rfl]
    rfl
  · rintro σ H' ⟨rfl, x2, rfl⟩
    rw [List.length_map, List.take_of_length_le (Nat.le_refl _)]
    exact ⟨_, rfl, q⟩
theorem scRedu : FnScope ["masks", "kept", "mask", "fresh"] ["masks"] (qAc sRedu) := ⟨rfl, rfl, rfl, by decide +kernel, rfl, by decide +kernel, by decide +kernel⟩
set_option maxHeartbeats 4000000 in
theorem ok_redu (F : Fun K "reduced" "reduced" sRedu f fd) (G : FnOk P w K mg base CX0 1 f1 fd1 ["mask", "kept"] spLess) (bG : qAz K fd1 ["mask", "kept"] []) (kG : PySem.W.keepIn K (.ref f1) = true) (mG : mg "lessened" = some (.ref f1)) (mmi : mg "min" = none) (mso : mg "sorted" = none) : FnOk P w K mg base CX0 2 f fd ["masks"] spRedu := by
  refine F.ok scRedu (fun vs H Q E h => ?_) (fun cdv A outer s H vs Q E hr h => ?_)
  · obtain ⟨p, ms, rfl, _⟩ := h
    rfl
  obtain ⟨p, ms, rfl, hp, lm, q⟩ := h
  refine ⟨_, qAa (qAj (i := 1) scRedu.nd rfl (Or.inl rfl) (qBe pa_nil))
    (qAa (qBl PassesOwn.never rfl (qAs (pv 0)) (qAe (i := 2) scRedu.nd rfl (Or.inl rfl))
      (qAa (qAj (i := 3) scRedu.nd rfl (Or.inr rfl) (qAi G hr rfl mG kG bG .nil qAu (pa_cons (pv 2) (pa_cons (pv 1) pa_nil))))
      (qAd (qBf (qAn qEb (pv 3) qAb (qAt _))
        (qAd (qAj (i := 1) scRedu.nd rfl (Or.inl rfl) (qAg qE2 (pe_lc (N := ["masks", "kept", "mask", "fresh"]) (sc := qAc sRedu) (N' := ["step", "fresh"]) (sub := [none, some 3]) rfl rfl (CmpOk.of (by decide +kernel)) rfl (qAs (pv 1))
          (fun C s H fp => ⟨qAe (i := 0) (by show (["step", "fresh"] : List Str).Nodup; decide) rfl (Or.inl rfl), qA0, qAh (qFv rfl) rfl mmi qFx (pa_cons (pv 0) (pa_cons (qAg qE0 (pv 0) (pv 1)) pa_nil))⟩)) (qBe (pa_cons (pv 3) pa_nil)))))
        qAx))))
    (qAd (qAm (pe_sortRev rfl mso (pa_cons (pv 1) pa_nil))))), ?_⟩
  try dsimp only [Cx.wish, qB8]
  refine ⟨Nat.zero_le _, fun ke ke0 => ?_⟩
  have X0 := Ext.new ke0 (.lst [])
  refine ⟨_, rfl, p, rfl, ⟨_, SqL.of (X0 _ _ hp)⟩, ?_⟩
  refine qB0 (xs := ms.map iV) (fun i σ H' => ∃ (ke : Addr) (x2 x3 : Option V), σ = [some (.ref p), some (.ref ke), x2, x3] ∧ Ext H H' ∧ LsN H' ke (red (ms.take i))) ⟨ke, none, none, rfl, X0, upd_same⟩ (fun i σ H' _ h => by obtain ⟨_, _, _, _, e, _⟩ := h; exact SqL.of (e _ _ hp)) ?_ ?_
  · rintro i v σ H' hx ⟨ke, x2, x3, rfl, e, hk⟩
    obtain ⟨m, rfl, hm⟩ := qC9 hx
    have hi : i < ms.length := qA2 hm
    have rr := qCx (ms.take i)
    have lr := red_le (ms.take i)
    rw [List.length_take] at lr
    refine ⟨_, rfl, _, rfl, m, ke, _, rfl, hk, rr.nz, ?_⟩
    have sn : red (ms.take (i + 1)) = redS (red (ms.take i)) m := by rw [qAk hm, qDs]
    refine ⟨_, rfl, rfl, _, rfl, ?_⟩
    refine qCm (fun c => ?_) (fun c => ?_)
    · have c' : red1 (red (ms.take i)) m ≠ 0 := fun z => by rw [z] at c; simp at c
      refine ⟨_, rfl, ke, rfl, ⟨_, SqL.of hk⟩, ?_⟩
      refine qAq (xs := (red (ms.take i)).map iV) (fun j ys H2 => H2 = H' ∧ ys = (((red (ms.take i)).take j).map fun s => rd1 s (red1 (red (ms.take i)) m)).map iV) ⟨rfl, rfl⟩ (fun j ys H2 _ h => by rw [h.1]; exact SqL.of hk) ?_ ?_
      · rintro j x ys H2 hx2 ⟨rfl, rfl⟩
        obtain ⟨s, rfl, hs⟩ := qC9 hx2
        have hj := qA2 hs
        refine ⟨Sle.set _ (Sle.refl _) (fun u z => by cases z), iteT (B := False) ⟨_, rfl, _, rfl, _, rfl, _, _, rfl, rfl, _, _, rfl, ?_, nxt (qA2 hx2) ⟨rfl, ?_⟩⟩⟩
        · rw [List.length_map, List.length_map, List.length_take]; exact qAf (by omega)
        · rw [min_int _ c', qAk hs, List.map_append, List.map_append]; rfl
      · rintro ys H2 ⟨rfl, rfl⟩ l hl
        rw [List.length_map, List.take_of_length_le (Nat.le_refl _)]
        have n1 := Ext.new hl (.lst (((red (ms.take i)).map fun s => rd1 s (red1 (red (ms.take i)) m)).map iV))
        refine ⟨_, rfl, (by show 1 ≤ sizeLine; decide), fun l2 hl2 => ?_⟩
        have n2 := Ext.new hl2 (.lst [iV (red1 (red (ms.take i)) m)])
        refine ⟨l, l2, _, _, rfl, rfl, n2 _ _ upd_same, upd_same, ?_, fun l3 hl3 => ?_⟩
        · rw [List.length_map, List.length_map]
          show _ + 1 ≤ sizeLine
          exact Nat.le_of_lt (qAf (by omega))
        · refine ⟨l3, _, _, rfl, ((e.trans n1).trans n2).trans (Ext.new hl3 _), ?_⟩
          rw [sn]
          unfold redS LsN
          rw [if_neg c', upd_same, List.map_append]
          rfl
    · have c' : red1 (red (ms.take i)) m = 0 := by
        have : (red1 (red (ms.take i)) m : Int) = 0 := by simpa using c
        omega
      refine ⟨ke, _, _, rfl, e, ?_⟩
      rw [sn]
      unfold redS
      rw [if_pos c']
      exact hk
  · rintro σ H' ⟨ke, x2, x3, rfl, e, hk⟩
    rw [List.length_map, List.take_of_length_le (Nat.le_refl _)] at hk
    have lr := red_le ms
    refine ⟨_, rfl, ke, (red ms).map (fun n : Nat => (n : Int)), rfl, by rw [← qD1]; exact SqL.of hk, by rw [List.length_map]; omega, fun r ns hr' pm od => ?_⟩
    have od' : ns.Pairwise fun a b => a ≥ b := od
    obtain ⟨M, rfl⟩ : ∃ M : List Nat, ns = M.map (fun n : Nat => (n : Int)) := by
      refine ⟨ns.map Int.toNat, ?_⟩
      rw [List.map_map]
      refine (List.map_id _).symm.trans (List.map_congr_left fun a ha => ?_)
      obtain ⟨n, _, rfl⟩ := List.mem_map.mp (pm.mem_iff.mp ha)
      simp
    have pm' : M.Perm (red ms) := by
      have := pm.map Int.toNat
      rw [List.map_map, List.map_map] at this
      have idn : (Int.toNat ∘ fun n : Nat => (n : Int)) = id := by funext n; simp
      rw [idn, List.map_id, List.map_id] at this
      exact this
    refine q r M _ (e.trans (Ext.new hr' _)) (e.none hr') (by unfold LsN; rw [upd_same, qD1]) pm' ?_
    rw [List.pairwise_map] at od'
    exact List.Pairwise.imp (fun {a b} h => by omega) od'
theorem scLead : FnScope ["mask"] ["mask"] (qAc sLead) := ⟨rfl, rfl, rfl, by decide +kernel, rfl, by decide +kernel, by decide +kernel⟩
set_option maxHeartbeats 4000000 in
theorem ok_lead (F : Fun K "lead_of" "lead_of" sLead f fd) : FnOk P w K mg base CX0 1 f fd ["mask"] spLead := by
  refine F.ok scLead (fun vs H Q E h => ?_) (fun cdv A outer s H vs Q E hr h => ?_)
  · obtain ⟨x, rfl, _⟩ := h
    rfl
  obtain ⟨x, rfl, nz, lt, q⟩ := h
  refine ⟨_, qAd (qAm (qAg qCy qAb (qAg qE1 (pe_bm0 PySem.F.plainAttrs_int PySem.F.slot_int_bit_length PySem.F.type_int_bit_length mt_bits (pv 0)) qAb))), ?_⟩
  try dsimp only [Cx.wish, qB8]
  have l24 : x.log2 < 24 := (Nat.log2_lt nz).mpr lt
  have ib : Builtin.Int.intBits (x : Int) = x.log2 + 1 := by
    unfold Builtin.Int.intBits
    rw [if_neg (by simpa using nz)]
    simp
  refine ⟨_, rfl, rfl, x, rfl, rfl, _, _, rfl, rfl, _, _, rfl, rfl, ?_⟩
  rw [ib]
  have e : ((x.log2 + 1 : Nat) : Int) - 1 = (x.log2 : Nat) := by omega
  rw [e]
  refine ⟨⟨by omega, by omega, by decide⟩, ?_⟩
  dsimp only
  rw [Int.toNat_natCast, Int.one_mul]
  have p2 : ((2 : Int) ^ x.log2) = ((2 ^ x.log2 : Nat) : Int) := by rw [Int.natCast_pow]; rfl
  rw [p2]
  exact q
end
end My
namespace My
open PySem L2
theorem RR.perm {a b : List Nat} (h : RR a) (p : b.Perm a) : RR b := ⟨fun s hs => h.nz s (p.mem_iff.mp hs), (p.pairwise_iff (fun {x y} z => ⟨z.2, z.1⟩)).mpr h.ap⟩
theorem qDq : ∀ l : List Nat, (l.map fun n : Nat => (n : Int)).sum = ((l.sum : Nat) : Int)
  | [] => rfl
  | a :: l => by rw [List.map_cons, List.sum_cons, List.sum_cons, qDq l]; omega
theorem qCb (p : Nat) : (1 : Int) * 2 ^ ((p : Int)).toNat = ((2 ^ p : Nat) : Int) := by
  rw [Int.toNat_natCast, Int.one_mul, Int.natCast_pow]; rfl
def spCrM : Sp := fun vs H Q _ => ∃ (p : Addr) (S : List Nat) (m : Nat), vs = [.ref p, iV m] ∧ LsN H p S ∧ RR S ∧ (∀ s ∈ S, s < 2 ^ m) ∧ m ≤ 12 ∧ S.length ≤ 24 ∧ ∀ r H', Ext H H' → H r = none → LsN H' r (qEh S m) → Q (.ref r) H'
def qD2 (H : Hp) (T : Addr) (names : List Str) (rows : List (List Str)) : Prop := ∃ a b, H T = some (.tup [.ref a, .ref b]) ∧ LsS H a names ∧ qEl H b rows
def TabF (H0 H : Hp) (T : Addr) (names : List Str) (rows : List (List Str)) : Prop := ∃ a b, H T = some (.tup [.ref a, .ref b]) ∧ LsS H a names ∧ H0 a = none ∧ RowsY H0 H b rows ∧ H0 b = none
theorem qD2.ext {H H' : Hp} {T : Addr} {names : List Str} {rows : List (List Str)} (h : qD2 H T names rows) (e : Ext H H') : qD2 H' T names rows := by
  obtain ⟨a, b, h1, h2, h3⟩ := h
  exact ⟨a, b, e _ _ h1, e _ _ h2, h3.ext e⟩
theorem TabF.tin {H0 H : Hp} {T : Addr} {names : List Str} {rows : List (List Str)} (h : TabF H0 H T names rows) : qD2 H T names rows := by
  obtain ⟨a, b, h1, h2, h3, h4, h5⟩ := h
  exact ⟨a, b, h1, h2, h4.rows⟩
theorem TabF.down {H0 H1 H : Hp} {T : Addr} {names : List Str} {rows : List (List Str)} (h : TabF H1 H T names rows) (e : Ext H0 H1) : TabF H0 H T names rows := by
  obtain ⟨a, b, h1, h2, h3, ⟨as, h4, h6⟩, h5⟩ := h
  exact ⟨a, b, h1, h2, e.none h3, ⟨as, h4, Paired.mapP h6 fun a r z => ⟨z.1, e.none z.2.1, z.2.2⟩⟩, e.none h5⟩
def spTabF : Sp := fun vs H Q _ => ∃ (pn pm : Addr) (names : List Str) (ms : List Nat), vs = [.ref pn, .ref pm] ∧ LsS H pn names ∧ names.length ≤ 12 ∧ LsN H pm ms ∧ ms.length ≤ 24 ∧ ∀ (T : Addr) (M : List Nat) (H' : Hp), Ext H H' → H T = none → TabF H H' T names (M.map (rowM names)) → M.Perm (red ms) → M.Pairwise (fun a b => b ≤ a) → Q (.ref T) H'
def spStepM : Sp := fun vs H Q _ => ∃ (T : Addr) (names : List Str) (rows : List (List Str)), vs = [.ref T] ∧ qD2 H T names rows ∧ rows.length ≤ 24 ∧ ∀ (r : Addr) (M : List Nat) (H' : Hp), Ext H H' → H r = none → LsN H' r M → M.Perm (red (rows.map (maskF names))) → M.Pairwise (fun a b => b ≤ a) → Q (.ref r) H'
def spCross : Sp := fun vs H Q _ => ∃ (T : Addr) (names : List Str) (rows : List (List Str)), vs = [.ref T] ∧ qD2 H T names rows ∧ names.length ≤ 12 ∧ rows.length ≤ 24 ∧ ∀ (T' : Addr) (S M : List Nat) (H' : Hp), Ext H H' → H T' = none → TabF H H' T' names (M.map (rowM names)) → S.Perm (red (rows.map (maskF names))) → M.Perm (red (qEh S names.length)) → M.Pairwise (fun a b => b ≤ a) → Q (.ref T') H'
def spTies : Sp := fun vs H Q _ => ∃ (p : Addr) (net : List Tr), vs = [.ref p] ∧ qCq H p net ∧ net.length ≤ 20 ∧ ∀ r H', Ext H H' → H r = none → LsS H' r (net.map (·.1)) → Q (.ref r) H'
def metF (net : List Tr) (x : Str) : List Str := (net.filter fun t => decide (t.2.1 = x) != decide (t.2.2 = x)).map (·.1)
def spMet : Sp := fun vs H Q _ => ∃ (p : Addr) (net : List Tr) (x : Str), vs = [.ref p, .str x] ∧ qCq H p net ∧ net.length ≤ 12 ∧ ∀ r H', Ext H H' → H r = none → LsS H' r (metF net x) → Q (.ref r) H'
def spTable : Sp := fun vs H Q _ => ∃ (p : Addr) (net : List Tr), vs = [.ref p] ∧ qCq H p net ∧ net.length ≤ 12 ∧ ∀ (T : Addr) (ps : List Str) (S M : List Nat) (H' : Hp), Ext H H' → H T = none → TabF H H' T (net.map (·.1)) (M.map (rowM (net.map (·.1)))) → qF1 net ps → qF0 ps → S.Perm (red (ps.map fun x => maskF (net.map (·.1)) (metF net x))) → M.Perm (red (qEh S net.length)) → M.Pairwise (fun a b => b ≤ a) → Q (.ref T) H'
section
variable {P : Program} {w : World} {K : PySem.W.Frag} {mg : Str → Option Value} {base : Heap} {f f1 f2 f3 f4 : Addr} {fd fd1 fd2 fd3 fd4 : FuncData}
abbrev crN : List Str := ["steps", "width", "leads", "told", "place", "bit"]
theorem scCrM : FnScope crN ["steps", "width"] (qAc sCrM) := ⟨rfl, rfl, rfl, by decide +kernel, rfl, by decide +kernel, by decide +kernel⟩
set_option maxHeartbeats 4000000 in
theorem ok_crM (F : Fun K "crossed_masks" "crossed_masks" sCrM f fd) (G : FnOk P w K mg base CX0 1 f1 fd1 ["mask"] spLead) (bG : qAz K fd1 ["mask"] []) (kG : PySem.W.keepIn K (.ref f1) = true) (mG : mg "lead_of" = some (.ref f1)) (msu : mg "sum" = none) (mr : mg "range" = none) : FnOk P w K mg base CX0 2 f fd ["steps", "width"] spCrM := by
  refine F.ok scCrM (fun vs H Q E h => ?_) (fun cdv A outer s H vs Q E hr h => ?_)
  · obtain ⟨p, S, m, rfl, _⟩ := h
    rfl
  obtain ⟨p, S, m, rfl, hp, rr, lt, m12, lS, q⟩ := h
  refine ⟨_, qAa (qAj (i := 2) scCrM.nd rfl (Or.inl rfl) (qAh (qDj rfl) rfl msu qDm (pa_cons (pe_lc (N := crN) (sc := qAc sCrM) (N' := ["step"]) (sub := [none]) rfl rfl (CmpOk.of (by decide +kernel)) rfl (qAs (pv 0))
      (fun C s H fp => ⟨qAe (i := 0) (by show (["step"] : List Str).Nodup; decide) rfl (Or.inl rfl), qA0, qAi G hr rfl mG kG bG .nil qAu (pa_cons (pv 0) pa_nil)⟩)) pa_nil)))
    (qAa (qAj (i := 3) scCrM.nd rfl (Or.inl rfl) (qBe pa_nil))
    (qAa (qBl PassesOwn.never rfl (qBg rfl mr (pa_cons (pv 1) pa_nil)) (qAe (i := 4) scCrM.nd rfl (Or.inl rfl))
      (qAa (qAj (i := 5) scCrM.nd rfl (Or.inr rfl) (qAg qCy qAb (pv 4)))
      (qAd (qBf (qAn qDg (qAg qCg (pv 2) (pv 5)) qAb (qAt _))
        (qAd (qB5 (pe_bm PySem.F.plainAttrs_list PySem.F.slot_list_append PySem.F.type_list_append qBn (pv 3) (pa_cons
          (qAg qBm (pv 5) (qAh (qDj rfl) rfl msu qDm (pa_cons (pe_lc (N := crN) (sc := qAc sCrM) (N' := ["step", "bit"]) (sub := [none, some 5]) rfl rfl (CmpOk.of (by decide +kernel)) rfl (qAs (pv 0))
            (fun C s H fp => ⟨qAe (i := 0) (by show (["step", "bit"] : List Str).Nodup; decide) rfl (Or.inl rfl), qDe (qAn qEb (qAg qCg (pv 0) (pv 1)) qAb (qAt _)), qAi G hr rfl mG kG bG .nil qAu (pa_cons (pv 0) pa_nil)⟩)) pa_nil))) pa_nil))))
        qAx))))
    (qAd (qAm (pv 3))))), ?_⟩
  try dsimp only [Cx.wish, qB8]
  have l24 : ∀ s ∈ S, s < 2 ^ 24 := fun s hs => Nat.lt_of_lt_of_le (lt s hs) (Nat.pow_le_pow_right (by decide) (by omega))
  refine ⟨_, rfl, p, rfl, ⟨_, SqL.of hp⟩, ?_⟩
  refine qAq (xs := S.map iV) (fun j ys H2 => H2 = H ∧ ys = ((S.take j).map fun s : Nat => 2 ^ s.log2).map iV) ⟨rfl, rfl⟩ (fun j ys H2 _ h => by rw [h.1]; exact SqL.of hp) ?_ ?_
  · rintro j v ys H2 hx ⟨rfl, rfl⟩
    obtain ⟨s, rfl, hs⟩ := qC9 hx
    have hj := qA2 hs
    have sm := List.mem_of_getElem? hs
    refine ⟨Sle.set _ (Sle.refl _) (fun u z => by cases z), iteT (B := False) ⟨_, rfl, s, rfl, rr.nz s sm, l24 s sm, ?_, nxt (qA2 hx) ⟨rfl, ?_⟩⟩⟩
    · rw [List.length_map, List.length_map, List.length_take]; exact qAf (by omega)
    · rw [qAk hs, List.map_append, List.map_append]; rfl
  rintro ys H2 ⟨rfl, rfl⟩ l1 hl1
  rw [List.length_map, List.take_of_length_le (Nat.le_refl _)]
  have n1 := Ext.new hl1 (.lst ((S.map fun s : Nat => 2 ^ s.log2).map iV))
  refine ⟨l1, (S.map fun s : Nat => 2 ^ s.log2).map (fun n : Nat => (n : Int)), rfl, SqL.of (by rw [upd_same, qD1]), ?_⟩
  rw [qDq]
  refine ⟨Nat.zero_le _, fun to to1 => ?_⟩
  have to0 := n1.none to1
  have n2 := n1.trans (Ext.new to1 (.lst []))
  refine ⟨_, rfl, (m : Int), rfl, by omega, by omega, ?_⟩
  refine qBt (lo := 0) (n := ((m : Int)).toNat) (fun i σ H' => ∃ (x4 x5 : Option V), σ = [some (.ref p), some (iV m), some (iV (S.map fun s : Nat => 2 ^ s.log2).sum), some (.ref to), x4, x5] ∧ Ext H2 H' ∧ LsN H' to (((List.range i).filter fun p => !decide (isLd S p)).map (crM S))) ⟨none, none, rfl, n2, upd_same⟩ ?_ ?_
  · rintro i σ H' hi ⟨x4, x5, rfl, e, ht⟩
    have hi' : i < m := by omega
    refine ⟨_, rfl, _, _, rfl, rfl, ⟨by omega, by omega, by decide⟩, ?_⟩
    have bv : (fun i j : Int => V.int (i * 2 ^ j.toNat)) 1 (0 + (i : Int)) = iV (2 ^ i) := by
      show V.int (1 * 2 ^ (0 + (i : Int)).toNat) = _
      rw [show (0 + (i : Int)) = (i : Nat) by omega, qCb]
    rw [bv]
    have sn : ((List.range (i + 1)).filter fun p => !decide (isLd S p)).map (crM S) = ((List.range i).filter fun p => !decide (isLd S p)).map (crM S) ++ (if isLd S i then [] else [crM S i]) := by
      rw [List.range_succ, List.filter_append, List.map_append]
      congr 1
      by_cases b : isLd S i
      · simp [b]
      · simp [b]
    have lb := leads_bit rr i
    refine ⟨_, rfl, _, rfl, _, _, rfl, rfl, rfl, _, rfl, ?_⟩
    refine qCm (fun c => ?_) (fun c => ?_)
    · have nl : ¬ isLd S i := fun z => by
        rw [decide_eq_true z] at lb
        have ne := (and_pow _ i).mpr lb
        have : Builtin.bitAnd (((S.map fun s : Nat => 2 ^ s.log2).sum : Nat) : Int) ((2 ^ i : Nat) : Int) = 0 := by simpa using c
        rw [qCk] at this
        omega
      refine ⟨_, rfl, .inl ⟨rfl, _, SqL.of ht⟩, _, rfl, ?_⟩
      refine ⟨_, rfl, p, rfl, ⟨_, SqL.of (e _ _ hp)⟩, ?_⟩
      refine qAq (xs := S.map iV) (fun j ys H3 => H3 = H' ∧ ys = (((S.take j).filter fun s : Nat => s.testBit i).map fun s : Nat => 2 ^ s.log2).map iV) ⟨rfl, rfl⟩ (fun j ys H3 _ h => by rw [h.1]; exact SqL.of (e _ _ hp)) ?_ ?_
      · rintro j v ys H3 hx ⟨rfl, rfl⟩
        obtain ⟨s, rfl, hs⟩ := qC9 hx
        have hj := qA2 hs
        have sm := List.mem_of_getElem? hs
        refine ⟨Sle.set _ (Sle.refl _) (fun u z => by cases z), _, rfl, _, rfl, _, _, rfl, rfl, rfl, _, rfl, ?_⟩
        have key : ((!decide (V.int (Builtin.bitAnd (s : Int) ((2 ^ i : Nat) : Int)) = V.int 0)) = true) ↔ s.testBit i = true := by
          rw [← and_pow s i, qCk]
          simp
        refine qCm (fun c3 => ?_) (fun c3 => ?_)
        · have b := key.mp c3
          refine ⟨_, rfl, s, rfl, rr.nz s sm, l24 s sm, ?_, nxt (qA2 hx) ⟨rfl, ?_⟩⟩
          · have := List.length_filter_le (fun s : Nat => s.testBit i) (S.take j)
            rw [List.length_take] at this
            rw [List.length_map, List.length_map]; exact qAf (by omega)
          · rw [qAk hs, List.filter_append, List.map_append, List.map_append]
            simp [b]
        · have b : ¬ s.testBit i = true := fun z => c3 (key.mpr z)
          refine nxt (qA2 hx) ⟨rfl, ?_⟩
          rw [qAk hs, List.filter_append]
          simp [b]
      · rintro ys H3 ⟨rfl, rfl⟩ l2 hl2
        rw [List.length_map, List.take_of_length_le (Nat.le_refl _)]
        have n3 := Ext.new hl2 (.lst (((S.filter fun s : Nat => s.testBit i).map fun s : Nat => 2 ^ s.log2).map iV))
        refine ⟨l2, ((S.filter fun s : Nat => s.testBit i).map fun s : Nat => 2 ^ s.log2).map (fun n : Nat => (n : Int)), rfl, SqL.of (by rw [upd_same, qD1]), ?_⟩
        rw [qDq]
        refine ⟨_, _, rfl, rfl, to, _, _, rfl, rfl, n3 _ _ ht, ?_, ?_⟩
        · have := List.length_filter_le (fun p => !decide (isLd S p)) (List.range i)
          rw [List.length_range] at this
          rw [List.length_map, List.length_map]; exact qAf (by omega)
        · refine ⟨_, _, rfl, (e.trans n3).over to0 _, ?_⟩
          rw [sn, if_neg nl]
          unfold LsN
          rw [upd_same, List.map_append]
          rfl
    · have il : isLd S i := Classical.byContradiction fun z => by
        rw [decide_eq_false z] at lb
        refine c ?_
        have : (S.map fun s : Nat => 2 ^ s.log2).sum &&& 2 ^ i = 0 := Classical.byContradiction fun y => by
          have := (and_pow _ i).mp y
          rw [lb] at this; cases this
        show decide (V.int (Builtin.bitAnd (((S.map fun s : Nat => 2 ^ s.log2).sum : Nat) : Int) ((2 ^ i : Nat) : Int)) = V.int 0) = true
        rw [qCk, this]; rfl
      refine ⟨_, _, rfl, e, ?_⟩
      rw [sn, if_pos il, List.append_nil]
      exact ht
  · rintro σ H' ⟨x4, x5, rfl, e, ht⟩
    rw [Int.toNat_natCast] at ht
    exact ⟨_, rfl, q to _ e to0 ht⟩
theorem scTabF : FnScope ["names", "masks"] ["names", "masks"] (qAc sTabF) := ⟨rfl, rfl, rfl, by decide +kernel, rfl, by decide +kernel, by decide +kernel⟩
set_option maxHeartbeats 4000000 in
theorem ok_tabF (F : Fun K "table_from" "table_from" sTabF f fd) (G1 : FnOk P w K mg base CX0 1 f1 fd1 ["names", "mask"] spRowOf) (bG1 : qAz K fd1 ["names", "mask"] []) (kG1 : PySem.W.keepIn K (.ref f1) = true) (mG1 : mg "row_of" = some (.ref f1))
    (G2 : FnOk P w K mg base CX0 2 f2 fd2 ["masks"] spRedu) (bG2 : qAz K fd2 ["masks"] []) (kG2 : PySem.W.keepIn K (.ref f2) = true) (mG2 : mg "reduced" = some (.ref f2)) (mL : mg "list" = none) : FnOk P w K mg base CX0 3 f fd ["names", "masks"] spTabF := by
  refine F.ok scTabF (fun vs H Q E h => ?_) (fun cdv A outer s H vs Q E hr h => ?_)
  · obtain ⟨pn, pm, names, ms, rfl, _⟩ := h
    rfl
  obtain ⟨pn, pm, names, ms, rfl, hn, ln, hm, lm, q⟩ := h
  have hr1 := hr.mono (j := 1) (by decide)
  refine ⟨_, qAd (qAm (qBy (pa_cons (qBs qB9 rfl mL qA8 (pa_cons (pv 0) pa_nil)) (pa_cons
    (pe_lc (N := ["names", "masks"]) (sc := qAc sTabF) (N' := ["mask", "names"]) (sub := [none, some 0]) rfl rfl (CmpOk.of (by decide +kernel)) rfl (qAs (qAi G2 hr rfl mG2 kG2 bG2 .nil qAu (pa_cons (pv 1) pa_nil)))
      (fun C s H fp => ⟨qAe (i := 0) (by show (["mask", "names"] : List Str).Nodup; decide) rfl (Or.inl rfl), qA0, qAi G1 hr1 rfl mG1 kG1 bG1 .nil qAu (pa_cons (pv 1) (pa_cons (pv 0) pa_nil))⟩)) pa_nil)))), ?_⟩
  try dsimp only [Cx.wish, qB8]
  refine ⟨_, rfl, pn, _, rfl, .inl (SqL.of hn), fun l1 hl1 => ?_⟩
  have n1 := Ext.new hl1 (.lst (names.map V.str))
  refine ⟨_, rfl, pm, ms, rfl, n1 _ _ hm, lm, fun r M H1 e1 r0 hM pM dM => ?_⟩
  have E1 := n1.trans e1
  have lM : M.length ≤ 24 := by rw [pM.length_eq]; exact Nat.le_trans (red_le ms) lm
  refine ⟨r, rfl, ⟨_, SqL.of hM⟩, ?_⟩
  refine qAq (xs := M.map iV) (fun j ys H2 => Ext H1 H2 ∧ ∃ as, ys = as.map V.ref ∧ Paired (fun a r => LsS H2 a r ∧ H a = none) as ((M.take j).map (rowM names))) ⟨Ext.refl _, [], rfl, .nil⟩ (fun j ys H2 _ h => SqL.of (h.1 _ _ hM)) ?_ ?_
  · rintro j v ys H2 hx ⟨e2, as, rfl, pr⟩
    obtain ⟨x, rfl, hx'⟩ := qC9 hx
    have hj := qA2 hx'
    have la : as.length = _ := pr.length
    rw [List.length_map, List.length_take] at la
    refine ⟨Sle.set _ (Sle.refl _) (fun u z => by cases z), iteT (B := False) ⟨_, rfl, _, rfl, pn, names, x, rfl, (E1.trans e2) _ _ hn, ln, fun r3 H3 e3 r30 h3 => ⟨?_, nxt (qA2 hx) ⟨e2.trans e3, as ++ [r3], by rw [List.map_append]; rfl, ?_⟩⟩⟩⟩
    · rw [List.length_map]; exact qAf (by omega)
    · rw [qAk hx', List.map_append]
      exact Paired.snoc (Paired.mapP pr fun a t z => ⟨e3 _ _ z.1, z.2⟩) ⟨h3, (E1.trans e2).none r30⟩
  · rintro ys H2 ⟨e2, as, rfl, pr⟩ b hb
    rw [List.length_map, List.take_of_length_le (Nat.le_refl _)] at pr
    have E2 := E1.trans e2
    have Xb := Ext.new hb (.lst (as.map V.ref))
    refine ⟨(by show 2 ≤ sizeLine; decide), fun T hT => ?_⟩
    have XT := Xb.trans (Ext.new hT (.tup [V.ref l1, V.ref b]))
    refine q T M _ (E2.trans XT) ((E2.trans Xb).none hT) ⟨l1, b, upd_same, XT _ _ (e2 _ _ (e1 _ _ upd_same)), hl1, ⟨as, (Ext.new hT _) _ _ upd_same, Paired.mapP pr fun a t z => ⟨XT _ _ z.1, z.2, qAp z.1 hb⟩⟩, E2.none hb⟩ pM dM
theorem scStepM : FnScope ["table", "names", "rows"] ["table"] (qAc sStepM) := ⟨rfl, rfl, rfl, by decide +kernel, rfl, by decide +kernel, by decide +kernel⟩
set_option maxHeartbeats 4000000 in
theorem ok_stepM (F : Fun K "step_masks" "step_masks" sStepM f fd) (G1 : FnOk P w K mg base CX0 1 f1 fd1 ["names", "row"] spMask) (bG1 : qAz K fd1 ["names", "row"] []) (kG1 : PySem.W.keepIn K (.ref f1) = true) (mG1 : mg "mask_of" = some (.ref f1))
    (G2 : FnOk P w K mg base CX0 2 f2 fd2 ["masks"] spRedu) (bG2 : qAz K fd2 ["masks"] []) (kG2 : PySem.W.keepIn K (.ref f2) = true) (mG2 : mg "reduced" = some (.ref f2)) : FnOk P w K mg base CX0 3 f fd ["table"] spStepM := by
  refine F.ok scStepM (fun vs H Q E h => ?_) (fun cdv A outer s H vs Q E hr h => ?_)
  · obtain ⟨T, names, rows, rfl, _⟩ := h
    rfl
  obtain ⟨T, names, rows, rfl, ⟨a, b, hT, ha, ⟨as, hb, pr⟩⟩, lr, q⟩ := h
  have hr1 := hr.mono (j := 1) (by decide)
  refine ⟨_, qAa (qD9 (pv 0) (qBx rfl (qAl (qAe (i := 1) scStepM.nd rfl (Or.inr rfl)) (qAl (qAe (i := 2) scStepM.nd rfl (Or.inl rfl)) qBc))))
    (qAd (qAm (qAi G2 hr rfl mG2 kG2 bG2 .nil qAu (pa_cons (pe_lc (N := ["table", "names", "rows"]) (sc := qAc sStepM) (N' := ["row", "names"]) (sub := [none, some 1]) rfl rfl (CmpOk.of (by decide +kernel)) rfl (qAs (pv 2))
      (fun C s H fp => ⟨qAe (i := 0) (by show (["row", "names"] : List Str).Nodup; decide) rfl (Or.inl rfl), qA0, qAi G1 hr1 rfl mG1 kG1 bG1 .nil qAu (pa_cons (pv 1) (pa_cons (pv 0) pa_nil))⟩)) pa_nil)))), ?_⟩
  try dsimp only [Cx.wish, qB8]
  have la : as.length = rows.length := pr.length
  refine ⟨_, rfl, T, _, rfl, SqT.of hT, rfl, _, _, rfl, _, _, rfl, rfl, ?_⟩
  refine ⟨_, rfl, b, rfl, ⟨_, SqL.of hb⟩, ?_⟩
  refine qAq (xs := as.map V.ref) (fun j ys H2 => H2 = H ∧ ys = ((rows.take j).map (maskF names)).map iV) ⟨rfl, rfl⟩ (fun j ys H2 _ h => by rw [h.1]; exact SqL.of hb) ?_ ?_
  · rintro j v ys H2 hx ⟨rfl, rfl⟩
    obtain ⟨c, rfl, hc⟩ := qB4 hx
    obtain ⟨rw1, hrw, hc1⟩ := qAy pr hc
    have hj := qA2 hrw
    refine ⟨Sle.set _ (Sle.refl _) (fun u z => by cases z), iteT (B := False) ⟨_, rfl, _, rfl, a, c, names, rw1, rfl, ha, hc1, ?_, nxt (qA2 hx) ⟨rfl, ?_⟩⟩⟩
    · rw [List.length_map, List.length_map, List.length_take]; exact qAf (by omega)
    · rw [qAk hrw, List.map_append, List.map_append]; rfl
  · rintro ys H2 ⟨rfl, rfl⟩ l hl
    rw [List.length_map, la, List.take_of_length_le (Nat.le_refl _)]
    have n1 := Ext.new hl (.lst ((rows.map (maskF names)).map iV))
    refine ⟨l, _, rfl, upd_same, by rw [List.length_map]; exact lr, fun r M H1 e1 r0 hM pM dM => ?_⟩
    exact q r M H1 (n1.trans e1) (n1.none r0) hM pM dM
theorem scCross : FnScope ["table", "names"] ["table"] (qAc sCross) := ⟨rfl, rfl, rfl, by decide +kernel, rfl, by decide +kernel, by decide +kernel⟩
set_option maxHeartbeats 4000000 in
theorem ok_cross (F : Fun K "crossed" "crossed" sCross f fd) (G1 : FnOk P w K mg base CX0 3 f1 fd1 ["names", "masks"] spTabF) (bG1 : qAz K fd1 ["names", "masks"] []) (kG1 : PySem.W.keepIn K (.ref f1) = true) (mG1 : mg "table_from" = some (.ref f1))
    (G2 : FnOk P w K mg base CX0 2 f2 fd2 ["steps", "width"] spCrM) (bG2 : qAz K fd2 ["steps", "width"] []) (kG2 : PySem.W.keepIn K (.ref f2) = true) (mG2 : mg "crossed_masks" = some (.ref f2))
    (G3 : FnOk P w K mg base CX0 3 f3 fd3 ["table"] spStepM) (bG3 : qAz K fd3 ["table"] []) (kG3 : PySem.W.keepIn K (.ref f3) = true) (mG3 : mg "step_masks" = some (.ref f3)) (ml : mg "len" = none) : FnOk P w K mg base CX0 4 f fd ["table"] spCross := by
  refine F.ok scCross (fun vs H Q E h => ?_) (fun cdv A outer s H vs Q E hr h => ?_)
  · obtain ⟨T, names, rows, rfl, _⟩ := h
    rfl
  obtain ⟨T, names, rows, rfl, ht, ln, lr, q⟩ := h
  have hr2 := hr.mono (j := 2) (by decide)
  refine ⟨_, qAa (qAj (i := 1) scCross.nd rfl (Or.inl rfl) (qBb qBh (pv 0) qAb (fun _ _ => rfl)))
    (qAd (qAm (qAi G1 hr rfl mG1 kG1 bG1 .nil qAu (pa_cons (pv 1) (pa_cons (qAi G2 hr2 rfl mG2 kG2 bG2 .nil qAu (pa_cons (qAi G3 hr rfl mG3 kG3 bG3 .nil qAu (pa_cons (pv 0) pa_nil)) (pa_cons (qAh qAo rfl ml PySem.boot_len (pa_cons (pv 1) pa_nil)) pa_nil))) pa_nil))))), ?_⟩
  try dsimp only [Cx.wish, qB8]
  obtain ⟨a, b, hT, ha, hb⟩ := id ht
  refine ⟨_, rfl, T, _, _, _, rfl, rfl, SqT.of hT, (by exact qAv (j := 0) rfl), ?_⟩
  refine ⟨_, rfl, _, rfl, T, names, rows, rfl, ht, lr, fun r S H1 e1 r0 hS pS dS => ?_⟩
  have rrS : RR S := (qCx _).perm pS
  have ltS : ∀ s ∈ S, s < 2 ^ names.length := fun s hs => red_lt (fun x hx => by
    obtain ⟨rw1, _, rfl⟩ := List.mem_map.mp hx
    exact maskF_lt names rw1) s (pS.mem_iff.mp hs)
  have lS : S.length ≤ 24 := by
    have := red_le (rows.map (maskF names))
    rw [List.length_map] at this
    rw [pS.length_eq]; omega
  refine ⟨_, rfl, a, _, rfl, .inl (SqL.of (e1 _ _ ha)), r, S, names.length, (by rw [List.length_map]; rfl), hS, rrS, ltS, ln, lS, fun r2 H2 e2 r20 h2 => ?_⟩
  have lc : (qEh S names.length).length ≤ 24 := by
    unfold qEh
    rw [List.length_map]
    have := List.length_filter_le (fun p => !decide (isLd S p)) (List.range names.length)
    rw [List.length_range] at this
    omega
  have E2 := e1.trans e2
  refine ⟨a, r2, names, _, rfl, E2 _ _ ha, ln, h2, lc, fun T' M H3 e3 t0 tf pM dM => ?_⟩
  exact q T' S M H3 (E2.trans e3) (E2.none t0) (tf.down E2) pS pM dM
end
end My
namespace My
open PySem L2
theorem metF_snoc (net : List Tr) (t : Tr) (x : Str) : metF (net ++ [t]) x = metF net x ++ (if (decide (t.2.1 = x) != decide (t.2.2 = x)) = true then [t.1] else []) := by
  unfold metF
  rw [List.filter_append, List.map_append]
  congr 1
  by_cases b : (decide (t.2.1 = x) != decide (t.2.2 = x)) = true
  · rw [if_pos b, List.filter_cons, if_pos b]; rfl
  · rw [if_neg b, List.filter_cons, if_neg b]; rfl
theorem metF_len (net : List Tr) (x : Str) : (metF net x).length ≤ net.length := by
  unfold metF
  rw [List.length_map]; exact List.length_filter_le _ _
section
variable {P : Program} {w : World} {K : PySem.W.Frag} {mg : Str → Option Value} {base : Heap} {f f1 f2 f3 f4 : Addr} {fd fd1 fd2 fd3 fd4 : FuncData}
theorem scTies : FnScope ["net"] ["net"] (qAc sTies) := ⟨rfl, rfl, rfl, by decide +kernel, rfl, by decide +kernel, by decide +kernel⟩
abbrev tiN : List Str := ["tie", "one", "other"]
set_option maxHeartbeats 4000000 in
theorem ok_ties (F : Fun K "ties_of" "ties_of" sTies f fd) : FnOk P w K mg base CX0 1 f fd ["net"] spTies := by
  refine F.ok scTies (fun vs H Q E h => ?_) (fun cdv A outer s H vs Q E hr h => ?_)
  · obtain ⟨p, net, rfl, _⟩ := h
    rfl
  obtain ⟨p, net, rfl, ⟨as, hp, pr⟩, hl, q⟩ := h
  refine ⟨_, qAd (qAm (pe_lc (N := ["net"]) (sc := qAc sTies) (N' := tiN) (sub := [none, none, none]) rfl rfl (CmpOk.of (by decide +kernel)) rfl (qAs (pv 0))
    (fun C s H fp => ⟨(show PG _ _ (gTup K 3 _) from qBx rfl (qAl (qAe (i := 0) (by show tiN.Nodup; decide) rfl (Or.inl rfl)) (qAl (qAe (i := 1) (by show tiN.Nodup; decide) rfl (Or.inl rfl)) (qAl (qAe (i := 2) (by show tiN.Nodup; decide) rfl (Or.inl rfl)) qBc)))), qA0, pv 0⟩))), ?_⟩
  try dsimp only [Cx.wish, qB8]
  refine ⟨_, rfl, p, rfl, ⟨_, SqL.of hp⟩, ?_⟩
  refine qFd (fun t => t.1) hp pr hl (fun a t ha C B c => ?_) (fun r hr' => q r _ (Ext.new hr' _) hr' upd_same)
  refine ⟨a, _, rfl, SqT.of ha, rfl, _, _, rfl, _, _, rfl, _, _, rfl, rfl, ?_⟩
  exact ⟨Sle.set _ (Sle.set _ (Sle.set _ (Sle.refl _) (fun u z => by cases z)) (fun u z => by cases z)) (fun u z => by cases z), iteT (B := B H) ⟨_, rfl, c⟩⟩
theorem scMet : FnScope ["net", "point"] ["net", "point"] (qAc sMet) := ⟨rfl, rfl, rfl, by decide +kernel, rfl, by decide +kernel, by decide +kernel⟩
abbrev meN : List Str := ["tie", "one", "other", "point"]
set_option maxHeartbeats 4000000 in
theorem ok_met (F : Fun K "met_once" "met_once" sMet f fd) : FnOk P w K mg base CX0 1 f fd ["net", "point"] spMet := by
  refine F.ok scMet (fun vs H Q E h => ?_) (fun cdv A outer s H vs Q E hr h => ?_)
  · obtain ⟨p, net, x, rfl, _⟩ := h
    rfl
  obtain ⟨p, net, x, rfl, ⟨as, hp, pr⟩, hl, q⟩ := h
  refine ⟨_, qAd (qAm (pe_lc (N := ["net", "point"]) (sc := qAc sMet) (N' := meN) (sub := [none, none, none, some 1]) rfl rfl (CmpOk.of (by decide +kernel)) rfl (qAs (pv 0))
    (fun C s H fp => ⟨(show PG _ _ (gTup K 3 _) from qBx rfl (qAl (qAe (i := 0) (by show meN.Nodup; decide) rfl (Or.inl rfl)) (qAl (qAe (i := 1) (by show meN.Nodup; decide) rfl (Or.inl rfl)) (qAl (qAe (i := 2) (by show meN.Nodup; decide) rfl (Or.inl rfl)) qBc)))),
      qDe (qAn qEb (qCd qDg (pv 1) (pv 3) (qAt _)) (qCd qDg (pv 2) (pv 3) (qAt _)) (qAt _)), pv 0⟩))), ?_⟩
  try dsimp only [Cx.wish, qB8]
  have lA : as.length = net.length := pr.length
  refine ⟨_, rfl, p, rfl, ⟨_, SqL.of hp⟩, ?_⟩
  refine qAq (xs := as.map V.ref) (fun j ys H2 => H2 = H ∧ ys = (metF (net.take j) x).map V.str) ⟨rfl, rfl⟩ (fun j ys H2 _ h => by rw [h.1]; exact SqL.of hp) ?_ ?_
  · rintro j v ys H2 hx ⟨rfl, rfl⟩
    obtain ⟨a, t, rfl, ht, ha⟩ := net_get pr hx
    have hj := qA2 ht
    refine ⟨a, _, rfl, SqT.of ha, rfl, _, _, rfl, _, _, rfl, _, _, rfl, rfl, ?_⟩
    refine ⟨Sle.set _ (Sle.set _ (Sle.set _ (Sle.refl _) (fun u z => by cases z)) (fun u z => by cases z)) (fun u z => by cases z), ?_⟩
    refine ⟨_, rfl, _, rfl, rfl, _, rfl, _, rfl, rfl, rfl, _, rfl, ?_⟩
    have key : ((!decide (V.bl (decide (V.str t.2.1 = V.str x)) = V.bl (decide (V.str t.2.2 = V.str x)))) = true) ↔ (decide (t.2.1 = x) != decide (t.2.2 = x)) = true := by
      by_cases a : t.2.1 = x <;> by_cases b : t.2.2 = x <;> simp [a, b]
    have sz := metF_len (net.take j) x
    rw [List.length_take] at sz
    refine qCm (fun c => ?_) (fun c => ?_)
    · have b := key.mp c
      refine ⟨_, rfl, by rw [List.length_map]; exact qAf (by omega), nxt (qA2 hx) ⟨rfl, ?_⟩⟩
      rw [qAk ht, metF_snoc, if_pos b, List.map_append]; rfl
    · have b : ¬ (decide (t.2.1 = x) != decide (t.2.2 = x)) = true := fun z => c (key.mpr z)
      refine nxt (qA2 hx) ⟨rfl, ?_⟩
      rw [qAk ht, metF_snoc, if_neg b, List.append_nil]
  · rintro ys H2 ⟨rfl, rfl⟩ r hr'
    rw [List.length_map, lA, List.take_of_length_le (Nat.le_refl _)]
    exact q r _ (Ext.new hr' _) hr' upd_same
theorem scTable : FnScope ["net"] ["net"] (qAc sTable) := ⟨rfl, rfl, rfl, by decide +kernel, rfl, by decide +kernel, by decide +kernel⟩
set_option maxHeartbeats 4000000 in
theorem ok_table (F : Fun K "table_of" "table_of" sTable f fd) (G1 : FnOk P w K mg base CX0 4 f1 fd1 ["table"] spCross) (bG1 : qAz K fd1 ["table"] []) (kG1 : PySem.W.keepIn K (.ref f1) = true) (mG1 : mg "crossed" = some (.ref f1))
    (G2 : FnOk P w K mg base CX0 1 f2 fd2 ["net"] spTies) (bG2 : qAz K fd2 ["net"] []) (kG2 : PySem.W.keepIn K (.ref f2) = true) (mG2 : mg "ties_of" = some (.ref f2))
    (G3 : FnOk P w K mg base CX0 1 f3 fd3 ["net", "point"] spMet) (bG3 : qAz K fd3 ["net", "point"] []) (kG3 : PySem.W.keepIn K (.ref f3) = true) (mG3 : mg "met_once" = some (.ref f3))
    (G4 : FnOk P w K mg base CX0 1 f4 fd4 ["net"] spPoints) (bG4 : qAz K fd4 ["net"] []) (kG4 : PySem.W.keepIn K (.ref f4) = true) (mG4 : mg "points" = some (.ref f4)) : FnOk P w K mg base CX0 5 f fd ["net"] spTable := by
  refine F.ok scTable (fun vs H Q E h => ?_) (fun cdv A outer s H vs Q E hr h => ?_)
  · obtain ⟨p, net, rfl, _⟩ := h
    rfl
  obtain ⟨p, net, rfl, nt, hl, q⟩ := h
  have hr1 := hr.mono (j := 1) (by decide)
  refine ⟨_, qAd (qAm (qAi G1 hr rfl mG1 kG1 bG1 .nil qAu (pa_cons (qBy (pa_cons (qAi G2 hr1 rfl mG2 kG2 bG2 .nil qAu (pa_cons (pv 0) pa_nil)) (pa_cons
    (pe_lc (N := ["net"]) (sc := qAc sTable) (N' := ["point", "net"]) (sub := [none, some 0]) rfl rfl (CmpOk.of (by decide +kernel)) rfl (qAs (qAi G4 hr1 rfl mG4 kG4 bG4 .nil qAu (pa_cons (pv 0) pa_nil)))
      (fun C s H fp => ⟨qAe (i := 0) (by show (["point", "net"] : List Str).Nodup; decide) rfl (Or.inl rfl), qA0, qAi G3 hr1 rfl mG3 kG3 bG3 .nil qAu (pa_cons (pv 1) (pa_cons (pv 0) pa_nil))⟩)) pa_nil))) pa_nil))), ?_⟩
  try dsimp only [Cx.wish, qB8]
  refine ⟨_, rfl, p, net, rfl, nt, by omega, fun tl H1 e1 tl0 htl => ?_⟩
  refine ⟨_, rfl, p, net, rfl, nt.ext e1, hl, fun pl ps H2 e2 pl0 hpl pok psr lps => ⟨pl, rfl, ⟨_, SqL.of hpl⟩, ?_⟩⟩
  have E2 := e1.trans e2
  refine qAq (xs := ps.map V.str) (fun j ys H3 => Ext H2 H3 ∧ ∃ as, ys = as.map V.ref ∧ Paired (LsS H3) as ((ps.take j).map (metF net))) ⟨Ext.refl _, [], rfl, .nil⟩ (fun j ys H3 _ h => SqL.of (h.1 _ _ hpl)) ?_ ?_
  · rintro j x ys H3 hx ⟨e3, as, rfl, pr⟩
    obtain ⟨y, rfl, hy⟩ := qDy hx
    have hj := qA2 hy
    have la : as.length = _ := pr.length
    rw [List.length_map, List.length_take] at la
    refine ⟨Sle.set _ (Sle.refl _) (fun u z => by cases z), iteT (B := False) ⟨_, rfl, _, rfl, p, net, y, rfl, nt.ext (E2.trans e3), hl, fun r4 H4 e4 r40 hr4 => ⟨?_, nxt (qA2 hx) ⟨e3.trans e4, as ++ [r4], by rw [List.map_append]; rfl, ?_⟩⟩⟩⟩
    · rw [List.length_map]; exact qAf (by omega)
    · rw [qAk hy, List.map_append]
      exact Paired.snoc (Paired.mapP pr fun a t z => e4 _ _ z) hr4
  · rintro ys H3 ⟨e3, as, rfl, pr⟩ b hb
    rw [List.length_map, List.take_of_length_le (Nat.le_refl _)] at pr
    have Xb := Ext.new hb (.lst (as.map V.ref))
    refine ⟨(by show 2 ≤ sizeLine; decide), fun T hT => ?_⟩
    have XT := Xb.trans (Ext.new hT (.tup [V.ref tl, V.ref b]))
    have E3 := (E2.trans e3).trans XT
    refine ⟨T, net.map (fun t : Tr => t.1), ps.map (metF net), rfl, ⟨tl, b, upd_same, (e2.trans (e3.trans XT)) _ _ htl, ⟨as, (Ext.new hT _) _ _ upd_same, Paired.mapP pr fun a t z => XT _ _ z⟩⟩, by rw [List.length_map]; exact hl, by rw [List.length_map]; exact lps, fun T' S M H4 e4 t0 tf pS pM dM => ?_⟩
    rw [List.map_map] at pS
    rw [List.length_map] at pM
    exact q T' ps S M H4 (E3.trans e4) (E3.none t0) (tf.down E3) pok psr pS pM dM
end
end My
namespace My
open PySem L2
def ixF (ps : List Str) (x : Str) : Nat := ps.findIdx fun y => decide (y = x)
theorem ixF_at {ps : List Str} {x : Str} (h : x ∈ ps) : ps[ixF ps x]? = some x ∧ (∀ k, k < ixF ps x → ps[k]? ≠ some x) ∧ ixF ps x < ps.length := by
  have lt : ixF ps x < ps.length := List.findIdx_lt_length_of_exists ⟨x, h, by simp⟩
  have at_ : ps[ixF ps x] = x := by
    have := List.findIdx_getElem (w := lt)
    exact of_decide_eq_true this
  refine ⟨by rw [List.getElem?_eq_getElem lt, at_], fun k hk e => ?_, lt⟩
  have := List.not_of_lt_findIdx hk
  have kl : k < ps.length := Nat.lt_trans hk lt
  rw [List.getElem?_eq_getElem kl] at e
  have e' := Option.some.inj e
  simp [e'] at this
def vT (ps : List Str) (t : Tr) : Nat := 2 ^ ixF ps t.2.1 ^^^ 2 ^ ixF ps t.2.2
def vF (net : List Tr) (ps : List Str) (i : Nat) : Nat := match net[i]? with | some t => vT ps t | none => 0
theorem vF_at {net : List Tr} {ps : List Str} {i : Nat} {t : Tr} (h : net[i]? = some t) : vF net ps i = vT ps t := by unfold vF; rw [h]
def phi (M : Nat) (Z : Nat → Bool) (z : Nat) : Bool := xsum M fun q => z.testBit q && Z q
theorem phi_xor (M : Nat) (Z : Nat → Bool) (x y : Nat) : phi M Z (x ^^^ y) = (phi M Z x ^^ phi M Z y) := by
  unfold phi
  rw [← qE7]
  refine qA6 fun j _ => ?_
  rw [Nat.testBit_xor]
  cases x.testBit j <;> cases y.testBit j <;> cases Z j <;> rfl
theorem phi_zero (M : Nat) (Z : Nat → Bool) : phi M Z 0 = false := by
  unfold phi
  rw [qA6 (g := fun _ => false) fun j _ => by simp, qCl]
theorem phi_pow {M p : Nat} {Z : Nat → Bool} (h : p < M) : phi M Z (2 ^ p) = Z p := by
  unfold phi
  rw [qD3 (l := p) fun j _ ne => by rw [Nat.testBit_two_pow, decide_eq_false (fun z => ne z.symm)]; rfl, Nat.testBit_two_pow]
  simp [h]
theorem phi_bd (M : Nat) (Z : Nat → Bool) (V : Nat → Nat) : ∀ m y : Nat, phi M Z (bd V m y) = xsum m fun j => y.testBit j && phi M Z (V j)
  | 0, y => by show phi M Z 0 = false; exact phi_zero M Z
  | m + 1, y => by
    show phi M Z (bd V m y ^^^ _) = (xsum m _ ^^ (y.testBit m && phi M Z (V m)))
    rw [phi_xor, phi_bd M Z V m y]
    cases y.testBit m
    · simp [phi_zero]
    · simp
theorem even_hom {net : List Tr} {ps : List Str} (hp : ∀ x, isPt net x → x ∈ ps) {i m : Nat} {K : List (Nat × Nat)} {F : List Nat} (h : EIv (vF net ps) m i K F) (hi : i < m) {t : Tr} (ht : net[i]? = some t) :
    (el K (vF net ps i, 2 ^ i)).1 = 0 ↔ qA1 (net.take i) t.2.1 = qA1 (net.take i) t.2.2 := by
  have tm := List.mem_of_getElem? ht
  have pa : t.2.1 ∈ ps := hp _ ⟨t, tm, .inl rfl⟩
  have pb : t.2.2 ∈ ps := hp _ ⟨t, tm, .inr rfl⟩
  have il : i < net.length := qA2 ht
  have got : ∀ j, j < i → ∃ u, net[j]? = some u ∧ u ∈ net.take i ∧ u ∈ net := fun j hj => by
    have jl : j < net.length := by omega
    refine ⟨net[j], List.getElem?_eq_getElem jl, ?_, List.getElem_mem jl⟩
    refine List.mem_of_getElem? (i := j) ?_
    rw [List.getElem?_take, if_pos hj, List.getElem?_eq_getElem jl]
  constructor
  · intro r0
    refine Classical.byContradiction fun ne => ?_
    obtain ⟨a, b, c, d, _⟩ := h.run hi
    have c' : (el K (vF net ps i, 2 ^ i)).2 ^^^ 2 ^ i < 2 ^ i := Spn.lt (fun x hx => by
      obtain ⟨f, hf, rfl⟩ := List.mem_map.mp hx
      exact h.kl f hf) b
    have e : (el K (vF net ps i, 2 ^ i)).1 = bd (vF net ps) m ((el K (vF net ps i, 2 ^ i)).2 ^^^ 2 ^ i) ^^^ vF net ps i := by
      rw [qCz, bd_pow hi, ← a, qBi]
    have Zix : ∀ {x : Str}, x ∈ ps → phi ps.length (fun q => decide (qA1 (net.take i) (ps.getD q "") = qA1 (net.take i) t.2.1)) (2 ^ ixF ps x) = decide (qA1 (net.take i) x = qA1 (net.take i) t.2.1) := fun {x} hx => by
      obtain ⟨h1, _, h3⟩ := ixF_at hx
      rw [phi_pow h3]
      show decide (qA1 (net.take i) (ps.getD (ixF ps x) "") = _) = _
      rw [List.getD_eq_getElem?_getD, h1]; rfl
    have p0 := congrArg (phi ps.length (fun q => decide (qA1 (net.take i) (ps.getD q "") = qA1 (net.take i) t.2.1))) e
    rw [r0, phi_zero, phi_xor, phi_bd] at p0
    have z1 : (xsum m fun j => ((el K (vF net ps i, 2 ^ i)).2 ^^^ 2 ^ i).testBit j && phi ps.length (fun q => decide (qA1 (net.take i) (ps.getD q "") = qA1 (net.take i) t.2.1)) (vF net ps j)) = false := by
      rw [qA6 (g := fun _ => false) fun j _ => ?_, qCl]
      by_cases hj : j < i
      · obtain ⟨u, hu, hu2, hu3⟩ := got j hj
        rw [vF_at hu]
        unfold vT
        rw [phi_xor, Zix (hp _ ⟨u, hu3, .inl rfl⟩), Zix (hp _ ⟨u, hu3, .inr rfl⟩), homF_tie (net.take i) u hu2]
        simp
      · rw [qEn c' (by omega)]; rfl
    rw [z1, vF_at ht] at p0
    unfold vT at p0
    rw [phi_xor, Zix pa, Zix pb, decide_eq_true rfl, decide_eq_false (fun z => ne z.symm)] at p0
    cases p0
  · intro e
    have S := qGl (net.take i) (fun z => ∃ y, y < 2 ^ i ∧ bd (vF net ps) m y = 2 ^ ixF ps t.2.1 ^^^ 2 ^ ixF ps z) (fun u hu => by
      obtain ⟨j, hj, ej⟩ := List.getElem_of_mem hu
      have ji : j < i := by rw [List.length_take] at hj; omega
      have uj : net[j]? = some u := by
        have : (net.take i)[j]? = some u := by rw [List.getElem?_eq_getElem hj, ej]
        rw [List.getElem?_take, if_pos ji] at this
        exact this
      have jm : j < m := by omega
      have b : bd (vF net ps) m (2 ^ j) = 2 ^ ixF ps u.2.1 ^^^ 2 ^ ixF ps u.2.2 := by rw [bd_pow jm, vF_at uj]; rfl
      have pj : 2 ^ j < 2 ^ i := Nat.pow_lt_pow_right (by decide) ji
      constructor
      · rintro ⟨y, hy, ey⟩
        refine ⟨y ^^^ 2 ^ j, Nat.xor_lt_two_pow hy pj, ?_⟩
        rw [qCz, ey, b, ← Nat.xor_assoc, qBi]
      · rintro ⟨y, hy, ey⟩
        refine ⟨y ^^^ 2 ^ j, Nat.xor_lt_two_pow hy pj, ?_⟩
        rw [qCz, ey, b, Nat.xor_comm (2 ^ ixF ps u.2.1), ← Nat.xor_assoc, qBi]) t.2.1 t.2.2 e
    obtain ⟨y, hy, ey⟩ := S.mp ⟨0, Nat.pow_pos (by decide), by rw [qEw, Nat.xor_self]⟩
    exact h.none hi hy (by rw [ey, vF_at ht]; rfl)
theorem even_wood {net : List Tr} {ps : List Str} (hp : ∀ x, isPt net x → x ∈ ps) {i m : Nat} {K : List (Nat × Nat)} {F : List Nat} (h : EIv (vF net ps) m i K F) (hi : i < m) {t : Tr} (ht : net[i]? = some t) (hk : K.length = (qCh (net.take i)).length) :
    if (el K (vF net ps i, 2 ^ i)).1 = 0 then K.length = (qCh (net.take (i + 1))).length else (K ++ [el K (vF net ps i, 2 ^ i)]).length = (qCh (net.take (i + 1))).length := by
  have e := even_hom hp h hi ht
  rw [qAk ht, qDo]
  unfold wStep
  rw [qFt]
  split
  · rename_i z
    rw [if_pos (e.mp z)]; exact hk
  · rename_i z
    rw [if_neg (fun w => z (e.mpr w)), List.length_append, List.length_append, hk]; rfl
end My
namespace My
open PySem L2
def spLRed : Sp := fun vs H Q _ => ∃ (p : Addr) (ms : List Nat) (m : Nat), vs = [.ref p] ∧ LsN H p ms ∧ ms.length ≤ 24 ∧ (∀ x ∈ ms, x < 2 ^ m) ∧ ∀ r H', Ext H H' → H r = none → LsN H' r (redL ms) → Q (.ref r) H'
theorem redL1_snoc (k : List Nat) (s x : Nat) : redL1 (k ++ [s]) x = rdL (redL1 k x) s := by unfold redL1; rw [List.foldl_append]; rfl
theorem redL_le (xs : List Nat) : (redL xs).length ≤ xs.length := by
  refine snocN (P := fun xs => (redL xs).length ≤ xs.length) (Nat.le_refl _) (fun l t ih => ?_) xs
  rw [qFk, List.length_append]
  unfold redLS
  split
  · exact Nat.le_trans ih (Nat.le_add_right _ _)
  · rw [List.length_append, List.length_map]; exact Nat.add_le_add_right ih _
def KeptAt (H : Hp) (p : Addr) (K : List (Nat × Nat)) : Prop := ∃ as : List Addr, H p = some (.lst (as.map V.ref)) ∧ Paired (fun a f => H a = some (.tup [iV f.1, iV f.2])) as K
def spLEven : Sp := fun vs H Q _ => ∃ (p : Addr) (net : List Tr), vs = [.ref p] ∧ qCq H p net ∧ net.length ≤ 12 ∧ ∀ (r : Addr) (F : List Nat) (K : List (Nat × Nat)) (ps : List Str) (H' : Hp), Ext H H' → H r = none → LsN H' r F → qF1 net ps → EIv (vF net ps) net.length net.length K F → K.length = (qCh net).length → Q (.ref r) H'
def rowL (names : List Str) (x : Nat) : List Str := (List.range names.length).filterMap fun i => if x.testBit i = true then names[i]? else none
def spLRow : Sp := fun vs H Q _ => ∃ (pn : Addr) (names : List Str) (x : Nat), vs = [.ref pn, iV x] ∧ LsS H pn names ∧ names.length ≤ 12 ∧ ∀ r H', Ext H H' → H r = none → LsS H' r (rowL names x) → Q (.ref r) H'
theorem el_snoc (k : List (Nat × Nat)) (f v : Nat × Nat) : el (k ++ [f]) v = el1 (el k v) f := by unfold el; rw [List.foldl_append]; rfl
section
variable {P : Program} {w : World} {K : PySem.W.Frag} {mg : Str → Option Value} {base : Heap} {f f1 f2 f3 f4 : Addr} {fd fd1 fd2 fd3 fd4 : FuncData}
abbrev lrN : List Str := ["_law_numbers", "_law_rows", "_law_number", "_law_row_here", "_law_lead"]
abbrev lrC : List Str := ["_law_row_here", "_law_number", "_law_lead"]
theorem qFh : FnScope lrN ["_law_numbers"] (qAc sLRed) := ⟨rfl, rfl, rfl, by decide +kernel, rfl, by decide +kernel, by decide +kernel⟩
set_option maxHeartbeats 8000000 in
theorem ok_lred (F : Fun K "_law_reduced" "_law_reduced" sLRed f fd) : FnOk P w K mg base CX0 1 f fd ["_law_numbers"] spLRed := by
  refine F.ok qFh (fun vs H Q E h => ?_) (fun cdv A outer s H vs Q E hr h => ?_)
  · obtain ⟨p, ms, m, rfl, _⟩ := h
    rfl
  obtain ⟨p, ms, m, rfl, hp, lm, lt, q⟩ := h
  refine ⟨_, qAa (qAj (i := 1) qFh.nd rfl (Or.inl rfl) (qBe pa_nil))
    (qAa (qBl PassesOwn.never rfl (qAs (pv 0)) (qAe (i := 2) qFh.nd rfl (Or.inr rfl))
      (qAa (qBl PassesOwn.never rfl (qAs (pv 1)) (qAe (i := 3) qFh.nd rfl (Or.inl rfl))
        (qAd (qBf (qAn qEb (qAg qCg (qAg qCg (pv 2) (pv 3)) (pe_un un_neg (pv 3))) qAb (qAt _)) (qAd (qAj (i := 2) qFh.nd rfl (Or.inr rfl) (qAg qE0 (pv 2) (pv 3)))) qAx)))
      (qAd (qBf (qAn qEb (pv 2) qAb (qAt _))
        (qAa (qAj (i := 4) qFh.nd rfl (Or.inr rfl) (qAg qCg (pv 2) (pe_un un_neg (pv 2))))
        (qAd (qAj (i := 1) qFh.nd rfl (Or.inl rfl) (qAg qE2 (pe_lc (N := lrN) (sc := qAc sLRed) (N' := lrC) (sub := [none, some 2, some 4]) rfl rfl (CmpOk.of (by decide +kernel)) rfl (qAs (pv 1))
          (fun C s H fp => ⟨qAe (i := 0) (by show lrC.Nodup; decide) rfl (Or.inl rfl), qA0, qC5 (qAn qEb (qAg qCg (pv 0) (pv 2)) qAb (qAt _)) (qAg qE0 (pv 0) (pv 1)) (pv 0)⟩)) (qBe (pa_cons (pv 2) pa_nil))))))
        qAx))))
    (qAd (qAm (pv 1)))), ?_⟩
  try dsimp only [Cx.wish, qB8]
  refine ⟨Nat.zero_le _, fun ro ro0 => ?_⟩
  have X0 := Ext.new ro0 (.lst [])
  refine ⟨_, rfl, p, rfl, ⟨_, SqL.of (X0 _ _ hp)⟩, ?_⟩
  refine qB0 (xs := ms.map iV) (fun i σ H' => ∃ (ro : Addr) (x2 x3 x4 : Option V), σ = [some (.ref p), some (.ref ro), x2, x3, x4] ∧ Ext H H' ∧ H ro = none ∧ LsN H' ro (redL (ms.take i))) ⟨ro, none, none, none, rfl, X0, ro0, upd_same⟩ (fun i σ H' _ h => by obtain ⟨_, _, _, _, _, e, _⟩ := h; exact SqL.of (e _ _ hp)) ?_ ?_
  · rintro i v σ H' hx ⟨ro, x2, x3, x4, rfl, e, ro0, hk⟩
    obtain ⟨n, rfl, hn⟩ := qC9 hx
    have hi : i < ms.length := qA2 hn
    have nl := lt n (List.mem_of_getElem? hn)
    obtain ⟨gm, _⟩ := qDc (m := m) (ms.take i) fun x hx => lt x (List.mem_of_mem_take hx)
    have lr := redL_le (ms.take i)
    rw [List.length_take] at lr
    have sn : redL (ms.take (i + 1)) = redLS (redL (ms.take i)) n := by rw [qAk hn, qFk]
    refine ⟨_, rfl, ro, rfl, ⟨_, SqL.of hk⟩, ?_⟩
    refine qB0 (xs := (redL (ms.take i)).map iV) (fun j σ H2 => H2 = H' ∧ ∃ x3 : Option V, σ = [some (.ref p), some (.ref ro), some (iV (redL1 ((redL (ms.take i)).take j) n)), x3, x4]) ⟨rfl, x3, rfl⟩ (fun j σ H2 _ h => by rw [h.1]; exact SqL.of hk) ?_ ?_
    · rintro j v σ H2 hx2 ⟨rfl, x3, rfl⟩
      obtain ⟨s, rfl, hs⟩ := qC9 hx2
      have snz := (gm s (List.mem_of_getElem? hs)).2
      have st : redL1 ((redL (ms.take i)).take (j + 1)) n = rdL (redL1 ((redL (ms.take i)).take j) n) s := by rw [qAk hs, redL1_snoc]
      refine ⟨_, rfl, _, rfl, _, _, rfl, rfl, _, rfl, _, rfl, _, _, rfl, rfl, rfl, _, rfl, ?_⟩
      have lt2 := low_test (redL1 ((redL (ms.take i)).take j) n) snz
      have key : ((!decide (V.int (Builtin.bitAnd (Builtin.bitAnd ((redL1 ((redL (ms.take i)).take j) n : Nat) : Int) (s : Int)) (-(s : Int))) = V.int 0)) = true) ↔ (redL1 ((redL (ms.take i)).take j) n).testBit (lo s) = true := by
        rw [← lt2]; simp
      refine qCm (fun c => ?_) (fun c => ?_)
      · refine ⟨_, rfl, _, rfl, _, _, rfl, rfl, rfl, some (iV s), ?_⟩
        rw [st, show rdL (redL1 ((redL (ms.take i)).take j) n) s = redL1 ((redL (ms.take i)).take j) n ^^^ s from if_pos (key.mp c), show iV (redL1 ((redL (ms.take i)).take j) n ^^^ s) = V.int (Builtin.bitXor ((redL1 ((redL (ms.take i)).take j) n : Nat) : Int) (s : Int)) by rw [qC8]]
        rfl
      · refine ⟨rfl, some (iV s), ?_⟩
        rw [st, show rdL (redL1 ((redL (ms.take i)).take j) n) s = redL1 ((redL (ms.take i)).take j) n from if_neg fun z => c (key.mpr z)]
        rfl
    · rintro σ H2 ⟨rfl, x3, rfl⟩
      rw [List.length_map, List.take_of_length_le (Nat.le_refl _)]
      refine ⟨_, rfl, rfl, _, rfl, ?_⟩
      refine qCm (fun c => ?_) (fun c => ?_)
      · have nz : redL1 (redL (ms.take i)) n ≠ 0 := fun z => by rw [z] at c; simp at c
        have lb := low_bit nz
        refine ⟨_, rfl, _, rfl, _, rfl, _, _, rfl, rfl, ?_⟩
        refine ⟨_, rfl, ro, rfl, ⟨_, SqL.of hk⟩, ?_⟩
        refine qAq (xs := (redL (ms.take i)).map iV) (fun j ys H3 => H3 = H2 ∧ ys = (((redL (ms.take i)).take j).map fun s => rdL s (redL1 (redL (ms.take i)) n)).map iV) ⟨rfl, rfl⟩ (fun j ys H3 _ h => by rw [h.1]; exact SqL.of hk) ?_ ?_
        · rintro j v ys H3 hx3 ⟨rfl, rfl⟩
          obtain ⟨s, rfl, hs⟩ := qC9 hx3
          have hj := qA2 hs
          have sz : ((((redL (ms.take i)).take j).map fun s => rdL s (redL1 (redL (ms.take i)) n)).map iV).length < sizeLine := by
            rw [List.length_map, List.length_map, List.length_take]; exact qAf (by omega)
          have ap := and_pow s (lo (redL1 (redL (ms.take i)) n))
          have key : ((!decide (V.int (Builtin.bitAnd (s : Int) (Builtin.bitAnd ((redL1 (redL (ms.take i)) n : Nat) : Int) (-((redL1 (redL (ms.take i)) n : Nat) : Int)))) = V.int 0)) = true) ↔ s.testBit (lo (redL1 (redL (ms.take i)) n)) = true := by
            rw [lb, qCk, ← ap]; simp
          refine ⟨Sle.set _ (Sle.refl _) (fun u z => by cases z), iteT (B := False) ?_⟩
          refine ⟨_, rfl, _, rfl, _, _, rfl, rfl, rfl, _, rfl, ?_⟩
          refine qCm (fun c3 => ?_) (fun c3 => ?_)
          · refine ⟨_, rfl, _, rfl, _, _, rfl, rfl, sz, nxt (qA2 hx3) ⟨rfl, ?_⟩⟩
            rw [qAk hs, List.map_append, List.map_append, List.map_singleton, List.map_singleton, show rdL s (redL1 (redL (ms.take i)) n) = s ^^^ redL1 (redL (ms.take i)) n from if_pos (key.mp c3), show iV (s ^^^ redL1 (redL (ms.take i)) n) = V.int (Builtin.bitXor (s : Int) ((redL1 (redL (ms.take i)) n : Nat) : Int)) by rw [qC8]]
          · refine ⟨_, rfl, sz, nxt (qA2 hx3) ⟨rfl, ?_⟩⟩
            rw [qAk hs, List.map_append, List.map_append, List.map_singleton, List.map_singleton, show rdL s (redL1 (redL (ms.take i)) n) = s from if_neg fun z => c3 (key.mpr z)]
        · rintro ys H3 ⟨rfl, rfl⟩ l1 hl1
          rw [List.length_map, List.take_of_length_le (Nat.le_refl _)]
          have n1 := Ext.new hl1 (.lst (((redL (ms.take i)).map fun s => rdL s (redL1 (redL (ms.take i)) n)).map iV))
          refine ⟨_, rfl, (by show 1 ≤ sizeLine; decide), fun l2 hl2 => ?_⟩
          have n2 := Ext.new hl2 (.lst [iV (redL1 (redL (ms.take i)) n)])
          refine ⟨l1, l2, _, _, rfl, rfl, n2 _ _ upd_same, upd_same, ?_, fun l3 hl3 => ?_⟩
          · rw [List.length_map, List.length_map]
            show _ + 1 ≤ sizeLine
            exact Nat.le_of_lt (qAf (by omega))
          · refine ⟨l3, _, _, _, rfl, ((e.trans n1).trans n2).trans (Ext.new hl3 _), ((e.trans n1).trans n2).none hl3, ?_⟩
            rw [sn]
            unfold redLS LsN
            rw [if_neg nz, upd_same, List.map_append]
            rfl
      · have z : redL1 (redL (ms.take i)) n = 0 := by
          have : (redL1 (redL (ms.take i)) n : Int) = 0 := by simpa using c
          omega
        refine ⟨ro, _, _, _, rfl, e, ro0, ?_⟩
        rw [sn]
        unfold redLS
        rw [if_pos z]
        exact hk
  · rintro σ H' ⟨ro, x2, x3, x4, rfl, e, ro0, hk⟩
    rw [List.length_map, List.take_of_length_le (Nat.le_refl _)] at hk
    exact ⟨_, rfl, q ro _ e ro0 hk⟩
theorem scLRow : FnScope ["_law_names_here", "_law_number"] ["_law_names_here", "_law_number"] (qAc sLRow) := ⟨rfl, rfl, rfl, by decide +kernel, rfl, by decide +kernel, by decide +kernel⟩
abbrev lwN : List Str := ["_law_k", "_law_name", "_law_number"]
set_option maxHeartbeats 4000000 in
theorem ok_lrow (F : Fun K "_law_row" "_law_row" sLRow f fd) (me : mg "enumerate" = none) : FnOk P w K mg base CX0 1 f fd ["_law_names_here", "_law_number"] spLRow := by
  refine F.ok scLRow (fun vs H Q E h => ?_) (fun cdv A outer s H vs Q E hr h => ?_)
  · obtain ⟨pn, names, x, rfl, _⟩ := h
    rfl
  obtain ⟨pn, names, x, rfl, hn, ln, q⟩ := h
  refine ⟨_, qAd (qAm (pe_lc (N := ["_law_names_here", "_law_number"]) (sc := qAc sLRow) (N' := lwN) (sub := [none, none, some 1]) rfl rfl (CmpOk.of (by decide +kernel)) rfl (pi_enum rfl me (pa_cons (pv 0) pa_nil))
      (fun C s H fp => ⟨(show PG _ _ (gTup K 2 _) from qBx rfl (qAl (qAe (i := 0) (by show lwN.Nodup; decide) rfl (Or.inl rfl)) (qAl (qAe (i := 1) (by show lwN.Nodup; decide) rfl (Or.inl rfl)) qBc))),
        qDe (qAn qDg (qAg qCg (qAg qGe (pv 2) (pv 0)) qAb) qAb (qAt _)), pv 1⟩))), ?_⟩
  try dsimp only [Cx.wish, qB8]
  refine ⟨_, rfl, pn, _, rfl, SqL.of hn, ?_⟩
  rw [List.length_map]
  refine qD5 (fun i ys H' => Ext H H' ∧ ys = ((List.range i).filterMap fun i => if x.testBit i = true then names[i]? else none).map V.str) ⟨Ext.refl _, rfl⟩ (fun i ys H' _ p => SqL.of (p.1 _ _ hn)) ?_ ?_
  · rintro i ys H' T hi ⟨e, rfl⟩ hT
    have gd : (names.map V.str).getD i .non = .str names[i] := by rw [List.getD_eq_getElem?_getD, List.getElem?_map, List.getElem?_eq_getElem hi]; rfl
    have e2 := e.trans (Ext.new hT (.tup [V.int (i : Nat), (names.map V.str).getD i .non]))
    refine ⟨T, _, rfl, SqT.of upd_same, rfl, _, _, rfl, _, _, rfl, rfl, ?_⟩
    refine ⟨Sle.set _ (Sle.set _ (Sle.refl _) (fun u z => by cases z)) (fun u z => by cases z), ?_⟩
    refine ⟨_, rfl, _, rfl, _, _, rfl, rfl, (by show (0 : Int) ≤ _; omega), _, _, rfl, rfl, rfl, _, rfl, ?_⟩
    have fm : ((List.range (i + 1)).filterMap fun i => if x.testBit i = true then names[i]? else none) = ((List.range i).filterMap fun i => if x.testBit i = true then names[i]? else none) ++ (if x.testBit i = true then [names[i]] else []) := by
      rw [List.range_succ, List.filterMap_append]
      congr 1
      by_cases b : x.testBit i = true
      · simp [b, List.getElem?_eq_getElem hi]
      · simp [b]
    have sz := List.length_filterMap_le (fun i => if x.testBit i = true then names[i]? else none) (List.range i)
    rw [List.length_range] at sz
    have key : (decide (V.int (Builtin.bitAnd ((x : Int) / 2 ^ (((i : Nat) : Int)).toNat) 1) = V.int 1) = true) ↔ x.testBit i = true := by
      rw [decide_eq_true_iff, V.int.injEq, Int.toNat_natCast, qFg]
      by_cases b : x.testBit i = true
      · simp [b]
      · simp [b]
    refine qCm (fun c => ?_) (fun c => ?_)
    · have b := key.mp c
      refine ⟨_, rfl, by rw [List.length_map]; exact qAf (by omega), nxt hi ⟨e2, ?_⟩⟩
      rw [fm, if_pos b, List.map_append, gd]; rfl
    · have b : ¬ x.testBit i = true := fun z => c (key.mpr z)
      refine nxt hi ⟨e2, ?_⟩
      rw [fm, if_neg b, List.append_nil]
  · rintro ys H' ⟨e, rfl⟩ r hr'
    exact q r _ (e.trans (Ext.new hr' _)) (e.none hr') upd_same
end
end My
namespace My
open PySem L2
theorem KeptAt.ext {H H' : Hp} {p : Addr} {K : List (Nat × Nat)} (h : KeptAt H p K) (e : Ext H H') : KeptAt H' p K := by
  obtain ⟨as, h1, h2⟩ := h
  exact ⟨as, e _ _ h1, Paired.mapP h2 fun a t z => e _ _ z⟩
section
variable {P : Program} {w : World} {K : PySem.W.Frag} {mg : Str → Option Value} {base : Heap} {f f1 f2 f3 f4 : Addr} {fd fd1 fd2 fd3 fd4 : FuncData}
abbrev leN : List Str := ["_law_net_here", "_law_knots", "_law_kept", "_law_found", "_law_place", "_law_tie", "_law_ends_here", "_law_mine", "_law_far", "_law_more"]
theorem qCc : FnScope leN ["_law_net_here"] (qAc sLEven) := ⟨rfl, rfl, rfl, by decide +kernel, rfl, by decide +kernel, by decide +kernel⟩
set_option maxHeartbeats 8000000 in
theorem ok_leven (F : Fun K "_law_even" "_law_even" sLEven f fd) (mso : mg "sorted" = none) (mst : mg "set" = none) (me : mg "enumerate" = none) : FnOk P w K mg base CX0 1 f fd ["_law_net_here"] spLEven := by
  refine F.ok qCc (fun vs H Q E h => ?_) (fun cdv A outer s H vs Q E hr h => ?_)
  · obtain ⟨p, net, rfl, _⟩ := h
    rfl
  obtain ⟨p, net, rfl, ⟨as, hp, pr⟩, hl, q⟩ := h
  refine ⟨_, qAa (qFn (fun σ H1 => ∃ (kn : Addr) (ps : List Str), σ = [some (.ref p), some (.ref kn), none, none, none, none, none, none, none, none] ∧ Ext H H1 ∧ LsS H1 kn ps ∧ qF1 net ps ∧ ps.length ≤ 24) (qAj (i := 1) qCc.nd rfl (Or.inl rfl) (qAh (qDw rfl) rfl mso qCa (pa_cons (qBs (call_setS rfl) rfl mst boot_set' (pa_cons (qAg qE2
    (pe_lc (N := leN) (sc := qAc sLEven) (N' := ["_law_tie"]) (sub := [none]) rfl rfl (CmpOk.of (by decide +kernel)) rfl (qAs (pv 0)) (fun C s H fp => ⟨qAe (i := 0) (by show (["_law_tie"] : List Str).Nodup; decide) rfl (Or.inl rfl), qA0, qBb (show IxR _ (rIxT K) from qBh) (pv 0) qAb (fun _ _ => rfl)⟩))
    (pe_lc (N := leN) (sc := qAc sLEven) (N' := ["_law_tie"]) (sub := [none]) rfl rfl (CmpOk.of (by decide +kernel)) rfl (qAs (pv 0)) (fun C s H fp => ⟨qAe (i := 0) (by show (["_law_tie"] : List Str).Nodup; decide) rfl (Or.inl rfl), qA0, qBb (show IxR _ (rIxT K) from qBh) (pv 0) qAb (fun _ _ => rfl)⟩))) pa_nil)) pa_nil))))
    (qAa (qAj (i := 2) qCc.nd rfl (Or.inl rfl) (qBe pa_nil))
    (qAa (qAj (i := 3) qCc.nd rfl (Or.inl rfl) (qBe pa_nil))
    (qAa (qBl PassesOwn.never rfl (pi_enum rfl me (pa_cons (pv 0) pa_nil)) (qBx rfl (qAl (qAe (i := 4) qCc.nd rfl (Or.inl rfl)) (qAl (qAe (i := 5) qCc.nd rfl (Or.inl rfl)) qBc)))
      (qAa (qAj (i := 6) qCc.nd rfl (Or.inl rfl) (qAg qE0 (qAg qCy qAb (pe_bm PySem.F.plainAttrs_list PySem.F.slot_list_index PySem.F.type_list_index mt_index (pv 1) (pa_cons (qBb qBh (pv 5) qAb (fun _ _ => rfl)) pa_nil))) (qAg qCy qAb (pe_bm PySem.F.plainAttrs_list PySem.F.slot_list_index PySem.F.type_list_index mt_index (pv 1) (pa_cons (qBb qBh (pv 5) qAb (fun _ _ => rfl)) pa_nil)))))
      (qAa (qAj (i := 7) qCc.nd rfl (Or.inl rfl) (qAg qCy qAb (pv 4)))
      (qAa (qBl PassesOwn.never rfl (qAs (pv 2)) (qBx rfl (qAl (qAe (i := 8) qCc.nd rfl (Or.inl rfl)) (qAl (qAe (i := 9) qCc.nd rfl (Or.inl rfl)) qBc)))
        (qAd (qBf (qAn qEb (qAg qCg (qAg qCg (pv 6) (pv 8)) (pe_un un_neg (pv 8))) qAb (qAt _))
          (qAa (qAj (i := 6) qCc.nd rfl (Or.inl rfl) (qAg qE0 (pv 6) (pv 8)))
          (qAd (qAj (i := 7) qCc.nd rfl (Or.inl rfl) (qAg qE0 (pv 7) (pv 9))))) qAx)))
      (qAd (qBf (qAn qDg (pv 6) qAb (qAt _))
        (qAd (qB5 (pe_bm PySem.F.plainAttrs_list PySem.F.slot_list_append PySem.F.type_list_append qBn (pv 3) (pa_cons (pv 7) pa_nil))))
        (qAd (qB5 (pe_bm PySem.F.plainAttrs_list PySem.F.slot_list_append PySem.F.type_list_append qBn (pv 2) (pa_cons (qBy (pa_cons (pv 6) (pa_cons (pv 7) pa_nil))) pa_nil))))))))))
    (qAd (qAm (pv 3)))))), ?_⟩
  try dsimp only [Cx.wish, qB8]
  refine ⟨?_, ?_⟩
  · refine ⟨_, rfl, p, rfl, ⟨_, SqL.of hp⟩, ?_⟩
    refine qFd (fun t => t.2.1) hp pr (by omega) (fun a t ha C B c => ⟨Sle.set _ (Sle.refl _) (fun u z => by cases z), ?_⟩) ?_
    · exact iteT (B := B H) ⟨_, rfl, a, _, _, _, rfl, rfl, SqT.of ha, (by exact qAv (j := 1) rfl), c⟩
    intro l1 hl1
    have n1 := Ext.new hl1 (.lst ((net.map fun t => t.2.1).map V.str))
    refine ⟨_, rfl, p, rfl, ⟨_, SqL.of (n1 _ _ hp)⟩, ?_⟩
    refine qFd (fun t => t.2.2) (n1 _ _ hp) (Paired.mapP pr fun a t z => n1 _ _ z) (by omega) (fun a t ha C B c => ⟨Sle.set _ (Sle.refl _) (fun u z => by cases z), ?_⟩) ?_
    · exact iteT (B := B (upd H l1 (.lst ((net.map fun t => t.2.1).map V.str)))) ⟨_, rfl, a, _, _, _, rfl, rfl, SqT.of ha, (by exact qAv (j := 2) rfl), c⟩
    intro l2 hl2
    have n2 := n1.trans (Ext.new hl2 (.lst ((net.map fun t => t.2.2).map V.str)))
    refine ⟨l1, l2, _, _, rfl, rfl, (Ext.new hl2 _) _ _ upd_same, upd_same, ?_, fun l3 hl3 => ?_⟩
    · simp only [List.length_map]
      exact Nat.le_of_lt (qAf (by omega))
    have n3 := n2.trans (Ext.new hl3 (.lst ((net.map fun t => t.2.1).map V.str ++ (net.map fun t => t.2.2).map V.str)))
    refine ⟨l3, (net.map fun t => t.2.1) ++ (net.map fun t => t.2.2), rfl, SqL.of (by rw [upd_same, List.map_append]), ?_, fun r1 ss hr1 nd ln mem => ?_⟩
    · simp only [List.length_append, List.length_map]
      omega
    simp only [List.length_append, List.length_map] at ln
    refine ⟨r1, ss, rfl, upd_same, by omega, fun kn ps hkn pm srt => ?_⟩
    have E1 := (n3.trans (Ext.new hr1 _)).trans (Ext.new hkn (.lst (ps.map V.str)))
    have pok : qF1 net ps := ⟨pm.nodup_iff.mpr nd, fun x => by
      rw [pm.mem_iff, mem, List.mem_append, List.mem_map, List.mem_map]
      unfold isPt
      constructor
      · rintro (⟨t, ht, rfl⟩ | ⟨t, ht, rfl⟩)
        · exact ⟨t, ht, .inl rfl⟩
        · exact ⟨t, ht, .inr rfl⟩
      · rintro ⟨t, ht, rfl | rfl⟩
        · exact .inl ⟨t, ht, rfl⟩
        · exact .inr ⟨t, ht, rfl⟩⟩
    have lps : ps.length ≤ 24 := by rw [pm.length_eq]; omega
    exact ⟨kn, ps, rfl, E1, upd_same, pok, lps⟩
  rintro σ H1 ⟨kn, ps, rfl, E1, hk1, pok, lps⟩
  refine ⟨Nat.zero_le _, fun ke ke1 => ?_⟩
  have Xk := Ext.new ke1 (.lst [])
  refine ⟨Nat.zero_le _, fun fo fo1 => ?_⟩
  have Xf := Xk.trans (Ext.new fo1 (.lst []))
  have ke0 := E1.none ke1
  have fo0 := E1.none (Xk.none fo1)
  have kefo : ke ≠ fo := qAp (upd_same : upd H1 ke (.lst []) ke = _) fo1
  have lA : as.length = net.length := pr.length
  have hpx : ∀ x, isPt net x → x ∈ ps := fun x hx => (pok.2 x).mpr hx
  refine ⟨_, rfl, p, _, rfl, SqL.of (Xf _ _ (E1 _ _ hp)), ?_⟩
  rw [List.length_map, lA]
  refine for_pairs (fun i σ H2 => ∃ (Kp : List (Nat × Nat)) (Fd : List Nat) (x4 x5 x6 x7 x8 x9 : Option V), σ = [some (.ref p), some (.ref kn), some (.ref ke), some (.ref fo), x4, x5, x6, x7, x8, x9] ∧ Ext H1 H2 ∧ KeptAt H2 ke Kp ∧ LsN H2 fo Fd ∧ EIv (vF net ps) net.length i Kp Fd ∧ Kp.length = (qCh (net.take i)).length)
    ⟨[], [], none, none, none, none, none, none, rfl, Xf, ⟨[], (Ext.new fo1 _) _ _ upd_same, .nil⟩, upd_same, EIv.start _ _, rfl⟩ ?_ ?_ ?_
  · rintro i σ H2 _ ⟨Kp, Fd, x4, x5, x6, x7, x8, x9, _, e2, _⟩
    exact SqL.of ((E1.trans e2) _ _ hp)
  · rintro i σ H2 T hi ⟨Kp, Fd, x4, x5, x6, x7, x8, x9, rfl, e2, kp, fd, ei, kw⟩ hT
    have hia : i < as.length := by omega
    have g2 : (as.map V.ref).getD i .non = .ref as[i] := by rw [List.getD_eq_getElem?_getD, List.getElem?_map, List.getElem?_eq_getElem hia]; rfl
    obtain ⟨t, ht, hta⟩ := qAy pr (List.getElem?_eq_getElem hia)
    dsimp only
    rw [g2]
    have Y1 := Ext.new hT (.tup [V.int (i : Nat), V.ref as[i]])
    have E2 := (E1.trans e2).trans Y1
    obtain ⟨a1, a2, a3⟩ := ixF_at (hpx t.2.1 ⟨t, List.mem_of_getElem? ht, .inl rfl⟩)
    obtain ⟨b1, b2, b3⟩ := ixF_at (hpx t.2.2 ⟨t, List.mem_of_getElem? ht, .inr rfl⟩)
    have hk2 := (e2.trans Y1) _ _ hk1
    refine ⟨T, _, rfl, SqT.of upd_same, rfl, _, _, rfl, _, _, rfl, rfl, ?_⟩
    refine ⟨_, rfl, .inl ⟨rfl, _, SqL.of hk2⟩, _, rfl, as[i], _, _, _, rfl, rfl, SqT.of (E2 _ _ hta), (by exact qAv (j := 1) rfl), kn, ps, t.2.1, ixF ps t.2.1, rfl, rfl, hk2, a1, a2, by omega, _, _, rfl, rfl, ⟨by omega, by omega, by decide⟩, ?_⟩
    refine ⟨_, rfl, .inl ⟨rfl, _, SqL.of hk2⟩, _, rfl, as[i], _, _, _, rfl, rfl, SqT.of (E2 _ _ hta), (by exact qAv (j := 2) rfl), kn, ps, t.2.2, ixF ps t.2.2, rfl, rfl, hk2, b1, b2, by omega, _, _, rfl, rfl, ⟨by omega, by omega, by decide⟩, _, _, rfl, rfl, ?_⟩
    have vv : (fun i j : Int => V.int (Builtin.bitXor i j)) (1 * 2 ^ (((ixF ps t.2.1 : Nat) : Int)).toNat) (1 * 2 ^ (((ixF ps t.2.2 : Nat) : Int)).toNat) = iV (vF net ps i) := by
      show V.int (Builtin.bitXor _ _) = _
      rw [qCb, qCb, qC8, vF_at ht]; rfl
    rw [vv]
    refine ⟨_, rfl, _, _, rfl, rfl, ⟨by omega, by omega, by decide⟩, ?_⟩
    have wv : (fun i j : Int => V.int (i * 2 ^ j.toNat)) 1 ((i : Nat) : Int) = iV (2 ^ i) := by
      show V.int (1 * 2 ^ _) = _
      rw [qCb]
    rw [wv]
    obtain ⟨ks, hks, pks⟩ := kp.ext Y1
    have lk : ks.length = Kp.length := pks.length
    have lKp : Kp.length ≤ 12 := by have := ei.len; omega
    refine ⟨_, rfl, ke, rfl, ⟨_, SqL.of hks⟩, ?_⟩
    refine qB0 (xs := ks.map V.ref) (fun j σ H3 => H3 = upd H2 T (.tup [V.int (i : Nat), V.ref as[i]]) ∧ ∃ (x8 x9 : Option V), σ = [some (.ref p), some (.ref kn), some (.ref ke), some (.ref fo), some (.int (i : Nat)), some (.ref as[i]), some (iV (el (Kp.take j) (vF net ps i, 2 ^ i)).1), some (iV (el (Kp.take j) (vF net ps i, 2 ^ i)).2), x8, x9])
      ⟨rfl, x8, x9, rfl⟩ (fun j σ H3 _ h => by rw [h.1]; exact SqL.of hks) ?_ ?_
    · rintro j v σ H3 hx3 ⟨rfl, x8, x9, rfl⟩
      obtain ⟨c, rfl, hc⟩ := qB4 hx3
      obtain ⟨g, hg, hcg⟩ := qAy pks hc
      have gnz := (ei.k1 g (List.mem_of_getElem? hg)).1
      have st : el (Kp.take (j + 1)) (vF net ps i, 2 ^ i) = el1 (el (Kp.take j) (vF net ps i, 2 ^ i)) g := by rw [qAk hg, el_snoc]
      refine ⟨c, _, rfl, SqT.of hcg, rfl, _, _, rfl, _, _, rfl, rfl, ?_⟩
      refine ⟨_, rfl, _, rfl, _, _, rfl, rfl, _, rfl, _, rfl, _, _, rfl, rfl, rfl, _, rfl, ?_⟩
      rw [st]
      generalize el (Kp.take j) (vF net ps i, 2 ^ i) = ev
      have lt2 := low_test ev.1 gnz
      have key : ((!decide (V.int (Builtin.bitAnd (Builtin.bitAnd ((ev.1 : Nat) : Int) ((g.1 : Nat) : Int)) (-((g.1 : Nat) : Int))) = V.int 0)) = true) ↔ ev.1.testBit (lo g.1) = true := by
        rw [← lt2]; simp
      refine qCm (fun c2 => ?_) (fun c2 => ?_)
      · refine ⟨_, rfl, _, rfl, _, _, rfl, rfl, _, rfl, _, rfl, _, _, rfl, rfl, rfl, some (iV g.1), some (iV g.2), ?_⟩
        rw [show el1 ev g = (ev.1 ^^^ g.1, ev.2 ^^^ g.2) from if_pos (key.mp c2), show iV (ev.1 ^^^ g.1, ev.2 ^^^ g.2).1 = V.int (Builtin.bitXor ((ev.1 : Nat) : Int) ((g.1 : Nat) : Int)) by rw [qC8], show iV (ev.1 ^^^ g.1, ev.2 ^^^ g.2).2 = V.int (Builtin.bitXor ((ev.2 : Nat) : Int) ((g.2 : Nat) : Int)) by rw [qC8]]
        rfl
      · refine ⟨rfl, some (iV g.1), some (iV g.2), ?_⟩
        rw [show el1 ev g = ev from if_neg fun z => c2 (key.mpr z)]
        rfl
    · rintro σ H3 ⟨rfl, x8, x9, rfl⟩
      rw [List.length_map, lk, List.take_of_length_le (Nat.le_refl _)]
      have nx := ei.next hi
      have wd := even_wood hpx ei hi ht kw
      have fd3 := Y1 _ _ fd
      have lF : Fd.length ≤ 12 := by have := ei.len; omega
      revert nx wd
      generalize el Kp (vF net ps i, 2 ^ i) = ev
      intro nx wd
      refine ⟨_, rfl, rfl, _, rfl, ?_⟩
      refine qCm (fun c2 => ?_) (fun c2 => ?_)
      · have z : ev.1 = 0 := by
          have : ((ev.1 : Nat) : Int) = 0 := by simpa using c2
          omega
        rw [if_pos z] at nx wd
        refine ⟨_, rfl, .inl ⟨rfl, _, SqL.of fd3⟩, _, rfl, fo, _, _, rfl, rfl, fd3, by rw [List.length_map]; exact qAf (by omega), ?_⟩
        refine ⟨Kp, Fd ++ [ev.2], _, _, _, _, _, _, rfl, (e2.trans Y1).over (Xk.none fo1) _, ⟨ks, by rw [qAr kefo]; exact hks, Paired.mapP pks fun a u z => ?_⟩, ?_, nx, wd⟩
        · have ne : a ≠ fo := fun w => by
            rw [w] at z
            have f3 : upd H2 T (.tup [V.int (i : Nat), V.ref as[i]]) fo = some (.lst (Fd.map iV)) := fd3
            rw [f3] at z; cases z
          rw [qAr ne]; exact z
        · unfold LsN
          rw [upd_same, List.map_append]; rfl
      · have z : ¬ ev.1 = 0 := fun w => c2 (by rw [w]; rfl)
        rw [if_neg z] at nx wd
        refine ⟨_, rfl, .inl ⟨rfl, _, SqL.of hks⟩, _, rfl, _, rfl, (by show 2 ≤ sizeLine; decide), fun T2 hT2 => ?_⟩
        have Y2 := Ext.new hT2 (.tup [iV ev.1, iV ev.2])
        refine ⟨ke, _, _, rfl, rfl, Y2 _ _ hks, by rw [List.length_map]; exact qAf (by omega), ?_⟩
        refine ⟨Kp ++ [ev], Fd, _, _, _, _, _, _, rfl, ((e2.trans Y1).trans Y2).over ke1 _, ⟨ks ++ [T2], by rw [upd_same, List.map_append]; rfl, Paired.snoc (Paired.mapP pks fun a u z => ?_) ?_⟩, ?_, nx, wd⟩
        · have z' := Y2 _ _ z
          have ne : a ≠ ke := fun w => by rw [w, Y2 _ _ hks] at z'; cases z'
          rw [qAr ne]; exact z'
        · have ne : T2 ≠ ke := fun w => by rw [w, hks] at hT2; cases hT2
          rw [qAr ne, upd_same]
        · unfold LsN
          rw [qAr (Ne.symm kefo)]
          exact Y2 _ _ fd3
  · rintro σ H2 ⟨Kp, Fd, x4, x5, x6, x7, x8, x9, rfl, e2, kp, fd, ei, kw⟩
    rw [List.take_of_length_le (Nat.le_refl _)] at kw
    exact ⟨_, rfl, q fo Fd Kp ps _ (E1.trans e2) fo0 fd pok ei kw⟩
end
end My
namespace My
open PySem L2
abbrev nmS (net : List Tr) : List Str := net.map fun t => t.1
theorem nm_at {net : List Tr} {i : Nat} {t : Tr} (h : net[i]? = some t) : (nmS net)[i]? = some t.1 := by rw [List.getElem?_map, h]; rfl
theorem nm_inj {net : List Tr} (nd : (nmS net).Nodup) {t u : Tr} (ht : t ∈ net) (hu : u ∈ net) (e : t.1 = u.1) : t = u := by
  induction net with
  | nil => cases ht
  | cons v r ih =>
    have nd' : (v.1 :: nmS r).Nodup := nd
    obtain ⟨n1, n2⟩ := List.nodup_cons.mp nd'
    rcases List.mem_cons.mp ht with a | a <;> rcases List.mem_cons.mp hu with b | b
    · rw [a, b]
    · subst a; exact absurd (List.mem_map.mpr ⟨u, b, e.symm⟩) n1
    · subst b; exact absurd (List.mem_map.mpr ⟨t, a, e⟩) n1
    · exact ih n2 a b
theorem met_mem {net : List Tr} (nd : (nmS net).Nodup) {t : Tr} (ht : t ∈ net) (x : Str) : t.1 ∈ metF net x ↔ (decide (t.2.1 = x) != decide (t.2.2 = x)) = true := by
  unfold metF
  rw [List.mem_map]
  constructor
  · rintro ⟨u, hu, e⟩
    obtain ⟨h1, h2⟩ := List.mem_filter.mp hu
    rw [← nm_inj nd h1 ht e]; exact h2
  · intro h
    exact ⟨t, List.mem_filter.mpr ⟨ht, h⟩, rfl⟩
theorem bx : ∀ a b : Bool, decide ((a != b) = true) = (a ^^ b) := fun a b => by cases a <;> cases b <;> rfl
theorem fm_congr {α β : Type} {f g : α → Option β} : ∀ {l : List α}, (∀ i ∈ l, f i = g i) → l.filterMap f = l.filterMap g
  | [], _ => rfl
  | a :: l, h => by rw [List.filterMap_cons, List.filterMap_cons, h a List.mem_cons_self, fm_congr fun i hi => h i (List.mem_cons_of_mem _ hi)]
def gT (net : List Tr) (g : Tr → Bool) (i : Nat) : Bool := match net[i]? with | some t => g t | none => false
def atX (x : Str) (t : Tr) : Bool := decide (t.2.1 = x) ^^ decide (t.2.2 = x)
theorem sm_bit {net : List Tr} (nd : (nmS net).Nodup) (x : Str) {j : Nat} (hj : j < net.length) : (maskF (nmS net) (metF net x)).testBit j = gT net (atX x) (net.length - 1 - j) := by
  rw [qFp, List.length_map, decide_eq_true hj, Bool.true_and]
  have hi : net.length - 1 - j < net.length := by omega
  have ht := List.getElem?_eq_getElem hi
  unfold gT
  rw [nm_at ht, ht]
  have e : (∃ n, some net[net.length - 1 - j].1 = some n ∧ n ∈ metF net x) ↔ net[net.length - 1 - j].1 ∈ metF net x := ⟨fun ⟨n, h1, h2⟩ => by cases h1; exact h2, fun h => ⟨_, rfl, h⟩⟩
  exact (decide_eq_decide.mpr (e.trans (met_mem nd (List.getElem_mem hi) x))).trans (bx _ _)
theorem dot_sm {net : List Tr} (nd : (nmS net).Nodup) (x : Str) (z : Nat) : dot net.length z (maskF (nmS net) (metF net x)) = xsum net.length fun i => z.testBit (net.length - 1 - i) && gT net (atX x) i := by
  unfold dot
  rw [← xsum_rev (fun i => z.testBit (net.length - 1 - i) && gT net (atX x) i)]
  refine qA6 fun j hj => ?_
  rw [sm_bit nd x hj, show net.length - 1 - (net.length - 1 - j) = j by omega]
theorem pow_ix {ps : List Str} {x y : Str} (hx : x ∈ ps) (hy : y ∈ ps) : (2 ^ ixF ps x).testBit (ixF ps y) = decide (x = y) := by
  rw [Nat.testBit_two_pow]
  refine decide_eq_decide.mpr ⟨fun e => ?_, fun e => by rw [e]⟩
  have h1 := (ixF_at hx).1
  have h2 := (ixF_at hy).1
  rw [e, h2] at h1
  exact (Option.some.inj h1).symm
theorem bd_pt {net : List Tr} {ps : List Str} (hp : ∀ x, isPt net x → x ∈ ps) {x : Str} (hx : x ∈ ps) (y : Nat) : (bd (vF net ps) net.length y).testBit (ixF ps x) = xsum net.length fun i => y.testBit i && gT net (atX x) i := by
  rw [bd_bit]
  refine qA6 fun i hi => ?_
  have ht := List.getElem?_eq_getElem hi
  rw [vF_at ht]
  unfold gT vT atX
  rw [ht, Nat.testBit_xor, pow_ix (hp _ ⟨_, List.getElem_mem hi, .inl rfl⟩) hx, pow_ix (hp _ ⟨_, List.getElem_mem hi, .inr rfl⟩) hx]
theorem bd_zero_iff {net : List Tr} {ps : List Str} (hp : ∀ x, isPt net x → x ∈ ps) (y : Nat) : bd (vF net ps) net.length y = 0 ↔ ∀ x ∈ ps, (bd (vF net ps) net.length y).testBit (ixF ps x) = false := by
  constructor
  · intro e x _; rw [e]; simp
  · intro h
    refine Nat.eq_of_testBit_eq fun q => ?_
    rw [Nat.zero_testBit]
    by_cases c : ∃ x ∈ ps, ixF ps x = q
    · obtain ⟨x, hx, rfl⟩ := c
      exact h x hx
    · rw [bd_bit, qA6 (g := fun _ => false) fun i hi => ?_, qCl]
      have ht := List.getElem?_eq_getElem hi
      rw [vF_at ht]
      unfold vT
      rw [Nat.testBit_xor, Nat.testBit_two_pow, Nat.testBit_two_pow, decide_eq_false fun z => c ⟨_, hp _ ⟨_, List.getElem_mem hi, .inl rfl⟩, z⟩, decide_eq_false fun z => c ⟨_, hp _ ⟨_, List.getElem_mem hi, .inr rfl⟩, z⟩]
      simp
theorem link {net : List Tr} {ps ps' : List Str} (nd : (nmS net).Nodup) (pk : qF1 net ps) (pk' : qF1 net ps') {z : Nat} (hz : z < 2 ^ net.length) : (∀ x ∈ ps, dot net.length z (maskF (nmS net) (metF net x)) = false) ↔ bd (vF net ps') net.length (rv net.length z) = 0 := by
  have hp : ∀ x, isPt net x → x ∈ ps' := fun x hx => (pk'.2 x).mpr hx
  rw [bd_zero_iff hp]
  have e : ∀ x ∈ ps', dot net.length z (maskF (nmS net) (metF net x)) = (bd (vF net ps') net.length (rv net.length z)).testBit (ixF ps' x) := fun x hx => by
    rw [dot_sm nd, bd_pt hp hx]
    refine qA6 fun i hi => ?_
    rw [qCw, decide_eq_true hi, Bool.true_and]
  constructor
  · intro h x hx
    rw [← e x hx]
    exact h x ((pk.2 x).mpr ((pk'.2 x).mp hx))
  · intro h x hx
    have hx' := (pk'.2 x).mpr ((pk.2 x).mp hx)
    rw [e x hx']
    exact h x hx'
theorem spn_rv {m : Nat} {F : List Nat} (hF : ∀ x ∈ F, x < 2 ^ m) (z : Nat) : Spn (F.map (rv m)) z ↔ z < 2 ^ m ∧ Spn F (rv m z) := by
  constructor
  · intro h
    refine ⟨Spn.lt (fun x hx => ?_) h, ?_⟩
    · obtain ⟨y, _, rfl⟩ := List.mem_map.mp hx
      exact rv_lt m y
    · induction h with
      | zero => rw [qFi]; exact .zero
      | add hm _ ih =>
        obtain ⟨y, hy, rfl⟩ := List.mem_map.mp hm
        rw [rv_xor, rv_rv (hF y hy)]
        exact .add hy ih
  · rintro ⟨hz, h⟩
    rw [← rv_rv hz]
    generalize rv m z = y at h
    induction h with
    | zero => rw [qFi]; exact .zero
    | add hm _ ih => rw [rv_xor]; exact .add (List.mem_map_of_mem hm) ih
theorem rowL_rv {names : List Str} (x : Nat) : rowM names (rv names.length x) = rowL names x := by
  unfold rowM rowL
  have : ∀ i ∈ List.range names.length, (if (rv names.length x).testBit (names.length - 1 - i) = true then names[i]? else none) = (if x.testBit i = true then names[i]? else none) := fun i hi => by
    have hi' := List.mem_range.mp hi
    rw [qCw, decide_eq_true (by omega), Bool.true_and, show names.length - 1 - (names.length - 1 - i) = i by omega]
  exact fm_congr this
theorem rise_get {l : List Str} (h : qF0 l) {i j : Nat} {a b : Str} (hij : i < j) (ha : l[i]? = some a) (hb : l[j]? = some b) : sLtB a b = true := by
  obtain ⟨hi, rfl⟩ := List.getElem?_eq_some_iff.mp ha
  obtain ⟨hj, rfl⟩ := List.getElem?_eq_some_iff.mp hb
  exact (List.pairwise_iff_getElem.mp h) i j hi hj hij
structure Made (net : List Tr) (ps ps' : List Str) (S M : List Nat) (K : List (Nat × Nat)) (F : List Nat) : Prop where
  rs : qF0 (nmS net)
  pk : qF1 net ps
  pk' : qF1 net ps'
  pS : S.Perm (red (ps.map fun x => maskF (nmS net) (metF net x)))
  pM : M.Perm (red (qEh S net.length))
  dM : M.Pairwise fun a b => b ≤ a
  ei : EIv (vF net ps') net.length net.length K F
  kw : K.length = (qCh net).length
theorem riseNd {l : List Str} (h : qF0 l) : l.Nodup := List.Pairwise.imp (fun {a b} z e => by rw [e, sLtB_irr] at z; cases z) h
section
variable {net : List Tr} {ps ps' : List Str} {S M : List Nat} {K : List (Nat × Nat)} {F : List Nat}
theorem Made.rrS (h : Made net ps ps' S M K F) : RR S := (qCx _).perm h.pS
theorem Made.ltS (h : Made net ps ps' S M K F) : ∀ s ∈ S, s < 2 ^ net.length := fun s hs => by
  have := red_lt (xs := ps.map fun x => maskF (nmS net) (metF net x)) (m := net.length) (fun y hy => by
    obtain ⟨x, _, rfl⟩ := List.mem_map.mp hy
    have := maskF_lt (nmS net) (metF net x)
    rw [List.length_map] at this
    exact this) s (h.pS.mem_iff.mp hs)
  exact this
theorem Made.spM (h : Made net ps ps' S M K F) (z : Nat) : Spn (red (qEh S net.length)) z ↔ z < 2 ^ net.length ∧ ∀ x ∈ ps, dot net.length z (maskF (nmS net) (metF net x)) = false := by
  rw [qC2, cr_spn h.rrS h.ltS]
  refine and_congr_right fun _ => ⟨fun a x hx => ?_, fun a s hs => ?_⟩
  · have : Spn (red (ps.map fun x => maskF (nmS net) (metF net x))) (maskF (nmS net) (metF net x)) := (qC2 _ _).mpr (.mem (List.mem_map_of_mem (f := fun x => maskF (nmS net) (metF net x)) hx))
    exact spn_dot (fun s hs => a s (h.pS.mem_iff.mpr hs)) this
  · have := (qC2 _ _).mp (Spn.mem (h.pS.mem_iff.mp hs))
    exact spn_dot (fun y hy => by
      obtain ⟨x, hx, rfl⟩ := List.mem_map.mp hy
      exact a x hx) this
theorem Made.fl (h : Made net ps ps' S M K F) : ∀ x ∈ F, x < 2 ^ net.length := fun x hx => (h.ei.f1 x hx).1
theorem Made.perm (h : Made net ps ps' S M K F) : M.Perm ((redL F).map (rv net.length)) := by
  obtain ⟨_, e⟩ := qDc (m := net.length) F h.fl
  rw [e]
  refine h.pM.trans ?_
  have sp : ∀ z, Spn (red (qEh S net.length)) z ↔ Spn (red (F.map (rv net.length))) z := fun z => by
    rw [h.spM, qC2, spn_rv h.fl]
    refine and_congr_right fun hz => ?_
    rw [link (riseNd h.rs) h.pk h.pk' hz, h.ei.done]
    exact ⟨fun a => ⟨rv_lt _ _, a⟩, fun a => a.2⟩
  have r1 := qCx (qEh S net.length)
  have r2 := qCx (F.map (rv net.length))
  exact (List.perm_ext_iff_of_nodup r1.nd r2.nd).mpr fun z => ⟨qEs r1 r2 sp z, qEs r2 r1 (fun y => (sp y).symm) z⟩
theorem Made.rrM (h : Made net ps ps' S M K F) : RR M := (qCx _).perm h.pM
theorem Made.ltM (h : Made net ps ps' S M K F) : ∀ z ∈ M, z < 2 ^ (nmS net).length := fun z hz => by
  rw [List.length_map]
  exact ((h.spM z).mp (.mem (h.pM.mem_iff.mp hz))).1
theorem Made.len (h : Made net ps ps' S M K F) : M.length + (qCh net).length = net.length := by
  have f : Fsh (F.map (rv net.length)) := fun i x hx => by
    rw [List.getElem?_map] at hx
    cases e : F[i]? with
    | none => rw [e] at hx; cases hx
    | some y =>
      rw [e] at hx
      obtain rfl : rv net.length y = x := Option.some.inj hx
      obtain ⟨j, h1, h2⟩ := h.ei.fsh i y e
      have yl := h.fl y (List.mem_of_getElem? e)
      have jl : j < net.length := by
        rcases Nat.lt_or_ge j net.length with z | z
        · exact z
        · rw [qEn yl z] at h1; cases h1
      have sw : ∀ v, (rv net.length v).testBit (net.length - 1 - j) = v.testBit j := fun v => by rw [qCw, decide_eq_true (by omega), Bool.true_and, show net.length - 1 - (net.length - 1 - j) = j by omega]
      refine ⟨net.length - 1 - j, by rw [sw]; exact h1, fun v hv => ?_⟩
      rw [← List.map_take] at hv
      obtain ⟨u, hu, rfl⟩ := List.mem_map.mp hv
      rw [sw]; exact h2 u hu
  have e1 := h.perm.length_eq
  rw [List.length_map] at e1
  obtain ⟨_, e⟩ := qDc (m := net.length) F h.fl
  have e2 := congrArg List.length e
  rw [List.length_map, red_len _ f, List.length_map] at e2
  have e3 := h.ei.len
  have e4 := h.kw
  omega
end
end My
namespace My
open PySem L2
theorem filt_t {α : Type} {p : α → Bool} {l : List α} {i : Nat} {t : α} (h : l[i]? = some t) (c : p t = true) : (l.take (i + 1)).filter p = (l.take i).filter p ++ [t] := by rw [qAk h, List.filter_append]; simp [c]
theorem filt_f {α : Type} {p : α → Bool} {l : List α} {i : Nat} {t : α} (h : l[i]? = some t) (c : p t = false) : (l.take (i + 1)).filter p = (l.take i).filter p := by rw [qAk h, List.filter_append]; simp [c]
theorem eqv_rows' : ∀ a b : List (List Str), PyData.eqvAll (a.map qFj) (b.map qFj) = decide (a = b)
  | [], [] => rfl
  | [], _ :: _ => rfl
  | _ :: _, [] => rfl
  | x :: a, y :: b => by
    show (PyData.eqv (qFj x) (qFj y) && PyData.eqvAll (a.map qFj) (b.map qFj)) = _
    rw [eqv_rows' a b, eqv_row]
    by_cases e : x = y
    · subst e; simp
    · simp [e]
theorem eqv_rows (a b : List (List Str)) : PyData.eqv (rowsD a) (rowsD b) = decide (a = b) := eqv_rows' a b
theorem lay_rows : ∀ {F : List (List Str)}, (∀ r ∈ F, SOk r) → PyData.canLayAll0 (F.map qFj) = true ∧ PyData.depthAll (F.map qFj) ≤ 1
  | [], _ => ⟨rfl, by decide⟩
  | x :: r, h => by
    obtain ⟨h1, h2⟩ := lay_rows (F := r) fun y hy => h y (List.mem_cons_of_mem _ hy)
    obtain ⟨h3, h4⟩ := qEd (h x List.mem_cons_self)
    refine ⟨?_, ?_⟩
    · show (PyData.canLayAll0 (x.map .str) && PyData.canLayAll0 (r.map qFj)) = true
      rw [h1, h3]; rfl
    · show max (PyData.depthAll (x.map .str) + 1) (PyData.depthAll (r.map qFj)) ≤ 1
      rw [h4]; omega
theorem dr_rows' {K : PySem.W.Frag} {H : Hp} : ∀ {as : List Addr} {F : List (List Str)}, Paired (LsS H) as F → DRs K H (as.map V.ref) (F.map qFj)
  | _, _, .nil => .nil
  | _, _, .cons h t => .cons (dr_row h) (dr_rows' t)
theorem dr_rows {K : PySem.W.Frag} {H : Hp} {p : Addr} {F : List (List Str)} (h : qEl H p F) : DR K H (.ref p) (rowsD F) := by
  obtain ⟨as, h1, h2⟩ := h
  exact .lst (SqL.of h1) (dr_rows' h2)
def tabD (names : List Str) (rows : List (List Str)) : PyData := .tuple [qFj names, rowsD rows]
theorem eqv_tab (names : List Str) (rows : List (List Str)) : PyData.eqv (tabD names rows) (tabD names rows) = true := by
  show (PyData.eqv (qFj names) (qFj names) && (PyData.eqv (rowsD rows) (rowsD rows) && true)) = true
  rw [eqv_row, eqv_rows, decide_eq_true rfl, decide_eq_true rfl]; rfl
theorem qF7 {names : List Str} {rows : List (List Str)} (h1 : SOk names) (h2 : ∀ r ∈ rows, SOk r) : SeqAt.shaped (tabD names rows) = true := by
  obtain ⟨a1, a2⟩ := qEd h1
  obtain ⟨b1, b2⟩ := lay_rows h2
  show ((PyData.canLayAll0 (names.map .str) && (PyData.canLayAll0 (rows.map qFj) && true)) && decide (max (PyData.depthAll (names.map .str) + 1) (max (PyData.depthAll (rows.map qFj) + 1) 0) + 1 ≤ 64)) = true
  rw [a1, b1, a2, decide_eq_true (by omega)]; rfl
theorem dr_tab {K : PySem.W.Frag} {H : Hp} {T : Addr} {names : List Str} {rows : List (List Str)} (h : qD2 H T names rows) : DR K H (.ref T) (tabD names rows) := by
  obtain ⟨a, b, h1, h2, h3⟩ := h
  exact .tup (SqT.of h1) (.cons (dr_row h2) (.cons (dr_rows h3) .nil))
end My
namespace My
open PySem L2
theorem mem_rowM {names : List Str} {z : Nat} {n : Str} : n ∈ rowM names z ↔ ∃ i, i < names.length ∧ names[i]? = some n ∧ z.testBit (names.length - 1 - i) = true := by
  unfold rowM
  rw [List.mem_filterMap]
  constructor
  · rintro ⟨i, hi, e⟩
    split at e
    · rename_i b
      exact ⟨i, List.mem_range.mp hi, e, b⟩
    · cases e
  · rintro ⟨i, hi, e, b⟩
    exact ⟨i, List.mem_range.mpr hi, by rw [if_pos b]; exact e⟩
theorem idx_one {names : List Str} (nd : names.Nodup) {i j : Nat} {n : Str} (hi : names[i]? = some n) (hj : names[j]? = some n) : i = j :=
  (List.getElem?_inj (List.getElem?_eq_some_iff.mp hi).1 nd).mp (hi.trans hj.symm)
abbrev chi (names : List Str) (z : Nat) : Str → Bool := fun n => decide (n ∈ rowM names z)
theorem chi_at {names : List Str} (nd : names.Nodup) {z i : Nat} {n : Str} (hi : names[i]? = some n) : chi names z n = z.testBit (names.length - 1 - i) := by
  have il := (List.getElem?_eq_some_iff.mp hi).1
  cases q : z.testBit (names.length - 1 - i) with
  | true => exact decide_eq_true (mem_rowM.mpr ⟨i, il, hi, q⟩)
  | false =>
    refine decide_eq_false fun m => ?_
    obtain ⟨j, _, ej, bj⟩ := mem_rowM.mp m
    rw [idx_one nd ej hi, q] at bj; cases bj
theorem maskF_row {names : List Str} (nd : names.Nodup) {z : Nat} (hz : z < 2 ^ names.length) : maskF names (rowM names z) = z := by
  refine Nat.eq_of_testBit_eq fun j => ?_
  rw [qFp]
  by_cases hj : j < names.length
  · rw [decide_eq_true hj, Bool.true_and]
    have hi : names.length - 1 - j < names.length := by omega
    have e := List.getElem?_eq_getElem hi
    have c := chi_at nd (z := z) e
    rw [show names.length - 1 - (names.length - 1 - j) = j by omega] at c
    rw [← c]
    refine decide_eq_decide.mpr ⟨fun ⟨n, h1, h2⟩ => ?_, fun h => ⟨_, e, h⟩⟩
    rw [e] at h1
    cases h1
    exact h2
  · rw [decide_eq_false hj, qEn hz (by omega)]; rfl
def Rk (names : List Str) (rows : List (List Str)) : Nat := (red (rows.map (maskF names))).length
def Bnd (names : List Str) (rows : List (List Str)) : Prop := names.length ≤ 12 ∧ rows.length ≤ 16 ∧ Rk names rows ≤ 8 ∧ names.length ≤ Rk names rows + 8
def spKeep : Sp := fun vs H Q _ => ∃ (T : Addr) (names : List Str) (rows : List (List Str)), vs = [.ref T] ∧ qD2 H T names rows ∧ ∀ (b : Bool) H', (b = true ↔ Bnd names rows) → Ext H H' → Q (.bl b) H'
section
variable {P : Program} {w : World} {K : PySem.W.Frag} {mg : Str → Option Value} {base : Heap} {f f1 f2 : Addr} {fd fd1 fd2 : FuncData}
theorem scKeep : FnScope ["table", "names", "rows", "many"] ["table"] (qAc sKeep) := ⟨rfl, rfl, rfl, by decide +kernel, rfl, by decide +kernel, by decide +kernel⟩
set_option maxHeartbeats 4000000 in
theorem ok_keep {t1 t2 t3 : Tok} (F : Fun K "keeps_bounds" "keeps_bounds" sKeep f fd) (G : FnOk P w K mg base CX0 3 f1 fd1 ["table"] spStepM) (bG : qAz K fd1 ["table"] []) (kG : PySem.W.keepIn K (.ref f1) = true) (mG : mg "step_masks" = some (.ref f1)) (ml : mg "len" = none)
    (mN : mg "MOST_NAMES" = some (.int 12 t1)) (mR : mg "MOST_ROWS" = some (.int 16 t2)) (mS : mg "MOST_STEPS" = some (.int 8 t3)) : FnOk P w K mg base CX0 4 f fd ["table"] spKeep := by
  refine F.ok scKeep (fun vs H Q E h => ?_) (fun cdv A outer s H vs Q E hr h => ?_)
  · obtain ⟨T, names, rows, rfl, _⟩ := h
    rfl
  obtain ⟨T, names, rows, rfl, tI, q⟩ := h
  refine ⟨_, qAa (qD9 (pv 0) (qBx rfl (qAl (qAe (i := 1) scKeep.nd rfl (Or.inl rfl)) (qAl (qAe (i := 2) scKeep.nd rfl (Or.inl rfl)) qBc))))
    (qAa (qBf (PW.pt (qD8 (qAn op_gt (qAh qAo rfl ml PySem.boot_len (pa_cons (pv 1) pa_nil)) (pe_glob (v := .int 12) rfl mN ⟨t1, rfl⟩) (qAt _))
      (qDd (qAn op_gt (qAh qAo rfl ml PySem.boot_len (pa_cons (pv 2) pa_nil)) (pe_glob (v := .int 16) rfl mR ⟨t2, rfl⟩) (qAt _))))) (qAd (qAm qE4)) qAx)
    (qAa (qAj (i := 3) scKeep.nd rfl (Or.inl rfl) (qAh qAo rfl ml PySem.boot_len (pa_cons (qAi G hr rfl mG kG bG .nil qAu (pa_cons (pv 0) pa_nil)) pa_nil)))
    (qAd (qAm (pe_and (qCd op_le (pv 3) (pe_glob (v := .int 8) rfl mS ⟨t3, rfl⟩) (qAt _)) (pe_one (qCd op_le (qAg qE1 (qAh qAo rfl ml PySem.boot_len (pa_cons (pv 1) pa_nil)) (pv 3)) (pe_glob (v := .int 8) rfl mS ⟨t3, rfl⟩) (qAt _)))))))), ?_⟩
  try dsimp only [Cx.wish, qB8]
  obtain ⟨a, b, hT, ha, as, hb, pr⟩ := id tI
  have la : as.length = rows.length := pr.length
  refine ⟨_, rfl, T, _, rfl, SqT.of hT, rfl, _, _, rfl, _, _, rfl, rfl, ?_⟩
  refine ⟨_, rfl, a, _, rfl, .inl (SqL.of ha), _, _, rfl, rfl, _, rfl, ?_⟩
  refine qCm (fun c => ?_) (fun c => ?_)
  · have c' : (12 : Int) < ((names.map V.str).length : Nat) := of_decide_eq_true c
    rw [List.length_map] at c'
    exact iteT (q false H ⟨fun z => (by cases z), fun z => absurd z.1 (by omega)⟩ (Ext.refl _))
  have c' : ¬ (12 : Int) < ((names.map V.str).length : Nat) := fun y => c (decide_eq_true y)
  rw [List.length_map] at c'
  refine ⟨_, rfl, b, _, rfl, .inl (SqL.of hb), _, _, rfl, rfl, _, rfl, ?_⟩
  refine qCm (fun d => ?_) (fun d => ?_)
  · have d' : (16 : Int) < ((as.map V.ref).length : Nat) := of_decide_eq_true d
    rw [List.length_map] at d'
    exact q false H ⟨fun z => (by cases z), fun z => absurd z.2.1 (by omega)⟩ (Ext.refl _)
  have d' : ¬ (16 : Int) < ((as.map V.ref).length : Nat) := fun y => d (decide_eq_true y)
  rw [List.length_map] at d'
  refine ⟨_, rfl, T, names, rows, rfl, tI, by omega, fun r M H1 e1 r0 hM pM dM => ?_⟩
  have lM : M.length = Rk names rows := pM.length_eq
  refine ⟨r, _, rfl, .inl (SqL.of hM), ?_⟩
  refine ⟨_, rfl, _, _, rfl, rfl, _, rfl, ?_⟩
  refine qCm (fun g => ?_) (fun g => ?_)
  · have g' : ((M.map iV).length : Int) ≤ 8 := of_decide_eq_true g
    rw [List.length_map, lM] at g'
    refine ⟨_, rfl, a, _, rfl, .inl (SqL.of (e1 _ _ ha)), _, rfl, _, _, rfl, rfl, _, _, rfl, rfl, q _ H1 ?_ e1⟩
    rw [decide_eq_true_iff, List.length_map, List.length_map, lM]
    constructor
    · intro z
      exact ⟨by omega, by omega, by omega, by omega⟩
    · rintro ⟨z1, z2, z3, z4⟩
      omega
  · have g' : ¬ ((M.map iV).length : Int) ≤ 8 := fun y => g (decide_eq_true y)
    rw [List.length_map, lM] at g'
    exact q false H1 ⟨fun z => (by cases z), fun z => absurd z.2.2.1 (by omega)⟩ e1
end
end My
namespace My
open PySem L2
theorem red_len_rr {M : List Nat} (h : RR M) : (red M).length = M.length :=
  ((List.perm_ext_iff_of_nodup (qCx M).nd h.nd).mpr fun z => ⟨qEs (qCx M) h (qC2 M) z, qEs h (qCx M) (fun y => (qC2 M y).symm) z⟩).length_eq
theorem even_ex {net : List Tr} {ps : List Str} (hp : ∀ x, isPt net x → x ∈ ps) : ∀ i, i ≤ net.length → ∃ K F, EIv (vF net ps) net.length i K F ∧ K.length = (qCh (net.take i)).length
  | 0, _ => ⟨[], [], EIv.start _ _, rfl⟩
  | i + 1, hi => by
    obtain ⟨K, F, h, hk⟩ := even_ex hp i (by omega)
    have il : i < net.length := by omega
    have n := h.next il
    have w := even_wood hp h il (List.getElem?_eq_getElem il) hk
    by_cases c : (el K (vF net ps i, 2 ^ i)).1 = 0
    · rw [if_pos c] at n w; exact ⟨_, _, n, w⟩
    · rw [if_neg c] at n w; exact ⟨_, _, n, w⟩
def NBnd (net : List Tr) : Prop := net.length ≤ 12 ∧ (qCh net).length ≤ 8 ∧ net.length ≤ (qCh net).length + 8
theorem bnd_net {net : List Tr} {ps : List Str} {S M : List Nat} (rs : qF0 (net.map (·.1))) (pk : qF1 net ps) (pS : S.Perm (red (ps.map fun x => maskF (net.map (·.1)) (metF net x)))) (pM : M.Perm (red (qEh S net.length))) (dM : M.Pairwise fun a b => b ≤ a)
    (h12 : net.length ≤ 12) : Bnd (net.map (·.1)) (M.map (rowM (net.map (·.1)))) ↔ NBnd net := by
  obtain ⟨K, F, ei, kw⟩ := even_ex (fun x hx => (pk.2 x).mpr hx) net.length (Nat.le_refl _)
  rw [List.take_of_length_le (Nat.le_refl _)] at kw
  have md : Made net ps ps S M K F := ⟨rs, pk, pk, pS, pM, dM, ei, kw⟩
  have len := md.len
  have e : (M.map (rowM (net.map (·.1)))).map (maskF (net.map (·.1))) = M := by
    rw [List.map_map]
    have : M.map (maskF (net.map (·.1)) ∘ rowM (net.map (·.1))) = M.map id := List.map_congr_left fun z hz => maskF_row (riseNd rs) (md.ltM z hz)
    rw [this, List.map_id]
  unfold Bnd NBnd Rk
  rw [e, red_len_rr md.rrM, List.length_map, List.length_map]
  constructor
  · rintro ⟨a, b, c, d⟩; exact ⟨by omega, by omega, by omega⟩
  · rintro ⟨a, b, c⟩; exact ⟨by omega, by omega, by omega, by omega⟩
def spKNB : Sp := fun vs H Q _ => ∃ (p : Addr) (net : List Tr), vs = [.ref p] ∧ qCq H p net ∧ net.length ≤ 20 ∧ qF0 (net.map (·.1)) ∧ ∀ (b : Bool) H', (b = true ↔ NBnd net) → Ext H H' → Q (.bl b) H'
section
variable {P : Program} {w : World} {K : PySem.W.Frag} {mg : Str → Option Value} {base : Heap} {f f1 f2 : Addr} {fd fd1 fd2 : FuncData}
theorem scKNB : FnScope ["net"] ["net"] (qAc sKNB) := ⟨rfl, rfl, rfl, by decide +kernel, rfl, by decide +kernel, by decide +kernel⟩
theorem ok_knb {t1 : Tok} (F : Fun K "keeps_net_bounds" "keeps_net_bounds" sKNB f fd) (G1 : FnOk P w K mg base CX0 4 f1 fd1 ["table"] spKeep) (bG1 : qAz K fd1 ["table"] []) (kG1 : PySem.W.keepIn K (.ref f1) = true) (mG1 : mg "keeps_bounds" = some (.ref f1))
    (G2 : FnOk P w K mg base CX0 5 f2 fd2 ["net"] spTable) (bG2 : qAz K fd2 ["net"] []) (kG2 : PySem.W.keepIn K (.ref f2) = true) (mG2 : mg "table_of" = some (.ref f2)) (ml : mg "len" = none) (mN : mg "MOST_NAMES" = some (.int 12 t1)) : FnOk P w K mg base CX0 6 f fd ["net"] spKNB := by
  refine F.ok scKNB (fun vs H Q E h => ?_) (fun cdv A outer s H vs Q E hr h => ?_)
  · obtain ⟨p, net, rfl, _⟩ := h
    rfl
  obtain ⟨p, net, rfl, nt, hl, rs, q⟩ := h
  have hr4 := hr.mono (j := 4) (by decide)
  refine ⟨_, qAd (qAm (pe_and (qCd op_le (qAh qAo rfl ml PySem.boot_len (pa_cons (pv 0) pa_nil)) (pe_glob (v := .int 12) rfl mN ⟨t1, rfl⟩) (qAt _)) (pe_one (qAi G1 hr4 rfl mG1 kG1 bG1 .nil qAu (pa_cons (qAi G2 hr rfl mG2 kG2 bG2 .nil qAu (pa_cons (pv 0) pa_nil)) pa_nil))))), ?_⟩
  try dsimp only [Cx.wish, qB8]
  obtain ⟨as, hp, pr⟩ := id nt
  have la : as.length = net.length := pr.length
  refine ⟨_, rfl, p, _, rfl, .inl (SqL.of hp), _, _, rfl, rfl, _, rfl, ?_⟩
  refine qCm (fun g => ?_) (fun g => ?_)
  · have g' : ((as.map V.ref).length : Int) ≤ 12 := of_decide_eq_true g
    rw [List.length_map, la] at g'
    refine ⟨_, rfl, p, net, rfl, nt, by omega, fun T ps S M H1 e1 T0 tf pok psr pS pM dM => ?_⟩
    exact ⟨T, _, _, rfl, tf.tin, fun b H2 eb e2 => q b H2 (eb.trans (bnd_net rs pok pS pM dM (by omega))) (e1.trans e2)⟩
  · have g' : ¬ ((as.map V.ref).length : Int) ≤ 12 := fun y => g (decide_eq_true y)
    rw [List.length_map, la] at g'
    exact q false H ⟨fun z => (by cases z), fun z => absurd z.1 (by omega)⟩ (Ext.refl _)
end
end My
namespace My
open PySem L2
theorem mem_rowL {names : List Str} {z : Nat} {n : Str} : n ∈ rowL names z ↔ ∃ i, i < names.length ∧ names[i]? = some n ∧ z.testBit i = true := by
  unfold rowL
  rw [List.mem_filterMap]
  constructor
  · rintro ⟨i, hi, e⟩
    split at e
    · rename_i b
      exact ⟨i, List.mem_range.mp hi, e, b⟩
    · cases e
  · rintro ⟨i, hi, e, b⟩
    exact ⟨i, List.mem_range.mpr hi, by rw [if_pos b]; exact e⟩
section
variable {P : Program} {w : World} {K : PySem.W.Frag} {mg : Str → Option Value} {base : Heap} {f f1 f2 f3 f4 f5 f6 f7 : Addr} {fd fd1 fd2 fd3 fd4 fd5 fd6 fd7 : FuncData}
theorem qDp {ms : List Nat} {Q : List V → Hp → Prop} {H1 : Hp} {σ0 : St} {g : TG} {tt : TT} {te : TE} {p : Addr} (pr : Nat → Bool) (h : Nat → Nat) (hp : LsN H1 p ms) (ln : ms.length ≤ 24)
    (hs : ∀ z ∈ ms, ∀ (C : V → Hp → Prop) (B : Hp → Prop), (pr z = true → C (iV (h z)) H1) → (pr z = false → B H1) → g (iV z) σ0 H1 fun σ2 H2 => Sle σ0 σ2 ∧ tt σ2 H2 fun b H3 => if b = true then te σ2 H3 C else B H3)
    (hd : Q (((ms.filter pr).map h).map iV) H1) : qDl (Itl K p) σ0 g tt te Q H1 := by
  refine qAq (xs := ms.map iV) (fun j ys H2 => H2 = H1 ∧ ys = (((ms.take j).filter pr).map h).map iV) ⟨rfl, rfl⟩ (fun j ys H2 _ h => by rw [h.1]; exact SqL.of hp) ?_ ?_
  · rintro j x ys H2 hx ⟨rfl, rfl⟩
    obtain ⟨z, rfl, hz⟩ := qC9 hx
    have hj := qA2 hz
    have sz := List.length_filter_le pr (ms.take j)
    rw [List.length_take] at sz
    refine hs z (List.mem_of_getElem? hz) _ _ (fun b => ⟨?_, nxt (qA2 hx) ⟨rfl, ?_⟩⟩) (fun b => nxt (qA2 hx) ⟨rfl, ?_⟩)
    · rw [List.length_map, List.length_map]; exact qAf (by omega)
    · rw [qAk hz, List.filter_append, List.map_append, List.map_append]
      simp [b]
    · rw [qAk hz, List.filter_append]
      simp [b]
  · rintro ys H2 ⟨rfl, rfl⟩
    rw [List.length_map, List.take_of_length_le (Nat.le_refl _)]
    exact hd
end
end My
namespace My
open PySem L2
theorem bor_nat (a b : Nat) : Builtin.bitOr (a : Int) (b : Int) = ((a ||| b : Nat) : Int) := by
  have x : ∀ x : Int, Builtin.bitNot (Builtin.bitNot x) = x := fun x => by unfold Builtin.bitNot; omega
  unfold Builtin.bitOr
  have na : ¬ (0 : Int) ≤ Builtin.bitNot (a : Int) := by unfold Builtin.bitNot; omega
  have nb : ¬ (0 : Int) ≤ Builtin.bitNot (b : Int) := by unfold Builtin.bitNot; omega
  have o : Builtin.bitAnd (Builtin.bitNot (a : Int)) (Builtin.bitNot (b : Int)) = Builtin.bitNot ((a ||| b : Nat) : Int) := by
    unfold Builtin.bitAnd
    rw [decide_eq_false na, decide_eq_false nb]
    show Builtin.bitNot _ = _
    rw [x, x]; simp
  rw [o, x]
theorem shl_natG (z k : Nat) : (z : Int) * 2 ^ ((k : Int)).toNat = ((z <<< k : Nat) : Int) := by
  rw [Int.toNat_natCast, Nat.shiftLeft_eq, Int.natCast_mul, Int.natCast_pow]; rfl
theorem p2_pos (m : Nat) : (0 : Int) < 1 * 2 ^ ((m : Int)).toNat := by
  rw [qCb]
  have : 0 < 2 ^ m := Nat.pow_pos (by decide)
  omega
theorem cut_to (xs : List V) (p : Nat) : cutV xs none (some (p : Int)) = xs.take p := by
  unfold cutV
  rw [HT.sIx_nat, HT.sIx_none, List.drop_zero, Nat.sub_zero]
  rcases Nat.le_total p xs.length with h | h
  · rw [Nat.min_eq_left h]
  · rw [Nat.min_eq_right h, List.take_of_length_le (Nat.le_refl _), List.take_of_length_le h]
theorem mod2 (B : Int) (n : Nat) : ∃ x : Nat, B % (1 * 2 ^ ((n : Nat) : Int).toNat) = (x : Int) ∧ x < 2 ^ n := by
  rw [qCb]
  have p : 0 < 2 ^ n := Nat.pow_pos (by decide)
  have h1 := Int.emod_nonneg B (show ((2 ^ n : Nat) : Int) ≠ 0 by omega)
  have h2 := Int.emod_lt_of_pos B (show (0 : Int) < ((2 ^ n : Nat) : Int) by omega)
  exact ⟨(B % ((2 ^ n : Nat) : Int)).toNat, by omega, by omega⟩
theorem qEk {p : Nat → Prop} {l : List Nat} {x : Nat} (h : ∀ y ∈ l, p y) (hx : p x) : ∀ y ∈ l ++ [x], p y := fun y hy => by
  rcases List.mem_append.mp hy with z | z
  · exact h y z
  · rw [List.mem_singleton.mp z]; exact hx
def spLFre : Sp := fun vs H Q _ => ∃ (b : Int) (m : Nat), vs = [.int b, iV m] ∧ m ≤ 12 ∧ ∀ (r : Addr) (ns : List Nat) (H' : Hp), Ext H H' → H r = none → LsN H' r ns → ns.length ≤ 9 → (∀ x ∈ ns, x < 2 ^ m) → Q (.ref r) H'
def spLCop : Sp := fun vs H Q _ => ∃ (T : Addr) (names : List Str) (rows : List (List Str)), vs = [.ref T] ∧ qD2 H T names rows ∧ rows.length ≤ 24 ∧ ∀ T' H', Ext H H' → H T' = none → qD2 H' T' names rows → Q (.ref T') H'
def rLst (K : PySem.W.Frag) : List V → Hp → VK → Prop := fun xs H Q => ∃ p ys, xs = [.ref p] ∧ (SqL K H p ys ∨ SqT K H p ys) ∧ ∀ l, H l = none → Q (.ref l) (upd H l (.lst ys))
section
variable {P : Program} {w : World} {K : PySem.W.Frag} {mg : Str → Option Value} {base : Heap} {f f1 f2 f3 f4 f5 : Addr} {fd fd1 fd2 fd3 fd4 fd5 : FuncData}
abbrev frN : List Str := ["_law_big_here", "_law_many", "_law_found", "_law_k"]
theorem scLFre : FnScope frN ["_law_big_here", "_law_many"] (qAc sLFre) := ⟨rfl, rfl, rfl, by decide +kernel, rfl, by decide +kernel, by decide +kernel⟩
set_option maxHeartbeats 4000000 in
theorem ok_lfre (F : Fun K "_law_free" "_law_free" sLFre f fd) (mr : mg "range" = none) : FnOk P w K mg base CX0 1 f fd ["_law_big_here", "_law_many"] spLFre := by
  refine F.ok scLFre (fun vs H Q E h => ?_) (fun cdv A outer s H vs Q E hr h => ?_)
  · obtain ⟨b, m, rfl, _⟩ := h
    rfl
  obtain ⟨b, m, rfl, m12, q⟩ := h
  refine ⟨_, qAa (qAj (i := 2) scLFre.nd rfl (Or.inl rfl) (qBe pa_nil))
    (qAa (qBl PassesOwn.never rfl (qBg rfl mr (pa_cons (qAg qBd (pv 0) qAb) pa_nil)) (qAe (i := 3) scLFre.nd rfl (Or.inl rfl))
      (qAa (qB5 (pe_bm PySem.F.plainAttrs_list PySem.F.slot_list_append PySem.F.type_list_append qBn (pv 2) (pa_cons (qAg qBd (qAg qA5 (pv 0) qAb) (qAg qCy qAb (pv 1))) pa_nil)))
      (qAd (qAj (i := 0) scLFre.nd rfl (Or.inl rfl) (qAg qGe (qAg qA5 (pv 0) qAb) (pv 1))))))
    (qAd (qAm (pv 2)))), ?_⟩
  try dsimp only [Cx.wish, qB8]
  refine ⟨Nat.zero_le _, fun fo fo0 => ?_⟩
  have h1 := Int.emod_nonneg b (show (10 : Int) ≠ 0 by decide)
  have h2 := Int.emod_lt_of_pos b (show (0 : Int) < 10 by decide)
  refine ⟨_, rfl, _, _, rfl, rfl, (by show (0 : Int) < _; decide), b % 10, rfl, by omega, by omega, ?_⟩
  refine qBt (lo := 0) (n := (b % 10).toNat) (fun i σ H' => ∃ (b' : Int) (x3 : Option V) (ns : List Nat), σ = [some (.int b'), some (iV m), some (.ref fo), x3] ∧ Ext H H' ∧ LsN H' fo ns ∧ ns.length ≤ i ∧ ∀ x ∈ ns, x < 2 ^ m) ⟨b, none, [], rfl, Ext.new fo0 _, upd_same, Nat.le_refl _, fun x hx => (by cases hx)⟩ ?_ ?_
  · rintro i σ H' hi ⟨b', x3, ns, rfl, e, hf, ln, lt⟩
    obtain ⟨x, hx, xl⟩ := mod2 (b' / 10) m
    refine ⟨_, rfl, .inl ⟨rfl, _, SqL.of hf⟩, _, rfl, _, _, rfl, rfl, ⟨by decide, by decide⟩, _, rfl, _, _, rfl, rfl, ⟨by omega, by omega, by decide⟩, _, _, rfl, rfl, p2_pos m, fo, _, _, rfl, rfl, hf, by rw [List.length_map]; exact qAf (by omega), ?_⟩
    refine ⟨_, rfl, _, _, rfl, rfl, ⟨by decide, by decide⟩, _, rfl, _, _, rfl, rfl, (by show (0 : Int) ≤ _; omega), ?_⟩
    refine ⟨_, _, ns ++ [x], rfl, e.over fo0 _, ?_, by rw [List.length_append]; exact Nat.succ_le_succ ln, qEk lt xl⟩
    unfold LsN
    rw [upd_same, List.map_append]
    show some (HO.lst (_ ++ [V.int (b' / 10 % (1 * 2 ^ ((m : Int)).toNat))])) = _
    rw [hx]; rfl
  · rintro σ H' ⟨b', x3, ns, rfl, e, hf, ln, lt⟩
    exact ⟨_, rfl, q fo ns _ e fo0 hf (by omega) lt⟩
theorem scLCop : FnScope ["_law_table_here"] ["_law_table_here"] (qAc sLCop) := ⟨rfl, rfl, rfl, by decide +kernel, rfl, by decide +kernel, by decide +kernel⟩
set_option maxHeartbeats 4000000 in
theorem ok_lcop (F : Fun K "_law_copy" "_law_copy" sLCop f fd) (mL : mg "list" = none) : FnOk P w K mg base CX0 1 f fd ["_law_table_here"] spLCop := by
  refine F.ok scLCop (fun vs H Q E h => ?_) (fun cdv A outer s H vs Q E hr h => ?_)
  · obtain ⟨T, names, rows, rfl, _⟩ := h
    rfl
  obtain ⟨T, names, rows, rfl, ti, lr, q⟩ := h
  refine ⟨_, qAd (qAm (qBy (pa_cons (qBs qB9 rfl mL qA8 (pa_cons (qBb qBh (pv 0) qAb (fun _ _ => rfl)) pa_nil))
    (pa_cons (pe_lc (N := ["_law_table_here"]) (sc := qAc sLCop) (N' := ["_law_row_here"]) (sub := [none]) rfl rfl (CmpOk.of (by decide +kernel)) rfl (qAs (qBb qBh (pv 0) qAb (fun _ _ => rfl)))
      (fun C s H fp => ⟨qAe (i := 0) (by show (["_law_row_here"] : List Str).Nodup; decide) rfl (Or.inl rfl), qA0, qBs (show qCr _ (.type "list") (rLst K) from qB9) rfl mL qA8 (pa_cons (pv 0) pa_nil)⟩)) pa_nil)))), ?_⟩
  try dsimp only [Cx.wish, qB8]
  obtain ⟨tA, tB, hT, htA, ⟨cs, htB, pcs⟩⟩ := id ti
  have lcs : cs.length = rows.length := pcs.length
  refine ⟨_, rfl, T, _, _, _, rfl, rfl, SqT.of hT, (by exact qAv (j := 0) rfl), tA, _, rfl, .inl (SqL.of htA), fun l1 hl1 => ?_⟩
  have N0 := Ext.new hl1 (.lst (names.map V.str))
  refine ⟨_, rfl, T, _, _, _, rfl, rfl, SqT.of (N0 _ _ hT), (by exact qAv (j := 1) rfl), tB, rfl, ⟨_, SqL.of (N0 _ _ htB)⟩, ?_⟩
  refine qAq (xs := cs.map V.ref) (fun j ys Hd => Ext (upd H l1 (.lst (names.map V.str))) Hd ∧ ∃ ds, ys = ds.map V.ref ∧ Paired (LsS Hd) ds (rows.take j)) ⟨Ext.refl _, [], rfl, .nil⟩ (fun j ys Hd _ h => SqL.of (h.1 _ _ (N0 _ _ htB))) ?_ ?_
  · rintro j v ys Hd hx ⟨ed, ds, rfl, pd⟩
    obtain ⟨c, rfl, hc⟩ := qB4 hx
    obtain ⟨rw1, hrw, hc1⟩ := qAy pcs hc
    have hj := qA2 hrw
    have ld : ds.length = _ := pd.length
    rw [List.length_take] at ld
    refine ⟨Sle.set _ (Sle.refl _) (fun u z => by cases z), iteT (B := False) ⟨_, rfl, c, _, rfl, .inl (SqL.of (ed _ _ (N0 _ _ hc1))), fun l hl => ⟨?_, nxt (qA2 hx) ⟨ed.trans (Ext.new hl _), ds ++ [l], by rw [List.map_append]; rfl, ?_⟩⟩⟩⟩
    · rw [List.length_map]; exact qAf (by omega)
    · rw [qAk hrw]
      exact Paired.snoc (Paired.mapP pd fun a t z => (Ext.new hl _) _ _ z) upd_same
  rintro ys Hd ⟨ed, ds, rfl, pd⟩ bb hbb
  rw [List.length_map, lcs, List.take_of_length_le (Nat.le_refl _)] at pd
  have XB := Ext.new hbb (.lst (ds.map V.ref))
  refine ⟨(by show 2 ≤ sizeLine; decide), fun TT hTT => ?_⟩
  have XT := Ext.new hTT (.tup [V.ref l1, V.ref bb])
  have NE := N0.trans (ed.trans (XB.trans XT))
  exact q TT _ NE (((N0.trans ed).trans XB).none hTT) ⟨l1, bb, upd_same, (ed.trans (XB.trans XT)) _ _ upd_same, ⟨ds, XT _ _ upd_same, Paired.mapP pd fun a t z => (XB.trans XT) _ _ z⟩⟩
end
end My
namespace My
open PySem L2
theorem los_nd {ms : List Nat} {m : Nat} (lt : ∀ x ∈ ms, x < 2 ^ m) : ((redL ms).map lo).Nodup := by
  obtain ⟨g, e⟩ := qDc (m := m) ms lt
  have rr := qCx (ms.map (rv m))
  rw [← e] at rr
  have l1 := ld_nd rr
  rw [List.map_map, List.Nodup, List.pairwise_map] at l1
  rw [List.Nodup, List.pairwise_map]
  refine List.Pairwise.imp_of_mem (fun {a b} ha hb h q => h ?_) l1
  show (rv m a).log2 = (rv m b).log2
  rw [rv_log2 (g a ha).1 (g a ha).2, rv_log2 (g b hb).1 (g b hb).2, q]
theorem cr_lt {ms : List Nat} {m i : Nat} (lt : ∀ x ∈ ms, x < 2 ^ m) (hi : i < m) (pr : Nat → Bool) (h : ¬ i ∈ (redL ms).map lo) : 2 ^ i + (((redL ms).filter pr).map fun z => 2 ^ lo z).sum < 2 ^ m := by
  obtain ⟨g, _⟩ := qDc (m := m) ms lt
  have nd := los_nd lt
  have nd2 : (i :: ((redL ms).filter pr).map lo).Nodup := List.nodup_cons.mpr ⟨fun z => h (by
    obtain ⟨u, hu, e⟩ := List.mem_map.mp z
    exact List.mem_map.mpr ⟨u, (List.mem_filter.mp hu).1, e⟩), nd.sublist (List.filter_sublist.map lo)⟩
  have e : 2 ^ i + (((redL ms).filter pr).map fun z => 2 ^ lo z).sum = ((i :: ((redL ms).filter pr).map lo).map fun l => 2 ^ l).sum := by
    rw [List.map_cons, List.sum_cons, List.map_map]; rfl
  rw [e]
  refine Nat.lt_pow_two_of_testBit _ fun j hj => ?_
  rw [qEo _ nd2]
  refine decide_eq_false fun z => ?_
  rcases List.mem_cons.mp z with z | z
  · omega
  · obtain ⟨u, hu, e⟩ := List.mem_map.mp z
    have hm := (List.mem_filter.mp hu).1
    have := lo_lt (g u hm).1 (g u hm).2
    omega
theorem or_lt {a b k : Nat} (ha : a < 2 ^ k) (hb : b < 2 ^ k) : a ||| b < 2 ^ k := Nat.or_lt_two_pow ha hb
theorem lt_succ2 {x m : Nat} (h : x < 2 ^ m) : x < 2 ^ (m + 1) := Nat.lt_trans h (Nat.pow_lt_pow_right (by decide) (by omega))
theorem qEa {j m : Nat} (h : j ≤ m) : 2 ^ j < 2 ^ (m + 1) := Nat.pow_lt_pow_right (by decide) (by omega)
def spLCro : Sp := fun vs H Q _ => ∃ (p : Addr) (ms : List Nat) (m : Nat), vs = [.ref p, iV m] ∧ LsN H p ms ∧ ms.length ≤ 24 ∧ m ≤ 12 ∧ (∀ x ∈ ms, x < 2 ^ m) ∧ ∀ (r : Addr) (ns : List Nat) (H' : Hp), Ext H H' → H r = none → LsN H' r ns → ns.length ≤ 12 → (∀ x ∈ ns, x < 2 ^ m) → Q (.ref r) H'
def spLSma : Sp := fun vs H Q _ => ∃ k : Int, vs = [.int k] ∧ 0 ≤ k ∧ k < 4 ∧ ∀ (T b : Addr) (m : Nat) (ns : List Nat) (H' : Hp), Ext H H' → H' T = some (.tup [iV m, .ref b]) → LsN H' b ns → ns.length ≤ 12 → 0 < m → m ≤ 12 → (∀ x ∈ ns, x < 2 ^ m) → Q (.ref T) H'
def spLMor : Sp := fun vs H Q _ => ∃ (p : Addr) (ms : List Nat) (m M : Nat) (b : Int), vs = [.ref p, iV m, .int b, iV M] ∧ LsN H p ms ∧ ms.length ≤ 12 ∧ 0 < m ∧ M ≤ 12 ∧ m ≤ M ∧ (∀ x ∈ ms, x < 2 ^ m) ∧ ∀ (r : Addr) (ns : List Nat) (H' : Hp), Ext H H' → LsN H' r ns → ns.length ≤ 24 → (∀ x ∈ ns, x < 2 ^ M) → Q (.ref r) H'
section
variable {P : Program} {w : World} {K : PySem.W.Frag} {mg : Str → Option Value} {base : Heap} {f f1 f2 f3 f4 f5 : Addr} {fd fd1 fd2 fd3 fd4 fd5 : FuncData}
abbrev coN : List Str := ["_law_numbers", "_law_many", "_law_rows", "_law_fronts", "_law_found", "_law_place"]
theorem scLCro : FnScope coN ["_law_numbers", "_law_many"] (qAc sLCro) := ⟨rfl, rfl, rfl, by decide +kernel, rfl, by decide +kernel, by decide +kernel⟩
set_option maxHeartbeats 8000000 in
theorem ok_lcro (F : Fun K "_law_crossing" "_law_crossing" sLCro f fd) (G : FnOk P w K mg base CX0 1 f1 fd1 ["_law_numbers"] spLRed) (bG : qAz K fd1 ["_law_numbers"] []) (kG : PySem.W.keepIn K (.ref f1) = true) (mG : mg "_law_reduced" = some (.ref f1)) (msu : mg "sum" = none) (mr : mg "range" = none) : FnOk P w K mg base CX0 2 f fd ["_law_numbers", "_law_many"] spLCro := by
  refine F.ok scLCro (fun vs H Q E h => ?_) (fun cdv A outer s H vs Q E hr h => ?_)
  · obtain ⟨p, ms, m, rfl, _⟩ := h
    rfl
  obtain ⟨p, ms, m, rfl, hp, lm, m12, lt0, q⟩ := h
  refine ⟨_, qAa (qAj (i := 2) scLCro.nd rfl (Or.inl rfl) (qAi G hr rfl mG kG bG .nil qAu (pa_cons (pv 0) pa_nil)))
    (qAa (qAj (i := 3) scLCro.nd rfl (Or.inl rfl) (qAh (qDj rfl) rfl msu qDm (pa_cons (pe_lc (N := coN) (sc := qAc sLCro) (N' := ["_law_row_here"]) (sub := [none]) rfl rfl (CmpOk.of (by decide +kernel)) rfl (qAs (pv 2))
      (fun C s H fp => ⟨qAe (i := 0) (by show (["_law_row_here"] : List Str).Nodup; decide) rfl (Or.inl rfl), qA0, qAg qCg (pv 0) (pe_un un_neg (pv 0))⟩)) pa_nil)))
    (qAa (qAj (i := 4) scLCro.nd rfl (Or.inl rfl) (qBe pa_nil))
    (qAa (qBl PassesOwn.never rfl (qBg rfl mr (pa_cons (pv 1) pa_nil)) (qAe (i := 5) scLCro.nd rfl (Or.inr rfl))
      (qAd (qBf (qAn qDg (qAg qCg (qAg qGe (pv 3) (pv 5)) qAb) qAb (qAt _))
        (qAd (qB5 (pe_bm PySem.F.plainAttrs_list PySem.F.slot_list_append PySem.F.type_list_append qBn (pv 4) (pa_cons
          (qAg qBm (qAg qCy qAb (pv 5)) (qAh (qDj rfl) rfl msu qDm (pa_cons (pe_lc (N := coN) (sc := qAc sLCro) (N' := ["_law_row_here", "_law_place"]) (sub := [none, some 5]) rfl rfl (CmpOk.of (by decide +kernel)) rfl (qAs (pv 2))
            (fun C s H fp => ⟨qAe (i := 0) (by show (["_law_row_here", "_law_place"] : List Str).Nodup; decide) rfl (Or.inl rfl), qDe (qAn qDg (qAg qCg (qAg qGe (pv 0) (pv 1)) qAb) qAb (qAt _)), qAg qCg (pv 0) (pe_un un_neg (pv 0))⟩)) pa_nil))) pa_nil))))
        qAx)))
    (qAd (qAm (pv 4)))))), ?_⟩
  try dsimp only [Cx.wish, qB8]
  refine ⟨_, rfl, p, ms, m, rfl, hp, lm, lt0, fun ro H1 e1 ro0 hro => ?_⟩
  obtain ⟨gm, _⟩ := qDc (m := m) ms lt0
  have lR := redL_le ms
  refine ⟨_, rfl, ro, rfl, ⟨_, SqL.of hro⟩, ?_⟩
  refine qDp (fun _ => true) (fun z => 2 ^ lo z) hro (by omega) (fun z hz C B c b => ⟨Sle.set _ (Sle.refl _) (fun u z => by cases z), ?_⟩) ?_
  · refine iteT (B := B H1) ⟨_, rfl, _, rfl, _, rfl, _, _, rfl, rfl, ?_⟩
    have := c rfl
    rw [show iV (2 ^ lo z) = V.int (Builtin.bitAnd (z : Int) (-(z : Int))) by rw [low_bit (gm z hz).2]] at this
    exact this
  intro l1 hl1
  have n1 := e1.trans (Ext.new hl1 (.lst ((((redL ms).filter fun _ => true).map fun z => 2 ^ lo z).map iV)))
  refine ⟨l1, (((redL ms).filter fun _ => true).map fun z => 2 ^ lo z).map (fun n : Nat => (n : Int)), rfl, SqL.of (by rw [upd_same, qD1]), ?_⟩
  rw [qDq]
  have hro1 := (Ext.new hl1 (.lst ((((redL ms).filter fun _ => true).map fun z => 2 ^ lo z).map iV))) _ _ hro
  refine ⟨Nat.zero_le _, fun fo fo1 => ?_⟩
  have fo0 := n1.none fo1
  have n2 := n1.trans (Ext.new fo1 (.lst []))
  have hro2 := (Ext.new fo1 (.lst [])) _ _ hro1
  revert n2 hro2
  have hfo2 : upd (upd H1 l1 (.lst ((((redL ms).filter fun _ => true).map fun z => 2 ^ lo z).map iV))) fo (.lst []) fo = some (.lst []) := upd_same
  revert hfo2
  generalize upd (upd H1 l1 (.lst ((((redL ms).filter fun _ => true).map fun z => 2 ^ lo z).map iV))) fo (.lst []) = H2
  intro hfo2 n2 hro2
  have rofo : ro ≠ fo := qAp hro1 fo1
  have frb : ∀ i, (((redL ms).filter fun _ => true).map fun z => 2 ^ lo z).sum.testBit i = decide (i ∈ (redL ms).map lo) := fun i => by
    have e : ((redL ms).filter fun _ => true) = redL ms := List.filter_eq_self.mpr fun _ _ => rfl
    rw [e, show ((redL ms).map fun z => 2 ^ lo z) = ((redL ms).map lo).map fun l => 2 ^ l by rw [List.map_map]; rfl, qEo _ (los_nd lt0)]
  revert frb
  generalize (((redL ms).filter fun _ => true).map fun z => 2 ^ lo z).sum = fr
  intro frb
  refine ⟨_, rfl, (m : Int), rfl, by omega, by omega, ?_⟩
  refine qBt (lo := 0) (n := ((m : Int)).toNat) (fun i σ H' => ∃ (x5 : Option V) (ns : List Nat), σ = [some (.ref p), some (iV m), some (.ref ro), some (iV fr), some (.ref fo), x5] ∧ Ext H H' ∧ LsN H' ro (redL ms) ∧ LsN H' fo ns ∧ ns.length ≤ i ∧ ∀ x ∈ ns, x < 2 ^ m) ⟨none, [], rfl, n2, hro2, hfo2, Nat.le_refl _, fun x hx => (by cases hx)⟩ ?_ ?_
  · rintro i σ H' hi ⟨x5, ns, rfl, e, hr', hf, ln, lt⟩
    have hi' : i < m := by omega
    refine ⟨_, rfl, _, rfl, _, _, rfl, rfl, (by show (0 : Int) ≤ _; omega), _, _, rfl, rfl, rfl, _, rfl, ?_⟩
    refine qCm (fun c => ?_) (fun c => ?_)
    · refine ⟨_, rfl, .inl ⟨rfl, _, SqL.of hf⟩, _, rfl, _, _, rfl, rfl, ⟨by omega, by omega, by decide⟩, ?_⟩
      refine ⟨_, rfl, ro, rfl, ⟨_, SqL.of hr'⟩, ?_⟩
      refine qDp (fun z => z.testBit i) (fun z => 2 ^ lo z) hr' (by omega) (fun z hz C B c2 b2 => ⟨Sle.set _ (Sle.refl _) (fun u z => by cases z), ?_⟩) ?_
      · refine ⟨_, rfl, _, rfl, _, _, rfl, rfl, (by show (0 : Int) ≤ _; omega), _, _, rfl, rfl, rfl, _, rfl, ?_⟩
        have key : (decide (V.int (Builtin.bitAnd ((z : Int) / 2 ^ (0 + (i : Int)).toNat) 1) = V.int 1) = true) ↔ z.testBit i = true := by
          rw [decide_eq_true_iff, V.int.injEq, show (0 + (i : Int)) = ((i : Nat) : Int) by omega, Int.toNat_natCast, qFg]
          by_cases b : z.testBit i = true
          · simp [b]
          · simp [b]
        refine qCm (fun cc => ⟨_, rfl, _, rfl, _, rfl, _, _, rfl, rfl, ?_⟩) (fun cc => b2 ?_)
        · have := c2 (key.mp cc)
          rw [show iV (2 ^ lo z) = V.int (Builtin.bitAnd (z : Int) (-(z : Int))) by rw [low_bit (gm z hz).2]] at this
          exact this
        · cases q2 : z.testBit i with
          | false => rfl
          | true => exact absurd (key.mpr q2) cc
      · intro l2 hl2
        have n3 := Ext.new hl2 (.lst ((((redL ms).filter fun z => z.testBit i).map fun z => 2 ^ lo z).map iV))
        refine ⟨l2, (((redL ms).filter fun z => z.testBit i).map fun z => 2 ^ lo z).map (fun n : Nat => (n : Int)), rfl, SqL.of (by rw [upd_same, qD1]), ?_⟩
        rw [qDq]
        refine ⟨_, _, rfl, rfl, fo, _, _, rfl, rfl, n3 _ _ hf, by rw [List.length_map]; exact qAf (by omega), ?_⟩
        have ev : (fun i j : Int => V.int (i + j)) (1 * 2 ^ (0 + (i : Int)).toNat) (((((redL ms).filter fun z => z.testBit i).map fun z => 2 ^ lo z).sum : Nat) : Int) = iV (2 ^ i + ((((redL ms).filter fun z => z.testBit i).map fun z => 2 ^ lo z).sum)) := by
          show V.int (_ + _) = V.int _
          rw [show (0 + (i : Int)) = ((i : Nat) : Int) by omega, qCb, Int.natCast_add]
        rw [ev]
        refine ⟨_, ns ++ [2 ^ i + ((((redL ms).filter fun z => z.testBit i).map fun z => 2 ^ lo z).sum)], rfl, (e.trans n3).over fo0 _, ?_, ?_, by rw [List.length_append]; exact Nat.succ_le_succ ln, qEk lt (cr_lt lt0 hi' _ fun z => ?_)⟩
        · unfold LsN; rw [qAr rofo]; exact n3 _ _ hr'
        · unfold LsN; rw [upd_same, List.map_append]; rfl
        · rw [decide_eq_true_iff, V.int.injEq, show (0 + (i : Int)) = ((i : Nat) : Int) by omega, Int.toNat_natCast, qFg, frb, decide_eq_true z] at c
          cases c
    · exact ⟨_, ns, rfl, e, hr', hf, by omega, lt⟩
  · rintro σ H' ⟨x5, ns, rfl, e, hr', hf, ln, lt⟩
    exact ⟨_, rfl, q fo ns _ e fo0 hf (by omega) lt⟩
abbrev mrN : List Str := ["_law_base", "_law_many", "_law_big_here", "_law_most", "_law_way", "_law_mate"]
theorem qEz : FnScope mrN ["_law_base", "_law_many", "_law_big_here", "_law_most"] (qAc sLMor) := ⟨rfl, rfl, rfl, by decide +kernel, rfl, by decide +kernel, by decide +kernel⟩
abbrev mrC : List Str := ["_law_step", "_law_mate", "_law_many"]
set_option maxHeartbeats 8000000 in
theorem ok_lmor (F : Fun K "_law_with_more" "_law_with_more" sLMor f fd) (ml : mg "len" = none) : FnOk P w K mg base CX0 1 f fd ["_law_base", "_law_many", "_law_big_here", "_law_most"] spLMor := by
  refine F.ok qEz (fun vs H Q E h => ?_) (fun cdv A outer s H vs Q E hr h => ?_)
  · obtain ⟨p, ms, m, M, b, rfl, _⟩ := h
    rfl
  obtain ⟨p, ms, m, M, b, rfl, hp, lm, m0, M12, mM, lt, q⟩ := h
  refine ⟨_, qAa (ps_while PassesOwn.never (qAn qE5 (pv 1) (pv 3) (qAt _))
      (qAa (qAj (i := 4) qEz.nd rfl (Or.inl rfl) (qAg qBd (pv 2) qAb))
      (qAa (qAj (i := 5) qEz.nd rfl (Or.inr rfl) (qAg qBd (qAg qA5 (pv 2) qAb) (pv 1)))
      (qAa (qAj (i := 2) qEz.nd rfl (Or.inl rfl) (qAg qA5 (qAg qA5 (pv 2) qAb) (pv 1)))
      (qAa (qBf (PW.pt (pw_and (qAn qDg (pv 4) qAb (qAt _)) (pw_and1 (qAn qE5 (qAh qAo rfl ml PySem.boot_len (pa_cons (pv 0) pa_nil)) qAb (qAt _)))))
          (qAd (qAj (i := 0) qEz.nd rfl (Or.inl rfl) (qAg qE2 (pv 0) (qBe (pa_cons (qAg qCy qAb (pv 1)) pa_nil)))))
          (qAd (qBf (PW.pt (pw_and (qAn qDg (pv 4) qAb (qAt _)) (pw_and1 (qAn qE5 (qAh qAo rfl ml PySem.boot_len (pa_cons (pv 0) pa_nil)) qAb (qAt _)))))
            (qAd (qAj (i := 0) qEz.nd rfl (Or.inl rfl) (qAg qE2 (pv 0) (qBe (pa_cons (qAg op_or (qAg qCy qAb (pv 1)) (qAg qCy qAb (pv 5))) pa_nil)))))
            (qAd (qBf (qAn qDg (pv 4) qAb (qAt _))
              (qAd (ps_lc (i := 0) (N := mrN) (sc := qAc sLMor) (N' := mrC) (sub := [none, some 5, some 1]) rfl rfl (CmpOk.of (by decide +kernel)) rfl (qAs (pv 0))
                (fun C s H fp => ⟨qAe (i := 0) (by show mrC.Nodup; decide) rfl (Or.inl rfl), qA0, qAg op_or (pv 0) (qAg qCy (qAg qCg (qAg qGe (pv 0) (pv 1)) qAb) (pv 2))⟩) qEz.nd rfl (Or.inl rfl)))
              qAx)))))
      (qAd (ps_aug (i := 1) qEz.nd rfl (Or.inr rfl) qAb ip_add)))))))
    (qAd (qAm (pv 0))), ?_⟩
  try dsimp only [Cx.wish, qB8]
  refine ⟨fun k σ H' => ∃ (p : Addr) (ms : List Nat) (m : Nat) (b : Int) (x4 x5 : Option V), k = M - m ∧ σ = [some (.ref p), some (iV m), some (.int b), some (iV M), x4, x5] ∧ Ext H H' ∧ LsN H' p ms ∧ ms.length ≤ 12 ∧ 0 < m ∧ m ≤ M ∧ ∀ x ∈ ms, x < 2 ^ m, ⟨_, p, ms, m, b, none, none, rfl, rfl, Ext.refl _, hp, lm, m0, mM, lt⟩, ?_⟩
  clear hp lm m0 mM lt
  rintro k σ H' ⟨p, ms, m, b, x4, x5, rfl, rfl, e, hp, lm, m0, mM, lt⟩
  refine ⟨_, rfl, _, rfl, _, _, rfl, rfl, _, rfl, ?_⟩
  refine qCm (fun c => ?_) (fun c => ?_)
  · have c' : m < M := by
      have : (m : Int) < (M : Int) := of_decide_eq_true c
      omega
    refine ⟨fun σ' H' => ∃ k', k' < M - m ∧ ∃ (p : Addr) (ms : List Nat) (m : Nat) (b : Int) (x4 x5 : Option V), k' = M - m ∧ σ' = [some (.ref p), some (iV m), some (.int b), some (iV M), x4, x5] ∧ Ext H H' ∧ LsN H' p ms ∧ ms.length ≤ 12 ∧ 0 < m ∧ m ≤ M ∧ ∀ x ∈ ms, x < 2 ^ m, fun _ _ h => h, ?_⟩
    have mm0 : (0 : Int) < (m : Int) := by omega
    obtain ⟨mt, hmt, mtl⟩ : ∃ mt : Nat, b / 4 % (m : Int) = (mt : Int) ∧ mt < m := by
      have h1 := Int.emod_nonneg (b / 4) (show (m : Int) ≠ 0 by omega)
      have h2 := Int.emod_lt_of_pos (b / 4) mm0
      exact ⟨(b / 4 % (m : Int)).toNat, by omega, by omega⟩
    refine ⟨_, rfl, _, _, rfl, rfl, (by show (0 : Int) < _; decide), ?_⟩
    refine ⟨_, rfl, _, _, rfl, rfl, ⟨by decide, by decide⟩, _, rfl, _, _, rfl, rfl, mm0, ?_⟩
    refine ⟨_, rfl, _, _, rfl, rfl, ⟨by decide, by decide⟩, _, rfl, _, _, rfl, rfl, ⟨mm0, by omega⟩, ?_⟩
    have mte : (fun i j : Int => V.int (i % j)) (b / 4) (m : Int) = iV mt := by show V.int _ = V.int _; rw [hmt]
    rw [mte]
    have fin : ∀ (p' : Addr) (ns : List Nat) (b' : Int) (x4' x5' : Option V) (H2 : Hp), Ext H H2 → LsN H2 p' ns → ns.length ≤ 12 → (∀ x ∈ ns, x < 2 ^ (m + 1)) → ∃ k', k' < M - m ∧ ∃ (p : Addr) (ms : List Nat) (m2 : Nat) (b : Int) (x4 x5 : Option V), k' = M - m2 ∧ [some (V.ref p'), some (V.int ((m : Int) + 1)), some (.int b'), some (iV M), x4', x5'] = [some (.ref p), some (iV m2), some (.int b), some (iV M), x4, x5] ∧ Ext H H2 ∧ LsN H2 p ms ∧ ms.length ≤ 12 ∧ 0 < m2 ∧ m2 ≤ M ∧ ∀ x ∈ ms, x < 2 ^ m2 := fun p' ns b' x4' x5' H2 h1 h2 h3 h4 => ⟨M - (m + 1), by omega, p', ns, m + 1, b', x4', x5', rfl, rfl, h1, h2, h3, by omega, by omega, h4⟩
    have ltS : ∀ x ∈ ms, x < 2 ^ (m + 1) := fun x hx => lt_succ2 (lt x hx)
    have nope : ∀ (k k' : Int), k ≠ k' → decide (V.int (b % 4) = V.int k) = true → ¬ decide (V.int (b % 4) = V.int k') = true := fun k k' ne h1 h2 => by
      rw [decide_eq_true_iff, V.int.injEq] at h1 h2
      exact ne (h1.symm.trans h2)
    have bc : ∀ z : Nat, Builtin.bitAnd ((z : Int) / 2 ^ ((mt : Int)).toNat) 1 = (((if z.testBit mt = true then 1 else 0 : Nat) : Nat) : Int) := fun z => by
      rw [Int.toNat_natCast, qFg]
      split <;> rfl
    refine ⟨_, rfl, rfl, _, rfl, ?_⟩
    refine qCm (fun c1 => ?_) (fun c1 => ?_)
    · refine ⟨_, rfl, p, _, rfl, .inl (SqL.of hp), _, _, rfl, rfl, _, rfl, ?_⟩
      refine qCm (fun c2 => ?_) (fun c2 => ?_)
      · have l8 : ms.length < 8 := by
          have : (((ms.map iV).length : Nat) : Int) < 8 := of_decide_eq_true c2
          rw [List.length_map] at this; omega
        refine ⟨_, rfl, _, rfl, _, _, rfl, rfl, ⟨by omega, by omega, by decide⟩, (by show 1 ≤ sizeLine; decide), fun l hl => ?_⟩
        have X1 := Ext.new hl (.lst [V.int (1 * 2 ^ ((m : Int)).toNat)])
        refine ⟨p, l, _, _, rfl, rfl, X1 _ _ hp, upd_same, ?_, fun l2 hl2 => ?_⟩
        · rw [List.length_map]
          show _ + 1 ≤ sizeLine
          exact Nat.le_of_lt (qAf (by omega))
        · refine ⟨_, rfl, _, _, rfl, rfl, fin l2 (ms ++ [2 ^ m]) _ _ _ _ (e.trans (X1.trans (Ext.new hl2 _))) ?_ (by rw [List.length_append]; show _ + 1 ≤ 12; omega) (qEk ltS (qEa (Nat.le_refl _)))⟩
          unfold LsN
          rw [upd_same, List.map_append]
          show some (HO.lst (_ ++ [V.int (1 * 2 ^ ((m : Int)).toNat)])) = _
          rw [qCb]; rfl
      · refine ⟨_, rfl, rfl, _, rfl, ?_⟩
        refine qCm (fun c3 => absurd c3 (nope 0 1 (by decide) c1)) (fun c3 => qCu ?_)
        refine ⟨_, rfl, rfl, _, rfl, ?_⟩
        refine qCm (fun c4 => absurd c4 (nope 0 2 (by decide) c1)) (fun c4 => ?_)
        exact ⟨_, rfl, _, _, rfl, rfl, fin p ms _ _ _ _ e hp lm ltS⟩
    · refine qCu ⟨_, rfl, rfl, _, rfl, ?_⟩
      have thr : ∀ (h : ¬ False), True := fun _ => trivial
      refine qCm (fun c3 => ?_) (fun c3 => ?_)
      · refine ⟨_, rfl, p, _, rfl, .inl (SqL.of hp), _, _, rfl, rfl, _, rfl, ?_⟩
        refine qCm (fun c2 => ?_) (fun c2 => ?_)
        · have l8 : ms.length < 8 := by
            have : (((ms.map iV).length : Nat) : Int) < 8 := of_decide_eq_true c2
            rw [List.length_map] at this; omega
          refine ⟨_, rfl, _, rfl, _, _, rfl, rfl, ⟨by omega, by omega, by decide⟩, _, rfl, _, _, rfl, rfl, ⟨by omega, by omega, by decide⟩, _, _, rfl, rfl, (by show 1 ≤ sizeLine; decide), fun l hl => ?_⟩
          have X1 := Ext.new hl (.lst [V.int (Builtin.bitOr (1 * 2 ^ ((m : Int)).toNat) (1 * 2 ^ ((mt : Int)).toNat))])
          refine ⟨p, l, _, _, rfl, rfl, X1 _ _ hp, upd_same, ?_, fun l2 hl2 => ?_⟩
          · rw [List.length_map]
            show _ + 1 ≤ sizeLine
            exact Nat.le_of_lt (qAf (by omega))
          · refine ⟨_, rfl, _, _, rfl, rfl, fin l2 (ms ++ [2 ^ m ||| 2 ^ mt]) _ _ _ _ (e.trans (X1.trans (Ext.new hl2 _))) ?_ (by rw [List.length_append]; show _ + 1 ≤ 12; omega) (qEk ltS (or_lt (qEa (Nat.le_refl _)) (qEa (by omega))))⟩
            unfold LsN
            rw [upd_same, List.map_append]
            show some (HO.lst (_ ++ [V.int (Builtin.bitOr (1 * 2 ^ ((m : Int)).toNat) (1 * 2 ^ ((mt : Int)).toNat))])) = _
            rw [qCb, qCb, bor_nat]; rfl
        · refine ⟨_, rfl, rfl, _, rfl, ?_⟩
          refine qCm (fun c4 => absurd c4 (nope 1 2 (by decide) c3)) (fun c4 => ?_)
          exact ⟨_, rfl, _, _, rfl, rfl, fin p ms _ _ _ _ e hp lm ltS⟩
      · refine qCu ⟨_, rfl, rfl, _, rfl, ?_⟩
        refine qCm (fun c4 => ?_) (fun c4 => ?_)
        · refine ⟨_, rfl, p, rfl, ⟨_, SqL.of hp⟩, ?_⟩
          refine qDp (fun _ => true) (fun z => z ||| (if z.testBit mt = true then 1 else 0) <<< m) hp (by omega) (fun z hz C B cc bb => ⟨Sle.set _ (Sle.refl _) (fun u z => by cases z), ?_⟩) ?_
          · refine iteT (B := B H') ⟨_, rfl, _, rfl, _, rfl, _, _, rfl, rfl, (by show (0 : Int) ≤ _; omega), _, _, rfl, rfl, _, rfl, _, _, rfl, rfl, ⟨by omega, by omega, ?_⟩, _, _, rfl, rfl, ?_⟩
            · rw [bc]
              split <;> decide
            · have := cc rfl
              rw [show iV (z ||| (if z.testBit mt = true then 1 else 0) <<< m) = V.int (Builtin.bitOr (z : Int) (Builtin.bitAnd ((z : Int) / 2 ^ ((mt : Int)).toNat) 1 * 2 ^ ((m : Int)).toNat)) by rw [bc, shl_natG, bor_nat]] at this
              exact this
          · intro l hl
            refine ⟨_, rfl, _, _, rfl, rfl, fin l _ _ _ _ _ (e.trans (Ext.new hl _)) upd_same ?_ fun x hx => ?_⟩
            · rw [List.length_map]
              exact Nat.le_trans (List.length_filter_le _ _) lm
            · obtain ⟨z, hz, rfl⟩ := List.mem_map.mp hx
              refine or_lt (ltS z (List.mem_filter.mp hz).1) ?_
              split
              · rw [Nat.one_shiftLeft]; exact qEa (Nat.le_refl _)
              · rw [Nat.zero_shiftLeft]; exact Nat.pow_pos (by decide)
        · exact ⟨_, rfl, _, _, rfl, rfl, fin p ms _ _ _ _ e hp lm ltS⟩
  · have c' : ¬ (m : Int) < (M : Int) := fun z => c (decide_eq_true z)
    have : m = M := by omega
    subst this
    exact ⟨_, rfl, q p ms _ e hp (by omega) lt⟩
end
end My
namespace My
open PySem L2
theorem band_low (z p : Nat) : Builtin.bitAnd (z : Int) (1 * 2 ^ ((p : Int)).toNat - 1) = ((z &&& (2 ^ p - 1) : Nat) : Int) := by
  rw [qCb]
  have : 0 < 2 ^ p := Nat.pow_pos (by decide)
  rw [show ((2 ^ p : Nat) : Int) - 1 = ((2 ^ p - 1 : Nat) : Int) by omega, qCk]
end My
namespace My
open PySem L2
def spLSame : Sp := fun vs H Q _ => ∃ (T T2 : Addr) (names : List Str) (rows : List (List Str)), vs = [.ref T, .ref T2] ∧ qD2 H T names rows ∧ qD2 H T2 names rows ∧ SOk names ∧ (∀ r ∈ rows, SOk r) ∧ rows.length ≤ 24 ∧ ∀ H', Ext H H' → Q (.bl true) H'
def rIsi (K : PySem.W.Frag) : List V → Hp → VK → Prop := fun xs H Q => ∃ x t c b, xs = [x, .ty c] ∧ TyOf K H x t ∧ PySem.W.kitOne K t (.type c) = some b ∧ Q (.bl b) H
section
variable {P : Program} {w : World} {K : PySem.W.Frag} {mg : Str → Option Value} {base : Heap} {f f1 f2 f3 f4 f5 f6 f7 : Addr} {fd fd1 fd2 fd3 fd4 fd5 fd6 fd7 : FuncData}
theorem scLSame : FnScope ["_law_found", "_law_due"] ["_law_found", "_law_due"] (qAc sLSame) := ⟨rfl, rfl, rfl, by decide +kernel, rfl, by decide +kernel, by decide +kernel⟩
set_option maxHeartbeats 4000000 in
theorem ok_lsame (F : Fun K "_law_same_table" "_law_same_table" sLSame f fd) (ml : mg "len" = none) (mL : mg "list" = none) (mtu : mg "tuple" = none) (mi : mg "isinstance" = none) (mal : mg "all" = none) : FnOk P w K mg base CX0 1 f fd ["_law_found", "_law_due"] spLSame := by
  refine F.ok scLSame (fun vs H Q E h => ?_) (fun cdv A outer s H vs Q E hr h => ?_)
  · obtain ⟨T, T2, names, rows, rfl, _⟩ := h
    rfl
  obtain ⟨T, T2, names, rows, rfl, t1, t2, ok1, ok2, lr, q⟩ := h
  refine ⟨_, qAa (qBf (PW.pt (qD8 (qBr (qBq (qAh qA3 rfl mi qA4 (pa_cons (pv 0) (pa_cons (qBz (v := .ty "tuple") rfl mtu qB7 rfl) pa_nil)))))
      (qD8 (qAn qEb (qAh qAo rfl ml PySem.boot_len (pa_cons (pv 0) pa_nil)) qAb (qAt _))
        (qDd (qBr (qBq (qAh qA3 rfl mi qA4 (pa_cons (qBb qBh (pv 0) qAb (fun _ _ => rfl)) (pa_cons (qBz (v := .ty "list") rfl mL qA8 rfl) pa_nil))))))))) (qAd (qAm qE4)) qAx)
    (qAd (qAm (pe_and (qAh qA3 rfl mi qA4 (pa_cons (qBb qBh (pv 0) qAb (fun _ _ => rfl)) (pa_cons (qBz (v := .ty "list") rfl mL qA8 rfl) pa_nil)))
      (pe_and (qAh (qB2 rfl) rfl mal qB3 (pa_cons (pe_lc (N := ["_law_found", "_law_due"]) (sc := qAc sLSame) (N' := ["_law_row_here"]) (sub := [none]) rfl rfl (CmpOk.of (by decide +kernel)) rfl (qAs (qBb qBh (pv 0) qAb (fun _ _ => rfl)))
        (fun C s H fp => ⟨qAe (i := 0) (by show (["_law_row_here"] : List Str).Nodup; decide) rfl (Or.inl rfl), qA0, qAh (show qCr _ (.builtin "isinstance") (rIsi K) from qA3) rfl mi qA4 (pa_cons (pv 0) (pa_cons (qBz (v := .ty "list") rfl mL qA8 rfl) pa_nil))⟩)) pa_nil))
        (pe_one (qCd (op_eqD (room64 hr)) (pv 0) (pv 1) (qAt _))))))), ?_⟩
  try dsimp only [Cx.wish, qB8]
  obtain ⟨a, b, hT, ha, ⟨as, hb, pr⟩⟩ := id t1
  have la : as.length = rows.length := pr.length
  refine ⟨_, rfl, _, _, _, true, rfl, .tup hT, qBj _ _, true, rfl, qCu ?_⟩
  refine ⟨_, rfl, T, _, rfl, .inr (SqT.of hT), rfl, _, rfl, qCu ?_⟩
  refine ⟨_, rfl, T, _, _, _, rfl, rfl, SqT.of hT, (by exact qAv (j := 0) rfl), _, _, _, true, rfl, .lst ha, qBj _ _, true, rfl, qCu ?_⟩
  refine ⟨_, rfl, T, _, _, _, rfl, rfl, SqT.of hT, (by exact qAv (j := 1) rfl), _, _, _, true, rfl, .lst hb, qBj _ _, true, rfl, iteT ?_⟩
  refine ⟨_, rfl, T, _, _, _, rfl, rfl, SqT.of hT, (by exact qAv (j := 1) rfl), b, rfl, ⟨_, SqL.of hb⟩, ?_⟩
  refine qAq (xs := as.map V.ref) (fun j ys H2 => H2 = H ∧ ys = (List.replicate j true).map V.bl) ⟨rfl, rfl⟩ (fun j ys H2 _ h => by rw [h.1]; exact SqL.of hb) ?_ ?_
  · rintro j v ys H2 hx ⟨rfl, rfl⟩
    obtain ⟨c, rfl, hc⟩ := qB4 hx
    obtain ⟨rw1, hrw, hc1⟩ := qAy pr hc
    have hj := qA2 hc
    refine ⟨Sle.set _ (Sle.refl _) (fun u z => by cases z), iteT (B := False) ⟨_, rfl, _, _, _, true, rfl, .lst hc1, qBj _ _, ?_, nxt (qA2 hx) ⟨rfl, ?_⟩⟩⟩
    · rw [List.length_map, List.length_replicate]; exact qAf (by omega)
    · rw [List.replicate_succ', List.map_append]; rfl
  · rintro ys H2 ⟨rfl, rfl⟩ l hl
    have n1 := Ext.new hl (.lst ((List.replicate (as.map V.ref).length true).map V.bl))
    refine ⟨l, List.replicate (as.map V.ref).length true, rfl, SqL.of upd_same, _, rfl, ?_⟩
    rw [show (List.replicate (as.map V.ref).length true).all id = true by rw [List.all_eq_true]; intro x hx; exact (List.mem_replicate.mp hx).2]
    refine iteT ⟨_, rfl, _, rfl, _, _, dr_tab (t1.ext n1), dr_tab (t2.ext n1), qF7 ok1 ok2, qF7 ok1 ok2, ?_⟩
    rw [if_neg (by decide), eqv_tab]
    exact q _ n1
end
end My
namespace My
open PySem L2
theorem qGn {α β : Type} {R : α → β → Prop} : ∀ {as : List α} {bs : List β} {cs : List α} {ds : List β}, Paired R as bs → Paired R cs ds → Paired R (as ++ cs) (bs ++ ds)
  | _, _, _, _, .nil, h => h
  | _, _, _, _, .cons a r, h => .cons a (qGn r h)
def rwE (x : Nat) (n : Nat) : List (Int × Int) := (List.range n).map fun (y : Nat) => ((0 + (x : Int)), (0 + (y : Int)))
def prs : Nat → List (Int × Int)
  | 0 => []
  | i + 1 => prs i ++ rwE i 6
def pr2 (t : Int × Int) : Bool := decide (t.1 < t.2) && decide (t.2 < 5)
def pr3 (t : Int × Int) : Bool := decide (t.1 < 3) && decide (3 ≤ t.2)
theorem rwE_len (x n : Nat) : (rwE x n).length = n := by unfold rwE; rw [List.length_map, List.length_range]
theorem prs_len : ∀ i, (prs i).length = 6 * i
  | 0 => rfl
  | i + 1 => by
    show (prs i ++ rwE i 6).length = _
    rw [List.length_append, prs_len i, rwE_len]; omega
theorem pr2_len : ((prs 6).filter pr2).length ≤ 12 := by decide +kernel
theorem pr3_len : ((prs 6).filter pr3).length ≤ 12 := by decide +kernel
theorem pr2_pos : 0 < ((prs 6).filter pr2).length := by decide +kernel
theorem pr3_pos : 0 < ((prs 6).filter pr3).length := by decide +kernel
theorem qF3 {K : PySem.W.Frag} {as : List Addr} {es : List (Int × Int)} {Q : List V → Hp → Prop} {H1 : Hp} {σ0 : St} {g : TG} {tt : TT} {te : TE} {p : Addr} (pr : Int × Int → Bool) (hp : H1 p = some (.lst (as.map V.ref))) (pe : Paired (fun a t => H1 a = some (.tup (enV t))) as es) (ln : es.length ≤ 36)
    (hs : ∀ a t, H1 a = some (.tup (enV t)) → ∀ (C : V → Hp → Prop) (B : Hp → Prop), (pr t = true → C (.ref a) H1) → (pr t = false → B H1) → g (.ref a) σ0 H1 fun σ2 H2 => Sle σ0 σ2 ∧ tt σ2 H2 fun b H3 => if b = true then te σ2 H3 C else B H3)
    (hd : ∀ bs, Paired (fun a t => H1 a = some (.tup (enV t))) bs (es.filter pr) → Q (bs.map V.ref) H1) : qDl (Itl K p) σ0 g tt te Q H1 := by
  have la : as.length = es.length := pe.length
  refine qAq (xs := as.map V.ref) (fun j ys H2 => H2 = H1 ∧ ∃ bs : List Addr, ys = bs.map V.ref ∧ Paired (fun a t => H1 a = some (.tup (enV t))) bs ((es.take j).filter pr)) ⟨rfl, [], rfl, .nil⟩ (fun j ys H2 _ h => by rw [h.1]; exact SqL.of hp) ?_ ?_
  · rintro j x ys H2 hx ⟨rfl, bs, rfl, pb⟩
    obtain ⟨a, rfl, ha⟩ := qB4 hx
    obtain ⟨t, ht, h1⟩ := qAy pe ha
    have hj := qA2 ht
    have lb : bs.length = _ := pb.length
    have sz := List.length_filter_le pr (es.take j)
    rw [List.length_take] at sz
    refine hs a t h1 _ _ (fun b => ⟨by rw [List.length_map]; exact qAf (by omega), nxt (qA2 hx) ⟨rfl, bs ++ [a], by rw [List.map_append]; rfl, ?_⟩⟩) (fun b => nxt (qA2 hx) ⟨rfl, bs, rfl, ?_⟩)
    · rw [filt_t ht b]; exact pb.snoc h1
    · rw [filt_f ht b]; exact pb
  · rintro ys H2 ⟨rfl, bs, rfl, pb⟩
    rw [List.length_map, la, List.take_of_length_le (Nat.le_refl _)] at pb
    exact hd bs pb
section
variable {P : Program} {w : World} {K : PySem.W.Frag} {mg : Str → Option Value} {base : Heap} {f f1 f2 f3 f4 f5 : Addr} {fd fd1 fd2 fd3 fd4 fd5 : FuncData}
abbrev smN : List Str := ["_law_kind", "_law_base", "_law_pairs", "_law_one", "_law_lights", "_law_point"]
theorem qD6 : FnScope smN ["_law_kind"] (qAc sLSma) := ⟨rfl, rfl, rfl, by decide +kernel, rfl, by decide +kernel, by decide +kernel⟩
abbrev smC : List Str := ["_law_k", "_law_pair", "_law_point"]
set_option maxHeartbeats 8000000 in
theorem ok_lsma (F : Fun K "_law_small" "_law_small" sLSma f fd) (G1 : FnOk P w K mg base CX0 2 f1 fd1 ["_law_numbers", "_law_many"] spLCro) (bG1 : qAz K fd1 ["_law_numbers", "_law_many"] []) (kG1 : PySem.W.keepIn K (.ref f1) = true) (mG1 : mg "_law_crossing" = some (.ref f1))
    (G2 : FnOk P w K mg base CX0 1 f2 fd2 ["_law_numbers"] spLRed) (bG2 : qAz K fd2 ["_law_numbers"] []) (kG2 : PySem.W.keepIn K (.ref f2) = true) (mG2 : mg "_law_reduced" = some (.ref f2)) (msu : mg "sum" = none) (mr : mg "range" = none) (me : mg "enumerate" = none) (ml : mg "len" = none) : FnOk P w K mg base CX0 3 f fd ["_law_kind"] spLSma := by
  refine F.ok qD6 (fun vs H Q E h => ?_) (fun cdv A outer s H vs Q E hr h => ?_)
  · obtain ⟨k, rfl, _⟩ := h
    rfl
  obtain ⟨k, rfl, k0, k4, q⟩ := h
  have hr1 := hr.mono (j := 1) (by decide)
  refine ⟨_, qAa (qBf (qAn qE5 (pv 0) qAb (qAt _))
      (qAa (qAj (i := 1) qD6.nd rfl (Or.inl rfl) (qBe (pa_cons qAb (pa_cons qAb (pa_cons qAb (pa_cons qAb pa_nil))))))
      (qAd (qAm (qBy (pa_cons qAb (pa_cons (qBb qBv (qBe (pa_cons (pv 1) (pa_cons (qAi G1 hr rfl mG1 kG1 bG1 .nil qAu (pa_cons (pv 1) (pa_cons qAb pa_nil))) pa_nil))) (pv 0) (fun _ _ => rfl)) pa_nil))))))
      qAx)
    (qAa (qAj (i := 2) qD6.nd rfl (Or.inl rfl) (qBe pa_nil))
    (qAa (qBl PassesOwn.never rfl (qBg rfl mr (pa_cons qAb pa_nil)) (qAe (i := 3) qD6.nd rfl (Or.inr rfl))
      (qAd (qAj (i := 2) qD6.nd rfl (Or.inl rfl) (qAg qE2 (pv 2) (pe_lc (N := smN) (sc := qAc sLSma) (N' := ["_law_other", "_law_one"]) (sub := [none, some 3]) rfl rfl (CmpOk.of (by decide +kernel)) rfl (qBg rfl mr (pa_cons qAb pa_nil))
        (fun C s H fp => ⟨qAe (i := 0) (by show (["_law_other", "_law_one"] : List Str).Nodup; decide) rfl (Or.inl rfl), qA0, qBy (pa_cons (pv 1) (pa_cons (pv 0) pa_nil))⟩))))))
    (qAa (qFn (fun σ H2 => ∃ (pa : Addr) (x3 : Option V) (es : List (Int × Int)), σ = [some (.int k), none, some (.ref pa), x3, none, none] ∧ Ext H H2 ∧ qDn H2 pa es ∧ 0 < es.length ∧ es.length ≤ 12) (qBf (qAn qDg (pv 0) qAb (qAt _))
      (qAd (ps_lc (i := 2) (N := smN) (sc := qAc sLSma) (N' := ["_law_pair"]) (sub := [none]) rfl rfl (CmpOk.of (by decide +kernel)) rfl (qAs (pv 2))
        (fun C s H fp => ⟨qAe (i := 0) (by show (["_law_pair"] : List Str).Nodup; decide) rfl (Or.inl rfl), qDe (pt_chain qE5 qE5 (qBb (show IxR _ (rIxT K) from qBh) (pv 0) qAb (fun _ _ => rfl)) (qBb (show IxR _ (rIxT K) from qBh) (pv 0) qAb (fun _ _ => rfl)) qAb), pv 0⟩) qD6.nd rfl (Or.inl rfl)))
      (qAd (ps_lc (i := 2) (N := smN) (sc := qAc sLSma) (N' := ["_law_pair"]) (sub := [none]) rfl rfl (CmpOk.of (by decide +kernel)) rfl (qAs (pv 2))
        (fun C s H fp => ⟨qAe (i := 0) (by show (["_law_pair"] : List Str).Nodup; decide) rfl (Or.inl rfl), qDe (pt_chain qE5 op_le (qBb (show IxR _ (rIxT K) from qBh) (pv 0) qAb (fun _ _ => rfl)) qAb (qBb (show IxR _ (rIxT K) from qBh) (pv 0) qAb (fun _ _ => rfl))), pv 0⟩) qD6.nd rfl (Or.inl rfl)))))
    (qAa (qAj (i := 4) qD6.nd rfl (Or.inl rfl) (qBe pa_nil))
    (qAa (qBl PassesOwn.never rfl (qBg rfl mr (pa_cons qAb pa_nil)) (qAe (i := 5) qD6.nd rfl (Or.inr rfl))
      (qAd (qB5 (pe_bm PySem.F.plainAttrs_list PySem.F.slot_list_append PySem.F.type_list_append qBn (pv 4) (pa_cons (qAh (qDj rfl) rfl msu qDm (pa_cons (pe_lc (N := smN) (sc := qAc sLSma) (N' := smC) (sub := [none, none, some 5]) rfl rfl (CmpOk.of (by decide +kernel)) rfl (pi_enum rfl me (pa_cons (pv 2) pa_nil))
        (fun C s H fp => ⟨(show PG _ _ (gTup K 2 _) from qBx rfl (qAl (qAe (i := 0) (by show smC.Nodup; decide) rfl (Or.inl rfl)) (qAl (qAe (i := 1) (by show smC.Nodup; decide) rfl (Or.inl rfl)) qBc))),
          qDe (qAn (show OpR _ (compareOp .In) (rIn K false) from qFo) (pv 2) (pv 1) (by with_unfolding_all rfl)), qAg qCy qAb (pv 0)⟩)) pa_nil)) pa_nil)))))
    (qAd (qAm (qBy (pa_cons (qAh qAo rfl ml PySem.boot_len (pa_cons (pv 2) pa_nil)) (pa_cons (qAi G2 hr1 rfl mG2 kG2 bG2 .nil qAu (pa_cons (pv 4) pa_nil)) pa_nil)))))))))), ?_⟩
  try dsimp only [Cx.wish, qB8]
  refine ⟨_, rfl, _, _, rfl, rfl, _, rfl, ?_⟩
  refine qCm (fun c => ?_) (fun c => ?_)
  · have k2 : k < 2 := of_decide_eq_true c
    refine ⟨(by show 4 ≤ sizeLine; decide), fun l0 h0 => ?_⟩
    have X0 := Ext.new h0 (.lst ([7, 25, 42, 75].map iV))
    have hl0 : LsN (upd H l0 (.lst ([7, 25, 42, 75].map iV))) l0 [7, 25, 42, 75] := upd_same
    refine ⟨_, rfl, _, rfl, l0, [7, 25, 42, 75], 7, rfl, hl0, by decide, by decide, by decide, fun r ns H1 e1 r0 hr1' ln lt => ?_⟩
    refine ⟨(by show 2 ≤ sizeLine; decide), fun l1 hl1 => ?_⟩
    have X1 := Ext.new hl1 (.lst [V.ref l0, V.ref r])
    obtain rfl | rfl : k = 0 ∨ k = 1 := by omega
    · refine ⟨_, rfl, l1, _, _, _, rfl, rfl, SqL.of upd_same, (by exact qAv (j := 0) rfl), (by show 2 ≤ sizeLine; decide), fun T hT => ?_⟩
      have XT := X1.trans (Ext.new hT (.tup [iV 7, V.ref l0]))
      exact q T l0 7 [7, 25, 42, 75] _ (X0.trans (e1.trans XT)) upd_same (XT _ _ (e1 _ _ hl0)) (by decide) (by decide) (by decide) (by decide)
    · refine ⟨_, rfl, l1, _, _, _, rfl, rfl, SqL.of upd_same, (by exact qAv (j := 1) rfl), (by show 2 ≤ sizeLine; decide), fun T hT => ?_⟩
      have XT := X1.trans (Ext.new hT (.tup [iV 7, V.ref r]))
      exact q T r 7 ns _ (X0.trans (e1.trans XT)) upd_same (XT _ _ hr1') ln (by decide) (by decide) lt
  refine ⟨Nat.zero_le _, fun p0 hp0 => ?_⟩
  refine ⟨6, rfl, by decide, by decide, qBt (lo := 0) (n := 6) (fun i σ H' => ∃ (pa : Addr) (x3 : Option V), σ = [some (.int k), none, some (.ref pa), x3, none, none] ∧ Ext H H' ∧ qDn H' pa (prs i)) ⟨p0, none, rfl, Ext.new hp0 _, [], upd_same, .nil⟩ ?_ ?_⟩
  · rintro i σ H' hi ⟨pa, x3, rfl, e, ⟨as, hpa, pae⟩⟩
    have la : as.length = 6 * i := by rw [pae.length, prs_len]
    refine ⟨_, rfl, 6, rfl, by decide, by decide, ?_⟩
    refine qFc (lo := 0) (n := 6) (fun j ys H2 => Ext H' H2 ∧ ∃ bs : List Addr, ys = bs.map V.ref ∧ Paired (fun a t => H2 a = some (.tup (enV t))) bs (rwE i j)) ⟨Ext.refl _, [], rfl, .nil⟩ ?_ ?_
    · rintro j ys H2 hj ⟨e2, bs, rfl, pb⟩
      have lb : bs.length = j := by rw [pb.length, rwE_len]
      refine ⟨Sle.set _ (Sle.refl _) (fun u z => by cases z), iteT (B := False) ⟨_, rfl, _, rfl, (by show 2 ≤ sizeLine; decide), fun T hT => ⟨by rw [List.length_map]; exact qAf (by omega), nxt hj ⟨e2.trans (Ext.new hT _), bs ++ [T], by rw [List.map_append]; rfl, ?_⟩⟩⟩⟩
      have er : rwE i (j + 1) = rwE i j ++ [((0 + (i : Int)), (0 + (j : Int)))] := by
        unfold rwE
        rw [List.range_succ, List.map_append]; rfl
      rw [er]
      exact Paired.snoc (Paired.mapP pb fun a t z => (Ext.new hT _) _ _ z) upd_same
    · rintro ys H2 ⟨e2, bs, rfl, pb⟩ l hl
      have lb : bs.length = 6 := by rw [pb.length, rwE_len]
      have Xl := e2.trans (Ext.new hl (.lst (bs.map V.ref)))
      refine ⟨pa, l, _, _, rfl, rfl, Xl _ _ hpa, upd_same, by rw [List.length_map, List.length_map]; exact Nat.le_of_lt (qAf (by omega)), fun l3 hl3 => ?_⟩
      have X3 := Ext.new hl3 (.lst (as.map V.ref ++ bs.map V.ref))
      refine ⟨l3, _, rfl, (e.trans Xl).trans X3, as ++ bs, by rw [upd_same, List.map_append], qGn (Paired.mapP pae fun a t z => (Xl.trans X3) _ _ z) (Paired.mapP pb fun a t z => ((Ext.new hl _).trans X3) _ _ z)⟩
  rintro σ H' ⟨pa, x3, rfl, e, ⟨as, hpa, pae⟩⟩
  refine ⟨?_, ?_⟩
  · refine ⟨_, rfl, rfl, _, rfl, ?_⟩
    refine qCm (fun ck => ?_) (fun ck => ?_)
    · refine ⟨_, rfl, pa, rfl, ⟨_, SqL.of hpa⟩, ?_⟩
      refine qF3 pr2 hpa pae (by rw [prs_len]; decide) (fun a t ha C B c b => ⟨Sle.set _ (Sle.refl _) (fun u z => by cases z), ?_⟩) ?_
      · refine ⟨_, rfl, a, _, _, _, rfl, rfl, SqT.of ha, (by exact qAv (j := 0) rfl), _, rfl, a, _, _, _, rfl, rfl, SqT.of ha, (by exact qAv (j := 1) rfl), _, _, rfl, rfl, _, rfl, ?_⟩
        refine qCm (fun c1 => ?_) (fun c1 => ?_)
        · refine ⟨_, _, rfl, rfl, _, rfl, ?_⟩
          refine qCm (fun c2 => ⟨_, rfl, c ?_⟩) (fun c2 => b ?_)
          · show (decide _ && decide _) = true
            rw [c1, c2]; rfl
          · show (decide _ && decide _) = false
            rw [c1, Bool.true_and]; simpa using c2
        · refine ⟨_, rfl, qCu (b ?_)⟩
          show (decide _ && decide _) = false
          rw [show decide _ = false by simpa using c1]; rfl
      · intro bs pb l hl
        have Xl := Ext.new hl (.lst (bs.map V.ref))
        exact ⟨l, _, _, rfl, e.trans Xl, ⟨bs, upd_same, Paired.mapP pb fun a t z => Xl _ _ z⟩, pr2_pos, pr2_len⟩
    · refine ⟨_, rfl, pa, rfl, ⟨_, SqL.of hpa⟩, ?_⟩
      refine qF3 pr3 hpa pae (by rw [prs_len]; decide) (fun a t ha C B c b => ⟨Sle.set _ (Sle.refl _) (fun u z => by cases z), ?_⟩) ?_
      · refine ⟨_, rfl, a, _, _, _, rfl, rfl, SqT.of ha, (by exact qAv (j := 0) rfl), _, _, rfl, rfl, _, rfl, ?_⟩
        refine qCm (fun c1 => ?_) (fun c1 => ?_)
        · refine ⟨_, rfl, a, _, _, _, rfl, rfl, SqT.of ha, (by exact qAv (j := 1) rfl), _, _, rfl, rfl, _, rfl, ?_⟩
          refine qCm (fun c2 => ⟨_, rfl, c ?_⟩) (fun c2 => b ?_)
          · show (decide _ && decide _) = true
            rw [c1, c2]; rfl
          · show (decide _ && decide _) = false
            rw [c1, Bool.true_and]; simpa using c2
        · refine ⟨_, rfl, qCu (b ?_)⟩
          show (decide _ && decide _) = false
          rw [show decide _ = false by simpa using c1]; rfl
      · intro bs pb l hl
        have Xl := Ext.new hl (.lst (bs.map V.ref))
        exact ⟨l, _, _, rfl, e.trans Xl, ⟨bs, upd_same, Paired.mapP pb fun a t z => Xl _ _ z⟩, pr3_pos, pr3_len⟩
  · rintro σ H2 ⟨pa, x3, es, rfl, e, en, pos, le36⟩
    obtain ⟨bs, hpa, pae⟩ := id en
    have lb : bs.length = es.length := pae.length
    refine ⟨Nat.zero_le _, fun li li0 => ?_⟩
    refine ⟨6, rfl, by decide, by decide, qBt (lo := 0) (n := 6) (fun i σ H' => ∃ (x5 : Option V) (ns : List Nat), σ = [some (.int k), none, some (.ref pa), x3, some (.ref li), x5] ∧ Ext H2 H' ∧ LsN H' li ns ∧ ns.length ≤ i ∧ ∀ x ∈ ns, x < 2 ^ es.length) ⟨none, [], rfl, Ext.new li0 _, upd_same, Nat.le_refl _, fun x hx => (by cases hx)⟩ ?_ ?_⟩
    · rintro i σ H' hi ⟨x5, ns, rfl, e2, hli, ln, lt⟩
      refine ⟨_, rfl, .inl ⟨rfl, _, SqL.of hli⟩, _, rfl, pa, _, rfl, SqL.of (e2 _ _ hpa), ?_⟩
      rw [List.length_map]
      refine qD5 (fun j ys H3 => Ext H' H3 ∧ ∃ ms : List Nat, ys = ms.map iV ∧ ms.length ≤ j ∧ ms.sum < 2 ^ j) ⟨Ext.refl _, [], rfl, Nat.le_refl _, by decide⟩ (fun j ys H3 _ p => SqL.of (p.1 _ _ (e2 _ _ hpa))) ?_ ?_
      · rintro j ys H3 T hj ⟨e3, ms, rfl, lm, sm⟩ hT
        have gd : (bs.map V.ref).getD j .non = .ref bs[j] := by rw [List.getD_eq_getElem?_getD, List.getElem?_map, List.getElem?_eq_getElem hj]; rfl
        obtain ⟨t, ht, h1⟩ := qAy pae (List.getElem?_eq_getElem hj)
        have e4 := e3.trans (Ext.new hT (.tup [V.int (j : Nat), (bs.map V.ref).getD j .non]))
        refine ⟨T, _, rfl, SqT.of upd_same, rfl, _, _, rfl, _, _, rfl, rfl, ?_⟩
        refine ⟨Sle.set _ (Sle.set _ (Sle.refl _) (fun u z => by cases z)) (fun u z => by cases z), ?_⟩
        refine ⟨_, rfl, _, rfl, bs[j], _, gd, .inr (SqT.of ((e2.trans e4) _ _ h1)), rfl, rfl, _, rfl, ?_⟩
        refine qCm (fun c3 => ?_) (fun c3 => ?_)
        · refine ⟨_, rfl, _, _, rfl, rfl, ⟨by omega, by omega, by decide⟩, by rw [List.length_map]; exact qAf (by omega), nxt hj ⟨e4, ms ++ [2 ^ j], ?_, by rw [List.length_append]; exact Nat.succ_le_succ lm, by rw [List.sum_append, List.sum_singleton, Nat.pow_succ]; omega⟩⟩
          rw [List.map_append]
          show _ ++ [V.int (1 * 2 ^ (((j : Nat) : Int)).toNat)] = _
          rw [qCb]; rfl
        · exact nxt hj ⟨e4, ms, rfl, Nat.le_succ_of_le lm, lt_succ2 sm⟩
      · rintro ys H3 ⟨e3, ms, rfl, lm, sm⟩ l hl
        have e4 := e3.trans (Ext.new hl (.lst (ms.map iV)))
        refine ⟨l, ms.map (fun n : Nat => (n : Int)), rfl, SqL.of (by rw [upd_same, qD1]), ?_⟩
        rw [qDq]
        refine ⟨li, _, _, rfl, rfl, e4 _ _ hli, by rw [List.length_map]; exact qAf (by omega), ?_⟩
        refine ⟨_, ns ++ [ms.sum], rfl, (e2.trans e4).over li0 _, ?_, by rw [List.length_append]; exact Nat.succ_le_succ ln, qEk lt (by rw [← lb]; exact sm)⟩
        unfold LsN
        rw [upd_same, List.map_append]; rfl
    · rintro σ H' ⟨x5, ns, rfl, e2, hli, ln, lt0⟩
      refine ⟨_, rfl, pa, _, rfl, .inl (SqL.of (e2 _ _ hpa)), _, rfl, li, ns, es.length, rfl, hli, by omega, lt0, fun r H5 e5 r0 hr5 => ⟨(by show 2 ≤ sizeLine; decide), fun T hT => ?_⟩⟩
      have lR := redL_le ns
      have XT := Ext.new hT (.tup [V.int (((bs.map V.ref).length : Nat) : Int), V.ref r])
      refine q T r es.length (redL ns) _ ((e.trans e2).trans (e5.trans XT)) ?_ (XT _ _ hr5) (by omega) pos le36 (fun x hx => ((qDc (m := es.length) ns lt0).1 x hx).1)
      rw [upd_same, List.length_map, lb]
end
end My
namespace My
open PySem L2
theorem rr_take {m : Nat} {l : List Nat} (n : Nat) (h : RR (l.map (rv m))) : RR ((l.take n).map (rv m)) := by
  refine ⟨fun s hs => ?_, ?_⟩
  · obtain ⟨t, ht, rfl⟩ := List.mem_map.mp hs
    exact h.nz _ (List.mem_map_of_mem (List.mem_of_mem_take ht))
  · rw [List.map_take]
    exact h.ap.sublist (List.take_sublist _ _)
theorem redL_rr {ms : List Nat} {m : Nat} (lt : ∀ x ∈ ms, x < 2 ^ m) : (∀ x ∈ redL ms, x < 2 ^ m) ∧ RR ((redL ms).map (rv m)) := by
  obtain ⟨g, e⟩ := qDc (m := m) ms lt
  exact ⟨fun x hx => (g x hx).1, by rw [e]; exact qCx _⟩
def spLSto (K : PySem.W.Frag) : Sp := fun vs H Q _ => ∃ (a : Addr) (ns : List Int), vs = [.ref a, .int 1] ∧ SqL K H a (ns.map V.int) ∧ ∀ (T b : Addr) (m : Nat) (ms : List Nat) (H' : Hp), Ext H H' → H' T = some (.tup [iV m, .ref b]) → LsN H' b ms → m ≤ 12 → ms.length ≤ 8 → (∀ x ∈ ms, x < 2 ^ m) → RR (ms.map (rv m)) → m ≤ ms.length + 8 → Q (.ref T) H'
section
variable {P : Program} {w : World} {K : PySem.W.Frag} {mg : Str → Option Value} {base : Heap} {f f1 f2 f3 f4 f5 f6 f7 : Addr} {fd fd1 fd2 fd3 fd4 fd5 fd6 fd7 : FuncData}
abbrev stN : List Str := ["_law_script", "_law_at", "_law_big_here", "_law_net_here", "_law_many", "_law_base", "_law_most"]
theorem qCf : FnScope stN ["_law_script", "_law_at"] (qAc sLSto) := ⟨rfl, rfl, rfl, by decide +kernel, rfl, by decide +kernel, by decide +kernel⟩
set_option maxHeartbeats 16000000 in
theorem ok_lsto (F : Fun K "_law_steps_of" "_law_steps_of" sLSto f fd)
    (G1 : FnOk P w K mg base CX0 2 f1 fd1 ["_law_script", "_law_k"] (spBig K)) (bG1 : qAz K fd1 ["_law_script", "_law_k"] []) (kG1 : PySem.W.keepIn K (.ref f1) = true) (mG1 : mg "_law_big" = some (.ref f1))
    (G2 : FnOk P w K mg base CX0 3 f2 fd2 ["_law_script", "_law_at"] (spNet K)) (bG2 : qAz K fd2 ["_law_script", "_law_at"] []) (kG2 : PySem.W.keepIn K (.ref f2) = true) (mG2 : mg "_law_net" = some (.ref f2))
    (G3 : FnOk P w K mg base CX0 1 f3 fd3 ["_law_net_here"] spLEven) (bG3 : qAz K fd3 ["_law_net_here"] []) (kG3 : PySem.W.keepIn K (.ref f3) = true) (mG3 : mg "_law_even" = some (.ref f3))
    (G4 : FnOk P w K mg base CX0 1 f4 fd4 ["_law_big_here", "_law_many"] spLFre) (bG4 : qAz K fd4 ["_law_big_here", "_law_many"] []) (kG4 : PySem.W.keepIn K (.ref f4) = true) (mG4 : mg "_law_free" = some (.ref f4))
    (G5 : FnOk P w K mg base CX0 3 f5 fd5 ["_law_kind"] spLSma) (bG5 : qAz K fd5 ["_law_kind"] []) (kG5 : PySem.W.keepIn K (.ref f5) = true) (mG5 : mg "_law_small" = some (.ref f5))
    (G6 : FnOk P w K mg base CX0 1 f6 fd6 ["_law_base", "_law_many", "_law_big_here", "_law_most"] spLMor) (bG6 : qAz K fd6 ["_law_base", "_law_many", "_law_big_here", "_law_most"] []) (kG6 : PySem.W.keepIn K (.ref f6) = true) (mG6 : mg "_law_with_more" = some (.ref f6))
    (G7 : FnOk P w K mg base CX0 1 f7 fd7 ["_law_numbers"] spLRed) (bG7 : qAz K fd7 ["_law_numbers"] []) (kG7 : PySem.W.keepIn K (.ref f7) = true) (mG7 : mg "_law_reduced" = some (.ref f7))
    (ml : mg "len" = none) (mmi : mg "min" = none) : FnOk P w K mg base CX0 4 f fd ["_law_script", "_law_at"] (spLSto K) := by
  refine F.ok qCf (fun vs H Q E h => ?_) (fun cdv A outer s H vs Q E hr h => ?_)
  · obtain ⟨a, ns, rfl, _⟩ := h
    rfl
  obtain ⟨a, ns, rfl, hS, q⟩ := h
  have hr1 := hr.mono (j := 1) (by decide)
  have hr2 := hr.mono (j := 2) (by decide)
  let PB : Nat → St → Hp → Prop := fun bd σ H' => ∃ (B : Int) (r : Addr) (m : Nat) (b : Addr) (ms : List Nat) (x6 : Option V), σ = [some (.ref a), some (.int 1), some (.int B), some (.ref r), some (iV m), some (.ref b), x6] ∧ Ext H H' ∧ LsN H' b ms ∧ m ≤ 12 ∧ ms.length ≤ bd ∧ ∀ x ∈ ms, x < 2 ^ m
  refine ⟨_, qAa (qAj (i := 2) qCf.nd rfl (Or.inl rfl) (qAi G1 hr2 rfl mG1 kG1 bG1 .nil qAu (pa_cons (pv 0) (pa_cons (qAg qBm (pv 1) qAb) pa_nil))))
    (qAa (qAj (i := 3) qCf.nd rfl (Or.inl rfl) (qAi G2 hr rfl mG2 kG2 bG2 .nil qAu (pa_cons (pv 0) (pa_cons (pv 1) pa_nil))))
    (qAa (qFn (PB 12) (qD9 (qBy (pa_cons (qAh qAo rfl ml PySem.boot_len (pa_cons (pv 3) pa_nil)) (pa_cons (qAi G3 hr1 rfl mG3 kG3 bG3 .nil qAu (pa_cons (pv 3) pa_nil)) pa_nil))) (qBx rfl (qAl (qAe (i := 4) qCf.nd rfl (Or.inr rfl)) (qAl (qAe (i := 5) qCf.nd rfl (Or.inl rfl)) qBc)))))
    (qAa (qFn (PB 24) (qBf (qAn qE5 (qAg qBd (pv 2) qAb) qAb (qAt _))
      (qAd (qAj (i := 5) qCf.nd rfl (Or.inl rfl) (qAg qE2 (pv 5) (qCi qEq (qAi G4 hr1 rfl mG4 kG4 bG4 .nil qAu (pa_cons (qAg qA5 (pv 2) qAb) (pa_cons (pv 4) pa_nil))) qC4 (qC3 (qAg qBm qAb (qAg qBd (pv 2) qAb)))))))
      qAx))
    (qAa (qFn (PB 24) (qBf (qAn qDg (qAg qBd (pv 2) qAb) qAb (qAt _))
      (qAa (qAj (i := 4) qCf.nd rfl (Or.inr rfl) (qAg qBm qAb (qAg qBd (qAg qA5 (pv 2) qAb) qAb)))
      (qAd (qAj (i := 5) qCf.nd rfl (Or.inl rfl) (qAi G4 hr1 rfl mG4 kG4 bG4 .nil qAu (pa_cons (qAg qA5 (pv 2) qAb) (pa_cons (pv 4) pa_nil))))))
      qAx))
    (qAa (qFn (PB 24) (qBf (qAn op_gt (qAg qBd (pv 2) qAb) qAb (qAt _))
      (qAa (qD9 (qAi G5 hr rfl mG5 kG5 bG5 .nil qAu (pa_cons (qAg qBd (qAg qA5 (pv 2) qAb) qAb) pa_nil)) (qBx rfl (qAl (qAe (i := 4) qCf.nd rfl (Or.inr rfl)) (qAl (qAe (i := 5) qCf.nd rfl (Or.inl rfl)) qBc))))
      (qAa (qAj (i := 6) qCf.nd rfl (Or.inl rfl) (qAh (qFv rfl) rfl mmi qFx (pa_cons qAb (pa_cons (qAg qBm (pv 4) (qAg qBd (qAg qA5 (pv 2) qAb) qAb)) pa_nil))))
      (qAa (qAj (i := 5) qCf.nd rfl (Or.inl rfl) (qAi G6 hr1 rfl mG6 kG6 bG6 .nil qAu (pa_cons (pv 5) (pa_cons (pv 4) (pa_cons (qAg qA5 (pv 2) qAb) (pa_cons (pv 6) pa_nil))))))
      (qAd (qAj (i := 4) qCf.nd rfl (Or.inr rfl) (pv 6))))))
      qAx))
    (qAa (qAj (i := 5) qCf.nd rfl (Or.inl rfl) (qCi qEq (qAi G7 hr1 rfl mG7 kG7 bG7 .nil qAu (pa_cons (pv 5) pa_nil)) qC4 (qC3 qAb)))
    (qAa (ps_while PassesOwn.never (qAn op_gt (qAg qE1 (pv 4) (qAh qAo rfl ml PySem.boot_len (pa_cons (pv 5) pa_nil))) qAb (qAt _))
      (qAa (ps_aug (i := 4) qCf.nd rfl (Or.inr rfl) qAb ip_sub)
      (qAd (qAj (i := 5) qCf.nd rfl (Or.inl rfl) (qAi G7 hr1 rfl mG7 kG7 bG7 .nil qAu (pa_cons (pe_lc (N := stN) (sc := qAc sLSto) (N' := ["_law_step", "_law_many"]) (sub := [none, some 4]) rfl rfl (CmpOk.of (by decide +kernel)) rfl (qAs (pv 5))
        (fun C s H fp => ⟨qAe (i := 0) (by show (["_law_step", "_law_many"] : List Str).Nodup; decide) rfl (Or.inl rfl), qA0, qAg qCg (pv 0) (qAg qE1 (qAg qCy qAb (pv 1)) qAb)⟩)) pa_nil))))))
    (qAd (qAm (qBy (pa_cons (pv 4) (pa_cons (pv 5) pa_nil)))))))))))), ?_⟩
  try dsimp only [Cx.wish, qB8]
  refine ⟨_, rfl, _, rfl, _, _, rfl, rfl, a, ns, _, rfl, hS, by decide, by decide, fun B => ?_⟩
  refine ⟨_, rfl, _, rfl, a, ns, 1, rfl, by decide, by decide, hS, fun r net H1 e1 r0 nt ln tx rs _ _ => ?_⟩
  refine ⟨?_, ?_⟩
  · obtain ⟨as, hn1, pr⟩ := id nt
    have lA : as.length = net.length := pr.length
    refine ⟨_, rfl, r, _, rfl, .inl (SqL.of hn1), _, rfl, r, net, rfl, nt, ln, fun ev F Kp ps' H2 e2 ev0 hev pok' ei kw => ?_⟩
    have lF : F.length ≤ 12 := by have := ei.len; omega
    refine ⟨(by show 2 ≤ sizeLine; decide), fun T hT => ⟨T, _, rfl, SqT.of upd_same, rfl, _, _, rfl, _, _, rfl, rfl, ?_⟩⟩
    have XT := Ext.new hT (.tup [V.int (((as.map V.ref).length : Nat) : Int), V.ref ev])
    exact ⟨B, r, (as.map V.ref).length, ev, F, none, rfl, e1.trans (e2.trans XT), XT _ _ hev, by rw [List.length_map]; omega, by omega, fun x hx => by rw [List.length_map, lA]; exact (ei.f1 x hx).1⟩
  rintro σ H2 ⟨B, r, m, b, ms, x6, rfl, e, hb, m12, lm, lt⟩
  refine ⟨?_, ?_⟩
  · refine ⟨_, rfl, _, _, rfl, rfl, (by show (0 : Int) < _; decide), _, _, rfl, rfl, _, rfl, ?_⟩
    refine qCm (fun c => ?_) (fun c => ?_)
    · have c' : B % 8 < 2 := of_decide_eq_true c
      have b0 := Int.emod_nonneg B (show (8 : Int) ≠ 0 by decide)
      obtain ⟨t, ht⟩ : ∃ t : Nat, 1 + B % 8 = (t : Int) := ⟨(1 + B % 8).toNat, by omega⟩
      refine ⟨_, rfl, _, rfl, _, _, rfl, rfl, ⟨by decide, by decide⟩, _, rfl, _, m, rfl, m12, fun r2 ns2 H3 e3 r20 hr2' l2 lt2' => ?_⟩
      refine ⟨_, rfl, _, _, rfl, rfl, (by show (0 : Int) < _; decide), _, _, rfl, rfl, _, rfl, r2, _, rfl, SqL.of hr2', fun l hl => ?_⟩
      rw [show cutV (ns2.map iV) none (some (1 + B % 8)) = (ns2.take t).map iV by rw [ht, cut_to, List.map_take]]
      have Xl := Ext.new hl (.lst ((ns2.take t).map iV))
      have ltk := List.length_take_le t ns2
      have lt2 : (ns2.take t).length ≤ ns2.length := by rw [List.length_take]; omega
      refine ⟨b, l, _, _, rfl, rfl, (e3.trans Xl) _ _ hb, upd_same, by rw [List.length_map, List.length_map]; exact Nat.le_of_lt (qAf (by omega)), fun l3 hl3 => ?_⟩
      exact ⟨B, r, m, l3, ms ++ ns2.take t, x6, rfl, ((e.trans e3).trans Xl).trans (Ext.new hl3 _), by unfold LsN; rw [upd_same, List.map_append], m12, by rw [List.length_append]; omega, fun x hx => (List.mem_append.mp hx).elim (lt x) fun z => lt2' x (List.mem_of_mem_take z)⟩
    · exact ⟨B, r, m, b, ms, x6, rfl, e, hb, m12, by omega, lt⟩
  clear e hb m12 lm lt
  rintro σ H2 ⟨B, r, m, b, ms, x6, rfl, e, hb, m12, lm, lt⟩
  refine ⟨?_, ?_⟩
  · refine ⟨_, rfl, _, _, rfl, rfl, (by show (0 : Int) < _; decide), rfl, _, rfl, ?_⟩
    refine qCm (fun c => ?_) (fun c => ?_)
    · have b0 := Int.emod_nonneg (B / 8) (show (12 : Int) ≠ 0 by decide)
      have b1 := Int.emod_lt_of_pos (B / 8) (show (0 : Int) < 12 by decide)
      obtain ⟨m', hm'⟩ : ∃ m' : Nat, 1 + B / 8 % 12 = (m' : Int) := ⟨(1 + B / 8 % 12).toNat, by omega⟩
      have ev : (fun i j : Int => V.int (i + j)) 1 (B / 8 % 12) = iV m' := congrArg V.int hm'
      refine ⟨_, rfl, _, _, rfl, rfl, ⟨by decide, by decide⟩, _, _, rfl, rfl, (by show (0 : Int) < _; decide), _, _, rfl, rfl, ?_⟩
      rw [ev]
      exact ⟨_, rfl, _, _, rfl, rfl, ⟨by decide, by decide⟩, _, rfl, _, m', rfl, by omega, fun r2 ns2 H3 e3 r20 hr2' l2 lt2' => ⟨B, r, m', r2, ns2, x6, rfl, e.trans e3, hr2', by omega, by omega, lt2'⟩⟩
    · exact ⟨B, r, m, b, ms, x6, rfl, e, hb, m12, lm, lt⟩
  clear e hb m12 lm lt
  rintro σ H2 ⟨B, r, m, b, ms, x6, rfl, e, hb, m12, lm, lt⟩
  refine ⟨?_, ?_⟩
  · refine ⟨_, rfl, _, _, rfl, rfl, (by show (0 : Int) < _; decide), _, _, rfl, rfl, _, rfl, ?_⟩
    refine qCm (fun c => ?_) (fun c => ?_)
    · have b0 := Int.emod_nonneg (B / 8) (show (4 : Int) ≠ 0 by decide)
      have b1 := Int.emod_lt_of_pos (B / 8) (show (0 : Int) < 4 by decide)
      have d0 := Int.emod_nonneg (B / 32) (show (4 : Int) ≠ 0 by decide)
      have d1 := Int.emod_lt_of_pos (B / 32) (show (0 : Int) < 4 by decide)
      refine ⟨_, rfl, _, _, rfl, rfl, ⟨by decide, by decide⟩, _, _, rfl, rfl, (by show (0 : Int) < _; decide), B / 8 % 4, rfl, b0, b1, fun T b2 m2 ns2 H3 e3 hT hb2 l2 mp m36 lt2' => ?_⟩
      refine ⟨T, _, rfl, SqT.of hT, rfl, _, _, rfl, _, _, rfl, rfl, ?_⟩
      obtain ⟨M, hM, M12, mM⟩ : ∃ M : Nat, (if (m2 : Int) + B / 32 % 4 < 12 then (m2 : Int) + B / 32 % 4 else 12) = (M : Int) ∧ M ≤ 12 ∧ m2 ≤ M := by
        split
        · exact ⟨((m2 : Int) + B / 32 % 4).toNat, by omega, by omega, by omega⟩
        · exact ⟨12, rfl, by decide, m36⟩
      refine ⟨_, rfl, _, rfl, _, _, rfl, rfl, ⟨by decide, by decide⟩, _, _, rfl, rfl, (by show (0 : Int) < _; decide), _, _, rfl, rfl, 12, (m2 : Int) + B / 32 % 4, rfl, ?_⟩
      rw [hM]
      refine ⟨_, rfl, _, rfl, _, rfl, _, _, rfl, rfl, ⟨by decide, by decide⟩, _, rfl, b2, ns2, m2, M, _, rfl, hb2, l2, mp, M12, mM, lt2', fun r3 ns3 H4 e4 hr3 l3 lt3 => ?_⟩
      exact ⟨_, rfl, B, r, M, r3, ns3, _, rfl, e.trans (e3.trans e4), hr3, M12, l3, lt3⟩
    · exact ⟨B, r, m, b, ms, x6, rfl, e, hb, m12, lm, lt⟩
  clear e hb m12 lm lt
  rintro σ H2 ⟨B, r, m, b, ms, x6, rfl, e, hb, m12, lm, lt⟩
  obtain ⟨lt0, rr0⟩ := redL_rr lt
  refine ⟨_, rfl, b, ms, m, rfl, hb, lm, lt, fun r2 H3 e3 r20 hr2' => ⟨_, rfl, r2, _, rfl, SqL.of hr2', fun l hl => ?_⟩⟩
  rw [show cutV ((redL ms).map iV) none (some 8) = ((redL ms).take 8).map iV by rw [show (8 : Int) = ((8 : Nat) : Int) from rfl, cut_to, List.map_take]]
  have Xl := Ext.new hl (.lst (((redL ms).take 8).map iV))
  refine ⟨fun k σ H' => ∃ (m : Nat) (b : Addr) (ms : List Nat), k = m ∧ σ = [some (.ref a), some (.int 1), some (.int B), some (.ref r), some (iV m), some (.ref b), x6] ∧ Ext H H' ∧ LsN H' b ms ∧ m ≤ 12 ∧ ms.length ≤ 8 ∧ (∀ x ∈ ms, x < 2 ^ m) ∧ RR (ms.map (rv m)), ⟨_, m, l, _, rfl, rfl, (e.trans e3).trans Xl, upd_same, m12, (by rw [List.length_take]; omega), fun x hx => lt0 x (List.mem_of_mem_take hx), rr_take 8 rr0⟩, ?_⟩
  clear e hb m12 lm lt lt0 rr0 hr2' hl Xl
  rintro k σ H' ⟨m, b, ms, rfl, rfl, e, hb, m12, lm, lt, rr⟩
  refine ⟨_, rfl, _, rfl, b, _, rfl, .inl (SqL.of hb), _, _, rfl, rfl, _, _, rfl, rfl, _, rfl, ?_⟩
  refine qCm (fun c => ?_) (fun c => ?_)
  · have c' : 8 < k := by
      have : (8 : Int) < (k : Int) - (((ms.map iV).length : Nat) : Int) := of_decide_eq_true c
      omega
    refine ⟨fun σ' H' => ∃ k', k' < k ∧ ∃ (m : Nat) (b : Addr) (ms : List Nat), k' = m ∧ σ' = [some (.ref a), some (.int 1), some (.int B), some (.ref r), some (iV m), some (.ref b), x6] ∧ Ext H H' ∧ LsN H' b ms ∧ m ≤ 12 ∧ ms.length ≤ 8 ∧ (∀ x ∈ ms, x < 2 ^ m) ∧ RR (ms.map (rv m)), fun _ _ h => h, ?_⟩
    refine ⟨_, rfl, _, _, rfl, rfl, ?_⟩
    have ev : V.int ((k : Int) - 1) = iV (k - 1) := congrArg V.int (by omega)
    show (fun z H2 => _) (V.int ((k : Int) - 1)) H'
    rw [ev]
    refine ⟨_, rfl, b, rfl, ⟨_, SqL.of hb⟩, ?_⟩
    refine qDp (fun _ => true) (fun z => z &&& (2 ^ (k - 1) - 1)) hb (by omega) (fun z hz C B' cc bb => ⟨Sle.set _ (Sle.refl _) (fun u z => by cases z), ?_⟩) ?_
    · refine iteT (B := B' H') ⟨_, rfl, _, rfl, _, _, rfl, rfl, ⟨by omega, by omega, by decide⟩, _, _, rfl, rfl, _, _, rfl, rfl, ?_⟩
      have := cc rfl
      rw [show iV (z &&& (2 ^ (k - 1) - 1)) = V.int (Builtin.bitAnd (z : Int) (1 * 2 ^ (((k - 1 : Nat) : Int)).toNat - 1)) by rw [band_low]] at this
      exact this
    · intro l2 hl2
      have X2 := Ext.new hl2 (.lst (((ms.filter fun _ => true).map fun z => z &&& (2 ^ (k - 1) - 1)).map iV))
      have l2l : ((ms.filter fun _ => true).map fun z => z &&& (2 ^ (k - 1) - 1)).length ≤ 8 := by
        rw [List.length_map]
        exact Nat.le_trans (List.length_filter_le _ _) lm
      have lt1 : ∀ x ∈ (ms.filter fun _ => true).map fun z => z &&& (2 ^ (k - 1) - 1), x < 2 ^ (k - 1) := fun x hx => by
        obtain ⟨z, _, rfl⟩ := List.mem_map.mp hx
        have p : 0 < 2 ^ (k - 1) := Nat.pow_pos (by decide)
        have := Nat.and_le_right (n := z) (m := 2 ^ (k - 1) - 1)
        omega
      obtain ⟨lt2, rr2⟩ := redL_rr lt1
      refine ⟨l2, _, k - 1, rfl, upd_same, by omega, lt1, fun r3 H4 e4 r30 hr3 => ?_⟩
      exact ⟨k - 1, by omega, k - 1, r3, _, rfl, rfl, e.trans (X2.trans e4), hr3, by omega, Nat.le_trans (redL_le _) l2l, lt2, rr2⟩
  · refine ⟨_, rfl, _, rfl, (by show 2 ≤ sizeLine; decide), fun T hT => ?_⟩
    have XT := Ext.new hT (.tup [iV k, V.ref b])
    have c' : ¬ (8 : Int) < (k : Int) - (((ms.map iV).length : Nat) : Int) := fun z => c (decide_eq_true z)
    rw [List.length_map] at c'
    exact q T b k ms _ (e.trans XT) upd_same (XT _ _ hb) m12 lm lt rr (by omega)
end
end My
namespace My
open PySem L2
theorem rk_of {names : List Str} (nd : names.Nodup) {ms us : List Nat} (lt : ∀ x ∈ ms, x < 2 ^ names.length) (rr : RR (ms.map (rv names.length))) (h1 : ∀ x ∈ us, Spn ms x) (h2 : ∀ x ∈ ms, x ∈ us) : Rk names (us.map (rowL names)) = ms.length := by
  have ltu : ∀ x ∈ us, x < 2 ^ names.length := fun x hx => (h1 x hx).lt lt
  have e : (us.map (rowL names)).map (maskF names) = us.map (rv names.length) := by
    rw [List.map_map]
    refine List.map_congr_left fun x hx => ?_
    show maskF names (rowL names x) = _
    rw [← rowL_rv, maskF_row nd (rv_lt _ _)]
  unfold Rk
  rw [e]
  have r1 := qCx (us.map (rv names.length))
  have sp : ∀ y, Spn (red (us.map (rv names.length))) y ↔ Spn (ms.map (rv names.length)) y := fun y => by
    rw [qC2, spn_rv ltu, spn_rv lt]
    exact and_congr_right fun _ => ⟨fun a => a.mono h1, fun a => a.mono fun x hx => .mem (h2 x hx)⟩
  have := ((List.perm_ext_iff_of_nodup r1.nd rr.nd).mpr fun z => ⟨qEs r1 rr sp z, qEs rr r1 (fun y => (sp y).symm) z⟩).length_eq
  rw [this, List.length_map]
theorem spn_mul {ms : List Nat} {z d : Nat} (h : Spn ms z) (hd : d < 2) : Spn ms (z * d) := by
  rcases (show d = 0 ∨ d = 1 by omega) with rfl | rfl
  · rw [Nat.mul_zero]; exact .zero
  · rw [Nat.mul_one]; exact h
structure TabN (names : List Str) (rows : List (List Str)) : Prop where
  rn : qF0 names
  nm : ∀ n ∈ names, qBu n
  rw : ∀ r ∈ rows, ∃ x, r = rowL names x
  bn : Bnd names rows
def spLTab (K : PySem.W.Frag) : Sp := fun vs H Q _ => ∃ (a : Addr) (ns : List Int), vs = [.ref a, .int 1] ∧ SqL K H a (ns.map V.int) ∧ ∀ (T : Addr) (names : List Str) (rows : List (List Str)) (H' : Hp), Ext H H' → qD2 H' T names rows → TabN names rows → Q (.ref T) H'
section
variable {P : Program} {w : World} {K : PySem.W.Frag} {mg : Str → Option Value} {base : Heap} {f f1 f2 f3 f4 f5 f6 f7 : Addr} {fd fd1 fd2 fd3 fd4 fd5 fd6 fd7 : FuncData}
abbrev tbN : List Str := ["_law_script", "_law_at", "_law_many", "_law_base", "_law_names_here", "_law_rows", "_law_big_here", "_law_k", "_law_mix", "_law_row_here"]
theorem qDa : FnScope tbN ["_law_script", "_law_at"] (qAc sLTab) := ⟨rfl, rfl, rfl, by decide +kernel, rfl, by decide +kernel, by decide +kernel⟩
set_option maxHeartbeats 16000000 in
theorem ok_ltab (F : Fun K "_law_table" "_law_table" sLTab f fd)
    (G1 : FnOk P w K mg base CX0 4 f1 fd1 ["_law_script", "_law_at"] (spLSto K)) (bG1 : qAz K fd1 ["_law_script", "_law_at"] []) (kG1 : PySem.W.keepIn K (.ref f1) = true) (mG1 : mg "_law_steps_of" = some (.ref f1))
    (G2 : FnOk P w K mg base CX0 1 f2 fd2 ["_law_big_here", "_law_many"] spNames) (bG2 : qAz K fd2 ["_law_big_here", "_law_many"] []) (kG2 : PySem.W.keepIn K (.ref f2) = true) (mG2 : mg "_law_names" = some (.ref f2))
    (G3 : FnOk P w K mg base CX0 2 f3 fd3 ["_law_script", "_law_k"] (spBig K)) (bG3 : qAz K fd3 ["_law_script", "_law_k"] []) (kG3 : PySem.W.keepIn K (.ref f3) = true) (mG3 : mg "_law_big" = some (.ref f3))
    (G4 : FnOk P w K mg base CX0 1 f4 fd4 ["_law_names_here", "_law_number"] spLRow) (bG4 : qAz K fd4 ["_law_names_here", "_law_number"] []) (kG4 : PySem.W.keepIn K (.ref f4) = true) (mG4 : mg "_law_row" = some (.ref f4))
    (ml : mg "len" = none) (mL : mg "list" = none) (mso : mg "sorted" = none) (mr : mg "range" = none) : FnOk P w K mg base CX0 5 f fd ["_law_script", "_law_at"] (spLTab K) := by
  refine F.ok qDa (fun vs H Q E h => ?_) (fun cdv A outer s H vs Q E hr h => ?_)
  · obtain ⟨a, ns, rfl, _⟩ := h
    rfl
  obtain ⟨a, ns, rfl, hS, q⟩ := h
  have hr1 := hr.mono (j := 1) (by decide)
  have hr2 := hr.mono (j := 2) (by decide)
  refine ⟨_, qAa (qD9 (qAi G1 hr rfl mG1 kG1 bG1 .nil qAu (pa_cons (pv 0) (pa_cons (pv 1) pa_nil))) (qBx rfl (qAl (qAe (i := 2) qDa.nd rfl (Or.inl rfl)) (qAl (qAe (i := 3) qDa.nd rfl (Or.inl rfl)) qBc))))
    (qAa (qAj (i := 4) qDa.nd rfl (Or.inr rfl) (qAh qE3 rfl mso qCa (pa_cons (qAi G2 hr1 rfl mG2 kG2 bG2 .nil qAu (pa_cons (qAi G3 hr2 rfl mG3 kG3 bG3 .nil qAu (pa_cons (pv 0) (pa_cons (qAg qBm (pv 1) qAb) pa_nil))) (pa_cons (pv 2) pa_nil))) pa_nil)))
    (qAa (qAj (i := 5) qDa.nd rfl (Or.inl rfl) (qBs qB9 rfl mL qA8 (pa_cons (pv 3) pa_nil)))
    (qAa (qAj (i := 6) qDa.nd rfl (Or.inl rfl) (qAi G3 hr2 rfl mG3 kG3 bG3 .nil qAu (pa_cons (pv 0) (pa_cons (qAg qBm (pv 1) qAb) pa_nil))))
    (qAa (qBl PassesOwn.never rfl (qBg rfl mr (pa_cons (qAg qBd (pv 6) qAb) pa_nil)) (qAe (i := 7) qDa.nd rfl (Or.inl rfl))
      (qAa (qAj (i := 8) qDa.nd rfl (Or.inl rfl) qAb)
      (qAa (qBl PassesOwn.never rfl (qAs (qCi qEq (pv 5) qC4 (qC3 (qAh qAo rfl ml PySem.boot_len (pa_cons (pv 3) pa_nil))))) (qAe (i := 9) qDa.nd rfl (Or.inl rfl))
        (qAa (qAj (i := 8) qDa.nd rfl (Or.inl rfl) (qAg qE0 (pv 8) (qAg qDv (pv 9) (qAg qBd (qAg qA5 (pv 6) qAb) qAb))))
        (qAd (qAj (i := 6) qDa.nd rfl (Or.inl rfl) (qAg qA5 (pv 6) qAb)))))
      (qAd (qB5 (pe_bm PySem.F.plainAttrs_list PySem.F.slot_list_insert PySem.F.type_list_insert mt_insert (pv 5) (pa_cons (qAg qBd (qAg qA5 (pv 6) qAb) (qAg qBm (qAh qAo rfl ml PySem.boot_len (pa_cons (pv 5) pa_nil)) qAb)) (pa_cons (pv 8) pa_nil))))))))
    (qAd (qAm (qBy (pa_cons (pv 4) (pa_cons (pe_lc (N := tbN) (sc := qAc sLTab) (N' := ["_law_row_here", "_law_names_here"]) (sub := [none, some 4]) rfl rfl (CmpOk.of (by decide +kernel)) rfl (qAs (qCi qEq (pv 5) qC4 (qC3 qAb)))
      (fun C s H fp => ⟨qAe (i := 0) (by show (["_law_row_here", "_law_names_here"] : List Str).Nodup; decide) rfl (Or.inl rfl), qA0, qAi G4 hr1 rfl mG4 kG4 bG4 .nil qAu (pa_cons (pv 1) (pa_cons (pv 0) pa_nil))⟩)) pa_nil))))))))), ?_⟩
  try dsimp only [Cx.wish, qB8]
  refine ⟨_, rfl, _, rfl, a, ns, rfl, hS, fun T0 b m ms H1 e1 hT0 hb m12 lm lt rr mm => ?_⟩
  refine ⟨T0, _, rfl, SqT.of hT0, rfl, _, _, rfl, _, _, rfl, rfl, ?_⟩
  refine ⟨_, rfl, _, rfl, _, _, rfl, rfl, a, ns, _, rfl, Ext.sqL e1 hS, by decide, by decide, fun B1 => ?_⟩
  refine ⟨_, rfl, B1, (m : Int), rfl, by omega, by omega, fun nr ss H2 e2 nr0 hss lss tx ndc => ?_⟩
  have nd0 : ss.Nodup := ndc (by omega)
  refine ⟨nr, ss, rfl, SqL.of hss, by omega, fun nm names hnm pm srt => ?_⟩
  have nd : names.Nodup := pm.symm.nodup nd0
  have rn : qF0 names := rise_of srt nd
  have ok : ∀ x ∈ names, qBu x := fun x hx => tx x (pm.mem_iff.mp hx)
  have lnm : names.length = m := by rw [pm.length_eq, lss]; omega
  have ln : names.length ≤ 12 := by rw [pm.length_eq, lss]; omega
  have X2 := Ext.new hnm (.lst (names.map V.str))
  have E2 := e1.trans (e2.trans X2)
  have hb2 := (e2.trans X2) _ _ hb
  have hn2 : LsS (upd H2 nm (.lst (names.map V.str))) nm names := upd_same
  revert E2 hb2 hn2
  generalize upd H2 nm (.lst (names.map V.str)) = Hb
  intro E2 hb2 hn2
  refine ⟨_, rfl, b, _, rfl, .inl (SqL.of hb2), fun rw rw0 => ?_⟩
  have X3 := Ext.new rw0 (.lst (ms.map iV))
  refine ⟨_, rfl, _, rfl, _, _, rfl, rfl, a, ns, _, rfl, Ext.sqL (E2.trans X3) hS, by decide, by decide, fun B2 => ?_⟩
  have h1 := Int.emod_nonneg B2 (show (9 : Int) ≠ 0 by decide)
  have h2 := Int.emod_lt_of_pos B2 (show (0 : Int) < 9 by decide)
  refine ⟨_, rfl, _, _, rfl, rfl, (by show (0 : Int) < _; decide), B2 % 9, rfl, by omega, by omega, ?_⟩
  refine qBt (lo := 0) (n := (B2 % 9).toNat) (fun i σ H' => ∃ (B : Int) (x7 x8 x9 : Option V) (ns : List Nat), σ = [some (.ref a), some (.int 1), some (iV m), some (.ref b), some (.ref nm), some (.ref rw), some (.int B), x7, x8, x9] ∧ Ext Hb H' ∧ LsN H' rw ns ∧ ns.length ≤ 8 + i ∧ (∀ x ∈ ns, Spn ms x) ∧ ∀ x ∈ ms, x ∈ ns) ⟨B2, none, none, none, ms, rfl, X3, upd_same, by omega, fun x hx => .mem hx, fun x hx => hx⟩ ?_ ?_
  · rintro i σ H' hi ⟨B, x7, x8, x9, ns, rfl, e, hrw, ln2, sp1, sp2⟩
    refine ⟨_, rfl, _, rfl, b, _, rfl, .inl (SqL.of (e _ _ hb2)), _, rfl, rw, _, rfl, SqL.of hrw, fun sl hsl => ?_⟩
    rw [cut_to, List.length_map, ← List.map_take]
    have Xs := Ext.new hsl (.lst ((ns.take ms.length).map iV))
    have hs2 : LsN (upd H' sl (.lst ((ns.take ms.length).map iV))) sl (ns.take ms.length) := upd_same
    have hrw2 := Xs _ _ hrw
    have e2' := e.trans Xs
    revert hs2 hrw2 e2'
    generalize upd H' sl (.lst ((ns.take ms.length).map iV)) = H3
    intro hs2 hrw2 e2'
    refine ⟨sl, rfl, ⟨_, SqL.of hs2⟩, ?_⟩
    refine qB0 (xs := (ns.take ms.length).map iV) (fun j σ H'' => H'' = H3 ∧ ∃ (B : Int) (x9 : Option V) (mix : Nat), Spn ms mix ∧ σ = [some (.ref a), some (.int 1), some (iV m), some (.ref b), some (.ref nm), some (.ref rw), some (.int B), some (.int (0 + (i : Int))), some (iV mix), x9]) ⟨rfl, B, x9, 0, .zero, rfl⟩ (fun j σ H'' _ h => by rw [h.1]; exact SqL.of hs2) ?_ ?_
    · rintro j v σ H'' hx ⟨rfl, B, x9, mix, smx, rfl⟩
      obtain ⟨z, rfl, hz⟩ := qC9 hx
      have d0 := Int.emod_nonneg (B / 9) (show (2 : Int) ≠ 0 by decide)
      have d1 := Int.emod_lt_of_pos (B / 9) (show (0 : Int) < 2 by decide)
      obtain ⟨d, hd⟩ : ∃ d : Nat, B / 9 % 2 = (d : Int) := ⟨(B / 9 % 2).toNat, by omega⟩
      have ev : (fun i j : Int => V.int (Builtin.bitXor i j)) (mix : Int) ((z : Int) * (B / 9 % 2)) = iV (mix ^^^ (z * d)) := by
        show V.int (Builtin.bitXor (mix : Int) ((z : Int) * (B / 9 % 2))) = V.int _
        rw [hd, ← Int.natCast_mul, qC8]
      refine ⟨_, rfl, _, rfl, _, rfl, _, _, rfl, rfl, ⟨by decide, by decide⟩, _, _, rfl, rfl, (by show (0 : Int) < _; decide), _, _, rfl, rfl, .inr ⟨by omega, by omega⟩, _, _, rfl, rfl, ?_⟩
      rw [ev]
      exact ⟨_, rfl, _, _, rfl, rfl, ⟨by decide, by decide⟩, rfl, _, _, _, smx.xor (spn_mul (sp1 z (List.mem_of_mem_take (List.mem_of_getElem? hz))) (by omega)), rfl⟩
    · rintro σ H'' ⟨rfl, B, x9, mix, smx, rfl⟩
      have l1 : (0 : Int) < ((ns.length : Nat) : Int) + 1 := by omega
      have i0 := Int.emod_nonneg (B / 9) (show ((ns.length : Nat) : Int) + 1 ≠ 0 by omega)
      have i1 := Int.emod_lt_of_pos (B / 9) l1
      obtain ⟨p, hp⟩ : ∃ p : Nat, B / 9 % (((ns.length : Nat) : Int) + 1) = (p : Int) := ⟨(B / 9 % (((ns.length : Nat) : Int) + 1)).toNat, by omega⟩
      have hp' : B / 9 % ((((ns.map iV).length : Nat) : Int) + 1) = (p : Int) := by rw [List.length_map]; exact hp
      refine ⟨_, rfl, .inl ⟨rfl, _, SqL.of hrw2⟩, _, rfl, _, _, rfl, rfl, ⟨by decide, by decide⟩, _, rfl, rw, _, rfl, .inl (SqL.of hrw2), _, _, rfl, rfl, _, _, rfl, rfl, (by show (0 : Int) < (((ns.map iV).length : Nat) : Int) + 1; omega), _, rfl, ?_⟩
      refine ⟨rw, ns.map iV, p, iV mix, rfl, congrArg (fun z => [V.int z, iV mix]) hp', hrw2, by rw [List.length_map]; omega, by rw [List.length_map]; omega, ?_⟩
      refine ⟨B, _, _, x9, ns.take p ++ mix :: ns.drop p, rfl, e2'.over rw0 _, ?_, ?_, fun x hx => ?_, fun x hx => ?_⟩
      · unfold LsN
        rw [upd_same, List.map_append, List.map_cons, List.map_take, List.map_drop]
      · rw [List.length_append, List.length_cons, List.length_take, List.length_drop]; omega
      · rcases List.mem_append.mp hx with z | z
        · exact sp1 x (List.mem_of_mem_take z)
        · rcases List.mem_cons.mp z with rfl | z
          · exact smx
          · exact sp1 x (List.mem_of_mem_drop z)
      · have := sp2 x hx
        rw [← List.take_append_drop p ns] at this
        rcases List.mem_append.mp this with z | z
        · exact List.mem_append_left _ z
        · exact List.mem_append_right _ (List.mem_cons_of_mem _ z)
  · rintro σ H' ⟨B, x7, x8, x9, ns, rfl, e, hrw, ln2, sp1, sp2⟩
    refine ⟨_, rfl, _, rfl, _, rfl, rw, _, rfl, SqL.of hrw, fun sl hsl => ?_⟩
    rw [show cutV (ns.map iV) none (some 16) = (ns.take 16).map iV by rw [show (16 : Int) = ((16 : Nat) : Int) from rfl, cut_to, List.map_take]]
    have Xs := Ext.new hsl (.lst ((ns.take 16).map iV))
    have l16 : (ns.take 16).length ≤ 16 := by rw [List.length_take]; omega
    have tk16 : ns.take 16 = ns := List.take_of_length_le (by omega)
    have sp1' : ∀ x ∈ ns.take 16, Spn ms x := by rw [tk16]; exact sp1
    have sp2' : ∀ x ∈ ms, x ∈ ns.take 16 := by rw [tk16]; exact sp2
    have hs2 : LsN (upd H' sl (.lst ((ns.take 16).map iV))) sl (ns.take 16) := upd_same
    have e2' := e.trans Xs
    revert hs2 e2'
    generalize upd H' sl (.lst ((ns.take 16).map iV)) = H3
    clear tk16
    generalize ns.take 16 = us at l16 sp1' sp2'
    intro hs2 e2'
    refine ⟨sl, rfl, ⟨_, SqL.of hs2⟩, ?_⟩
    refine qAq (xs := us.map iV) (fun j ys H4 => Ext H3 H4 ∧ ∃ as, ys = as.map V.ref ∧ Paired (LsS H4) as ((us.take j).map (rowL names))) ⟨Ext.refl _, [], rfl, .nil⟩ (fun j ys H4 _ h => SqL.of (h.1 _ _ hs2)) ?_ ?_
    · rintro j v ys H4 hx ⟨e4, as, rfl, pr⟩
      obtain ⟨x, rfl, hx'⟩ := qC9 hx
      have hj := qA2 hx'
      have la : as.length = _ := pr.length
      rw [List.length_map, List.length_take] at la
      refine ⟨Sle.set _ (Sle.refl _) (fun u z => by cases z), iteT (B := False) ⟨_, rfl, _, rfl, nm, names, x, rfl, (e2'.trans e4) _ _ hn2, ln, fun r3 H5 e5 r30 h3 => ⟨?_, nxt (qA2 hx) ⟨e4.trans e5, as ++ [r3], by rw [List.map_append]; rfl, ?_⟩⟩⟩⟩
      · rw [List.length_map]; exact qAf (by omega)
      · rw [qAk hx', List.map_append]
        exact Paired.snoc (Paired.mapP pr fun a t z => e5 _ _ z) h3
    · rintro ys H4 ⟨e4, as, rfl, pr⟩ bb hbb
      rw [List.length_map, List.take_of_length_le (Nat.le_refl _)] at pr
      have XB := Ext.new hbb (.lst (as.map V.ref))
      refine ⟨(by show 2 ≤ sizeLine; decide), fun T hT => ?_⟩
      have XT := Ext.new hT (.tup [V.ref nm, V.ref bb])
      refine q T names (us.map (rowL names)) _ (E2.trans (e2'.trans (e4.trans (XB.trans XT)))) ⟨nm, bb, upd_same, (e2'.trans (e4.trans (XB.trans XT))) _ _ hn2, ⟨as, XT _ _ upd_same, Paired.mapP pr fun a t z => (XB.trans XT) _ _ z⟩⟩ ⟨rn, ok, fun r hr => ?_, ?_⟩
      rotate_left
      · have rk := rk_of (riseNd rn) (by rw [lnm]; exact lt) (by rw [lnm]; exact rr) sp1' sp2'
        exact ⟨ln, by rw [List.length_map]; exact l16, by rw [rk]; exact lm, by rw [rk, lnm]; exact mm⟩
      obtain ⟨x, _, rfl⟩ := List.mem_map.mp hr
      exact ⟨x, rfl⟩
end
end My
namespace My
open PySem L2 PySem.Builtin.Str
def jn (y : List Nat) : List (List Nat) → List Nat
  | [] => []
  | [b] => b
  | b :: c :: r => b ++ y ++ jn y (c :: r)
def cutF (w : Nat) : Nat → List (List Nat) → List Nat
  | _, [] => []
  | _, [_] => []
  | a, b :: c :: r => (a + b.length) :: cutF w (a + b.length + w) (c :: r)
structure Mrk (y : List Nat) (c d : Nat) : Prop where
  at_ : y[d]? = some c
  one : ∀ i, y[i]? = some c → i = d
theorem cut_ge (w : Nat) : ∀ (B : List (List Nat)) (a : Nat), ∀ c ∈ cutF w a B, a ≤ c
  | [], _, _, h => by cases h
  | [_], _, _, h => by cases h
  | b :: e :: r, a, c, h => by
    rcases List.mem_cons.mp h with rfl | h
    · omega
    · have := cut_ge w (e :: r) _ c h
      omega
theorem cut_gap (w : Nat) (hw : 0 < w) : ∀ (B : List (List Nat)) (a : Nat), (cutF w a B).Pairwise fun x y => x + w ≤ y
  | [], _ => .nil
  | [_], _ => .nil
  | b :: e :: r, a => by
    refine List.pairwise_cons.mpr ⟨fun c hc => ?_, cut_gap w hw (e :: r) _⟩
    exact cut_ge w (e :: r) _ c hc
theorem mark_cut {y : List Nat} {c d : Nat} (m : Mrk y c d) : ∀ {B : List (List Nat)} {a p : Nat}, (∀ b ∈ B, c ∉ b) → (jn y B)[p]? = some c → ∃ k ∈ cutF y.length a B, a + p = k + d
  | [], a, p, _, h => by simp [jn] at h
  | [b], a, p, hB, h => by
    exact (hB b List.mem_cons_self (List.mem_of_getElem? h)).elim
  | b :: e :: r, a, p, hB, h => by
    have h' : (b ++ y ++ jn y (e :: r))[p]? = some c := h
    by_cases h1 : p < b.length
    · rw [List.append_assoc, List.getElem?_append_left h1] at h'
      exact (hB b List.mem_cons_self (List.mem_of_getElem? h')).elim
    · by_cases h2 : p < b.length + y.length
      · rw [List.getElem?_append_left (by rw [List.length_append]; omega), List.getElem?_append_right (by omega)] at h'
        have := m.one _ h'
        exact ⟨a + b.length, List.mem_cons_self, by omega⟩
      · rw [List.getElem?_append_right (by rw [List.length_append]; omega), List.length_append] at h'
        obtain ⟨k, hk, ek⟩ := mark_cut m (a := a + b.length + y.length) (fun x hx => hB x (List.mem_cons_of_mem _ hx)) h'
        exact ⟨k, List.mem_cons_of_mem _ hk, by omega⟩
theorem cut_at {y : List Nat} : ∀ {B : List (List Nat)} {a k : Nat}, k ∈ cutF y.length a B → k + y.length ≤ a + (jn y B).length ∧ ((jn y B).drop (k - a)).take y.length = y
  | [], _, _, h => by cases h
  | [_], _, _, h => by cases h
  | b :: e :: r, a, k, h => by
    have ej : jn y (b :: e :: r) = b ++ (y ++ jn y (e :: r)) := List.append_assoc b y _
    rcases List.mem_cons.mp h with rfl | h
    · rw [ej, show a + b.length - a = b.length by omega, List.drop_left, List.take_left, List.length_append, List.length_append]
      exact ⟨by omega, rfl⟩
    · have ge := cut_ge _ _ _ _ h
      obtain ⟨h1, h2⟩ := cut_at h
      rw [ej, List.length_append, List.length_append]
      refine ⟨by omega, ?_⟩
      rw [show k - a = b.length + (y.length + (k - (a + b.length + y.length))) by omega, ← List.drop_drop, List.drop_left, ← List.drop_drop, List.drop_left]
      exact h2
theorem jn_len {y : List Nat} : ∀ B : List (List Nat), (jn y B).length ≤ (B.map List.length).sum + B.length * y.length
  | [] => by simp [jn]
  | [b] => by simp [jn]
  | b :: e :: r => by
    have := jn_len (y := y) (e :: r)
    show (b ++ y ++ jn y (e :: r)).length ≤ _
    rw [List.length_append, List.length_append, List.map_cons, List.sum_cons, List.length_cons, Nat.succ_mul]
    omega
theorem asc_uniq : ∀ {a b : List Nat}, a.Pairwise (· < ·) → b.Pairwise (· < ·) → (∀ x, x ∈ a ↔ x ∈ b) → a = b
  | [], [], _, _, _ => rfl
  | [], y :: b, _, _, h => by have := (h y).mpr List.mem_cons_self; cases this
  | x :: a, [], _, _, h => by have := (h x).mp List.mem_cons_self; cases this
  | x :: a, y :: b, ha, hb, h => by
    obtain ⟨a1, a2⟩ := List.pairwise_cons.mp ha
    obtain ⟨b1, b2⟩ := List.pairwise_cons.mp hb
    have e : x = y := by
      rcases List.mem_cons.mp ((h x).mp List.mem_cons_self) with z | z
      · exact z
      · rcases List.mem_cons.mp ((h y).mpr List.mem_cons_self) with w | w
        · exact w.symm
        · have h1 := b1 x z
          have h2 := a1 y w
          omega
    subst e
    rw [asc_uniq a2 b2 fun z => ?_]
    constructor
    · intro hz
      rcases List.mem_cons.mp ((h z).mp (List.mem_cons_of_mem _ hz)) with w | w
      · have := a1 z hz; omega
      · exact w
    · intro hz
      rcases List.mem_cons.mp ((h z).mpr (List.mem_cons_of_mem _ hz)) with w | w
      · have := b1 z hz; omega
      · exact w
theorem occ_is {x y : Str} {C : List Nat} (hy : 0 < y.length) (gap : C.Pairwise fun a b => a + y.length ≤ b) (h : ∀ i, (i + y.length ≤ x.length ∧ subAt x y i = true) ↔ i ∈ C) : occurrences x y 0 x.length (x.length + 1) = C := by
  have gapD : ∀ a ∈ C, ∀ b ∈ C, a < b → a + y.length ≤ b := fun a ha b hb lt => by
    obtain ⟨i, hi, rfl⟩ := List.getElem_of_mem ha
    obtain ⟨j, hj, rfl⟩ := List.getElem_of_mem hb
    rcases Nat.lt_trichotomy i j with z | z | z
    · exact (List.pairwise_iff_getElem.mp gap) i j hi hj z
    · subst z; omega
    · have := (List.pairwise_iff_getElem.mp gap) j i hj hi z
      omega
  have key : ∀ (n a : Nat) (st : Array Nat × Nat), a + n = x.length + 1 → st.1.toList.Pairwise (· < ·) → (∀ c, c ∈ st.1.toList ↔ c ∈ C ∧ c < a) → st.1.size ≤ a → (∀ c ∈ C, a ≤ c → st.2 ≤ c) →
      (forIn (List.range' a n) st (StrLaws.occBody x y x.length (x.length + 1))).run.fst.toList.Pairwise (· < ·) ∧ ∀ c, c ∈ (forIn (List.range' a n) st (StrLaws.occBody x y x.length (x.length + 1))).run.fst.toList ↔ c ∈ C ∧ c < a + n := fun n => by
    induction n with
    | zero => intro a st _ p m _ _; exact ⟨p, m⟩
    | succ n ih =>
      intro a st ha p m sz fr
      rw [List.range'_succ, List.forIn_cons]
      unfold StrLaws.occBody
      by_cases c : a ∈ C
      · obtain ⟨c1, c2⟩ := (h a).mpr c
        rw [if_pos ⟨⟨⟨by omega, fr a c (Nat.le_refl _)⟩, c1⟩, c2⟩]
        have := ih (a + 1) (st.1.push a, a + y.length) (by omega) (by
          show (st.1.push a).toList.Pairwise (· < ·)
          rw [Array.toList_push]
          refine List.pairwise_append.mpr ⟨p, List.pairwise_singleton _ _, fun u hu v hv => ?_⟩
          rw [List.mem_singleton.mp hv]
          exact ((m u).mp hu).2) (fun u => by
          show u ∈ (st.1.push a).toList ↔ _
          rw [Array.toList_push, List.mem_append, m, List.mem_singleton]
          constructor
          · rintro (⟨h1, h2⟩ | rfl)
            · exact ⟨h1, by omega⟩
            · exact ⟨c, by omega⟩
          · rintro ⟨h1, h2⟩
            by_cases e : u = a
            · exact .inr e
            · exact .inl ⟨h1, by omega⟩) (by show (st.1.push a).size ≤ a + 1; rw [Array.size_push]; omega) (fun u hu hle => gapD a c u hu (by omega))
        rw [show a + 1 + n = a + (n + 1) by omega] at this
        exact this
      · rw [if_neg fun z => c ((h a).mp ⟨z.1.2, z.2⟩)]
        have := ih (a + 1) (st.1, st.2) (by omega) p (fun u => by
          rw [m]
          constructor
          · rintro ⟨h1, h2⟩; exact ⟨h1, by omega⟩
          · rintro ⟨h1, h2⟩
            refine ⟨h1, ?_⟩
            have : u ≠ a := fun e => c (e ▸ h1)
            omega) (by show st.1.size ≤ a + 1; omega) (fun u hu hle => fr u hu (by omega))
        rw [show a + 1 + n = a + (n + 1) by omega] at this
        exact this
  have k0 := key (x.length + 1) 0 (#[], 0) (by omega) .nil (fun c => ⟨fun z => (by simp at z), fun z => (by omega)⟩) (Nat.le_refl _) (fun c _ _ => Nat.zero_le _)
  rw [StrLaws.occ_eq]
  refine asc_uniq k0.1 (gap.imp fun {a b} z => by omega) fun c => ?_
  rw [Nat.sub_zero, k0.2 c]
  refine ⟨fun z => z.1, fun z => ⟨z, ?_⟩⟩
  have := ((h c).mpr z).1
  omega
theorem parts_is {x y : Str} : ∀ {B : List Str} {a : Nat}, B ≠ [] → x.cps.toList.drop a = jn y.cps.toList (B.map fun b => b.cps.toList) → StrLaws.partsFrom x y.length a (cutF y.length a (B.map fun b => b.cps.toList)) = B
  | [], _, h, _ => (h rfl).elim
  | [b], a, _, e => by
    show [strSub x a x.length] = [b]
    have : strSub x a x.length = b := Str.ext' (Array.toList_inj.mp (by
      rw [StrLaws.strSub_toList, e]
      have l : (x.cps.toList.drop a).length = x.length - a := by rw [List.length_drop]; simp [Str.length]
      have e2 : b.cps.toList.length = x.length - a := by rw [← l, e]; rfl
      show List.take _ b.cps.toList = _
      exact List.take_of_length_le (by omega)))
    rw [this]
  | b :: c :: r, a, _, e => by
    have e' : x.cps.toList.drop a = b.cps.toList ++ (y.cps.toList ++ jn y.cps.toList ((c :: r).map fun b => b.cps.toList)) := e.trans (List.append_assoc _ _ _)
    have ly : y.cps.toList.length = y.length := by simp [Str.length]
    have lb : b.cps.toList.length = b.length := by simp [Str.length]
    show strSub x a (a + b.cps.toList.length) :: StrLaws.partsFrom x y.length (a + b.cps.toList.length + y.length) (cutF y.length (a + b.cps.toList.length + y.length) ((c :: r).map fun b => b.cps.toList)) = _
    have h1 : strSub x a (a + b.cps.toList.length) = b := Str.ext' (Array.toList_inj.mp (by
      rw [StrLaws.strSub_toList, e', show a + b.cps.toList.length - a = b.cps.toList.length by omega, List.take_left]))
    have h2 : x.cps.toList.drop (a + b.cps.toList.length + y.length) = jn y.cps.toList ((c :: r).map fun b => b.cps.toList) := by
      rw [show a + b.cps.toList.length + y.length = a + (b.cps.toList.length + y.cps.toList.length) by omega, ← List.drop_drop, e', ← List.drop_drop, List.drop_left, List.drop_left]
    rw [h1, parts_is (by simp) h2]
theorem jn_glue (z : List Nat) : ∀ (ss : List (List Nat)) (b : List Nat), ss.foldl (fun acc p => acc ++ z ++ p) b = jn z (b :: ss)
  | [], b => rfl
  | c :: r, b => by
    rw [List.foldl_cons, jn_glue z r]
    show jn z ((b ++ z ++ c) :: r) = b ++ z ++ jn z (c :: r)
    cases r with
    | nil => rfl
    | cons d r =>
      show (b ++ z ++ c) ++ z ++ jn z (d :: r) = b ++ z ++ (c ++ z ++ jn z (d :: r))
      simp only [List.append_assoc]
theorem qBp (z : Str) (ss : List Str) : (Txt.join z ss).cps.toList = jn z.cps.toList (ss.map fun b => b.cps.toList) := by
  show ((ss.drop 1).foldl (fun acc p => acc ++ z.cps ++ p.cps) (ss.headD Str.empty).cps).toList = _
  cases ss with
  | nil => rfl
  | cons b r =>
    show (r.foldl (fun acc p => acc ++ z.cps ++ p.cps) b.cps).toList = jn z.cps.toList (b.cps.toList :: r.map fun b => b.cps.toList)
    rw [← jn_glue]
    have : ∀ (r : List Str) (a : Array Nat), (r.foldl (fun acc p => acc ++ z.cps ++ p.cps) a).toList = (r.map fun b => b.cps.toList).foldl (fun acc p => acc ++ z.cps.toList ++ p) a.toList := fun r => by
      induction r with
      | nil => intro a; rfl
      | cons c r ih =>
        intro a
        rw [List.foldl_cons, ih, List.map_cons, List.foldl_cons]
        simp only [Array.toList_append]
    exact this r b.cps
theorem qDr {y : Str} {c d : Nat} (m : Mrk y.cps.toList c d) (hk : Builtin.Str.strKind y = 1) {B : List Str} (ne : B ≠ []) (hB : ∀ b ∈ B, c ∉ b.cps.toList) : Txt.split (Txt.join y B) y = B := by
  have hy : 0 < y.length := by
    have := (List.getElem?_eq_some_iff.mp m.at_).1
    simp [Str.length] at this ⊢
    omega
  have ly : y.cps.toList.length = y.length := by simp [Str.length]
  have hx := qBp y B
  have lx : (Txt.join y B).length = (jn y.cps.toList (B.map fun b => b.cps.toList)).length := by rw [← hx]; simp [Str.length]
  have hB' : ∀ b ∈ B.map (fun b => b.cps.toList), c ∉ b := fun b hb => by
    obtain ⟨u, hu, rfl⟩ := List.mem_map.mp hb
    exact hB u hu
  have at_iff : ∀ i, (i + y.length ≤ (Txt.join y B).length ∧ subAt (Txt.join y B) y i = true) ↔ i ∈ cutF y.length 0 (B.map fun b => b.cps.toList) := fun i => by
    rw [StrLaws.subAt_eq, hx, beq_iff_eq, lx]
    constructor
    · rintro ⟨h1, h2⟩
      have h3 : (jn y.cps.toList (B.map fun b => b.cps.toList))[i + d]? = some c := by
        have := m.at_
        rw [← h2, List.getElem?_take, List.getElem?_drop] at this
        split at this
        · exact this
        · cases this
      obtain ⟨k, hk', ek⟩ := mark_cut m (a := 0) hB' h3
      rw [ly] at hk'
      have : i = k := by omega
      rw [this]; exact hk'
    · intro hi
      rw [← ly] at hi
      obtain ⟨h1, h2⟩ := cut_at hi
      rw [ly] at h1 h2
      exact ⟨by omega, by simpa using h2⟩
  have occ := occ_is hy (cut_gap y.length hy _ 0) at_iff
  have kx : ¬ Builtin.Str.strKind (Txt.join y B) < Builtin.Str.strKind y := by
    rw [hk]
    unfold Builtin.Str.strKind
    split
    · omega
    · split <;> omega
  unfold Txt.split
  rw [occ]
  cases B with
  | nil => exact (ne rfl).elim
  | cons b r =>
    cases r with
    | nil =>
      have e1 : Txt.join y [b] = b := rfl
      rw [e1]
      split
      · rfl
      · rfl
    | cons e r =>
      have lt : ¬ (Txt.join y (b :: e :: r)).length < y.length := by
        rw [lx]
        show ¬ (b.cps.toList ++ y.cps.toList ++ _).length < _
        rw [List.length_append, List.length_append, ly]
        omega
      rw [if_neg (by simp [kx]; omega), if_neg (by simp [cutF]), StrLaws.partsBetween_eq]
      exact parts_is (by simp) (by rw [List.drop_zero]; exact hx)
theorem qEe (z : Str) (ss : List Str) : (Txt.join z ss).length ≤ (ss.map (·.length)).sum + ss.length * z.length := by
  have h := jn_len (y := z.cps.toList) (ss.map fun b => b.cps.toList)
  rw [← qBp, List.map_map, List.length_map] at h
  have e1 : (Txt.join z ss).cps.toList.length = (Txt.join z ss).length := by simp [Str.length]
  have e2 : z.cps.toList.length = z.length := by simp [Str.length]
  have e3 : ss.map (List.length ∘ fun b => b.cps.toList) = ss.map (·.length) := List.map_congr_left fun b _ => by simp [Str.length]
  rw [e1, e2, e3] at h
  exact h
theorem sum_le {f : Str → Nat} {n : Nat} : ∀ {l : List Str}, (∀ x ∈ l, f x ≤ n) → (l.map f).sum ≤ l.length * n
  | [], _ => by simp
  | x :: l, h => by
    have h1 := h x List.mem_cons_self
    have h2 := sum_le (l := l) fun y hy => h y (List.mem_cons_of_mem _ hy)
    rw [List.map_cons, List.sum_cons, List.length_cons, Nat.succ_mul]
    omega
end My
namespace L2
open PySem PySem.Spec PyProof.Rows
section
variable {σ0 : St} {g : TG} {tt : TT} {te : TE} {Q : List V → Hp → Prop} {H1 : Hp}
theorem turns_tuple {K : PySem.W.Frag} {a : Addr} {xs : List V} (Pv : Nat → List V → Hp → Prop) (h0 : Pv 0 [] H1) (hl : ∀ i ys H, i ≤ xs.length → Pv i ys H → SqT K H a xs)
    (hs : ∀ i x ys H, xs[i]? = some x → Pv i ys H → g x σ0 H fun σ2 H2 => Sle σ0 σ2 ∧ tt σ2 H2 fun b H3 => if b = true then te σ2 H3 (fun v H4 => ys.length < sizeLine ∧ Nxt xs.length i Pv (ys ++ [v]) H4) else Nxt xs.length i Pv ys H3)
    (hd : ∀ ys H, Pv xs.length ys H → Q ys H) : qDl (Itt K a) σ0 g tt te Q H1 := by
  refine ⟨fun i m ys H => m = xs.length - i ∧ i ≤ xs.length ∧ Pv i ys H, ⟨xs.length, by simp, Nat.zero_le _, h0⟩, ?_⟩
  rintro i m ys H ⟨rfl, hi, p⟩
  have q := hl i ys H hi p
  by_cases hlt : i < xs.length
  · refine .inr ⟨⟨xs, xs[i], q, by simp [hlt]⟩, fun x H' y => ?_⟩
    obtain ⟨e, y⟩ := y
    subst e
    exact hs i x ys _ (y xs q) p
  · have e : i = xs.length := by omega
    subst e
    exact .inl ⟨⟨xs, q, Nat.le_refl _⟩, hd ys H p⟩
end
end L2
namespace My
open PySem L2
def inB (c : Str) : Bool := !(Builtin.Str.occurrences sg c 0 sg.length 1).isEmpty
def sgn (x : Str) (i : Nat) : Str := ⟨#[x.cps.toList.getD i 0]⟩
def sgns (s : Str) : List Bool := (List.range s.cps.size).map fun i => inB (sgn s i)
def nameB (s : Str) : Bool := decide (1 ≤ s.length) && (decide (s.length ≤ 6) && (sgns s).all id)
theorem cut_one (xs : List V) : cutV xs (some 1) none = xs.drop 1 := by
  unfold cutV
  have e : HT.sIx xs.length 0 (some 1) = min 1 xs.length := HT.sIx_nat xs.length 0 1
  have e2 : HT.sIx xs.length xs.length none = xs.length := rfl
  rw [e, e2]
  cases xs with
  | nil => rfl
  | cons x r =>
    rw [show min 1 (x :: r).length = 1 by simp]
    exact List.take_of_length_le (by simp)
theorem inB_sg : ∀ v ∈ sg.cps.toList, inB ⟨#[v]⟩ = true := by decide +kernel
theorem qBu.nm {s : Str} (h : qBu s) : nameB s = true := by
  unfold nameB
  rw [decide_eq_true h.2.1, decide_eq_true h.2.2, Bool.true_and, Bool.true_and]
  unfold sgns
  rw [List.all_map, List.all_eq_true]
  intro i hi
  have hi' : i < s.cps.toList.length := by simpa using List.mem_range.mp hi
  show inB (sgn s i) = true
  have e : sgn s i = ⟨#[s.cps.toList[i]]⟩ := by
    unfold sgn
    rw [List.getD_eq_getElem?_getD, List.getElem?_eq_getElem hi']; rfl
  rw [e]
  exact inB_sg _ (h.1 _ (List.getElem_mem hi'))
theorem qBu.all {s : Str} (h : qBu s) : (sgns s).all id = true := by
  have := h.nm
  unfold nameB at this
  rw [decide_eq_true h.2.1, decide_eq_true h.2.2, Bool.true_and, Bool.true_and] at this
  exact this
theorem qBu.ok {s : Str} (h : qBu s) : PyData.strOk s = true := h.1.sm.ok
theorem qD0 (n : Nat) : (List.replicate n true).all id = true := List.all_eq_true.mpr fun x hx => (List.mem_replicate.mp hx).2
theorem qC1 (n : Nat) : (List.replicate n true).map V.bl ++ [V.bl true] = (List.replicate (n + 1) true).map V.bl := by rw [List.replicate_succ', List.map_append]; rfl
theorem qDz (n : Nat) : ((List.replicate n true).map V.bl).length = n := by rw [List.length_map, List.length_replicate]
abbrev scI : Scope := { kind := .function, names := [(".0", .local), ("row", .local), ("is_row", .globalImplicit), ("all", .globalImplicit), ("names", .cell)], isGenerator := false, isCoroutine := false }
def rAllB (K : PySem.W.Frag) : List V → Hp → VK → Prop := fun xs H Q => ∃ (p : Addr) (bs : List Bool), xs = [.ref p] ∧ SqL K H p (bs.map V.bl) ∧ Q (.bl (bs.all id)) H
def spNmT : Sp := fun vs H Q _ => ∃ s : Str, vs = [.str s] ∧ qBu s ∧ ∀ H', Ext H H' → Q (.bl true) H'
def spRwT : Sp := fun vs H Q _ => ∃ (a : Addr) (ss : List Str), vs = [.ref a] ∧ LsS H a ss ∧ ss.length ≤ 20 ∧ (∀ s ∈ ss, qBu s) ∧ qF0 ss ∧ ∀ H', Ext H H' → Q (.bl true) H'
def spTiT : Sp := fun vs H Q _ => ∃ (a : Addr) (t : Tr), vs = [.ref a] ∧ H a = some (.tup (trV t)) ∧ TxT t ∧ ∀ H', Ext H H' → Q (.bl true) H'
def spFoT : Sp := fun vs H Q _ => ∃ (p : Addr) (net : List Tr), vs = [.ref p] ∧ qCq H p net ∧ net.length ≤ 12 ∧ TxN net ∧ qF0 (net.map (·.1)) ∧ ∀ H', Ext H H' → Q (.bl true) H'
def spHtT : Sp := fun vs H Q _ => ∃ (T : Addr) (names : List Str) (rows : List (List Str)), vs = [.ref T] ∧ qD2 H T names rows ∧ names.length ≤ 12 ∧ rows.length ≤ 16 ∧ qF0 names ∧ (∀ n ∈ names, qBu n) ∧ (∀ r ∈ rows, qF0 r ∧ r.length ≤ 12 ∧ ∀ n ∈ r, n ∈ names) ∧ ∀ H', Ext H H' → Q (.bl true) H'
section
variable {P : Program} {w : World} {K : PySem.W.Frag} {mg : Str → Option Value} {base : Heap} {f f1 f2 f3 : Addr} {fd fd1 fd2 fd3 : FuncData}
theorem scName : FnScope ["thing"] ["thing"] (qAc sName) := ⟨rfl, rfl, rfl, by decide +kernel, rfl, by decide +kernel, by decide +kernel⟩
theorem ok_nmT {t1 t2 : Tok} (F : Fun K "is_name" "is_name" sName f fd) (ml : mg "len" = none) (mi : mg "isinstance" = none) (ms : mg "str" = none) (ma : mg "all" = none) (mS : mg "SIGNS" = some (.str sg t1)) (mM : mg "MOST_SIGNS" = some (.int 6 t2)) : FnOk P w K mg base CX0 1 f fd ["thing"] spNmT := by
  refine F.ok scName (fun vs H Q E h => ?_) (fun cdv A outer s H vs Q E hr h => ?_)
  · obtain ⟨z, rfl, _⟩ := h
    rfl
  obtain ⟨z, rfl, hz, q⟩ := h
  refine ⟨_, (qAa (qBf (PW.pt (qD8 (qBr (qBq (qAh qA3 rfl mi qA4 (pa_cons (pv 0) (pa_cons (qBz (v := .ty "str") rfl ms qFw rfl) pa_nil))))) (qD8 (qAn qE5 (qAh qDk rfl ml PySem.boot_len (pa_cons (pv 0) pa_nil)) qAb (qAt _)) (qDd (qAn op_gt (qAh qDk rfl ml PySem.boot_len (pa_cons (pv 0) pa_nil)) (pe_glob (v := .int 6) rfl mM ⟨t2, rfl⟩) (qAt _)))))) (qAd (qAm qE4)) qAx) (qAd (qAm (qAh (qB2 rfl) rfl ma qB3 (pa_cons (pe_lc (N := ["thing"]) (sc := qAc sName) (N' := ["sign"]) (sub := [none]) rfl rfl (CmpOk.of (by decide +kernel)) rfl (pi_str (pv 0)) (fun C s H fp => ⟨qAe (i := 0) (by show (["sign"] : List Str).Nodup; decide) rfl (Or.inl rfl), qA0, (qCd op_in_str (pv 0) (pe_glob (v := .str sg) rfl mS ⟨t1, rfl⟩) (by with_unfolding_all rfl))⟩)) pa_nil))))), ?_⟩
  try dsimp only [Cx.wish, qB8]
  have l1 := hz.2.1
  have l6 := hz.2.2
  have wl : z.length ≤ sizeLine := Nat.le_of_lt (qAf (by omega))
  refine ⟨_, rfl, _, _, _, true, rfl, .str z, qBj _ _, true, rfl, qCu ?_⟩
  refine ⟨_, rfl, z, rfl, wl, _, _, rfl, rfl, _, rfl, ?_⟩
  refine qCm (fun c => absurd (show (z.length : Int) < 1 from of_decide_eq_true c) (by omega)) (fun c => ?_)
  refine ⟨_, rfl, z, rfl, wl, _, _, rfl, rfl, _, rfl, ?_⟩
  refine qCm (fun d => absurd (show (6 : Int) < z.length from of_decide_eq_true d) (by omega)) (fun d => ?_)
  refine ⟨_, rfl, z, rfl, ?_⟩
  refine turns_val (fun i ys H' => H' = H ∧ ys = (List.range i).map fun i => V.bl (inB (sgn z i))) ⟨rfl, rfl⟩ ?_ ?_
  · rintro i ys H' hi ⟨rfl, rfl⟩
    refine ⟨Sle.set _ (Sle.refl _) (fun u z => by cases z), iteT (B := False) ⟨_, rfl, _, _, rfl, rfl, ?_, nxt hi ⟨rfl, ?_⟩⟩⟩
    · rw [List.length_map, List.length_range]
      exact qAf (by have : z.cps.size = z.length := rfl; omega)
    · rw [List.range_succ, List.map_append]; rfl
  · rintro ys H' ⟨rfl, rfl⟩ r hr'
    refine ⟨r, sgns z, rfl, ?_, ?_⟩
    · refine SqL.of ?_
      rw [upd_same]
      unfold sgns
      rw [List.map_map]
      rfl
    · rw [hz.all]
      exact q _ (Ext.new hr' _)
theorem scIsRow : FnScope ["thing"] ["thing"] (qAc sIsRow) := ⟨rfl, rfl, rfl, by decide +kernel, rfl, by decide +kernel, by decide +kernel⟩
theorem ok_rwT (F : Fun K "is_row" "is_row" sIsRow f fd) (G1 : FnOk P w K mg base CX0 1 f1 fd1 ["thing"] spNmT) (bG1 : qAz K fd1 ["thing"] []) (kG1 : PySem.W.keepIn K (.ref f1) = true) (mG1 : mg "is_name" = some (.ref f1)) (mi : mg "isinstance" = none) (mL : mg "list" = none) (ma : mg "all" = none) (mz : mg "zip" = none) : FnOk P w K mg base CX0 2 f fd ["thing"] spRwT := by
  refine F.ok scIsRow (fun vs H Q E h => ?_) (fun cdv A outer s H vs Q E hr h => ?_)
  · obtain ⟨a, ss, rfl, _⟩ := h
    rfl
  obtain ⟨a, ss, rfl, ha, hl, hn, rs, q⟩ := h
  refine ⟨_, (qAa (qBf (PW.pt (qD8 (qBr (qBq (qAh qA3 rfl mi qA4 (pa_cons (pv 0) (pa_cons (qBz (v := .ty "list") rfl mL qA8 rfl) pa_nil))))) (qDd (qBr (qBq (qAh (qB2 rfl) rfl ma qB3 (pa_cons (pe_lc (N := ["thing"]) (sc := qAc sIsRow) (N' := ["one"]) (sub := [none]) rfl rfl (CmpOk.of (by decide +kernel)) rfl (qAs (pv 0)) (fun C s H fp => ⟨qAe (i := 0) (by show (["one"] : List Str).Nodup; decide) rfl (Or.inl rfl), qA0, (qAi G1 hr rfl mG1 kG1 bG1 .nil qAu (pa_cons (pv 0) pa_nil))⟩)) pa_nil))))))) (qAd (qAm qE4)) qAx) (qAd (qAm (qAh (qB2 rfl) rfl ma qB3 (pa_cons (pe_lc (N := ["thing"]) (sc := qAc sIsRow) (N' := ["one", "other"]) (sub := [none, none]) rfl rfl (CmpOk.of (by decide +kernel)) rfl (pi_zip rfl mz (pa_cons (pv 0) (pa_cons (qCi qEq (pv 0) (qC3 qAb) qC4) pa_nil))) (fun C s H fp => ⟨(show PG _ _ (gTup K 2 _) from qBx rfl (qAl (qAe (i := 0) (by show (["one", "other"] : List Str).Nodup; decide) rfl (Or.inl rfl)) (qAl (qAe (i := 1) (by show (["one", "other"] : List Str).Nodup; decide) rfl (Or.inl rfl)) qBc))), qA0, qCd op_lt_str (pv 0) (pv 1) (qAt _)⟩)) pa_nil))))), ?_⟩
  try dsimp only [Cx.wish, qB8]
  refine ⟨_, rfl, _, _, _, true, rfl, .lst ha, qBj _ _, true, rfl, qCu ?_⟩
  refine ⟨_, rfl, a, rfl, ⟨_, SqL.of ha⟩, ?_⟩
  refine qAq (xs := ss.map V.str) (fun j ys H2 => Ext H H2 ∧ ys = (List.replicate j true).map V.bl) ⟨Ext.refl _, rfl⟩ (fun j ys H2 _ h => SqL.of (h.1 _ _ ha)) ?_ ?_
  · rintro j v ys H2 hx ⟨e2, rfl⟩
    obtain ⟨y, rfl, hy⟩ := qDy hx
    have hj := qA2 hy
    exact ⟨Sle.set _ (Sle.refl _) (fun u z => by cases z), iteT (B := False) ⟨_, rfl, y, rfl, hn y (List.mem_of_getElem? hy), fun H' e' => ⟨by rw [qDz]; exact qAf (by omega), nxt (qA2 hx) ⟨e2.trans e', qC1 j⟩⟩⟩⟩
  rintro ys H2 ⟨e2, rfl⟩ r hr1
  have e3 := e2.trans (Ext.new hr1 (.lst ((List.replicate (ss.map V.str).length true).map V.bl)))
  refine ⟨r, List.replicate (ss.map V.str).length true, rfl, SqL.of upd_same, _, rfl, ?_⟩
  rw [qD0]
  refine qCu ?_
  have ha3 := e3 _ _ ha
  revert e3 ha3
  generalize upd H2 r (.lst ((List.replicate (ss.map V.str).length true).map V.bl)) = H3
  intro e3 ha3
  refine ⟨_, rfl, _, rfl, _, rfl, a, _, rfl, SqL.of ha3, fun r2 hr2 => ?_⟩
  rw [cut_one]
  have X2 := Ext.new hr2 (.lst ((ss.map V.str).drop 1))
  refine ⟨a, r2, ss.map V.str, (ss.map V.str).drop 1, rfl, SqL.of (X2 _ _ ha3), SqL.of upd_same, ?_⟩
  have hm : min (ss.map V.str).length ((ss.map V.str).drop 1).length = ss.length - 1 := by rw [List.length_drop, List.length_map]; omega
  rw [hm]
  refine qD5 (fun i ys H' => Ext (upd H3 r2 (.lst ((ss.map V.str).drop 1))) H' ∧ ys = (List.replicate i true).map V.bl) ⟨Ext.refl _, rfl⟩ (fun i ys H' _ p => ⟨SqL.of ((X2.trans p.1) _ _ ha3), SqL.of (p.1 _ _ upd_same)⟩) ?_ ?_
  · rintro i ys H' T hi ⟨p, rfl⟩ hT
    have i1 : i < ss.length := by omega
    have i2 : i + 1 < ss.length := by omega
    have d1 : (ss.map V.str).getD i .non = .str ss[i] := by rw [List.getD_eq_getElem?_getD, List.getElem?_map, List.getElem?_eq_getElem i1]; rfl
    have d2 : ((ss.map V.str).drop 1).getD i .non = .str ss[i + 1] := by rw [List.getD_eq_getElem?_getD, List.getElem?_drop, Nat.add_comm, List.getElem?_map, List.getElem?_eq_getElem i2]; rfl
    have lt : decide (ss[i].cps.toList < ss[i + 1].cps.toList) = true := rise_get rs (by omega) (List.getElem?_eq_getElem i1) (List.getElem?_eq_getElem i2)
    refine ⟨T, _, rfl, SqT.of upd_same, rfl, _, _, rfl, _, _, rfl, rfl, ?_⟩
    refine ⟨Sle.set _ (Sle.set _ (Sle.refl _) (fun u z => by cases z)) (fun u z => by cases z), iteT (B := False) ⟨_, rfl, _, rfl, ss[i], ss[i + 1], d1, d2, ?_, nxt hi ⟨p.trans (Ext.new hT _), ?_⟩⟩⟩
    · rw [qDz]; exact qAf (by omega)
    · rw [lt]; exact qC1 i
  · rintro ys H' ⟨p, rfl⟩ r3 hr3
    refine ⟨r3, List.replicate (ss.length - 1) true, rfl, SqL.of upd_same, ?_⟩
    rw [qD0]
    exact q _ (e3.trans (X2.trans (p.trans (Ext.new hr3 _))))
theorem scIsTie : FnScope ["thing"] ["thing"] (qAc sIsTie) := ⟨rfl, rfl, rfl, by decide +kernel, rfl, by decide +kernel, by decide +kernel⟩
set_option maxHeartbeats 4000000 in
theorem ok_tiT (F : Fun K "is_tie" "is_tie" sIsTie f fd) (G1 : FnOk P w K mg base CX0 1 f1 fd1 ["thing"] spNmT) (bG1 : qAz K fd1 ["thing"] []) (kG1 : PySem.W.keepIn K (.ref f1) = true) (mG1 : mg "is_name" = some (.ref f1)) (mi : mg "isinstance" = none) (mtu : mg "tuple" = none) (ma : mg "all" = none) (ml : mg "len" = none) : FnOk P w K mg base CX0 2 f fd ["thing"] spTiT := by
  refine F.ok scIsTie (fun vs H Q E h => ?_) (fun cdv A outer s H vs Q E hr h => ?_)
  · obtain ⟨a, t, rfl, _⟩ := h
    rfl
  obtain ⟨a, t, rfl, ha, tx, q⟩ := h
  refine ⟨_, (qAa (qBf (PW.pt (qD8 (qBr (qBq (qAh qA3 rfl mi qA4 (pa_cons (pv 0) (pa_cons (qBz (v := .ty "tuple") rfl mtu qB7 rfl) pa_nil))))) (qD8 (qAn qEb (qAh qAo rfl ml PySem.boot_len (pa_cons (pv 0) pa_nil)) qAb (qAt _)) (qDd (qBr (qBq (qAh (qB2 rfl) rfl ma qB3 (pa_cons (pe_lc (N := ["thing"]) (sc := qAc sIsTie) (N' := ["part"]) (sub := [none]) rfl rfl (CmpOk.of (by decide +kernel)) rfl (pi_tup (pv 0)) (fun C s H fp => ⟨qAe (i := 0) (by show (["part"] : List Str).Nodup; decide) rfl (Or.inl rfl), qA0, (qAi G1 hr rfl mG1 kG1 bG1 .nil qAu (pa_cons (pv 0) pa_nil))⟩)) pa_nil)))))))) (qAd (qAm qE4)) qAx) (qAd (qAm (qCd op_le_str (qBb qBh (pv 0) qAb (fun _ _ => rfl)) (qBb qBh (pv 0) qAb (fun _ _ => rfl)) (qAt _))))), ?_⟩
  try dsimp only [Cx.wish, qB8]
  have hx : ∀ x ∈ trV t, ∃ s, x = .str s ∧ qBu s := fun x hx => by
    have : x = .str t.1 ∨ x = .str t.2.1 ∨ x = .str t.2.2 := by simpa [trV] using hx
    rcases this with rfl | rfl | rfl
    · exact ⟨_, rfl, tx.1⟩
    · exact ⟨_, rfl, tx.2.1⟩
    · exact ⟨_, rfl, tx.2.2.1⟩
  refine ⟨_, rfl, _, _, _, true, rfl, .tup ha, qBj _ _, true, rfl, qCu ?_⟩
  refine ⟨_, rfl, a, _, rfl, .inr (SqT.of ha), rfl, _, rfl, qCu ?_⟩
  refine ⟨_, rfl, a, rfl, ⟨_, SqT.of ha⟩, ?_⟩
  refine turns_tuple (xs := trV t) (fun j ys H2 => Ext H H2 ∧ ys = (List.replicate j true).map V.bl) ⟨Ext.refl _, rfl⟩ (fun j ys H2 _ h => SqT.of (h.1 _ _ ha)) ?_ ?_
  · rintro j v ys H2 hv ⟨e2, rfl⟩
    obtain ⟨y, rfl, hy⟩ := hx v (List.mem_of_getElem? hv)
    have hj : j < 3 := qA2 hv
    exact ⟨Sle.set _ (Sle.refl _) (fun u z => by cases z), iteT (B := False) ⟨_, rfl, y, rfl, hy, fun H' e' => ⟨by rw [qDz]; exact qAf (by omega), nxt (qA2 hv) ⟨e2.trans e', qC1 j⟩⟩⟩⟩
  rintro ys H2 ⟨e2, rfl⟩ r hr1
  have e3 := e2.trans (Ext.new hr1 (.lst ((List.replicate (trV t).length true).map V.bl)))
  refine ⟨r, List.replicate (trV t).length true, rfl, SqL.of upd_same, _, rfl, ?_⟩
  rw [qD0]
  refine qCu ?_
  have ha3 := e3 _ _ ha
  refine ⟨_, rfl, a, _, _, _, rfl, rfl, SqT.of ha3, (by exact qAv (j := 1) rfl), _, rfl, a, _, _, _, rfl, rfl, SqT.of ha3, (by exact qAv (j := 2) rfl), t.2.1, t.2.2, rfl, rfl, ?_⟩
  rw [show (!decide (t.2.2.cps.toList < t.2.1.cps.toList)) = true from tx.2.2.2]
  exact q _ e3
theorem scForm : FnScope ["thing"] ["thing"] (qAc sForm) := ⟨rfl, rfl, rfl, by decide +kernel, rfl, by decide +kernel, by decide +kernel⟩
set_option maxHeartbeats 4000000 in
theorem ok_foT (F : Fun K "has_net_form" "has_net_form" sForm f fd) (G1 : FnOk P w K mg base CX0 2 f1 fd1 ["thing"] spTiT) (bG1 : qAz K fd1 ["thing"] []) (kG1 : PySem.W.keepIn K (.ref f1) = true) (mG1 : mg "is_tie" = some (.ref f1)) (G2 : FnOk P w K mg base CX0 2 f2 fd2 ["thing"] spRwT) (bG2 : qAz K fd2 ["thing"] []) (kG2 : PySem.W.keepIn K (.ref f2) = true) (mG2 : mg "is_row" = some (.ref f2)) (G3 : FnOk P w K mg base CX0 1 f3 fd3 ["net"] spTies) (bG3 : qAz K fd3 ["net"] []) (kG3 : PySem.W.keepIn K (.ref f3) = true) (mG3 : mg "ties_of" = some (.ref f3)) (mi : mg "isinstance" = none) (mL : mg "list" = none) (ma : mg "all" = none) : FnOk P w K mg base CX0 3 f fd ["thing"] spFoT := by
  refine F.ok scForm (fun vs H Q E h => ?_) (fun cdv A outer s H vs Q E hr h => ?_)
  · obtain ⟨p, net, rfl, _⟩ := h
    rfl
  obtain ⟨p, net, rfl, nt, hl, tx, rs, q⟩ := h
  have hr1 := hr.mono (j := 1) (by decide)
  refine ⟨_, (qAa (qBf (PW.pt (qD8 (qBr (qBq (qAh qA3 rfl mi qA4 (pa_cons (pv 0) (pa_cons (qBz (v := .ty "list") rfl mL qA8 rfl) pa_nil))))) (qDd (qBr (qBq (qAh (qB2 rfl) rfl ma qB3 (pa_cons (pe_lc (N := ["thing"]) (sc := qAc sForm) (N' := ["part"]) (sub := [none]) rfl rfl (CmpOk.of (by decide +kernel)) rfl (qAs (pv 0)) (fun C s H fp => ⟨qAe (i := 0) (by show (["part"] : List Str).Nodup; decide) rfl (Or.inl rfl), qA0, (qAi G1 hr rfl mG1 kG1 bG1 .nil qAu (pa_cons (pv 0) pa_nil))⟩)) pa_nil))))))) (qAd (qAm qE4)) qAx) (qAd (qAm (qAi G2 hr rfl mG2 kG2 bG2 .nil qAu (pa_cons (qAi G3 hr1 rfl mG3 kG3 bG3 .nil qAu (pa_cons (pv 0) pa_nil)) pa_nil))))), ?_⟩
  try dsimp only [Cx.wish, qB8]
  obtain ⟨as, hp, pr⟩ := id nt
  have la : as.length = net.length := pr.length
  refine ⟨_, rfl, _, _, _, true, rfl, .lst hp, qBj _ _, true, rfl, qCu ?_⟩
  refine ⟨_, rfl, p, rfl, ⟨_, SqL.of hp⟩, ?_⟩
  refine qAq (xs := as.map V.ref) (fun j ys H2 => Ext H H2 ∧ ys = (List.replicate j true).map V.bl) ⟨Ext.refl _, rfl⟩ (fun j ys H2 _ h => SqL.of (h.1 _ _ hp)) ?_ ?_
  · rintro j v ys H2 hv ⟨e2, rfl⟩
    obtain ⟨a, rfl, ha⟩ := qB4 hv
    obtain ⟨t, ht, hta⟩ := qAy pr ha
    have hj := qA2 ht
    exact ⟨Sle.set _ (Sle.refl _) (fun u z => by cases z), iteT (B := False) ⟨_, rfl, a, t, rfl, e2 _ _ hta, tx t (List.mem_of_getElem? ht), fun H' e' => ⟨by rw [qDz]; exact qAf (by omega), nxt (qA2 hv) ⟨e2.trans e', qC1 j⟩⟩⟩⟩
  rintro ys H2 ⟨e2, rfl⟩ r hr1'
  have e3 := e2.trans (Ext.new hr1' (.lst ((List.replicate (as.map V.ref).length true).map V.bl)))
  refine ⟨r, List.replicate (as.map V.ref).length true, rfl, SqL.of upd_same, _, rfl, ?_⟩
  rw [qD0]
  refine qCu ?_
  refine ⟨_, rfl, p, net, rfl, nt.ext e3, by omega, fun r2 H3 e4 r20 hr2 => ?_⟩
  exact ⟨r2, net.map (·.1), rfl, hr2, by rw [List.length_map]; omega, fun s hs => by obtain ⟨t, ht, rfl⟩ := List.mem_map.mp hs; exact (tx t ht).1, rs, fun H' e' => q H' (e3.trans (e4.trans e'))⟩
theorem scHtf : FnScope ["thing", "names", "rows"] ["thing"] (qAc sHtf) := ⟨rfl, rfl, rfl, by decide +kernel, rfl, by decide +kernel, by decide +kernel⟩
set_option maxHeartbeats 4000000 in
theorem ok_htT (F : Fun K "has_table_form" "has_table_form" sHtf f fd) (G1 : FnOk P w K mg base CX0 2 f1 fd1 ["thing"] spRwT) (bG1 : qAz K fd1 ["thing"] []) (kG1 : PySem.W.keepIn K (.ref f1) = true) (mG1 : mg "is_row" = some (.ref f1)) (mi : mg "isinstance" = none) (mtu : mg "tuple" = none) (mL : mg "list" = none) (ma : mg "all" = none) (ml : mg "len" = none) : FnOk P w K mg base CX0 3 f fd ["thing"] spHtT := by
  refine F.ok scHtf (fun vs H Q E h => ?_) (fun cdv A outer s H vs Q E hr h => ?_)
  · obtain ⟨T, names, rows, rfl, _⟩ := h
    rfl
  obtain ⟨T, names, rows, rfl, ti, ln, lr, rn, nmd, rw', q⟩ := h
  refine ⟨_, (qAa (qBf (PW.pt (qD8 (qBr (qBq (qAh qA3 rfl mi qA4 (pa_cons (pv 0) (pa_cons (qBz (v := .ty "tuple") rfl mtu qB7 rfl) pa_nil))))) (qDd (qAn qEb (qAh qAo rfl ml PySem.boot_len (pa_cons (pv 0) pa_nil)) qAb (qAt _))))) (qAd (qAm qE4)) qAx) (qAa (qD9 (pv 0) (qBx rfl (qAl (qAe (i := 1) scHtf.nd rfl (Or.inr rfl)) (qAl (qAe (i := 2) scHtf.nd rfl (Or.inl rfl)) qBc)))) (qAa (qBf (PW.pt (qD8 (qBr (qBq (qAi G1 hr rfl mG1 kG1 bG1 .nil qAu (pa_cons (pv 1) pa_nil)))) (qDd (qBr (qBq (qAh qA3 rfl mi qA4 (pa_cons (pv 2) (pa_cons (qBz (v := .ty "list") rfl mL qA8 rfl) pa_nil)))))))) (qAd (qAm qE4)) qAx) (qAd (qAm (qAh (qB2 rfl) rfl ma qB3 (pa_cons (pe_lc (N := ["thing", "names", "rows"]) (sc := qAc sHtf) (N' := ["row", "names"]) (sub := [none, some 1]) rfl rfl (CmpOk.of (by decide +kernel)) rfl (qAs (pv 2)) (fun C s H fp => ⟨qAe (i := 0) (by show (["row", "names"] : List Str).Nodup; decide) rfl (Or.inl rfl), qA0, pe_and (qAi G1 hr rfl mG1 kG1 bG1 .nil qAu (pa_cons (pv 0) pa_nil)) (pe_one (qAh (show qCr _ _ (rAllB K) from qB2 rfl) rfl ma qB3 (pa_cons (pe_lc (N := ["row", "names"]) (sc := scI) (N' := ["name", "names"]) (sub := [none, some 1]) rfl rfl (CmpOk.of (by decide +kernel)) rfl (show PI _ _ _ (iList K _) from qAs (pv 0)) (fun C s H fp => ⟨qAe (i := 0) (by show (["name", "names"] : List Str).Nodup; decide) rfl (Or.inl rfl), qA0, qCd (show OpR _ _ (rIn K false) from qFo) (pv 0) (pv 1) (by with_unfolding_all rfl)⟩)) pa_nil)))⟩)) pa_nil))))))), ?_⟩
  try dsimp only [Cx.wish, qB8]
  obtain ⟨a, b, hT, ha, as, hb, pr⟩ := id ti
  have la : as.length = rows.length := pr.length
  refine ⟨_, rfl, _, _, _, true, rfl, .tup hT, qBj _ _, true, rfl, qCu ?_⟩
  refine ⟨_, rfl, T, _, rfl, .inr (SqT.of hT), rfl, _, rfl, qCu ?_⟩
  refine ⟨_, rfl, T, _, rfl, SqT.of hT, rfl, _, _, rfl, _, _, rfl, rfl, ?_⟩
  refine ⟨_, rfl, a, names, rfl, ha, by omega, nmd, rn, fun H1 e1 => ⟨true, rfl, qCu ?_⟩⟩
  have hb1 := e1 _ _ hb
  refine ⟨_, rfl, _, _, _, true, rfl, .lst hb1, qBj _ _, true, rfl, qCu ?_⟩
  refine ⟨_, rfl, b, rfl, ⟨_, SqL.of hb1⟩, ?_⟩
  refine qAq (xs := as.map V.ref) (fun j ys H2 => Ext H1 H2 ∧ ys = (List.replicate j true).map V.bl) ⟨Ext.refl _, rfl⟩ (fun j ys H2 _ h => SqL.of (h.1 _ _ hb1)) ?_ ?_
  · rintro j v ys H2 hv ⟨e2, rfl⟩
    obtain ⟨c, rfl, hc⟩ := qB4 hv
    obtain ⟨r, hr', hcr⟩ := qAy pr hc
    have hj := qA2 hr'
    obtain ⟨r1, r2, r3⟩ := rw' r (List.mem_of_getElem? hr')
    refine ⟨Sle.set _ (Sle.refl _) (fun u z => by cases z), iteT (B := False) ⟨_, rfl, c, r, rfl, (e1.trans e2) _ _ hcr, by omega, fun n hn => nmd n (r3 n hn), r1, fun H3 e3 => ⟨true, rfl, iteT ?_⟩⟩⟩
    have hc3 := ((e1.trans e2).trans e3) _ _ hcr
    refine ⟨_, rfl, c, rfl, ⟨_, SqL.of hc3⟩, ?_⟩
    refine qAq (xs := r.map V.str) (fun i zs H4 => H4 = H3 ∧ zs = (List.replicate i true).map V.bl) ⟨rfl, rfl⟩ (fun i zs H4 _ h => by rw [h.1]; exact SqL.of hc3) ?_ ?_
    · rintro i u zs H4 hu ⟨rfl, rfl⟩
      obtain ⟨n, rfl, hn⟩ := qDy hu
      have hi := qA2 hn
      refine ⟨Sle.set _ (Sle.refl _) (fun u z => by cases z), iteT (B := False) ⟨_, rfl, _, rfl, a, _, rfl, .inl (SqL.of (((e1.trans e2).trans e3) _ _ ha)), rfl, flat_strs _, ?_⟩⟩
      rw [if_neg (by decide), inV_str, decide_eq_true (r3 n (List.mem_of_getElem? hn))]
      exact ⟨by rw [qDz]; exact qAf (by omega), nxt (qA2 hu) ⟨rfl, qC1 i⟩⟩
    · rintro zs H4 ⟨rfl, rfl⟩ l hl
      refine ⟨l, List.replicate (r.map V.str).length true, rfl, SqL.of upd_same, ?_⟩
      rw [qD0]
      exact ⟨by rw [qDz]; exact qAf (by omega), nxt (qA2 hv) ⟨e2.trans (e3.trans (Ext.new hl _)), qC1 j⟩⟩
  · rintro ys H2 ⟨e2, rfl⟩ l hl
    refine ⟨l, List.replicate (as.map V.ref).length true, rfl, SqL.of upd_same, ?_⟩
    rw [qD0]
    exact q _ (e1.trans (e2.trans (Ext.new hl _)))
end
end My
namespace My
open PySem L2
theorem c_sp : (" " : Str).cps.toList = [32] := by decide +kernel
theorem c_sl : (" / " : Str).cps.toList = [32, 47, 32] := by decide +kernel
theorem c_co : (", " : Str).cps.toList = [44, 32] := by decide +kernel
theorem c_em : ("-" : Str).cps.toList = [45] := by decide +kernel
theorem l_sp : (" " : Str).length = 1 := by decide +kernel
theorem l_sl : (" / " : Str).length = 3 := by decide +kernel
theorem l_co : (", " : Str).length = 2 := by decide +kernel
theorem l_em : ("-" : Str).length = 1 := by decide +kernel
theorem k_sp : Builtin.Str.strKind (" " : Str) = 1 := by decide +kernel
theorem k_sl : Builtin.Str.strKind (" / " : Str) = 1 := by decide +kernel
theorem k_co : Builtin.Str.strKind (", " : Str) = 1 := by decide +kernel
theorem m_sp : Mrk (" " : Str).cps.toList 32 0 := by
  rw [c_sp]
  refine ⟨rfl, fun i h => ?_⟩
  match i, h with
  | 0, _ => rfl
  | i + 1, h => cases h
theorem m_sl : Mrk (" / " : Str).cps.toList 47 1 := by
  rw [c_sl]
  refine ⟨rfl, fun i h => ?_⟩
  match i, h with
  | 0, h => cases h
  | 1, _ => rfl
  | 2, h => cases h
  | i + 3, h => cases h
theorem m_co : Mrk (", " : Str).cps.toList 44 0 := by
  rw [c_co]
  refine ⟨rfl, fun i h => ?_⟩
  match i, h with
  | 0, _ => rfl
  | 1, h => cases h
  | i + 2, h => cases h
theorem sg_not : ∀ c ∈ sg.cps.toList, c ≠ 32 ∧ c ≠ 47 ∧ c ≠ 44 ∧ c ≠ 45 := by decide +kernel
theorem jn_mem {y : List Nat} {c : Nat} : ∀ {B : List (List Nat)}, c ∈ jn y B → c ∈ y ∨ ∃ b ∈ B, c ∈ b
  | [], h => by cases h
  | [b], h => .inr ⟨b, List.mem_cons_self, h⟩
  | b :: e :: r, h => by
    have h' : c ∈ b ++ y ++ jn y (e :: r) := h
    rw [List.mem_append, List.mem_append] at h'
    rcases h' with (h | h) | h
    · exact .inr ⟨b, List.mem_cons_self, h⟩
    · exact .inl h
    · rcases jn_mem h with h | ⟨x, hx, h⟩
      · exact .inl h
      · exact .inr ⟨x, List.mem_cons_of_mem _ hx, h⟩
def wrF (row : List Str) : Str := if row = [] then "-" else Txt.join " " row
def tbW (names : List Str) (rows : List (List Str)) : Str := Txt.join " / " ((names :: rows).map wrF)
def tiW (t : Tr) : Str := Txt.join " " [t.1, t.2.1, t.2.2]
def ntW (net : List Tr) : Str := if net = [] then "-" else Txt.join ", " (net.map tiW)
theorem wr_mem {row : List Str} (h : ∀ n ∈ row, qBu n) {c : Nat} (hc : c ∈ (wrF row).cps.toList) : c ≠ 47 := by
  unfold wrF at hc
  split at hc
  · rw [c_em] at hc
    simp at hc; omega
  · rw [qBp, c_sp] at hc
    rcases jn_mem hc with z | ⟨b, hb, z⟩
    · simp at z; omega
    · obtain ⟨n, hn, rfl⟩ := List.mem_map.mp hb
      exact (sg_not c ((h n hn).1 c z)).2.1
theorem wr_split {row : List Str} (h : ∀ n ∈ row, qBu n) (ne : row ≠ []) : Txt.split (wrF row) " " = row := by
  unfold wrF
  rw [if_neg ne]
  exact qDr m_sp k_sp ne fun b hb z => (sg_not 32 ((h b hb).1 32 z)).1 rfl
theorem wr_ne {row : List Str} (h : ∀ n ∈ row, qBu n) (ne : row ≠ []) : ¬ wrF row = "-" := fun e => by
  unfold wrF at e
  rw [if_neg ne] at e
  have : 45 ∈ (Txt.join " " row).cps.toList := by rw [e, c_em]; simp
  rw [qBp, c_sp] at this
  rcases jn_mem this with z | ⟨b, hb, z⟩
  · simp at z
  · obtain ⟨n, hn, rfl⟩ := List.mem_map.mp hb
    exact (sg_not 45 ((h n hn).1 45 z)).2.2.2 rfl
theorem sum_row {row : List Str} (h : ∀ n ∈ row, qBu n) (l : row.length ≤ 20) : (row.map (·.length)).sum + row.length * (" " : Str).length ≤ 140 := by
  have := sum_le (f := (·.length)) (n := 6) (l := row) fun n hn => (h n hn).2.2
  rw [l_sp]; omega
theorem wr_len {row : List Str} (h : ∀ n ∈ row, qBu n) (l : row.length ≤ 20) : (wrF row).length ≤ 140 := by
  unfold wrF
  split
  · rw [l_em]; decide
  · exact Nat.le_trans (qEe _ _) (sum_row h l)
theorem sum_rows {rows : List (List Str)} (h : ∀ r ∈ rows, ∀ n ∈ r, qBu n) (l : ∀ r ∈ rows, r.length ≤ 20) (lr : rows.length ≤ 20) : ((rows.map wrF).map (·.length)).sum + (rows.map wrF).length * (" / " : Str).length ≤ 2900 := by
  have := sum_le (f := (·.length)) (n := 140) (l := rows.map wrF) fun s hs => by
    obtain ⟨r, hr, rfl⟩ := List.mem_map.mp hs
    exact wr_len (h r hr) (l r hr)
  rw [List.length_map] at this
  rw [List.length_map, l_sl]; omega
theorem tb_split {rows : List (List Str)} (h : ∀ r ∈ rows, ∀ n ∈ r, qBu n) (ne : rows ≠ []) : Txt.split (Txt.join " / " (rows.map wrF)) " / " = rows.map wrF := by
  refine qDr m_sl k_sl (by cases rows with | nil => exact (ne rfl).elim | cons a b => simp) fun b hb z => ?_
  obtain ⟨r, hr, rfl⟩ := List.mem_map.mp hb
  exact wr_mem (h r hr) z rfl
theorem qE8 {t : Tr} (h : TxT t) : ∀ n ∈ [t.1, t.2.1, t.2.2], qBu n := fun n hn => by
  have : n = t.1 ∨ n = t.2.1 ∨ n = t.2.2 := by simpa using hn
  rcases this with rfl | rfl | rfl
  · exact h.1
  · exact h.2.1
  · exact h.2.2.1
theorem ti_split {t : Tr} (h : TxT t) : Txt.split (tiW t) " " = [t.1, t.2.1, t.2.2] :=
  qDr m_sp k_sp (by simp) fun b hb z => (sg_not 32 ((qE8 h b hb).1 32 z)).1 rfl
theorem ti_mem {t : Tr} (h : TxT t) {c : Nat} (hc : c ∈ (tiW t).cps.toList) : c ≠ 44 ∧ c ≠ 45 := by
  unfold tiW at hc
  rw [qBp, c_sp] at hc
  rcases jn_mem hc with z | ⟨b, hb, z⟩
  · simp at z; omega
  · obtain ⟨n, hn, rfl⟩ := List.mem_map.mp hb
    exact (sg_not c ((qE8 h n hn).1 c z)).2.2
theorem ti_len {t : Tr} (h : TxT t) : (tiW t).length ≤ 140 := Nat.le_trans (qEe _ _) (sum_row (qE8 h) (by show 3 ≤ 20; decide))
theorem sum_net {net : List Tr} (h : TxN net) (l : net.length ≤ 20) : ((net.map tiW).map (·.length)).sum + (net.map tiW).length * (", " : Str).length ≤ 2900 := by
  have := sum_le (f := (·.length)) (n := 140) (l := net.map tiW) fun s hs => by
    obtain ⟨t, ht, rfl⟩ := List.mem_map.mp hs
    exact ti_len (h t ht)
  rw [List.length_map] at this
  rw [List.length_map, l_co]; omega
theorem nt_split {net : List Tr} (h : TxN net) (ne : net ≠ []) : Txt.split (ntW net) ", " = net.map tiW := by
  unfold ntW
  rw [if_neg ne]
  refine qDr m_co k_co (by cases net with | nil => exact (ne rfl).elim | cons a b => simp) fun b hb z => ?_
  obtain ⟨t, ht, rfl⟩ := List.mem_map.mp hb
  exact (ti_mem (h t ht) z).1 rfl
theorem nt_ne {net : List Tr} (h : TxN net) (ne : net ≠ []) : ¬ ntW net = "-" := fun e => by
  unfold ntW at e
  rw [if_neg ne] at e
  have : 45 ∈ (Txt.join ", " (net.map tiW)).cps.toList := by rw [e, c_em]; simp
  rw [qBp, c_co] at this
  rcases jn_mem this with z | ⟨b, hb, z⟩
  · simp at z
  · obtain ⟨s, hs, rfl⟩ := List.mem_map.mp hb
    obtain ⟨t, ht, rfl⟩ := List.mem_map.mp hs
    exact (ti_mem (h t ht) z).2 rfl
theorem nt_len {net : List Tr} (h : TxN net) (l : net.length ≤ 20) : (ntW net).length ≤ 2900 := by
  unfold ntW
  split
  · rw [l_em]; decide
  · exact Nat.le_trans (qEe _ _) (sum_net h l)
theorem fold_join (z : Str) : ∀ (r : List Str) (b : Str), r.foldl (fun acc p => acc ++ z ++ p) b = Txt.join z (b :: r) := fun r b => by
  apply Str.ext'
  apply Array.toList_inj.mp
  rw [qBp, List.map_cons, ← jn_glue]
  have : ∀ (r : List Str) (b : Str), (r.foldl (fun acc p => acc ++ z ++ p) b).cps.toList = (r.map fun b => b.cps.toList).foldl (fun acc p => acc ++ z.cps.toList ++ p) b.cps.toList := fun r => by
    induction r with
    | nil => intro b; rfl
    | cons c r ih =>
      intro b
      rw [List.foldl_cons, ih, List.map_cons, List.foldl_cons]
      simp only [Str.cps_append, Array.toList_append]
  exact this r b
theorem wr_fold {n : Str} {r : List Str} : r.foldl (fun (acc p : Str) => acc ++ (" " : Str) ++ p) n = wrF (n :: r) := by
  unfold wrF
  rw [if_neg (by simp), fold_join]
theorem tb_fold {names : List Str} {rows : List (List Str)} : rows.foldl (fun (acc : Str) r => acc ++ (" / " : Str) ++ wrF r) (wrF names) = tbW names rows := by
  unfold tbW
  rw [List.map_cons, ← fold_join, List.foldl_map]
def ntS (acc : Str) (t : Tr) : Str := acc ++ (", " : Str) ++ t.1 ++ (" " : Str) ++ t.2.1 ++ (" " : Str) ++ t.2.2
theorem ti_list (t : Tr) : (tiW t).cps.toList = t.1.cps.toList ++ [32] ++ (t.2.1.cps.toList ++ [32] ++ t.2.2.cps.toList) := by
  unfold tiW
  rw [qBp, c_sp]; rfl
theorem jn_flat (y : List Nat) : ∀ (r : List (List Nat)) (b : List Nat), jn y (b :: r) = b ++ (r.map fun p => y ++ p).flatten
  | [], b => by simp [jn]
  | c :: r, b => by
    show b ++ y ++ jn y (c :: r) = _
    rw [jn_flat y r c, List.map_cons, List.flatten_cons]
    simp only [List.append_assoc]
theorem nt_fold : ∀ (net : List Tr) (b : Str), (net.foldl ntS b).cps.toList = b.cps.toList ++ ((net.map fun t => (tiW t).cps.toList).map fun p => [44, 32] ++ p).flatten
  | [], b => by simp
  | t :: r, b => by
    rw [List.foldl_cons, nt_fold r, List.map_cons, List.map_cons, List.flatten_cons, ti_list]
    unfold ntS
    simp only [Str.cps_append, Array.toList_append, List.append_assoc]
    rw [c_co, c_sp]
    try simp only [List.append_assoc, List.cons_append, List.nil_append]
theorem nt_slice {net : List Tr} (ne : net ≠ []) : Txt.slice (net.foldl ntS "") (some 2) none = ntW net := by
  have hl := nt_fold net ""
  cases net with
  | nil => exact (ne rfl).elim
  | cons t r =>
    have e0 : ("" : Str).cps.toList = [] := by decide +kernel
    rw [e0, List.nil_append, List.map_cons, List.map_cons, List.flatten_cons] at hl
    have len : (2 : Int) ≤ ((List.foldl ntS "" (t :: r)).cps.toList.length : Nat) := by
      rw [hl]
      simp only [List.length_append, List.length_cons, List.length_nil]
      omega
    have e : Txt.slice (List.foldl ntS "" (t :: r)) (some 2) none = _ := PySem.StrLaws.sliceText_from (x := List.foldl ntS "" (t :: r)) (i := 2) ⟨by decide, len⟩
    rw [e]
    apply Str.ext'
    apply Array.toList_inj.mp
    unfold ntW
    rw [if_neg (by simp), qBp, c_co, List.map_cons, List.map_cons, jn_flat, List.toList_toArray, List.take_of_length_le (by rw [List.length_drop]; omega), hl]
    simp only [List.map_map]
    rfl
theorem ntS_len {acc : Str} {t : Tr} (h : TxT t) : (ntS acc t).length ≤ acc.length + 22 := by
  unfold ntS
  simp only [Str.length_append]
  have h1 := h.1.2.2
  have h2 := h.2.1.2.2
  have h3 := h.2.2.1.2.2
  rw [l_co, l_sp]
  omega
end My
namespace My
open PySem L2
def trD (t : Tr) : PyData := .tuple [.str t.1, .str t.2.1, .str t.2.2]
def netD (net : List Tr) : PyData := .list (net.map trD)
theorem eqv_tr (t : Tr) : PyData.eqv (trD t) (trD t) = true := by
  show (t.1 == t.1 && (t.2.1 == t.2.1 && (t.2.2 == t.2.2 && true))) = true
  simp
theorem eqv_net : ∀ net : List Tr, PyData.eqv (netD net) (netD net) = true
  | [] => rfl
  | t :: r => by
    have ih : PyData.eqvAll (r.map trD) (r.map trD) = true := eqv_net r
    show (PyData.eqv (trD t) (trD t) && PyData.eqvAll (r.map trD) (r.map trD)) = true
    rw [eqv_tr, ih]; rfl
theorem lay_net : ∀ {net : List Tr}, TxN net → PyData.canLayAll0 (net.map trD) = true ∧ PyData.depthAll (net.map trD) ≤ 1
  | [], _ => ⟨rfl, by decide⟩
  | t :: r, h => by
    obtain ⟨h1, h2⟩ := lay_net (net := r) fun y hy => h y (List.mem_cons_of_mem _ hy)
    obtain ⟨t1, t2, t3⟩ := h t List.mem_cons_self
    refine ⟨?_, ?_⟩
    · show ((PyData.strOk t.1 && (PyData.strOk t.2.1 && (PyData.strOk t.2.2 && true))) && PyData.canLayAll0 (r.map trD)) = true
      rw [h1, t1.ok, t2.ok, t3.1.ok]; rfl
    · show max (max 0 (max 0 (max 0 0)) + 1) (PyData.depthAll (r.map trD)) ≤ 1
      omega
theorem qEr {net : List Tr} (h : TxN net) : SeqAt.shaped (netD net) = true := by
  obtain ⟨h3, h4⟩ := lay_net h
  show (PyData.canLayAll0 (net.map trD) && decide (PyData.depthAll (net.map trD) + 1 ≤ 64)) = true
  rw [h3, decide_eq_true (by omega)]; rfl
theorem drs_net {K : PySem.W.Frag} {H : Hp} : ∀ {as : List Addr} {net : List Tr}, Paired (fun a t => H a = some (.tup (trV t))) as net → DRs K H (as.map V.ref) (net.map trD)
  | _, _, .nil => .nil
  | _, _, .cons h t => .cons (.tup (SqT.of h) (.cons (.str _) (.cons (.str _) (.cons (.str _) .nil)))) (drs_net t)
theorem dr_net {K : PySem.W.Frag} {H : Hp} {p : Addr} {net : List Tr} (h : qCq H p net) : DR K H (.ref p) (netD net) := by
  obtain ⟨as, h1, h2⟩ := h
  exact .lst (SqL.of h1) (drs_net h2)
theorem eqv_net_nil (net : List Tr) : PyData.eqv (netD net) (.list []) = decide (net = []) := by
  cases net with
  | nil => rfl
  | cons t r => rfl
theorem shaped_nil : SeqAt.shaped (.list []) = true := by decide +kernel
theorem dr_nil {K : PySem.W.Frag} {H : Hp} {p : Addr} (h : H p = some (.lst [])) : DR K H (.ref p) (.list []) := .lst (SqL.of h) .nil
theorem rise_rowL {names : List Str} (rn : qF0 names) (x : Nat) : qF0 (rowL names x) := by
  unfold rowL
  have : ∀ L : List Nat, L.Pairwise (· < ·) → qF0 (L.filterMap fun i => if x.testBit i = true then names[i]? else none) := fun L => by
    intro hL
    refine List.Pairwise.filterMap _ (fun a a' hlt b hb b' hb' => ?_) hL
    split at hb
    · split at hb'
      · exact rise_get rn hlt hb hb'
      · cases hb'
    · cases hb
  exact this _ List.pairwise_lt_range
def rTup (K : PySem.W.Frag) : List V → Hp → VK → Prop := fun xs H Q => ∃ p ys, xs = [.ref p] ∧ ((SqL K H p ys ∧ ∀ l, H l = none → Q (.ref l) (upd H l (.tup ys))) ∨ (SqT K H p ys ∧ Q (.ref p) H))
theorem rowL_len (names : List Str) (k : Nat) : (rowL names k).length ≤ names.length := by
  unfold rowL
  refine Nat.le_trans (List.length_filterMap_le _ _) ?_
  rw [List.length_range]; exact Nat.le_refl _
theorem qA9 {n : Nat} (h : n ≤ 4000) : n ≤ sizeLine := Nat.le_trans h (by decide)
structure RwN (names : List Str) (rows : List (List Str)) : Prop where
  rn : qF0 names
  nm : ∀ n ∈ names, qBu n
  ln : names.length ≤ 12
  lr : rows.length ≤ 16
  rw : ∀ r ∈ rows, qF0 r ∧ r.length ≤ 12 ∧ ∀ n ∈ r, n ∈ names
theorem TabN.rwn {names : List Str} {rows : List (List Str)} (h : TabN names rows) : RwN names rows := by
  refine ⟨h.rn, h.nm, h.bn.1, h.bn.2.1, fun r hr => ?_⟩
  obtain ⟨x, rfl⟩ := h.rw r hr
  have := rowL_len names x
  have := h.bn.1
  refine ⟨rise_rowL h.rn x, by omega, fun n hn => ?_⟩
  obtain ⟨i, _, e, _⟩ := mem_rowL.mp hn
  exact List.mem_of_getElem? e
theorem RwN.nms {names : List Str} {rows : List (List Str)} (h : RwN names rows) : ∀ r ∈ names :: rows, ∀ n ∈ r, qBu n := fun r hr n hn => by
  rcases List.mem_cons.mp hr with rfl | hr
  · exact h.nm n hn
  · exact h.nm n ((h.rw r hr).2.2 n hn)
theorem RwN.lens {names : List Str} {rows : List (List Str)} (h : RwN names rows) : ∀ r ∈ names :: rows, r.length ≤ 20 := fun r hr => by
  rcases List.mem_cons.mp hr with rfl | hr
  · have := h.ln; omega
  · have := (h.rw r hr).2.1; omega
theorem RwN.rowOk {names : List Str} {rows : List (List Str)} (h : RwN names rows) : ∀ r ∈ rows, SOk r := fun r hr n hn => (h.nms r (List.mem_cons_of_mem _ hr) n hn).ok
theorem RwN.namOk {names : List Str} {rows : List (List Str)} (h : RwN names rows) : SOk names := fun n hn => (h.nm n hn).ok
theorem wr_nil : wrF [] = "-" := rfl
theorem nt_nil : ntW [] = "-" := rfl
def spShRow : Sp := fun vs H Q _ => ∃ (p : Addr) (row : List Str), vs = [.ref p] ∧ LsS H p row ∧ row.length ≤ 20 ∧ (∀ n ∈ row, qBu n) ∧ Q (.str (wrF row)) H
def spShRows : Sp := fun vs H Q _ => ∃ (p : Addr) (rows : List (List Str)), vs = [.ref p] ∧ qEl H p rows ∧ rows.length ≤ 20 ∧ (∀ r ∈ rows, r.length ≤ 20) ∧ (∀ r ∈ rows, ∀ n ∈ r, qBu n) ∧ ∀ H', Ext H H' → Q (.str (Txt.join " / " (rows.map wrF))) H'
def spShTab : Sp := fun vs H Q _ => ∃ (T : Addr) (names : List Str) (rows : List (List Str)), vs = [.ref T] ∧ qD2 H T names rows ∧ RwN names rows ∧ ∀ H', Ext H H' → Q (.str (tbW names rows)) H'
def spShNet : Sp := fun vs H Q _ => ∃ (p : Addr) (net : List Tr), vs = [.ref p] ∧ qCq H p net ∧ net.length ≤ 12 ∧ TxN net ∧ ∀ H', Ext H H' → Q (.str (ntW net)) H'
def spWords : Sp := fun vs H Q _ => ∃ row : List Str, vs = [.str (wrF row)] ∧ row.length ≤ 20 ∧ (∀ n ∈ row, qBu n) ∧ ∀ r H', Ext H H' → H r = none → LsS H' r row → Q (.ref r) H'
def spRdTab : Sp := fun vs H Q _ => ∃ (names : List Str) (rows : List (List Str)), vs = [.str (tbW names rows)] ∧ RwN names rows ∧ Bnd names rows ∧ ∀ (T a b : Addr) (H' : Hp), Ext H H' → H' T = some (.tup [.ref a, .ref b]) → LsS H' a names → H a = none → qEl H' b rows → H b = none → Q (.ref T) H'
def spRdNet : Sp := fun vs H Q _ => ∃ net : List Tr, vs = [.str (ntW net)] ∧ net.length ≤ 12 ∧ TxN net ∧ qF0 (net.map (·.1)) ∧ NBnd net ∧ ∀ r H', Ext H H' → H r = none → qCq H' r net → Q (.ref r) H'
def spLSNet : Sp := fun vs H Q _ => ∃ (p p2 : Addr) (net : List Tr), vs = [.ref p, .ref p2] ∧ qCq H p net ∧ qCq H p2 net ∧ net.length ≤ 12 ∧ TxN net ∧ ∀ H', Ext H H' → Q (.bl true) H'
def spLWri : Sp := fun vs H Q _ => ∃ (p : Addr) (row : List Str), vs = [.ref p] ∧ LsS H p row ∧ row.length ≤ 20 ∧ (∀ n ∈ row, qBu n) ∧ ∀ H', Ext H H' → Q (.str (wrF row)) H'
section
variable {P : Program} {w : World} {K : PySem.W.Frag} {mg : Str → Option Value} {base : Heap} {f f1 f2 f3 : Addr} {fd fd1 fd2 fd3 : FuncData}
theorem scShRow : FnScope ["row"] ["row"] (qAc sShRow) := ⟨rfl, rfl, rfl, by decide +kernel, rfl, by decide +kernel, by decide +kernel⟩
theorem ok_shRow {t1 : Tok} (F : Fun K "show_row" "show_row" sShRow f fd) (mE : mg "EMPTY" = some (.str "-" t1)) : FnOk P w K mg base CX0 1 f fd ["row"] spShRow := by
  refine F.ok scShRow (fun vs H Q E h => ?_) (fun cdv A outer s H vs Q E hr h => ?_)
  · obtain ⟨p, row, rfl, _⟩ := h
    rfl
  obtain ⟨p, row, rfl, hp, hl, hn, q⟩ := h
  refine ⟨_, (qAd (qAm (qC5 (pt_truth (pv 0) (by intro _; rfl)) (pe_bm PySem.F.plainAttrs_str PySem.F.slot_str_join PySem.F.type_str_join mt_join pe_str (pa_cons (pv 0) pa_nil)) (pe_glob (v := .str "-") rfl mE ⟨t1, rfl⟩)))), ?_⟩
  try dsimp only [Cx.wish, qB8]
  refine ⟨_, rfl, !row.isEmpty, .inl ⟨_, SqL.of hp, by cases row <;> rfl⟩, ?_⟩
  cases row with
  | nil => exact qCu q
  | cons n r =>
    refine iteT ⟨rfl, _, rfl, p, n :: r, _, rfl, rfl, hp, Nat.le_trans (sum_row hn hl) (by decide), ?_⟩
    have e : wrF (n :: r) = Txt.join " " (n :: r) := if_neg (by simp)
    rw [e] at q
    exact q
theorem scShRows : FnScope ["rows"] ["rows"] (qAc sShRows) := ⟨rfl, rfl, rfl, by decide +kernel, rfl, by decide +kernel, by decide +kernel⟩
theorem ok_shRows (F : Fun K "show_rows" "show_rows" sShRows f fd) (G1 : FnOk P w K mg base CX0 1 f1 fd1 ["row"] spShRow) (bG1 : qAz K fd1 ["row"] []) (kG1 : PySem.W.keepIn K (.ref f1) = true) (mG1 : mg "show_row" = some (.ref f1)) : FnOk P w K mg base CX0 2 f fd ["rows"] spShRows := by
  refine F.ok scShRows (fun vs H Q E h => ?_) (fun cdv A outer s H vs Q E hr h => ?_)
  · obtain ⟨p, rows, rfl, _⟩ := h
    rfl
  obtain ⟨p, rows, rfl, ⟨as, hp, pr⟩, hl, ll, hn, q⟩ := h
  refine ⟨_, (qAd (qAm (pe_bm PySem.F.plainAttrs_str PySem.F.slot_str_join PySem.F.type_str_join mt_join pe_str (pa_cons (pe_lc (N := ["rows"]) (sc := qAc sShRows) (N' := ["row"]) (sub := [none]) rfl rfl (CmpOk.of (by decide +kernel)) rfl (qAs (pv 0)) (fun C s H fp => ⟨qAe (i := 0) (by show (["row"] : List Str).Nodup; decide) rfl (Or.inl rfl), qA0, (qAi G1 hr rfl mG1 kG1 bG1 .nil qAu (pa_cons (pv 0) pa_nil))⟩)) pa_nil)))), ?_⟩
  try dsimp only [Cx.wish, qB8]
  refine ⟨rfl, _, rfl, p, rfl, ⟨_, SqL.of hp⟩, ?_⟩
  refine qAq (xs := as.map V.ref) (fun j ys H2 => H2 = H ∧ ys = ((rows.take j).map wrF).map V.str) ⟨rfl, rfl⟩ (fun j ys H2 _ h => by rw [h.1]; exact SqL.of hp) ?_ ?_
  · rintro j v ys H2 hv ⟨rfl, rfl⟩
    obtain ⟨c, rfl, hc⟩ := qB4 hv
    obtain ⟨r, hr', hcr⟩ := qAy pr hc
    have hm := List.mem_of_getElem? hr'
    have hj := qA2 hr'
    refine ⟨Sle.set _ (Sle.refl _) (fun u z => by cases z), iteT (B := False) ⟨_, rfl, c, r, rfl, hcr, ll r hm, hn r hm, ?_, nxt (qA2 hv) ⟨rfl, ?_⟩⟩⟩
    · rw [List.length_map, List.length_map, List.length_take]; exact qAf (by omega)
    · rw [qAk hr', List.map_append, List.map_append]; rfl
  · rintro ys H2 ⟨rfl, rfl⟩ l hl'
    have la : as.length = rows.length := pr.length
    rw [List.length_map, la, List.take_of_length_le (Nat.le_refl _)]
    exact ⟨l, rows.map wrF, _, rfl, rfl, upd_same, Nat.le_trans (sum_rows hn ll hl) (by decide), q _ (Ext.new hl' _)⟩
theorem scShTab : FnScope ["table"] ["table"] (qAc sShTab) := ⟨rfl, rfl, rfl, by decide +kernel, rfl, by decide +kernel, by decide +kernel⟩
set_option maxHeartbeats 4000000 in
theorem ok_shTab (F : Fun K "show_table" "show_table" sShTab f fd) (G1 : FnOk P w K mg base CX0 2 f1 fd1 ["rows"] spShRows) (bG1 : qAz K fd1 ["rows"] []) (kG1 : PySem.W.keepIn K (.ref f1) = true) (mG1 : mg "show_rows" = some (.ref f1)) : FnOk P w K mg base CX0 3 f fd ["table"] spShTab := by
  refine F.ok scShTab (fun vs H Q E h => ?_) (fun cdv A outer s H vs Q E hr h => ?_)
  · obtain ⟨T, names, rows, rfl, _⟩ := h
    rfl
  obtain ⟨T, names, rows, rfl, ti, rw', q⟩ := h
  refine ⟨_, (qAd (qAm (qAi G1 hr rfl mG1 kG1 bG1 .nil qAu (pa_cons (qAg qE2 (qBe (pa_cons (qBb qBh (pv 0) qAb (fun _ _ => rfl)) pa_nil)) (qBb qBh (pv 0) qAb (fun _ _ => rfl))) pa_nil)))), ?_⟩
  try dsimp only [Cx.wish, qB8]
  obtain ⟨a, b, hT, ha, as, hb, pr⟩ := ti
  have la : as.length = rows.length := pr.length
  have lr := rw'.lr
  refine ⟨_, rfl, T, _, _, _, rfl, rfl, SqT.of hT, (by exact qAv (j := 0) rfl), (by show 1 ≤ sizeLine; decide), fun l hl => ?_⟩
  have X1 := Ext.new hl (.lst [V.ref a])
  refine ⟨_, rfl, T, _, _, _, rfl, rfl, SqT.of (X1 _ _ hT), (by exact qAv (j := 1) rfl), l, b, _, _, rfl, rfl, upd_same, X1 _ _ hb, (by rw [List.length_map]; exact Nat.le_of_lt (qAf (by show 1 + _ ≤ _; omega))), fun l2 hl2 => ?_⟩
  have X2 := X1.trans (Ext.new hl2 (.lst ([V.ref a] ++ as.map V.ref)))
  refine ⟨l2, names :: rows, rfl, ⟨a :: as, upd_same, .cons (X2 _ _ ha) (Paired.mapP pr fun c r z => X2 _ _ z)⟩, by rw [List.length_cons]; omega, rw'.lens, rw'.nms, fun H' e' => q H' (X2.trans e')⟩
theorem scShNet : FnScope ["net"] ["net"] (qAc sShNet) := ⟨rfl, rfl, rfl, by decide +kernel, rfl, by decide +kernel, by decide +kernel⟩
set_option maxHeartbeats 4000000 in
theorem ok_shNet {t1 : Tok} (F : Fun K "show_net" "show_net" sShNet f fd) (mE : mg "EMPTY" = some (.str "-" t1)) : FnOk P w K mg base CX0 1 f fd ["net"] spShNet := by
  refine F.ok scShNet (fun vs H Q E h => ?_) (fun cdv A outer s H vs Q E hr h => ?_)
  · obtain ⟨p, net, rfl, _⟩ := h
    rfl
  obtain ⟨p, net, rfl, ⟨as, hp, pr⟩, hl, tx, q⟩ := h
  refine ⟨_, (qAd (qAm (qC5 (pt_truth (pv 0) (by intro _; rfl)) (pe_bm PySem.F.plainAttrs_str PySem.F.slot_str_join PySem.F.type_str_join mt_join pe_str (pa_cons (pe_lc (N := ["net"]) (sc := qAc sShNet) (N' := ["tie"]) (sub := [none]) rfl rfl (CmpOk.of (by decide +kernel)) rfl (qAs (pv 0)) (fun C s H fp => ⟨qAe (i := 0) (by show (["tie"] : List Str).Nodup; decide) rfl (Or.inl rfl), qA0, (show PE _ _ (tBM K _ (rJoinT K) _ _) from pe_bm PySem.F.plainAttrs_str PySem.F.slot_str_join PySem.F.type_str_join mt_joinT pe_str (pa_cons (pv 0) pa_nil))⟩)) pa_nil)) (pe_glob (v := .str "-") rfl mE ⟨t1, rfl⟩)))), ?_⟩
  try dsimp only [Cx.wish, qB8]
  have la : as.length = net.length := pr.length
  refine ⟨_, rfl, !net.isEmpty, .inl ⟨_, SqL.of hp, by cases pr <;> rfl⟩, ?_⟩
  by_cases ne : net = []
  · subst ne
    exact qCu (q H (Ext.refl _))
  have e : ntW net = Txt.join ", " (net.map tiW) := if_neg ne
  have en : (!net.isEmpty) = true := by cases net with | nil => exact (ne rfl).elim | cons a b => rfl
  rw [en]
  refine iteT ⟨rfl, _, rfl, p, rfl, ⟨_, SqL.of hp⟩, ?_⟩
  refine qAq (xs := as.map V.ref) (fun j ys H2 => H2 = H ∧ ys = ((net.take j).map tiW).map V.str) ⟨rfl, rfl⟩ (fun j ys H2 _ h => by rw [h.1]; exact SqL.of hp) ?_ ?_
  · rintro j v ys H2 hv ⟨rfl, rfl⟩
    obtain ⟨c, rfl, hc⟩ := qB4 hv
    obtain ⟨t, ht, hct⟩ := qAy pr hc
    have hm := List.mem_of_getElem? ht
    have hj := qA2 ht
    refine ⟨Sle.set _ (Sle.refl _) (fun u z => by cases z), iteT (B := False) ⟨rfl, _, rfl, c, [t.1, t.2.1, t.2.2], _, rfl, rfl, SqT.of hct, Nat.le_trans (sum_row (qE8 (tx t hm)) (by show 3 ≤ 20; decide)) (by decide), ?_, nxt (qA2 hv) ⟨rfl, ?_⟩⟩⟩
    · rw [List.length_map, List.length_map, List.length_take]; exact qAf (by omega)
    · rw [qAk ht, List.map_append, List.map_append]; rfl
  · rintro ys H2 ⟨rfl, rfl⟩ l hl'
    rw [List.length_map, la, List.take_of_length_le (Nat.le_refl _)]
    have := q _ (Ext.new hl' (.lst ((net.map tiW).map V.str)))
    rw [e] at this
    exact ⟨l, net.map tiW, _, rfl, rfl, upd_same, Nat.le_trans (sum_net tx (by omega)) (by decide), this⟩
theorem scWords : FnScope ["text"] ["text"] (qAc sWords) := ⟨rfl, rfl, rfl, by decide +kernel, rfl, by decide +kernel, by decide +kernel⟩
set_option maxHeartbeats 4000000 in
theorem ok_words {t1 : Tok} (F : Fun K "words_of" "words_of" sWords f fd) (mE : mg "EMPTY" = some (.str "-" t1)) : FnOk P w K mg base CX0 1 f fd ["text"] spWords := by
  refine F.ok scWords (fun vs H Q E h => ?_) (fun cdv A outer s H vs Q E hr h => ?_)
  · obtain ⟨row, rfl, _⟩ := h
    rfl
  obtain ⟨row, rfl, hl, hn, q⟩ := h
  refine ⟨_, (qAd (qAm (qC5 (qAn qDg (pv 0) (pe_glob (v := .str "-") rfl mE ⟨t1, rfl⟩) (qAt _)) (qBe pa_nil) (pe_bm PySem.F.plainAttrs_str PySem.F.slot_str_split PySem.F.type_str_split qFa (pv 0) (pa_cons pe_str pa_nil))))), ?_⟩
  try dsimp only [Cx.wish, qB8]
  refine ⟨_, rfl, rfl, _, rfl, ?_⟩
  by_cases ne : row = []
  · subst ne
    rw [decide_eq_true (congrArg V.str wr_nil)]
    exact iteT ⟨Nat.zero_le _, fun l hl => q l _ (Ext.new hl _) hl upd_same⟩
  rw [decide_eq_false fun z => wr_ne hn ne (V.str.inj z)]
  refine qCu ⟨_, rfl, rfl, _, _, rfl, rfl, by decide +kernel, qA9 (by have := wr_len hn hl; omega), fun l hl' => ?_⟩
  rw [wr_split hn ne]
  exact q l _ (Ext.new hl' _) hl' upd_same
abbrev rtN : List Str := ["text", "names", "rows"]
theorem scRdTab : FnScope rtN ["text"] (qAc sRdTab) := ⟨rfl, rfl, rfl, by decide +kernel, rfl, by decide +kernel, by decide +kernel⟩
set_option maxHeartbeats 8000000 in
theorem ok_rdTab (F : Fun K "read_table" "read_table" sRdTab f fd) (G1 : FnOk P w K mg base CX0 1 f1 fd1 ["text"] spWords) (bG1 : qAz K fd1 ["text"] []) (kG1 : PySem.W.keepIn K (.ref f1) = true) (mG1 : mg "words_of" = some (.ref f1)) (G2 : FnOk P w K mg base CX0 3 f2 fd2 ["thing"] spHtT) (bG2 : qAz K fd2 ["thing"] []) (kG2 : PySem.W.keepIn K (.ref f2) = true) (mG2 : mg "has_table_form" = some (.ref f2)) (G3 : FnOk P w K mg base CX0 4 f3 fd3 ["table"] spKeep) (bG3 : qAz K fd3 ["table"] []) (kG3 : PySem.W.keepIn K (.ref f3) = true) (mG3 : mg "keeps_bounds" = some (.ref f3)) (mi : mg "isinstance" = none) (ms : mg "str" = none) : FnOk P w K mg base CX0 5 f fd ["text"] spRdTab := by
  refine F.ok scRdTab (fun vs H Q E h => ?_) (fun cdv A outer s H vs Q E hr h => ?_)
  · obtain ⟨names, rows, rfl, _⟩ := h
    rfl
  obtain ⟨names, rows, rfl, rw', bn, q⟩ := h
  have hr1 := hr.mono (j := 1) (by decide)
  have hr3 := hr.mono (j := 3) (by decide)
  refine ⟨_, (qAa (qBf (qBr (qBq (qAh qA3 rfl mi qA4 (pa_cons (pv 0) (pa_cons (qBz (v := .ty "str") rfl ms qFw rfl) pa_nil))))) (qAd qDt) qAx) (qAa (qD9 (pe_lc (N := rtN) (sc := qAc sRdTab) (N' := ["part"]) (sub := [none]) rfl rfl (CmpOk.of (by decide +kernel)) rfl (qAs (pe_bm PySem.F.plainAttrs_str PySem.F.slot_str_split PySem.F.type_str_split qFa (pv 0) (pa_cons pe_str pa_nil))) (fun C s H fp => ⟨qAe (i := 0) (by show (["part"] : List Str).Nodup; decide) rfl (Or.inl rfl), qA0, (qAi G1 hr1 rfl mG1 kG1 bG1 .nil qAu (pa_cons (pv 0) pa_nil))⟩)) (pg_star rfl (qAl (qAe (i := 1) scRdTab.nd rfl (Or.inl rfl)) (pgs_star (qAe (i := 2) scRdTab.nd rfl (Or.inl rfl)) qBc)))) (qAa (qBf (qBr (qBq (qAi G2 hr3 rfl mG2 kG2 bG2 .nil qAu (pa_cons (qBy (pa_cons (pv 1) (pa_cons (pv 2) pa_nil))) pa_nil)))) (qAd qDt) qAx) (qAa (qBf (qBr (qBq (qAi G3 hr rfl mG3 kG3 bG3 .nil qAu (pa_cons (qBy (pa_cons (pv 1) (pa_cons (pv 2) pa_nil))) pa_nil)))) (qAd qDt) qAx) (qAd (qAm (qBy (pa_cons (pv 1) (pa_cons (pv 2) pa_nil))))))))), ?_⟩
  try dsimp only [Cx.wish, qB8]
  have lr := rw'.lr
  have lT : (tbW names rows).length ≤ 2900 := Nat.le_trans (qEe _ _) (sum_rows rw'.nms rw'.lens (by rw [List.length_cons]; omega))
  refine ⟨_, rfl, _, _, _, true, rfl, .str _, qBj _ _, true, rfl, qCu ?_⟩
  refine ⟨_, rfl, rfl, _, _, rfl, rfl, by decide +kernel, qA9 (by omega), fun l hl => ?_⟩
  have sp : Txt.split (tbW names rows) " / " = (names :: rows).map wrF := tb_split rw'.nms (by simp)
  rw [sp]
  have X1 := Ext.new hl (.lst (((names :: rows).map wrF).map V.str))
  refine ⟨l, rfl, ⟨_, SqL.of upd_same⟩, ?_⟩
  refine qAq (xs := ((names :: rows).map wrF).map V.str) (fun j ys H2 => Ext (upd H l (.lst (((names :: rows).map wrF).map V.str))) H2 ∧ ∃ as, ys = as.map V.ref ∧ Paired (fun a r => LsS H2 a r ∧ H a = none) as ((names :: rows).take j)) ⟨Ext.refl _, [], rfl, by rw [List.take_zero]; exact .nil⟩ (fun j ys H2 _ h => SqL.of (h.1 _ _ upd_same)) ?_ ?_
  · rintro j v ys H2 hv ⟨e2, as, rfl, pr⟩
    obtain ⟨s, rfl, hs⟩ := qDy hv
    rw [List.getElem?_map] at hs
    obtain ⟨r, hr', rfl⟩ := Option.map_eq_some_iff.mp hs
    have hm := List.mem_of_getElem? hr'
    have hj := qA2 hr'
    rw [List.length_cons] at hj
    have la : as.length = _ := pr.length
    rw [List.length_take, List.length_cons] at la
    refine ⟨Sle.set _ (Sle.refl _) (fun u z => by cases z), iteT (B := False) ⟨_, rfl, r, rfl, rw'.lens r hm, rw'.nms r hm, fun a H3 e3 a0 ha => ⟨?_, nxt (qA2 hv) ⟨e2.trans e3, as ++ [a], by rw [List.map_append]; rfl, ?_⟩⟩⟩⟩
    · rw [List.length_map]; exact qAf (by omega)
    · rw [qAk hr']
      exact Paired.snoc (Paired.mapP pr fun a t z => ⟨e3 _ _ z.1, z.2⟩) ⟨ha, (X1.trans e2).none a0⟩
  rintro ys H2 ⟨e2, as, rfl, pr⟩ l2 hl2
  rw [List.length_map, List.length_map, List.take_of_length_le (Nat.le_refl _)] at pr
  have X2 := Ext.new hl2 (.lst (as.map V.ref))
  cases as with
  | nil => cases pr
  | cons a bs =>
    have pa' : LsS H2 a names ∧ H a = none := by cases pr with | cons h _ => exact h
    have pb : Paired (fun a r => LsS H2 a r ∧ H a = none) bs rows := by cases pr with | cons _ h => exact h
    refine ⟨l2, .ref a, bs.map V.ref, rfl, SqL.of upd_same, fun l3 hl3 => ⟨_, _, rfl, _, _, rfl, rfl, ?_⟩⟩
    have X3 := X2.trans (Ext.new hl3 (.lst (bs.map V.ref)))
    have E3 := X1.trans (e2.trans X3)
    have l30 := (X1.trans (e2.trans X2)).none hl3
    have ha3 := X3 _ _ pa'.1
    have hb3 : qEl (upd (upd H2 l2 (.lst ((a :: bs).map V.ref))) l3 (.lst (bs.map V.ref))) l3 rows := ⟨bs, upd_same, Paired.mapP pb fun c r z => X3 _ _ z.1⟩
    revert E3 ha3 hb3
    generalize upd (upd H2 l2 (.lst ((a :: bs).map V.ref))) l3 (.lst (bs.map V.ref)) = H3
    intro E3 ha3 hb3
    refine ⟨_, rfl, _, rfl, (by show 2 ≤ sizeLine; decide), fun T1 hT1 => ?_⟩
    have Y1 := Ext.new hT1 (.tup [V.ref a, V.ref l3])
    refine ⟨T1, names, rows, rfl, ⟨a, l3, upd_same, Y1 _ _ ha3, hb3.ext Y1⟩, rw'.ln, rw'.lr, rw'.rn, rw'.nm, rw'.rw, fun H4 e4 => ⟨true, rfl, qCu ?_⟩⟩
    have Z4 := Y1.trans e4
    refine ⟨_, rfl, _, rfl, (by show 2 ≤ sizeLine; decide), fun T2 hT2 => ?_⟩
    have Y2 := Z4.trans (Ext.new hT2 (.tup [V.ref a, V.ref l3]))
    refine ⟨T2, names, rows, rfl, ⟨a, l3, upd_same, Y2 _ _ ha3, hb3.ext Y2⟩, fun bb H5 eb e5 => ?_⟩
    obtain rfl : bb = true := eb.mpr bn
    refine ⟨true, rfl, qCu ?_⟩
    have Z5 := Y2.trans e5
    refine ⟨_, rfl, _, rfl, (by show 2 ≤ sizeLine; decide), fun T3 hT3 => ?_⟩
    have Y3 := Z5.trans (Ext.new hT3 (.tup [V.ref a, V.ref l3]))
    exact q T3 a l3 _ (E3.trans Y3) upd_same (Y3 _ _ ha3) pa'.2 (hb3.ext Y3) l30
theorem scRdNet : FnScope ["text", "net"] ["text"] (qAc sRdNet) := ⟨rfl, rfl, rfl, by decide +kernel, rfl, by decide +kernel, by decide +kernel⟩
set_option maxHeartbeats 8000000 in
theorem ok_rdNet {t1 : Tok} (F : Fun K "read_net" "read_net" sRdNet f fd) (G1 : FnOk P w K mg base CX0 3 f1 fd1 ["thing"] spFoT) (bG1 : qAz K fd1 ["thing"] []) (kG1 : PySem.W.keepIn K (.ref f1) = true) (mG1 : mg "has_net_form" = some (.ref f1)) (G2 : FnOk P w K mg base CX0 6 f2 fd2 ["net"] spKNB) (bG2 : qAz K fd2 ["net"] []) (kG2 : PySem.W.keepIn K (.ref f2) = true) (mG2 : mg "keeps_net_bounds" = some (.ref f2)) (mi : mg "isinstance" = none) (ms : mg "str" = none) (mtu : mg "tuple" = none) (mE : mg "EMPTY" = some (.str "-" t1)) : FnOk P w K mg base CX0 7 f fd ["text"] spRdNet := by
  refine F.ok scRdNet (fun vs H Q E h => ?_) (fun cdv A outer s H vs Q E hr h => ?_)
  · obtain ⟨net, rfl, _⟩ := h
    rfl
  obtain ⟨net, rfl, hl, tx, rs, nb, q⟩ := h
  have hr3 := hr.mono (j := 3) (by decide)
  refine ⟨_, (qAa (qBf (qBr (qBq (qAh qA3 rfl mi qA4 (pa_cons (pv 0) (pa_cons (qBz (v := .ty "str") rfl ms qFw rfl) pa_nil))))) (qAd qDt) qAx) (qAa (qFn (fun σ H2 => ∃ r, σ = [some (.str (ntW net)), some (.ref r)] ∧ Ext H H2 ∧ H r = none ∧ qCq H2 r net) (qAj (i := 1) scRdNet.nd rfl (Or.inl rfl) (qC5 (qAn qDg (pv 0) (pe_glob (v := .str "-") rfl mE ⟨t1, rfl⟩) (qAt _)) (qBe pa_nil) (pe_lc (N := ["text", "net"]) (sc := qAc sRdNet) (N' := ["part"]) (sub := [none]) rfl rfl (CmpOk.of (by decide +kernel)) rfl (qAs (pe_bm PySem.F.plainAttrs_str PySem.F.slot_str_split PySem.F.type_str_split qFa (pv 0) (pa_cons pe_str pa_nil))) (fun C s H fp => ⟨qAe (i := 0) (by show (["part"] : List Str).Nodup; decide) rfl (Or.inl rfl), qA0, (qBs (show qCr _ (.type "tuple") (rTup K) from qEj) rfl mtu qB7 (pa_cons (show PE _ _ (tBM K _ rSplit _ _) from pe_bm PySem.F.plainAttrs_str PySem.F.slot_str_split PySem.F.type_str_split qFa (pv 0) (pa_cons pe_str pa_nil)) pa_nil))⟩))))) (qAa (qBf (qBr (qBq (qAi G1 hr3 rfl mG1 kG1 bG1 .nil qAu (pa_cons (pv 1) pa_nil)))) (qAd qDt) qAx) (qAa (qBf (qBr (qBq (qAi G2 hr rfl mG2 kG2 bG2 .nil qAu (pa_cons (pv 1) pa_nil)))) (qAd qDt) qAx) (qAd (qAm (pv 1))))))), ?_⟩
  try dsimp only [Cx.wish, qB8]
  have lT := nt_len tx (by omega)
  refine ⟨_, rfl, _, _, _, true, rfl, .str _, qBj _ _, true, rfl, qCu ?_⟩
  refine ⟨?_, ?_⟩
  · refine ⟨_, rfl, rfl, _, rfl, ?_⟩
    by_cases ne : net = []
    · subst ne
      rw [decide_eq_true (congrArg V.str nt_nil)]
      exact iteT ⟨Nat.zero_le _, fun l hl' => ⟨l, rfl, Ext.new hl' _, hl', [], upd_same, .nil⟩⟩
    rw [decide_eq_false fun z => nt_ne tx ne (V.str.inj z)]
    refine qCu ⟨_, rfl, rfl, _, _, rfl, rfl, by decide +kernel, qA9 (by omega), fun l hl' => ?_⟩
    rw [nt_split tx ne]
    have X1 := Ext.new hl' (.lst ((net.map tiW).map V.str))
    refine ⟨l, rfl, ⟨_, SqL.of upd_same⟩, ?_⟩
    refine qAq (xs := (net.map tiW).map V.str) (fun j ys H2 => Ext (upd H l (.lst ((net.map tiW).map V.str))) H2 ∧ ∃ as, ys = as.map V.ref ∧ Paired (fun a t => H2 a = some (.tup (trV t))) as (net.take j)) ⟨Ext.refl _, [], rfl, by rw [List.take_zero]; exact .nil⟩ (fun j ys H2 _ h => SqL.of (h.1 _ _ upd_same)) ?_ ?_
    · rintro j v ys H2 hv ⟨e2, as, rfl, pr⟩
      obtain ⟨s, rfl, hs⟩ := qDy hv
      rw [List.getElem?_map] at hs
      obtain ⟨t, ht, rfl⟩ := Option.map_eq_some_iff.mp hs
      have hm := List.mem_of_getElem? ht
      have hj := qA2 ht
      have la : as.length = _ := pr.length
      rw [List.length_take] at la
      refine ⟨Sle.set _ (Sle.refl _) (fun u z => by cases z), iteT (B := False) ⟨_, rfl, rfl, _, _, rfl, rfl, by decide +kernel, qA9 (by have := ti_len (tx t hm); omega), fun l3 hl3 => ?_⟩⟩
      rw [ti_split (tx t hm)]
      refine ⟨l3, _, rfl, .inl ⟨SqL.of upd_same, fun l4 hl4 => ⟨?_, nxt (qA2 hv) ⟨e2.trans ((Ext.new hl3 _).trans (Ext.new hl4 _)), as ++ [l4], by rw [List.map_append]; rfl, ?_⟩⟩⟩⟩
      · rw [List.length_map]; exact qAf (by omega)
      · rw [qAk ht]
        exact Paired.snoc (Paired.mapP pr fun a t z => ((Ext.new hl3 _).trans (Ext.new hl4 _)) _ _ z) upd_same
    · rintro ys H2 ⟨e2, as, rfl, pr⟩ l2 hl2
      rw [List.length_map, List.length_map, List.take_of_length_le (Nat.le_refl _)] at pr
      have X2 := Ext.new hl2 (.lst (as.map V.ref))
      exact ⟨l2, rfl, X1.trans (e2.trans X2), (X1.trans e2).none hl2, as, upd_same, Paired.mapP pr fun a t z => X2 _ _ z⟩
  rintro σ H2 ⟨r, rfl, e2, r0, nt⟩
  refine ⟨_, rfl, r, net, rfl, nt, hl, tx, rs, fun H3 e3 => ⟨true, rfl, qCu ?_⟩⟩
  refine ⟨_, rfl, r, net, rfl, nt.ext e3, by omega, rs, fun bb H4 eb e4 => ?_⟩
  obtain rfl : bb = true := eb.mpr nb
  refine ⟨true, rfl, qCu ?_⟩
  exact ⟨_, rfl, q r H4 (e2.trans (e3.trans e4)) r0 (nt.ext (e3.trans e4))⟩
theorem scLSNet : FnScope ["_law_found", "_law_due"] ["_law_found", "_law_due"] (qAc sLSNet) := ⟨rfl, rfl, rfl, by decide +kernel, rfl, by decide +kernel, by decide +kernel⟩
set_option maxHeartbeats 4000000 in
theorem ok_lsnet (F : Fun K "_law_same_net" "_law_same_net" sLSNet f fd) (mi : mg "isinstance" = none) (mL : mg "list" = none) (mtu : mg "tuple" = none) (ma : mg "all" = none) : FnOk P w K mg base CX0 1 f fd ["_law_found", "_law_due"] spLSNet := by
  refine F.ok scLSNet (fun vs H Q E h => ?_) (fun cdv A outer s H vs Q E hr h => ?_)
  · obtain ⟨p, p2, net, rfl, _⟩ := h
    rfl
  obtain ⟨p, p2, net, rfl, nt, nt2, hl, tx, q⟩ := h
  refine ⟨_, (qAa (qBf (PW.pt (qD8 (qBr (qBq (qAh qA3 rfl mi qA4 (pa_cons (pv 0) (pa_cons (qBz (v := .ty "list") rfl mL qA8 rfl) pa_nil))))) (qDd (qBr (qBq (qAh (qB2 rfl) rfl ma qB3 (pa_cons (pe_lc (N := ["_law_found", "_law_due"]) (sc := qAc sLSNet) (N' := ["_law_tie"]) (sub := [none]) rfl rfl (CmpOk.of (by decide +kernel)) rfl (qAs (pv 0)) (fun C s H fp => ⟨qAe (i := 0) (by show (["_law_tie"] : List Str).Nodup; decide) rfl (Or.inl rfl), qA0, (qAh (show qCr _ (.builtin "isinstance") (rIsi K) from qA3) rfl mi qA4 (pa_cons (pv 0) (pa_cons (qBz (v := .ty "tuple") rfl mtu qB7 rfl) pa_nil)))⟩)) pa_nil))))))) (qAd (qAm qE4)) qAx) (qAd (qAm (qCd (op_eqD (room64 hr)) (pv 0) (pv 1) (qAt _))))), ?_⟩
  try dsimp only [Cx.wish, qB8]
  obtain ⟨as, hp, pr⟩ := id nt
  have la : as.length = net.length := pr.length
  refine ⟨_, rfl, _, _, _, true, rfl, .lst hp, qBj _ _, true, rfl, qCu ?_⟩
  refine ⟨_, rfl, p, rfl, ⟨_, SqL.of hp⟩, ?_⟩
  refine qAq (xs := as.map V.ref) (fun j ys H2 => H2 = H ∧ ys = (List.replicate j true).map V.bl) ⟨rfl, rfl⟩ (fun j ys H2 _ h => by rw [h.1]; exact SqL.of hp) ?_ ?_
  · rintro j v ys H2 hv ⟨rfl, rfl⟩
    obtain ⟨c, rfl, hc⟩ := qB4 hv
    obtain ⟨t, ht, hct⟩ := qAy pr hc
    have hj := qA2 ht
    exact ⟨Sle.set _ (Sle.refl _) (fun u z => by cases z), iteT (B := False) ⟨_, rfl, _, _, _, true, rfl, .tup hct, qBj _ _, by rw [qDz]; exact qAf (by omega), nxt (qA2 hv) ⟨rfl, qC1 j⟩⟩⟩
  · rintro ys H2 ⟨rfl, rfl⟩ l hl'
    have X := Ext.new hl' (.lst ((List.replicate (as.map V.ref).length true).map V.bl))
    refine ⟨l, List.replicate (as.map V.ref).length true, rfl, SqL.of upd_same, _, rfl, ?_⟩
    rw [qD0]
    refine qCu ⟨_, rfl, _, rfl, _, _, dr_net (nt.ext X), dr_net (nt2.ext X), qEr tx, qEr tx, ?_⟩
    rw [if_neg (by decide), eqv_net]
    exact q _ X
abbrev lwrN : List Str := ["_law_row_here", "_law_text", "_law_name"]
theorem scLWri : FnScope lwrN ["_law_row_here"] (qAc sLWri) := ⟨rfl, rfl, rfl, by decide +kernel, rfl, by decide +kernel, by decide +kernel⟩
set_option maxHeartbeats 4000000 in
theorem ok_lwri (F : Fun K "_law_written" "_law_written" sLWri f fd) : FnOk P w K mg base CX0 1 f fd ["_law_row_here"] spLWri := by
  refine F.ok scLWri (fun vs H Q E h => ?_) (fun cdv A outer s H vs Q E hr h => ?_)
  · obtain ⟨p, row, rfl, _⟩ := h
    rfl
  obtain ⟨p, row, rfl, hp, hl, hn, q⟩ := h
  refine ⟨_, (qAa (qBf (qAn (op_eqD (room64 hr)) (pv 0) (qBe pa_nil) (qAt _)) (qAd (qAm pe_str)) qAx) (qAa (qAj (i := 1) scLWri.nd rfl (Or.inl rfl) (qBb qBv (pv 0) qAb (fun _ _ => rfl))) (qAa (qBl PassesOwn.never rfl (qAs (qCi qEq (pv 0) (qC3 qAb) qC4)) (qAe (i := 2) scLWri.nd rfl (Or.inl rfl)) (qAd (qAj (i := 1) scLWri.nd rfl (Or.inl rfl) (qAg qA7 (qAg qA7 (pv 1) pe_str) (pv 2))))) (qAd (qAm (pv 1)))))), ?_⟩
  try dsimp only [Cx.wish, qB8]
  refine ⟨_, rfl, Nat.zero_le _, fun l hl' => ?_⟩
  have X1 := Ext.new hl' (.lst [])
  have ok : SOk row := fun n h => (hn n h).ok
  refine ⟨_, _, dr_row (X1 _ _ hp), dr_row (show LsS _ l [] from upd_same), qF8 ok, qF8 (fun x hx => by cases hx), _, rfl, ?_⟩
  rw [if_neg (by decide), eqv_row]
  have hp1 := X1 _ _ hp
  revert hp1 X1
  generalize upd H l (.lst []) = H1
  intro X1 hp1
  cases row with
  | nil =>
    rw [decide_eq_true rfl]
    exact iteT (q _ X1)
  | cons n r =>
    rw [decide_eq_false (by simp)]
    refine qCu ⟨_, rfl, p, _, _, _, rfl, rfl, SqL.of hp1, (by exact qAv (j := 0) rfl), ?_⟩
    refine ⟨_, rfl, _, rfl, p, _, rfl, SqL.of hp1, fun l2 hl2 => ?_⟩
    rw [cut_one]
    have X2 := Ext.new hl2 (.lst (r.map V.str))
    have bd : ∀ j, (wrF (n :: r.take j)).length ≤ 140 := fun j => wr_len (fun m hm => hn m (by
      rcases List.mem_cons.mp hm with rfl | hm
      · exact List.mem_cons_self
      · exact List.mem_cons_of_mem _ (List.mem_of_mem_take hm))) (by rw [List.length_cons, List.length_take]; rw [List.length_cons] at hl; omega)
    refine ⟨l2, rfl, ⟨_, SqL.of upd_same⟩, ?_⟩
    refine qB0 (xs := r.map V.str) (fun j σ H' => H' = upd H1 l2 (.lst (r.map V.str)) ∧ ∃ x2 : Option V, σ = [some (.ref p), some (.str (wrF (n :: r.take j))), x2]) ⟨rfl, none, rfl⟩ (fun j σ H' _ h => by rw [h.1]; exact SqL.of upd_same) ?_ ?_
    · rintro j v σ H' hv ⟨rfl, x2, rfl⟩
      obtain ⟨m, rfl, hm⟩ := qDy hv
      have b1 := bd j
      have b2 := (hn m (List.mem_cons_of_mem _ (List.mem_of_getElem? hm))).2.2
      refine ⟨_, rfl, _, _, rfl, rfl, qA9 (by rw [l_sp]; omega), _, rfl, _, _, rfl, rfl, qA9 (by rw [Str.length_append, l_sp]; omega), rfl, some (.str m), ?_⟩
      have e : wrF (n :: (r.take j ++ [m])) = wrF (n :: r.take j) ++ (" " : Str) ++ m := by
        rw [← wr_fold, List.foldl_append, ← wr_fold]; rfl
      rw [qAk hm, e]
      rfl
    · rintro σ H' ⟨rfl, x2, rfl⟩
      rw [List.length_map, List.take_of_length_le (Nat.le_refl _)]
      exact ⟨_, rfl, q _ (X1.trans X2)⟩
abbrev ltwN : List Str := ["_law_table_here", "_law_text", "_law_row_here"]
theorem scLTWr : FnScope ltwN ["_law_table_here"] (qAc sLTWr) := ⟨rfl, rfl, rfl, by decide +kernel, rfl, by decide +kernel, by decide +kernel⟩
set_option maxHeartbeats 4000000 in
theorem ok_ltwr (F : Fun K "_law_table_written" "_law_table_written" sLTWr f fd) (G1 : FnOk P w K mg base CX0 1 f1 fd1 ["_law_row_here"] spLWri) (bG1 : qAz K fd1 ["_law_row_here"] []) (kG1 : PySem.W.keepIn K (.ref f1) = true) (mG1 : mg "_law_written" = some (.ref f1)) : FnOk P w K mg base CX0 2 f fd ["_law_table_here"] spShTab := by
  refine F.ok scLTWr (fun vs H Q E h => ?_) (fun cdv A outer s H vs Q E hr h => ?_)
  · obtain ⟨T, names, rows, rfl, _⟩ := h
    rfl
  obtain ⟨T, names, rows, rfl, ti, rw', q⟩ := h
  refine ⟨_, (qAa (qAj (i := 1) scLTWr.nd rfl (Or.inl rfl) (qAi G1 hr rfl mG1 kG1 bG1 .nil qAu (pa_cons (qBb qBh (pv 0) qAb (fun _ _ => rfl)) pa_nil))) (qAa (qBl PassesOwn.never rfl (qAs (qBb qBh (pv 0) qAb (fun _ _ => rfl))) (qAe (i := 2) scLTWr.nd rfl (Or.inl rfl)) (qAd (qAj (i := 1) scLTWr.nd rfl (Or.inl rfl) (qAg qA7 (qAg qA7 (pv 1) pe_str) (qAi G1 hr rfl mG1 kG1 bG1 .nil qAu (pa_cons (pv 2) pa_nil)))))) (qAd (qAm (pv 1))))), ?_⟩
  try dsimp only [Cx.wish, qB8]
  obtain ⟨a, b, hT, ha, as, hb, pr⟩ := ti
  have la : as.length = rows.length := pr.length
  have lr := rw'.lr
  refine ⟨_, rfl, T, _, _, _, rfl, rfl, SqT.of hT, (by exact qAv (j := 0) rfl), a, names, rfl, ha, rw'.lens names List.mem_cons_self, rw'.nm, fun H1 e1 => ?_⟩
  refine ⟨_, rfl, T, _, _, _, rfl, rfl, SqT.of (e1 _ _ hT), (by exact qAv (j := 1) rfl), b, rfl, ⟨_, SqL.of (e1 _ _ hb)⟩, ?_⟩
  have bd : ∀ j, (tbW names (rows.take j)).length ≤ 2900 := fun j => by
    have sub : ∀ r ∈ names :: rows.take j, r ∈ names :: rows := fun r hr' => by
      rcases List.mem_cons.mp hr' with rfl | h
      · exact List.mem_cons_self
      · exact List.mem_cons_of_mem _ (List.mem_of_mem_take h)
    exact Nat.le_trans (qEe _ _) (sum_rows (fun r h => rw'.nms r (sub r h)) (fun r h => rw'.lens r (sub r h)) (by rw [List.length_cons, List.length_take]; omega))
  refine qB0 (xs := as.map V.ref) (fun j σ H' => Ext H1 H' ∧ ∃ x2 : Option V, σ = [some (.ref T), some (.str (tbW names (rows.take j))), x2]) ⟨Ext.refl _, none, ?_⟩ (fun j σ H' _ h => SqL.of ((e1.trans h.1) _ _ hb)) ?_ ?_
  · rw [List.take_zero]; rfl
  · rintro j v σ H' hv ⟨e2, x2, rfl⟩
    obtain ⟨c, rfl, hc⟩ := qB4 hv
    obtain ⟨r, hr', hcr⟩ := qAy pr hc
    have hm := List.mem_cons_of_mem names (List.mem_of_getElem? hr')
    have b1 := bd j
    have b2 := wr_len (rw'.nms r hm) (rw'.lens r hm)
    refine ⟨_, rfl, _, _, rfl, rfl, qA9 (by rw [l_sl]; omega), _, rfl, c, r, rfl, (e1.trans e2) _ _ hcr, rw'.lens r hm, rw'.nms r hm, fun H2 e3 => ?_⟩
    refine ⟨_, _, rfl, rfl, qA9 (by rw [Str.length_append, l_sl]; omega), e2.trans e3, some (.ref c), ?_⟩
    have e : tbW names (rows.take j ++ [r]) = tbW names (rows.take j) ++ (" / " : Str) ++ wrF r := by
      rw [← tb_fold, List.foldl_append, ← tb_fold]; rfl
    rw [qAk hr', e]
    rfl
  · rintro σ H' ⟨e2, x2, rfl⟩
    rw [List.length_map, la, List.take_of_length_le (Nat.le_refl _)]
    exact ⟨_, rfl, q _ (e1.trans e2)⟩
abbrev lnwN : List Str := ["_law_net_here", "_law_text", "_law_tie", "_law_one", "_law_other"]
theorem qF9 : FnScope lnwN ["_law_net_here"] (qAc sLNWr) := ⟨rfl, rfl, rfl, by decide +kernel, rfl, by decide +kernel, by decide +kernel⟩
set_option maxHeartbeats 4000000 in
theorem ok_lnwr (F : Fun K "_law_net_written" "_law_net_written" sLNWr f fd) : FnOk P w K mg base CX0 1 f fd ["_law_net_here"] spShNet := by
  refine F.ok qF9 (fun vs H Q E h => ?_) (fun cdv A outer s H vs Q E hr h => ?_)
  · obtain ⟨p, net, rfl, _⟩ := h
    rfl
  obtain ⟨p, net, rfl, nt, hl, tx, q⟩ := h
  refine ⟨_, (qAa (qBf (qAn (op_eqD (room64 hr)) (pv 0) (qBe pa_nil) (qAt _)) (qAd (qAm pe_str)) qAx) (qAa (qAj (i := 1) qF9.nd rfl (Or.inl rfl) pe_str) (qAa (qBl PassesOwn.never rfl (qAs (pv 0)) (qBx rfl (qAl (qAe (i := 2) qF9.nd rfl (Or.inl rfl)) (qAl (qAe (i := 3) qF9.nd rfl (Or.inl rfl)) (qAl (qAe (i := 4) qF9.nd rfl (Or.inl rfl)) qBc)))) (qAd (qAj (i := 1) qF9.nd rfl (Or.inl rfl) (qAg qA7 (qAg qA7 (qAg qA7 (qAg qA7 (qAg qA7 (qAg qA7 (pv 1) pe_str) (pv 2)) pe_str) (pv 3)) pe_str) (pv 4))))) (qAd (qAm (qCi sl_str (pv 1) (qC3 qAb) qC4)))))), ?_⟩
  try dsimp only [Cx.wish, qB8]
  refine ⟨_, rfl, Nat.zero_le _, fun l hl' => ?_⟩
  have X1 := Ext.new hl' (.lst [])
  refine ⟨_, _, dr_net (nt.ext X1), dr_nil upd_same, qEr tx, shaped_nil, _, rfl, ?_⟩
  rw [if_neg (by decide), eqv_net_nil]
  have nt1 := nt.ext X1
  revert nt1 X1
  generalize upd H l (.lst []) = H1
  intro X1 nt1
  by_cases ne : net = []
  · subst ne
    rw [decide_eq_true rfl]
    exact iteT (q _ X1)
  rw [decide_eq_false ne]
  obtain ⟨as, hp, pr⟩ := nt1
  have la : as.length = net.length := pr.length
  have bd : ∀ j, j ≤ 12 → ((net.take j).foldl ntS "").length ≤ 22 * j := fun j => by
    induction j with
    | zero => intro _; rw [List.take_zero]; decide
    | succ j ih =>
      intro hj
      have := ih (by omega)
      by_cases c : j < net.length
      · have ht := List.getElem?_eq_getElem c
        rw [qAk ht, List.foldl_append]
        have := ntS_len (acc := (net.take j).foldl ntS "") (tx _ (List.getElem_mem c))
        show (ntS _ _).length ≤ _
        omega
      · rw [List.take_of_length_le (by omega)] at this ⊢
        omega
  refine qCu ⟨_, rfl, p, rfl, ⟨_, SqL.of hp⟩, ?_⟩
  refine qB0 (xs := as.map V.ref) (fun j σ H' => H' = H1 ∧ ∃ x2 x3 x4 : Option V, σ = [some (.ref p), some (.str ((net.take j).foldl ntS "")), x2, x3, x4]) ⟨rfl, none, none, none, rfl⟩ (fun j σ H' _ h => by rw [h.1]; exact SqL.of hp) ?_ ?_
  · rintro j v σ H' hv ⟨rfl, x2, x3, x4, rfl⟩
    obtain ⟨c, rfl, hc⟩ := qB4 hv
    obtain ⟨t, ht, hct⟩ := qAy pr hc
    have hj := qA2 ht
    have b1 := bd j (by omega)
    have tt := tx t (List.mem_of_getElem? ht)
    have z1 := tt.1.2.2
    have z2 := tt.2.1.2.2
    have z3 := tt.2.2.1.2.2
    refine ⟨c, _, rfl, SqT.of hct, rfl, _, _, rfl, _, _, rfl, _, _, rfl, rfl, ?_⟩
    refine ⟨_, rfl, _, _, rfl, rfl, qA9 (by rw [l_co]; omega), _, rfl, _, _, rfl, rfl, qA9 (by simp only [Str.length_append]; rw [l_co]; omega), _, _, rfl, rfl, qA9 (by simp only [Str.length_append]; rw [l_co, l_sp]; omega), _, rfl, _, _, rfl, rfl, qA9 (by simp only [Str.length_append]; rw [l_co, l_sp]; omega), _, _, rfl, rfl, qA9 (by simp only [Str.length_append]; rw [l_co, l_sp]; omega), _, rfl, _, _, rfl, rfl, qA9 (by simp only [Str.length_append]; rw [l_co, l_sp]; omega), rfl, some (.str t.1), some (.str t.2.1), some (.str t.2.2), ?_⟩
    rw [qAk ht, List.foldl_append]
    rfl
  · rintro σ H' ⟨rfl, x2, x3, x4, rfl⟩
    rw [List.length_map, la, List.take_of_length_le (Nat.le_refl _)]
    have b1 := bd net.length hl
    rw [List.take_of_length_le (Nat.le_refl _)] at b1
    refine ⟨_, rfl, _, rfl, _, rfl, qA9 (by omega), ?_⟩
    rw [nt_slice ne]
    exact q _ X1
end
end My
namespace My
open PySem L2
def spLaw (K : PySem.W.Frag) : Sp := fun vs H Q _ => ∃ (a : Addr) (ns : List Int), vs = [.ref a] ∧ SqL K H a (ns.map V.int) ∧ ns.length ≤ 63 ∧ ∀ H', Q (.bl true) H'
theorem shaped_two {names : List Str} {rows : List (List Str)} {net : List Tr} (h1 : SOk names) (h2 : ∀ r ∈ rows, SOk r) (h3 : TxN net) : SeqAt.shaped (.list [tabD names rows, netD net]) = true := by
  obtain ⟨a1, a2⟩ := qEd h1
  obtain ⟨b1, b2⟩ := lay_rows h2
  obtain ⟨c1, c2⟩ := lay_net h3
  show (((PyData.canLayAll0 (names.map .str) && (PyData.canLayAll0 (rows.map qFj) && true)) && (PyData.canLayAll0 (net.map trD) && true)) && decide (max (max (PyData.depthAll (names.map .str) + 1) (max (PyData.depthAll (rows.map qFj) + 1) 0) + 1) (max (PyData.depthAll (net.map trD) + 1) 0) + 1 ≤ 64)) = true
  rw [a1, b1, c1, a2, decide_eq_true (by omega)]; rfl
theorem eqv_two (names : List Str) (rows : List (List Str)) (net : List Tr) : PyData.eqv (.list [tabD names rows, netD net]) (.list [tabD names rows, netD net]) = true := by
  show (PyData.eqv (tabD names rows) (tabD names rows) && (PyData.eqv (netD net) (netD net) && true)) = true
  rw [eqv_tab, eqv_net]; rfl
section
variable {P : Program} {w : World} {K : PySem.W.Frag} {mg : Str → Option Value} {base : Heap} {f f1 f2 f3 f4 f5 f6 f7 f8 f9 f10 f11 f12 f13 : Addr} {fd fd1 fd2 fd3 fd4 fd5 fd6 fd7 fd8 fd9 fd10 fd11 fd12 fd13 : FuncData}
abbrev laN : List Str := ["_law_script", "_law_table_here", "_law_net_here", "_law_handed", "_law_row_here", "_law_k", "_law_one", "_law_other"]
theorem scLaw : FnScope laN ["_law_script"] (qAc sLaw) := ⟨rfl, rfl, rfl, by decide +kernel, rfl, by decide +kernel, by decide +kernel⟩
set_option maxHeartbeats 16000000 in
theorem ok_law (F : Fun K "law" "law" sLaw f fd)
    (G1 : FnOk P w K mg base CX0 5 f1 fd1 ["_law_script", "_law_at"] (spLTab K)) (bG1 : qAz K fd1 ["_law_script", "_law_at"] []) (kG1 : PySem.W.keepIn K (.ref f1) = true) (mG1 : mg "_law_table" = some (.ref f1))
    (G2 : FnOk P w K mg base CX0 3 f2 fd2 ["_law_script", "_law_at"] (spNet K)) (bG2 : qAz K fd2 ["_law_script", "_law_at"] []) (kG2 : PySem.W.keepIn K (.ref f2) = true) (mG2 : mg "_law_net" = some (.ref f2))
    (G3 : FnOk P w K mg base CX0 1 f3 fd3 ["_law_table_here"] spLCop) (bG3 : qAz K fd3 ["_law_table_here"] []) (kG3 : PySem.W.keepIn K (.ref f3) = true) (mG3 : mg "_law_copy" = some (.ref f3))
    (G4 : FnOk P w K mg base CX0 3 f4 fd4 ["table"] spShTab) (bG4 : qAz K fd4 ["table"] []) (kG4 : PySem.W.keepIn K (.ref f4) = true) (mG4 : mg "show_table" = some (.ref f4))
    (G5 : FnOk P w K mg base CX0 2 f5 fd5 ["_law_table_here"] spShTab) (bG5 : qAz K fd5 ["_law_table_here"] []) (kG5 : PySem.W.keepIn K (.ref f5) = true) (mG5 : mg "_law_table_written" = some (.ref f5))
    (G6 : FnOk P w K mg base CX0 1 f6 fd6 ["net"] spShNet) (bG6 : qAz K fd6 ["net"] []) (kG6 : PySem.W.keepIn K (.ref f6) = true) (mG6 : mg "show_net" = some (.ref f6))
    (G7 : FnOk P w K mg base CX0 1 f7 fd7 ["_law_net_here"] spShNet) (bG7 : qAz K fd7 ["_law_net_here"] []) (kG7 : PySem.W.keepIn K (.ref f7) = true) (mG7 : mg "_law_net_written" = some (.ref f7))
    (G8 : FnOk P w K mg base CX0 1 f8 fd8 ["row"] spShRow) (bG8 : qAz K fd8 ["row"] []) (kG8 : PySem.W.keepIn K (.ref f8) = true) (mG8 : mg "show_row" = some (.ref f8))
    (G9 : FnOk P w K mg base CX0 1 f9 fd9 ["_law_row_here"] spLWri) (bG9 : qAz K fd9 ["_law_row_here"] []) (kG9 : PySem.W.keepIn K (.ref f9) = true) (mG9 : mg "_law_written" = some (.ref f9))
    (G10 : FnOk P w K mg base CX0 5 f10 fd10 ["text"] spRdTab) (bG10 : qAz K fd10 ["text"] []) (kG10 : PySem.W.keepIn K (.ref f10) = true) (mG10 : mg "read_table" = some (.ref f10))
    (G11 : FnOk P w K mg base CX0 7 f11 fd11 ["text"] spRdNet) (bG11 : qAz K fd11 ["text"] []) (kG11 : PySem.W.keepIn K (.ref f11) = true) (mG11 : mg "read_net" = some (.ref f11))
    (G12 : FnOk P w K mg base CX0 1 f12 fd12 ["_law_found", "_law_due"] spLSame) (bG12 : qAz K fd12 ["_law_found", "_law_due"] []) (kG12 : PySem.W.keepIn K (.ref f12) = true) (mG12 : mg "_law_same_table" = some (.ref f12))
    (G13 : FnOk P w K mg base CX0 1 f13 fd13 ["_law_found", "_law_due"] spLSNet) (bG13 : qAz K fd13 ["_law_found", "_law_due"] []) (kG13 : PySem.W.keepIn K (.ref f13) = true) (mG13 : mg "_law_same_net" = some (.ref f13))
    (mr : mg "range" = none) (mL : mg "list" = none) : FnOk P w K mg base CX0 8 f fd ["_law_script"] (spLaw K) := by
  refine F.ok scLaw (fun vs H Q E h => ?_) (fun cdv A outer s H vs Q E hr7 h => ?_)
  · obtain ⟨a, ns, rfl, _⟩ := h
    rfl
  obtain ⟨a, ns, rfl, hS, hl, q⟩ := h
  have hr1 := hr7.mono (j := 1) (by decide)
  have hr2 := hr7.mono (j := 2) (by decide)
  have hr3 := hr7.mono (j := 3) (by decide)
  have hr5 := hr7.mono (j := 5) (by decide)
  refine ⟨_, (qAa (qAj (i := 1) scLaw.nd rfl (Or.inl rfl) (qAi G1 hr5 rfl mG1 kG1 bG1 .nil qAu (pa_cons (pv 0) (pa_cons qAb pa_nil)))) (qAa (qAj (i := 2) scLaw.nd rfl (Or.inl rfl) (qAi G2 hr3 rfl mG2 kG2 bG2 .nil qAu (pa_cons (pv 0) (pa_cons qAb pa_nil)))) (qAa (qAj (i := 3) scLaw.nd rfl (Or.inl rfl) (qBe (pa_cons (qAi G3 hr1 rfl mG3 kG3 bG3 .nil qAu (pa_cons (pv 1) pa_nil)) (pa_cons (qBs qB9 rfl mL qA8 (pa_cons (pv 2) pa_nil)) pa_nil)))) (qAa (qBf (PW.pt (qD8 (qAn qEb (qAi G4 hr3 rfl mG4 kG4 bG4 .nil qAu (pa_cons (qBb qBv (pv 3) qAb (fun _ _ => rfl)) pa_nil)) (qAi G5 hr2 rfl mG5 kG5 bG5 .nil qAu (pa_cons (pv 1) pa_nil)) (qAt _)) (qDd (qAn qEb (qAi G6 hr1 rfl mG6 kG6 bG6 .nil qAu (pa_cons (qBb qBv (pv 3) qAb (fun _ _ => rfl)) pa_nil)) (qAi G7 hr1 rfl mG7 kG7 bG7 .nil qAu (pa_cons (pv 2) pa_nil)) (qAt _))))) (qAd (qAm qE4)) qAx) (qAa (qBl PassesOwn.never rfl (qAs (qBb qBh (qBb qBv (pv 3) qAb (fun _ _ => rfl)) qAb (fun _ _ => rfl))) (qAe (i := 4) scLaw.nd rfl (Or.inl rfl)) (qAd (qBf (qAn qEb (qAi G8 hr1 rfl mG8 kG8 bG8 .nil qAu (pa_cons (pv 4) pa_nil)) (qAi G9 hr1 rfl mG9 kG9 bG9 .nil qAu (pa_cons (pv 4) pa_nil)) (qAt _)) (qAd (qAm qE4)) qAx))) (qAa (qBl PassesOwn.never rfl (qBg rfl mr (pa_cons qAb pa_nil)) (qAe (i := 5) scLaw.nd rfl (Or.inl rfl)) (qAa (qAj (i := 6) scLaw.nd rfl (Or.inl rfl) (qAi G10 hr5 rfl mG10 kG10 bG10 .nil qAu (pa_cons (qAi G5 hr2 rfl mG5 kG5 bG5 .nil qAu (pa_cons (pv 1) pa_nil)) pa_nil))) (qAa (qAj (i := 7) scLaw.nd rfl (Or.inl rfl) (qAi G11 hr7 rfl mG11 kG11 bG11 .nil qAu (pa_cons (qAi G7 hr1 rfl mG7 kG7 bG7 .nil qAu (pa_cons (pv 2) pa_nil)) pa_nil))) (qAa (qBf (PW.pt (qD8 (qBr (qBq (qAi G12 hr1 rfl mG12 kG12 bG12 .nil qAu (pa_cons (pv 6) (pa_cons (pv 1) pa_nil))))) (qDd (qBr (qBq (qAi G13 hr1 rfl mG13 kG13 bG13 .nil qAu (pa_cons (pv 7) (pa_cons (pv 2) pa_nil)))))))) (qAd (qAm qE4)) qAx) (qAa (qB5 (pe_bm PySem.F.plainAttrs_list PySem.F.slot_list_append PySem.F.type_list_append qBn (qBb qBh (pv 6) qAb (fun _ _ => rfl)) (pa_cons pe_str pa_nil))) (qAa (qB5 (pe_bm0 PySem.F.plainAttrs_list PySem.F.slot_list_reverse PySem.F.type_list_reverse mt_reverse (qBb qBh (pv 6) qAb (fun _ _ => rfl)))) (qAd (qB5 (pe_bm PySem.F.plainAttrs_list PySem.F.slot_list_append PySem.F.type_list_append qBn (pv 7) (pa_cons pe_non pa_nil)))))))))) (qAd (qAm (qCd (op_eqD (room64 hr7)) (pv 3) (qBe (pa_cons (pv 1) (pa_cons (pv 2) pa_nil))) (qAt _)))))))))), ?_⟩
  try dsimp only [Cx.wish, qB8]
  refine ⟨_, rfl, a, ns, rfl, hS, fun T names rows H1 e1 ti tok => ?_⟩
  have rw' := tok.rwn
  have bn := tok.bn
  have lr := rw'.lr
  refine ⟨_, rfl, a, ns, 10, rfl, by decide, by decide, Ext.sqL e1 hS, fun nr net H2 e2 nr0 nt ln tx rs w8 l8 => ?_⟩
  have ti2 := ti.ext e2
  clear hS ti e1 e2
  refine ⟨_, rfl, T, names, rows, rfl, ti2, by omega, fun Th H3 e3 th0 th => ?_⟩
  obtain ⟨as, hnr, prn⟩ := id (nt.ext e3)
  refine ⟨_, rfl, nr, _, rfl, .inl (SqL.of hnr), fun nl hnl => ⟨(by show 2 ≤ sizeLine; decide), fun hd hhd => ?_⟩⟩
  have X1 := Ext.new hnl (.lst (as.map V.ref))
  have X2 := X1.trans (Ext.new hhd (.lst [V.ref Th, V.ref nl]))
  have ti3 := ti2.ext (e3.trans X2)
  have nt3 := nt.ext (e3.trans X2)
  have th3 := th.ext X2
  have nl3 : qCq (upd (upd H3 nl (.lst (as.map V.ref))) hd (.lst [V.ref Th, V.ref nl])) nl net := ⟨as, (Ext.new hhd _) _ _ upd_same, Paired.mapP prn fun a t z => X2 _ _ z⟩
  have hd3 : upd (upd H3 nl (.lst (as.map V.ref))) hd (.lst [V.ref Th, V.ref nl]) hd = some (.lst [V.ref Th, V.ref nl]) := upd_same
  revert ti3 nt3 th3 nl3 hd3
  generalize upd (upd H3 nl (.lst (as.map V.ref))) hd (.lst [V.ref Th, V.ref nl]) = H4
  intro ti3 nt3 th3 nl3 hd3
  clear X1 X2 hnr prn nt ti2 th e3 th0 hnl hhd nr0
  refine ⟨_, rfl, hd, _, _, _, rfl, rfl, SqL.of hd3, (by exact qAv (j := 0) rfl), Th, names, rows, rfl, th3, rw', fun H5 e5 => ?_⟩
  refine ⟨_, rfl, T, names, rows, rfl, ti3.ext e5, rw', fun H6 e6 => ⟨rfl, _, rfl, ?_⟩⟩
  rw [decide_eq_true rfl]
  refine qCu ?_
  have E6 := e5.trans e6
  refine ⟨_, rfl, hd, _, _, _, rfl, rfl, SqL.of (E6 _ _ hd3), (by exact qAv (j := 1) rfl), nl, net, rfl, nl3.ext E6, ln, tx, fun H7 e7 => ?_⟩
  refine ⟨_, rfl, nr, net, rfl, nt3.ext (E6.trans e7), ln, tx, fun H8 e8 => ⟨rfl, _, rfl, ?_⟩⟩
  rw [decide_eq_true rfl]
  refine qCu ?_
  have E8 := E6.trans (e7.trans e8)
  clear e5 e6 e7 e8 E6
  obtain ⟨ha, hb, hTh, hha, cs, hhb, prc⟩ := id (th3.ext E8)
  have lc : cs.length = rows.length := prc.length
  refine ⟨_, rfl, hd, _, _, _, rfl, rfl, SqL.of (E8 _ _ hd3), (by exact qAv (j := 0) rfl), Th, _, _, _, rfl, rfl, SqT.of hTh, (by exact qAv (j := 1) rfl), hb, rfl, ⟨_, SqL.of hhb⟩, ?_⟩
  refine qB0 (xs := cs.map V.ref) (fun j σ H' => Ext H8 H' ∧ ∃ x4 : Option V, σ = [some (.ref a), some (.ref T), some (.ref nr), some (.ref hd), x4, none, none, none]) ⟨Ext.refl _, none, rfl⟩ (fun j σ H' _ h => SqL.of (h.1 _ _ hhb)) ?_ ?_
  · rintro j v σ H' hv ⟨e, x4, rfl⟩
    obtain ⟨c, rfl, hc⟩ := qB4 hv
    obtain ⟨r, hr', hcr⟩ := qAy prc hc
    have hm := List.mem_cons_of_mem names (List.mem_of_getElem? hr')
    refine ⟨_, rfl, c, r, rfl, e _ _ hcr, rw'.lens r hm, rw'.nms r hm, _, rfl, c, r, rfl, e _ _ hcr, rw'.lens r hm, rw'.nms r hm, fun H9 e9 => ⟨rfl, _, rfl, ?_⟩⟩
    rw [decide_eq_true rfl]
    exact qCu ⟨e.trans e9, _, rfl⟩
  rintro σ H9 ⟨e9, x4, rfl⟩
  have E9 := E8.trans e9
  have ti9 := ti3.ext E9
  have th9 := th3.ext E9
  have nt9 := nt3.ext E9
  have nl9 := nl3.ext E9
  have hd9 := E9 _ _ hd3
  clear ti3 th3 nt3 nl3 hd3 E9 E8 e9 prc hhb hha hTh
  refine ⟨2, rfl, by decide, by decide, qBt (lo := 0) (n := 2) (fun i σ H' => ∃ x5 x6 x7 : Option V, σ = [some (.ref a), some (.ref T), some (.ref nr), some (.ref hd), x4, x5, x6, x7] ∧ Ext H9 H') ⟨none, none, none, rfl, Ext.refl _⟩ ?_ ?_⟩
  · rintro i σ H' hi ⟨x5, x6, x7, rfl, e⟩
    refine ⟨_, rfl, T, names, rows, rfl, ti9.ext e, rw', fun G1 g1 => ⟨names, rows, rfl, rw', bn, fun T2 a2 b2 G2 g2 hT2 ha2 a20 hb2 b20 => ?_⟩⟩
    have E2 := e.trans (g1.trans g2)
    refine ⟨_, rfl, nr, net, rfl, nt9.ext E2, ln, tx, fun G3 g3 => ⟨net, rfl, ln, tx, rs, ⟨ln, w8, l8⟩, fun n2 G4 g4 n20 nt2 => ?_⟩⟩
    have g34 := g3.trans g4
    have E4 := E2.trans g34
    have hb4 := hb2.ext g34
    refine ⟨_, rfl, _, rfl, T2, T, names, rows, rfl, ⟨a2, b2, g34 _ _ hT2, g34 _ _ ha2, hb4⟩, ti9.ext E4, rw'.namOk, rw'.rowOk, by omega, fun G5 g5 => ⟨true, rfl, qCu ?_⟩⟩
    refine ⟨_, rfl, _, rfl, n2, nr, net, rfl, nt2.ext g5, nt9.ext (E4.trans g5), ln, tx, fun G6 g6 => ⟨true, rfl, qCu ?_⟩⟩
    have g56 := g5.trans g6
    have ha6 : G6 a2 = some (.lst (names.map V.str)) := g56 _ _ (g34 _ _ ha2)
    obtain ⟨bs, hb6, _⟩ := hb4.ext g56
    obtain ⟨ns2, hn6, pn6⟩ := nt2.ext g56
    have ln2 : ns2.length = net.length := pn6.length
    have hT6 := g56 _ _ (g34 _ _ hT2)
    have aT : T2 ≠ a2 := fun z => by
      have := hT6
      rw [z, ha6] at this; cases this
    have na : n2 ≠ a2 := fun z => by
      have h1 := g3 _ _ ha2
      rw [← z, n20] at h1; cases h1
    have nb : n2 ≠ b2 := fun z => by
      obtain ⟨_, h1, _⟩ := hb2.ext g3
      rw [← z, n20] at h1; cases h1
    have lnm := rw'.ln
    refine ⟨_, rfl, T2, _, _, V.ref a2, rfl, rfl, SqT.of hT6, (by exact qAv (j := 0) rfl), .inl ⟨rfl, _, SqL.of ha6⟩, a2, _, _, rfl, rfl, ha6, (by rw [List.length_map]; exact qAf (by omega)), ?_⟩
    have hT7 : upd G6 a2 (.lst (names.map V.str ++ [V.str "zz"])) T2 = some (.tup [V.ref a2, V.ref b2]) := by rw [qAr aT]; exact hT6
    obtain ⟨zs, hz⟩ : ∃ zs, upd G6 a2 (.lst (names.map V.str ++ [V.str "zz"])) b2 = some (.lst zs) := by
      by_cases z : b2 = a2
      · exact ⟨_, by rw [z]; exact upd_same⟩
      · exact ⟨_, by rw [qAr z]; exact hb6⟩
    refine ⟨_, rfl, T2, _, _, V.ref b2, rfl, rfl, SqT.of hT7, (by exact qAv (j := 1) rfl), .inl ⟨rfl, _, SqL.of hz⟩, b2, _, rfl, rfl, hz, ?_⟩
    have hn8 : upd (upd G6 a2 (.lst (names.map V.str ++ [V.str "zz"]))) b2 (.lst zs.reverse) n2 = some (.lst (ns2.map V.ref)) := by rw [qAr nb, qAr na]; exact hn6
    refine ⟨_, rfl, .inl ⟨rfl, _, SqL.of hn8⟩, n2, _, _, rfl, rfl, hn8, (by rw [List.length_map]; exact qAf (by omega)), ?_⟩
    have a00 := (e.trans g1).none a20
    have b00 := (e.trans g1).none b20
    have n00 := (E2.trans g3).none n20
    exact ⟨_, _, _, rfl, (((E4.trans g56).over a00 _).over b00 _).over n00 _⟩
  · rintro σ H' ⟨x5, x6, x7, rfl, e⟩
    refine ⟨_, rfl, _, rfl, _, rfl, (by show 2 ≤ sizeLine; decide), fun l hl => ?_⟩
    have X := Ext.new hl (.lst [V.ref T, V.ref nr])
    have ee := e.trans X
    have sh := shaped_two rw'.namOk rw'.rowOk tx
    refine ⟨_, _, .lst (SqL.of (ee _ _ hd9)) (.cons (dr_tab (th9.ext ee)) (.cons (dr_net (nl9.ext ee)) .nil)), .lst (SqL.of upd_same) (.cons (dr_tab (ti9.ext ee)) (.cons (dr_net (nt9.ext ee)) .nil)), sh, sh, ?_⟩
    rw [if_neg (by decide), eqv_two]
    exact q _
end
end My
namespace My
open PySem L2
theorem qEm {α : Type} {us : List α} (h : us.length = 1) : ∃ a, us = [a] := List.length_eq_one_iff.mp h
theorem len2 {α : Type} {us : List α} (h : us.length = 2) : ∃ a b, us = [a, b] := by
  match us, h with | [a, b], _ => exact ⟨a, b, rfl⟩
theorem len3 {α : Type} {us : List α} (h : us.length = 3) : ∃ a b c, us = [a, b, c] := by
  match us, h with | [a, b, c], _ => exact ⟨a, b, c, rfl⟩
theorem len4 {α : Type} {us : List α} (h : us.length = 4) : ∃ a b c d, us = [a, b, c, d] := by
  match us, h with | [a, b, c, d], _ => exact ⟨a, b, c, d, rfl⟩
def Hs (K : PySem.W.Frag) (x : Str) (st : Stmt) (f : Addr) : Prop := ∃ (od an : Option Addr) (sl : Array (Option Value)) (oc kV dc pm cd ct : Value), PySem.W.nsIn K mainGlobals x = some (some (.ref f)) ∧ K.lookup f = some ⟨oc, od, .func (PySem.W.fnOf x x (qDi st) (qC6 st) (qAc st) .none kV dc pm an cd ct), sl⟩ ∧ PySem.W.codeIn K cd x = true ∧ PySem.W.keepIn K (.ref f) = true
theorem hs_mk {K : PySem.W.Frag} {x : Str} {st : Stmt} {f : Addr} {od an : Option Addr} {sl : Array (Option Value)} {oc kV dc pm cd ct : Value} (a : PySem.W.nsIn K mainGlobals x = some (some (.ref f))) (l : K.lookup f = some ⟨oc, od, .func (PySem.W.fnOf x x (qDi st) (qC6 st) (qAc st) .none kV dc pm an cd ct), sl⟩) (c : PySem.W.codeIn K cd x = true) (k : PySem.W.keepIn K (.ref f) = true) : Hs K x st f := ⟨_, _, _, _, _, _, _, _, _, a, l, c, k⟩
theorem qAw {K : PySem.W.Frag} {x : Str} {st : Stmt} {f : Addr} {h : Heap} {mg : Str → Option Value} (X : K.In h) (G : h.Ns mainGlobals mg) (H : Hs K x st f) : ∃ fd, Fun K x x st f fd ∧ PySem.W.keepIn K (.ref f) = true ∧ mg x = some (.ref f) := by
  obtain ⟨_, _, _, _, _, _, _, _, _, a, l, c, k⟩ := H
  exact ⟨_, fun_mk (st := st) l c k, k, PySem.W.mg_of X G a⟩
set_option maxHeartbeats 16000000 in
theorem all_mk {l : PySem.W.OpenLaw} {w : World} {K : PySem.W.Frag} {h : Heap} {mg : Str → Option Value} {fa f1 f2 f3 f4 f5 f6 f7 f8 f9 f10 f11 f12 f13 f14 f15 f16 f17 f18 f19 f20 f21 f22 f23 f24 f25 f26 f27 f28 f29 f30 f31 f32 f33 f34 f35 f36 f37 f38 f39 f40 f41 f42 f43 f44 f45 f46 f47 f48 : Addr} {tk_SIGNS tk_MOST_SIGNS tk_MOST_NAMES tk_MOST_ROWS tk_MOST_STEPS tk_EMPTY : Tok} (X : K.In h) (G : h.Ns mainGlobals mg) (hfa : mg "law" = some (.ref fa))
    {odN anN : Option Addr} {slN : Array (Option Value)} {ocN kVN dcN pmN cdN ctN : Value}
    (h1 : Hs K "is_name" sName f1) (h2 : Hs K "is_row" sIsRow f2) (h3 : Hs K "mask_of" sMask f3) (h4 : Hs K "row_of" sRowOf f4) (h5 : Hs K "lessened" sLess f5) (h6 : Hs K "reduced" sRedu f6) (h7 : Hs K "lead_of" sLead f7)
    (h8 : Hs K "crossed_masks" sCrM f8) (h9 : Hs K "table_from" sTabF f9) (h10 : Hs K "has_table_form" sHtf f10) (h11 : Hs K "keeps_bounds" sKeep f11) (h12 : Hs K "step_masks" sStepM f12) (h13 : Hs K "crossed" sCross f13)
    (h14 : Hs K "is_tie" sIsTie f14) (h15 : Hs K "has_net_form" sForm f15) (h16 : Hs K "keeps_net_bounds" sKNB f16) (h17 : Hs K "ties_of" sTies f17) (h18 : Hs K "points" sPoints f18) (h19 : Hs K "met_once" sMet f19)
    (h20 : Hs K "table_of" sTable f20) (h21 : Hs K "show_row" sShRow f21) (h22 : Hs K "show_rows" sShRows f22) (h23 : Hs K "show_table" sShTab f23) (h24 : Hs K "show_net" sShNet f24) (h25 : Hs K "words_of" sWords f25)
    (h26 : Hs K "read_table" sRdTab f26) (h27 : Hs K "read_net" sRdNet f27) (h28 : Hs K "_law_cell_at" sCell f28) (h29 : Hs K "_law_big" sBig f29) (h30 : Hs K "_law_names" sNames f30) (h31 : Hs K "_law_ends" sEnds f31)
    (h32 : Hs K "_law_net" sNet f32) (h33 : Hs K "_law_reduced" sLRed f33) (h34 : Hs K "_law_even" sLEven f34) (h35 : Hs K "_law_crossing" sLCro f35) (h36 : Hs K "_law_small" sLSma f36) (h37 : Hs K "_law_with_more" sLMor f37)
    (h38 : Hs K "_law_row" sLRow f38) (h39 : Hs K "_law_free" sLFre f39) (h40 : Hs K "_law_steps_of" sLSto f40) (h41 : Hs K "_law_table" sLTab f41) (h42 : Hs K "_law_copy" sLCop f42) (h43 : Hs K "_law_same_table" sLSame f43)
    (h44 : Hs K "_law_same_net" sLSNet f44) (h45 : Hs K "_law_written" sLWri f45) (h46 : Hs K "_law_table_written" sLTWr f46) (h47 : Hs K "_law_net_written" sLNWr f47)
    (a48 : PySem.W.nsIn K mainGlobals "law" = some (some (.ref f48))) (l48 : K.lookup f48 = some ⟨ocN, odN, .func (PySem.W.fnOf "law" "law" (qDi sLaw) (qC6 sLaw) (qAc sLaw) .none kVN dcN pmN anN cdN ctN), slN⟩) (c48 : PySem.W.codeIn K cdN "law" = true) (k48 : PySem.W.keepIn K (.ref f48) = true)
    (q1 : PySem.W.nsIn K mainGlobals "SIGNS" = some (some (.str sg tk_SIGNS)))
    (q2 : PySem.W.nsIn K mainGlobals "MOST_SIGNS" = some (some (.int 6 tk_MOST_SIGNS)))
    (q3 : PySem.W.nsIn K mainGlobals "MOST_NAMES" = some (some (.int 12 tk_MOST_NAMES)))
    (q4 : PySem.W.nsIn K mainGlobals "MOST_ROWS" = some (some (.int 16 tk_MOST_ROWS)))
    (q5 : PySem.W.nsIn K mainGlobals "MOST_STEPS" = some (some (.int 8 tk_MOST_STEPS)))
    (q6 : PySem.W.nsIn K mainGlobals "EMPTY" = some (some (.str "-" tk_EMPTY)))
    (z1 : PySem.W.nsIn K mainGlobals "abs" = some none)
    (z2 : PySem.W.nsIn K mainGlobals "all" = some none)
    (z3 : PySem.W.nsIn K mainGlobals "enumerate" = some none)
    (z4 : PySem.W.nsIn K mainGlobals "isinstance" = some none)
    (z5 : PySem.W.nsIn K mainGlobals "len" = some none)
    (z6 : PySem.W.nsIn K mainGlobals "list" = some none)
    (z7 : PySem.W.nsIn K mainGlobals "min" = some none)
    (z8 : PySem.W.nsIn K mainGlobals "range" = some none)
    (z9 : PySem.W.nsIn K mainGlobals "set" = some none)
    (z10 : PySem.W.nsIn K mainGlobals "sorted" = some none)
    (z11 : PySem.W.nsIn K mainGlobals "str" = some none)
    (z12 : PySem.W.nsIn K mainGlobals "sum" = some none)
    (z13 : PySem.W.nsIn K mainGlobals "tuple" = some none)
    (z14 : PySem.W.nsIn K mainGlobals "zip" = some none)
    : ∃ fd : FuncData, (∀ (s : Shared) (v : Value), BindsTo s fd ⟨[v], []⟩ [("_law_script", v)]) ∧ ∀ base : Heap, K.In base → base.Ns mainGlobals mg → FnOk l.prog w K mg base CX0 8 fa fd ["_law_script"] (spLaw K) := by
  have e := hfa.symm.trans (PySem.W.mg_of X G a48)
  cases e
  obtain ⟨_, F1, k1, m1⟩ := qAw X G h1
  obtain ⟨_, F2, k2, m2⟩ := qAw X G h2
  obtain ⟨_, F3, k3, m3⟩ := qAw X G h3
  obtain ⟨_, F4, k4, m4⟩ := qAw X G h4
  obtain ⟨_, F5, k5, m5⟩ := qAw X G h5
  obtain ⟨_, F6, k6, m6⟩ := qAw X G h6
  obtain ⟨_, F7, k7, m7⟩ := qAw X G h7
  obtain ⟨_, F8, k8, m8⟩ := qAw X G h8
  obtain ⟨_, F9, k9, m9⟩ := qAw X G h9
  obtain ⟨_, F10, k10, m10⟩ := qAw X G h10
  obtain ⟨_, F11, k11, m11⟩ := qAw X G h11
  obtain ⟨_, F12, k12, m12⟩ := qAw X G h12
  obtain ⟨_, F13, k13, m13⟩ := qAw X G h13
  obtain ⟨_, F14, k14, m14⟩ := qAw X G h14
  obtain ⟨_, F15, k15, m15⟩ := qAw X G h15
  obtain ⟨_, F16, k16, m16⟩ := qAw X G h16
  obtain ⟨_, F17, k17, m17⟩ := qAw X G h17
  obtain ⟨_, F18, k18, m18⟩ := qAw X G h18
  obtain ⟨_, F19, k19, m19⟩ := qAw X G h19
  obtain ⟨_, F20, k20, m20⟩ := qAw X G h20
  obtain ⟨_, F21, k21, m21⟩ := qAw X G h21
  obtain ⟨_, F22, k22, m22⟩ := qAw X G h22
  obtain ⟨_, F23, k23, m23⟩ := qAw X G h23
  obtain ⟨_, F24, k24, m24⟩ := qAw X G h24
  obtain ⟨_, F25, k25, m25⟩ := qAw X G h25
  obtain ⟨_, F26, k26, m26⟩ := qAw X G h26
  obtain ⟨_, F27, k27, m27⟩ := qAw X G h27
  obtain ⟨_, F28, k28, m28⟩ := qAw X G h28
  obtain ⟨_, F29, k29, m29⟩ := qAw X G h29
  obtain ⟨_, F30, k30, m30⟩ := qAw X G h30
  obtain ⟨_, F31, k31, m31⟩ := qAw X G h31
  obtain ⟨_, F32, k32, m32⟩ := qAw X G h32
  obtain ⟨_, F33, k33, m33⟩ := qAw X G h33
  obtain ⟨_, F34, k34, m34⟩ := qAw X G h34
  obtain ⟨_, F35, k35, m35⟩ := qAw X G h35
  obtain ⟨_, F36, k36, m36⟩ := qAw X G h36
  obtain ⟨_, F37, k37, m37⟩ := qAw X G h37
  obtain ⟨_, F38, k38, m38⟩ := qAw X G h38
  obtain ⟨_, F39, k39, m39⟩ := qAw X G h39
  obtain ⟨_, F40, k40, m40⟩ := qAw X G h40
  obtain ⟨_, F41, k41, m41⟩ := qAw X G h41
  obtain ⟨_, F42, k42, m42⟩ := qAw X G h42
  obtain ⟨_, F43, k43, m43⟩ := qAw X G h43
  obtain ⟨_, F44, k44, m44⟩ := qAw X G h44
  obtain ⟨_, F45, k45, m45⟩ := qAw X G h45
  obtain ⟨_, F46, k46, m46⟩ := qAw X G h46
  obtain ⟨_, F47, k47, m47⟩ := qAw X G h47
  have F48 := fun_mk (st := sLaw) l48 c48 k48
  have b1 := F1.binds (ps := ["thing"]) fun _ _ _ _ _ _ us hl => by obtain ⟨_, rfl⟩ := qEm hl; rfl
  have b2 := F2.binds (ps := ["thing"]) fun _ _ _ _ _ _ us hl => by obtain ⟨_, rfl⟩ := qEm hl; rfl
  have b3 := F3.binds (ps := ["names", "row"]) fun _ _ _ _ _ _ us hl => by obtain ⟨_, _, rfl⟩ := len2 hl; rfl
  have b4 := F4.binds (ps := ["names", "mask"]) fun _ _ _ _ _ _ us hl => by obtain ⟨_, _, rfl⟩ := len2 hl; rfl
  have b5 := F5.binds (ps := ["mask", "kept"]) fun _ _ _ _ _ _ us hl => by obtain ⟨_, _, rfl⟩ := len2 hl; rfl
  have b6 := F6.binds (ps := ["masks"]) fun _ _ _ _ _ _ us hl => by obtain ⟨_, rfl⟩ := qEm hl; rfl
  have b7 := F7.binds (ps := ["mask"]) fun _ _ _ _ _ _ us hl => by obtain ⟨_, rfl⟩ := qEm hl; rfl
  have b8 := F8.binds (ps := ["steps", "width"]) fun _ _ _ _ _ _ us hl => by obtain ⟨_, _, rfl⟩ := len2 hl; rfl
  have b9 := F9.binds (ps := ["names", "masks"]) fun _ _ _ _ _ _ us hl => by obtain ⟨_, _, rfl⟩ := len2 hl; rfl
  have b10 := F10.binds (ps := ["thing"]) fun _ _ _ _ _ _ us hl => by obtain ⟨_, rfl⟩ := qEm hl; rfl
  have b11 := F11.binds (ps := ["table"]) fun _ _ _ _ _ _ us hl => by obtain ⟨_, rfl⟩ := qEm hl; rfl
  have b12 := F12.binds (ps := ["table"]) fun _ _ _ _ _ _ us hl => by obtain ⟨_, rfl⟩ := qEm hl; rfl
  have b13 := F13.binds (ps := ["table"]) fun _ _ _ _ _ _ us hl => by obtain ⟨_, rfl⟩ := qEm hl; rfl
  have b14 := F14.binds (ps := ["thing"]) fun _ _ _ _ _ _ us hl => by obtain ⟨_, rfl⟩ := qEm hl; rfl
  have b15 := F15.binds (ps := ["thing"]) fun _ _ _ _ _ _ us hl => by obtain ⟨_, rfl⟩ := qEm hl; rfl
  have b16 := F16.binds (ps := ["net"]) fun _ _ _ _ _ _ us hl => by obtain ⟨_, rfl⟩ := qEm hl; rfl
  have b17 := F17.binds (ps := ["net"]) fun _ _ _ _ _ _ us hl => by obtain ⟨_, rfl⟩ := qEm hl; rfl
  have b18 := F18.binds (ps := ["net"]) fun _ _ _ _ _ _ us hl => by obtain ⟨_, rfl⟩ := qEm hl; rfl
  have b19 := F19.binds (ps := ["net", "point"]) fun _ _ _ _ _ _ us hl => by obtain ⟨_, _, rfl⟩ := len2 hl; rfl
  have b20 := F20.binds (ps := ["net"]) fun _ _ _ _ _ _ us hl => by obtain ⟨_, rfl⟩ := qEm hl; rfl
  have b21 := F21.binds (ps := ["row"]) fun _ _ _ _ _ _ us hl => by obtain ⟨_, rfl⟩ := qEm hl; rfl
  have b22 := F22.binds (ps := ["rows"]) fun _ _ _ _ _ _ us hl => by obtain ⟨_, rfl⟩ := qEm hl; rfl
  have b23 := F23.binds (ps := ["table"]) fun _ _ _ _ _ _ us hl => by obtain ⟨_, rfl⟩ := qEm hl; rfl
  have b24 := F24.binds (ps := ["net"]) fun _ _ _ _ _ _ us hl => by obtain ⟨_, rfl⟩ := qEm hl; rfl
  have b25 := F25.binds (ps := ["text"]) fun _ _ _ _ _ _ us hl => by obtain ⟨_, rfl⟩ := qEm hl; rfl
  have b26 := F26.binds (ps := ["text"]) fun _ _ _ _ _ _ us hl => by obtain ⟨_, rfl⟩ := qEm hl; rfl
  have b27 := F27.binds (ps := ["text"]) fun _ _ _ _ _ _ us hl => by obtain ⟨_, rfl⟩ := qEm hl; rfl
  have b28 := F28.binds (ps := ["_law_script", "_law_k"]) fun _ _ _ _ _ _ us hl => by obtain ⟨_, _, rfl⟩ := len2 hl; rfl
  have b29 := F29.binds (ps := ["_law_script", "_law_k"]) fun _ _ _ _ _ _ us hl => by obtain ⟨_, _, rfl⟩ := len2 hl; rfl
  have b30 := F30.binds (ps := ["_law_big_here", "_law_many"]) fun _ _ _ _ _ _ us hl => by obtain ⟨_, _, rfl⟩ := len2 hl; rfl
  have b31 := F31.binds (ps := ["_law_big_here", "_law_many", "_law_spread"]) fun _ _ _ _ _ _ us hl => by obtain ⟨_, _, _, rfl⟩ := len3 hl; rfl
  have b32 := F32.binds (ps := ["_law_script", "_law_at"]) fun _ _ _ _ _ _ us hl => by obtain ⟨_, _, rfl⟩ := len2 hl; rfl
  have b33 := F33.binds (ps := ["_law_numbers"]) fun _ _ _ _ _ _ us hl => by obtain ⟨_, rfl⟩ := qEm hl; rfl
  have b34 := F34.binds (ps := ["_law_net_here"]) fun _ _ _ _ _ _ us hl => by obtain ⟨_, rfl⟩ := qEm hl; rfl
  have b35 := F35.binds (ps := ["_law_numbers", "_law_many"]) fun _ _ _ _ _ _ us hl => by obtain ⟨_, _, rfl⟩ := len2 hl; rfl
  have b36 := F36.binds (ps := ["_law_kind"]) fun _ _ _ _ _ _ us hl => by obtain ⟨_, rfl⟩ := qEm hl; rfl
  have b37 := F37.binds (ps := ["_law_base", "_law_many", "_law_big_here", "_law_most"]) fun _ _ _ _ _ _ us hl => by obtain ⟨_, _, _, _, rfl⟩ := len4 hl; rfl
  have b38 := F38.binds (ps := ["_law_names_here", "_law_number"]) fun _ _ _ _ _ _ us hl => by obtain ⟨_, _, rfl⟩ := len2 hl; rfl
  have b39 := F39.binds (ps := ["_law_big_here", "_law_many"]) fun _ _ _ _ _ _ us hl => by obtain ⟨_, _, rfl⟩ := len2 hl; rfl
  have b40 := F40.binds (ps := ["_law_script", "_law_at"]) fun _ _ _ _ _ _ us hl => by obtain ⟨_, _, rfl⟩ := len2 hl; rfl
  have b41 := F41.binds (ps := ["_law_script", "_law_at"]) fun _ _ _ _ _ _ us hl => by obtain ⟨_, _, rfl⟩ := len2 hl; rfl
  have b42 := F42.binds (ps := ["_law_table_here"]) fun _ _ _ _ _ _ us hl => by obtain ⟨_, rfl⟩ := qEm hl; rfl
  have b43 := F43.binds (ps := ["_law_found", "_law_due"]) fun _ _ _ _ _ _ us hl => by obtain ⟨_, _, rfl⟩ := len2 hl; rfl
  have b44 := F44.binds (ps := ["_law_found", "_law_due"]) fun _ _ _ _ _ _ us hl => by obtain ⟨_, _, rfl⟩ := len2 hl; rfl
  have b45 := F45.binds (ps := ["_law_row_here"]) fun _ _ _ _ _ _ us hl => by obtain ⟨_, rfl⟩ := qEm hl; rfl
  have b46 := F46.binds (ps := ["_law_table_here"]) fun _ _ _ _ _ _ us hl => by obtain ⟨_, rfl⟩ := qEm hl; rfl
  have b47 := F47.binds (ps := ["_law_net_here"]) fun _ _ _ _ _ _ us hl => by obtain ⟨_, rfl⟩ := qEm hl; rfl
  have n_SIGNS := PySem.W.mg_of X G q1
  have n_MOST_SIGNS := PySem.W.mg_of X G q2
  have n_MOST_NAMES := PySem.W.mg_of X G q3
  have n_MOST_ROWS := PySem.W.mg_of X G q4
  have n_MOST_STEPS := PySem.W.mg_of X G q5
  have n_EMPTY := PySem.W.mg_of X G q6
  have n_abs := PySem.W.mg_none_of X G z1
  have n_all := PySem.W.mg_none_of X G z2
  have n_enumerate := PySem.W.mg_none_of X G z3
  have n_isinstance := PySem.W.mg_none_of X G z4
  have n_len := PySem.W.mg_none_of X G z5
  have n_list := PySem.W.mg_none_of X G z6
  have n_min := PySem.W.mg_none_of X G z7
  have n_range := PySem.W.mg_none_of X G z8
  have n_set := PySem.W.mg_none_of X G z9
  have n_sorted := PySem.W.mg_none_of X G z10
  have n_str := PySem.W.mg_none_of X G z11
  have n_sum := PySem.W.mg_none_of X G z12
  have n_tuple := PySem.W.mg_none_of X G z13
  have n_zip := PySem.W.mg_none_of X G z14
  refine ⟨PySem.W.fnOf "law" "law" (qDi sLaw) (qC6 sLaw) (qAc sLaw) .none kVN dcN pmN anN cdN ctN, fun s v => .of_eq rfl, fun base _ _ => ?_⟩
  have g1 := ok_nmT (P := l.prog) (w := w) (base := base) F1  n_len n_isinstance n_str n_all n_SIGNS n_MOST_SIGNS
  have g2 := ok_rwT (P := l.prog) (w := w) (base := base) F2 g1 b1 k1 m1 n_isinstance n_list n_all n_zip
  have g3 := ok_mask (P := l.prog) (w := w) (mg := mg) (base := base) F3  
  have g4 := ok_rowOf (P := l.prog) (w := w) (base := base) F4  n_len n_enumerate
  have g5 := ok_less (P := l.prog) (w := w) (base := base) F5  n_min
  have g6 := ok_redu (P := l.prog) (w := w) (base := base) F6 g5 b5 k5 m5 n_min n_sorted
  have g7 := ok_lead (P := l.prog) (w := w) (mg := mg) (base := base) F7  
  have g8 := ok_crM (P := l.prog) (w := w) (base := base) F8 g7 b7 k7 m7 n_sum n_range
  have g9 := ok_tabF (P := l.prog) (w := w) (base := base) F9 g4 b4 k4 m4 g6 b6 k6 m6 n_list
  have g10 := ok_htT (P := l.prog) (w := w) (base := base) F10 g2 b2 k2 m2 n_isinstance n_tuple n_list n_all n_len
  have g12 := ok_stepM (P := l.prog) (w := w) (base := base) F12 g3 b3 k3 m3 g6 b6 k6 m6 
  have g11 := ok_keep (P := l.prog) (w := w) (base := base) F11 g12 b12 k12 m12 n_len n_MOST_NAMES n_MOST_ROWS n_MOST_STEPS
  have g13 := ok_cross (P := l.prog) (w := w) (base := base) F13 g9 b9 k9 m9 g8 b8 k8 m8 g12 b12 k12 m12 n_len
  have g14 := ok_tiT (P := l.prog) (w := w) (base := base) F14 g1 b1 k1 m1 n_isinstance n_tuple n_all n_len
  have g17 := ok_ties (P := l.prog) (w := w) (mg := mg) (base := base) F17  
  have g15 := ok_foT (P := l.prog) (w := w) (base := base) F15 g14 b14 k14 m14 g2 b2 k2 m2 g17 b17 k17 m17 n_isinstance n_list n_all
  have g18 := ok_points (P := l.prog) (w := w) (base := base) F18  n_sorted
  have g19 := ok_met (P := l.prog) (w := w) (mg := mg) (base := base) F19  
  have g20 := ok_table (P := l.prog) (w := w) (base := base) F20 g13 b13 k13 m13 g17 b17 k17 m17 g19 b19 k19 m19 g18 b18 k18 m18 
  have g16 := ok_knb (P := l.prog) (w := w) (base := base) F16 g11 b11 k11 m11 g20 b20 k20 m20 n_len n_MOST_NAMES
  have g21 := ok_shRow (P := l.prog) (w := w) (base := base) F21  n_EMPTY
  have g22 := ok_shRows (P := l.prog) (w := w) (base := base) F22 g21 b21 k21 m21 
  have g23 := ok_shTab (P := l.prog) (w := w) (base := base) F23 g22 b22 k22 m22 
  have g24 := ok_shNet (P := l.prog) (w := w) (base := base) F24  n_EMPTY
  have g25 := ok_words (P := l.prog) (w := w) (base := base) F25  n_EMPTY
  have g26 := ok_rdTab (P := l.prog) (w := w) (base := base) F26 g25 b25 k25 m25 g10 b10 k10 m10 g11 b11 k11 m11 n_isinstance n_str
  have g27 := ok_rdNet (P := l.prog) (w := w) (base := base) F27 g15 b15 k15 m15 g16 b16 k16 m16 n_isinstance n_str n_tuple n_EMPTY
  have g28 := ok_cell (P := l.prog) (w := w) (base := base) F28  n_len
  have g29 := ok_big (P := l.prog) (w := w) (base := base) F29 g28 b28 k28 m28 n_range n_abs
  have g30 := ok_names (P := l.prog) (w := w) (base := base) F30  n_range n_len
  have g31 := ok_ends (P := l.prog) (w := w) (base := base) F31  n_range n_len n_list
  have g32 := ok_net (P := l.prog) (w := w) (base := base) F32 g29 b29 k29 m29 g31 b31 k31 m31 g30 b30 k30 m30 n_len n_zip n_tuple n_sorted
  have g33 := ok_lred (P := l.prog) (w := w) (mg := mg) (base := base) F33  
  have g34 := ok_leven (P := l.prog) (w := w) (base := base) F34  n_sorted n_set n_enumerate
  have g35 := ok_lcro (P := l.prog) (w := w) (base := base) F35 g33 b33 k33 m33 n_sum n_range
  have g36 := ok_lsma (P := l.prog) (w := w) (base := base) F36 g35 b35 k35 m35 g33 b33 k33 m33 n_sum n_range n_enumerate n_len
  have g37 := ok_lmor (P := l.prog) (w := w) (base := base) F37  n_len
  have g38 := ok_lrow (P := l.prog) (w := w) (base := base) F38  n_enumerate
  have g39 := ok_lfre (P := l.prog) (w := w) (base := base) F39  n_range
  have g40 := ok_lsto (P := l.prog) (w := w) (base := base) F40 g29 b29 k29 m29 g32 b32 k32 m32 g34 b34 k34 m34 g39 b39 k39 m39 g36 b36 k36 m36 g37 b37 k37 m37 g33 b33 k33 m33 n_len n_min
  have g41 := ok_ltab (P := l.prog) (w := w) (base := base) F41 g40 b40 k40 m40 g30 b30 k30 m30 g29 b29 k29 m29 g38 b38 k38 m38 n_len n_list n_sorted n_range
  have g42 := ok_lcop (P := l.prog) (w := w) (base := base) F42  n_list
  have g43 := ok_lsame (P := l.prog) (w := w) (base := base) F43  n_len n_list n_tuple n_isinstance n_all
  have g44 := ok_lsnet (P := l.prog) (w := w) (base := base) F44  n_isinstance n_list n_tuple n_all
  have g45 := ok_lwri (P := l.prog) (w := w) (mg := mg) (base := base) F45  
  have g46 := ok_ltwr (P := l.prog) (w := w) (base := base) F46 g45 b45 k45 m45 
  have g47 := ok_lnwr (P := l.prog) (w := w) (mg := mg) (base := base) F47  
  exact ok_law F48 g41 b41 k41 m41 g32 b32 k32 m32 g42 b42 k42 m42 g23 b23 k23 m23 g46 b46 k46 m46 g24 b24 k24 m24 g47 b47 k47 m47 g21 b21 k21 m21 g45 b45 k45 m45 g26 b26 k26 m26 g27 b27 k27 m27 g43 b43 k43 m43 g44 b44 k44 m44 n_range n_list
theorem walk {l : PySem.W.OpenLaw} {q : Program} {loose : List Str} {XP : (Str → Option Value) → Heap → Prop} {YP : World → Heap → Prop} {d : DefRec} {K : Params → PySem.W.Frag} (hn : l.most = some 63) (hdf : d.params.defaults = [])
    (hY : ∀ (w : World) (h : Heap), YP w h → (K w.params).In h)
    (F : ∀ (w : World) (mg : Str → Option Value) (fa : Addr) (h : Heap), (K w.params).In h → h.Ns mainGlobals mg → mg d.name = some (.ref fa) →
      ∃ fd : FuncData, (∀ (s : Shared) (u : Value), BindsTo s fd ⟨[u], []⟩ [("_law_script", u)]) ∧ ∀ base : Heap, (K w.params).In base → base.Ns mainGlobals mg → FnOk l.prog w (K w.params) mg base CX0 8 fa fd ["_law_script"] (spLaw (K w.params))) :
    PySem.W.WalkO q loose XP YP l.row.toRowW d [] (fun f vs => PySem.call f vs) :=
  L2.walk_of (n := 63) (k := 8) (x := "_law_script") (CX := fun _ => CX0) (sp := fun w => spLaw (K w.params)) hn (by decide) hdf ⟨rfl, by decide, by decide, rfl⟩ hY F (fun _ _ a ns hl _ hS => ⟨a, ns, rfl, hS, hl, fun _ => rfl⟩) fun _ _ _ _ _ z => z
end My
namespace PySem.W.Fast
def tw17936926045793763392 := 0
def tw7017590309887128768 := 0
def tw10128340857351950688 := 0
def tw12895225479662154112 := 0
def tw14857459370467953120 := 0
def tw7599288381859560096 := 0
def tw14239385383773480640 := 0
def tw16626835672690169600 := 0
def tw440173204631942048 := 0
def tw6524611559403686049 := 0
def tw16337635317871494753 := 0
def tw7506629532556799617 := 0
def tw14309060570263122689 := 0
def tw11751667733550901089 := 0
def tw10368194032194286561 := 0
def tw17010818491690575874 := 0
def tw9522194489957818434 := 0
def tw5501591377906249858 := 0
def tw17592962179794947362 := 0
def tw7918590106720958882 := 0
def tw18166656043103831682 := 0
def tw13918163452313921154 := 0
def tw41557328226823906 := 0
def tw8129929979913787298 := 0
def tw3303472064714448834 := 0
def tw15488506593684788259 := 0
def tw13773251765713675427 := 0
def tw11300254300735984835 := 0
def tw12149381109072038115 := 0
def tw13260151048925947107 := 0
def tw12852697892091031779 := 0
def tw9830711473236652291 := 0
def tw16653105895818814979 := 0
def tw16556310010216908387 := 0
def tw13693597468123411043 := 0
def tw2132089696352759491 := 0
def tw13039216288054268643 := 0
def tw17254497543112577795 := 0
def tw9782068085258835939 := 0
def tw5500183537028634628 := 0
def tw17904331349792217156 := 0
def tw9201434707126520932 := 0
def tw14093353502904408228 := 0
def tw10814708292831918276 := 0
def tw10130939464275708132 := 0
def tw11721571621215147300 := 0
def tw9286022946506709540 := 0
def tw8125052350792746564 := 0
def tw11752671636735443556 := 0
def tw2500775953707481732 := 0
def tw5204174617869823652 := 0
def tw1565132700610442916 := 0
def tw2552027462577053380 := 0
def tw5097792219480076068 := 0
def tw14472712753609028484 := 0
def tw4040876177720913925 := 0
def tw17519725753123208197 := 0
def tw8208871617229933605 := 0
def tw7202773976011195589 := 0
def tw6143889678749133733 := 0
def tw17829687059301316614 := 0
def tw8661652831233136774 := 0
def tw11999931520371519718 := 0
def tw1087102293154152710 := 0
def tw16757956740625484038 := 0
def tw8181175800461615654 := 0
def tw7938182105741548166 := 0
def tw17799879903111836326 := 0
def tw12305492729583615654 := 0
def tw7074418795765204678 := 0
def tw5206360086800844550 := 0
def tw2105490836869276422 := 0
def tw10129262441082709862 := 0
def tw15615315259787541382 := 0
def tw11931476639435033607 := 0
def tw6797986303164206087 := 0
def tw8320319580466582727 := 0
def tw14600813470998255111 := 0
def tw8373043561839312423 := 0
def tw15036211528771314279 := 0
def tw7671681501608893063 := 0
def tw7516424709560074951 := 0
def tw16037496646747004647 := 0
def tw10130622857802535719 := 0
def tw12395896944471596871 := 0
def tw12419841605512845384 := 0
def tw5369303535447761160 := 0
def tw13002258524178668808 := 0
def tw17170664154947546632 := 0
def tw14759686582222216744 := 0
def tw16043272606854632008 := 0
def tw18059752556961721928 := 0
def tw318431731235664520 := 0
def tw3287527885586592520 := 0
def tw5018408517874225128 := 0
def tw690949064444491785 := 0
def tw3669642106401681449 := 0
def tw10533776841522544777 := 0
def tw6519120740630724777 := 0
def tw9557005384206536041 := 0
def tw10960355540344749417 := 0
def tw12225612708024197513 := 0
def tw5948191535700080041 := 0
def tw12328447473304928745 := 0
def tw2922147758034985513 := 0
def tw9715607631683351145 := 0
def tw7914714727020836585 := 0
def tw4206177194983413513 := 0
def tw7680613719128821545 := 0
def tw11866605727411806057 := 0
def tw17571098313557603241 := 0
def tw6489503910889755625 := 0
def tw754470524148398090 := 0
def tw1079677869611181066 := 0
def tw6659968059641554954 := 0
def tw2605097285943518282 := 0
def tw16249181524736598122 := 0
def tw9832577509532605610 := 0
def tw16887401854984057066 := 0
def tw11720725340153541994 := 0
def tw17338075268726522250 := 0
def tw3643407436998760874 := 0
def tw13290673343220374986 := 0
def tw1286952556091088394 := 0
def tw16904673918980556811 := 0
def tw7772676792906611915 := 0
def tw1998671839760810827 := 0
def tw13695016490427874316 := 0
def tw235658115823335724 := 0
def tw14969092874996753708 := 0
def tw11767820330308682188 := 0
def tw1886058597868541452 := 0
def tw13400003144148901452 := 0
def tw10662395928867239564 := 0
def tw13216270331790334668 := 0
def tw17593448740797827788 := 0
def tw2783055192298844908 := 0
def tw1129521905336572780 := 0
def tw15924468771132536909 := 0
def tw5464540801081332909 := 0
def tw15985747911080587469 := 0
def tw4336428527577446701 := 0
def tw3490284297540691245 := 0
def tw8636236679885101741 := 0
def tw11168820934003707725 := 0
def tw12285639531258065741 := 0
def tw7281531191136894797 := 0
def tw17839635674088786925 := 0
def tw8407720273883105390 := 0
def tw1493139271967538350 := 0
def tw8085517837077418254 := 0
def tw2236252252693316878 := 0
def tw7423000393571848558 := 0
def tw2510103865530212718 := 0
def tw1434907599399297422 := 0
def tw5060793208825003438 := 0
def tw17589858447461495246 := 0
def tw15823788080951595502 := 0
def tw635829179142844942 := 0
def tw5537992250467287790 := 0
def tw3488152084152137582 := 0
def tw17784692292519866254 := 0
def tw16344278304599446446 := 0
def tw6339710660093561903 := 0
def tw13308009631807316047 := 0
def tw1181305069506442319 := 0
def tw757923695820634319 := 0
def tw12865493432867734735 := 0
def tw17739622536362256623 := 0
def tw14113287122581986543 := 0
def tw4166384587765137711 := 0
def tw17004337565803961775 := 0
def tw2554517429195869647 := 0
def tw4765834379119121871 := 0
def tw3959326227908494895 := 0
def tw17252005650700012079 := 0
def tw17724712972630389295 := 0
def tw9156342307951138415 := 0
def tw12487457137481217679 := 0
def tw4112968855832958703 := 0
def tw5546471554151633775 := 0
def tw17399950906283914095 := 0
def tw15775213939617118159 := 0
def tw1844801442841475152 := 0
def tw12039775110567863600 := 0
def tw7961920957242676560 := 0
def tw6334428348914394672 := 0
def tw16596850691432166096 := 0
def tw8139675688702543824 := 0
def tw4097123869143244817 := 0
def tw8728662935794086001 := 0
def tw12210346866529309905 := 0
def tw6299841954945286481 := 0
def tw4630607864428294481 := 0
def tw15407118436767256945 := 0
def tw13733777785897439761 := 0
def tw8065132455846060753 := 0
def tw12449159057966848753 := 0
def tw10586175856531634001 := 0
def tw10474756607374095217 := 0
def tw1945710793690468626 := 0
def tw16901582976979390930 := 0
def tw15206559329129637394 := 0
def tw15743549590568993458 := 0
def tw5291103151882720178 := 0
def tw3490940145441917906 := 0
def tw11404624046650180723 := 0
def tw14951949790399476947 := 0
def tw7976700836515704147 := 0
def tw2789123328263811539 := 0
def tw8249032901310761427 := 0
def tw11301999267461524371 := 0
def tw12358514987335100468 := 0
def tw3387426945567736916 := 0
def tw6311640144616731988 := 0
def tw622752911274840468 := 0
def tw12749600344122317396 := 0
def tw13457234316276436692 := 0
def tw13983389922527162100 := 0
def tw11152525274772276212 := 0
def tw3257206890835477813 := 0
def tw14934120174825307509 := 0
def tw13513048650200877461 := 0
def tw10089769002799012245 := 0
def tw9485779288074702357 := 0
def tw13946491578272252469 := 0
def tw7632078734647274101 := 0
def tw11546126425654762325 := 0
def tw10477954012256794517 := 0
def tw3087509018306165685 := 0
def tw12001699612086036566 := 0
def tw6365435628902587510 := 0
def tw3532671600312434902 := 0
def tw15338306922097079606 := 0
def tw16596290745224422774 := 0
def tw1717289579727059446 := 0
def tw9794162799147254294 := 0
def tw7808981265325414966 := 0
def tw10777744542421896758 := 0
def tw2036027683196768886 := 0
def tw2533562034874955446 := 0
def tw5987492080067797782 := 0
def tw16465790226854043478 := 0
def tw8843958453235588982 := 0
def tw7925805365633788854 := 0
def tw3792842992812951639 := 0
def tw6244644296645692599 := 0
def tw9769612481544158391 := 0
def tw15354480670503728343 := 0
def tw3123910234172917015 := 0
def tw5754636431527886135 := 0
def tw18186527931503732343 := 0
def tw15003573982800444215 := 0
def tw3083808005855877975 := 0
def tw3227067056351133655 := 0
def tw10826062545294010359 := 0
def tw4957355910575961079 := 0
def tw13360933194416411672 := 0
def tw16218971587099595800 := 0
def tw2640516746654893176 := 0
def tw9056099892845187224 := 0
def tw3355962888562872952 := 0
def tw2054025405545237272 := 0
def tw17219432684488212569 := 0
def tw4727877842057874553 := 0
def tw6221591757038648665 := 0
def tw16024766033512733081 := 0
def tw11610539532203873689 := 0
def tw18027223134640694713 := 0
def tw4809516364396299769 := 0
def tw10738975203493668377 := 0
def tw15591848309345704601 := 0
def tw8000385872559113081 := 0
def tw17752492028717114394 := 0
def tw15087102957596853370 := 0
def tw1300550094860647610 := 0
def tw10706870533160168666 := 0
def tw4882356649877509370 := 0
def tw11144049782246894938 := 0
def tw8897270754687032698 := 0
def tw8551381866001664442 := 0
def tw15340182741590994618 := 0
def tw4577679860371118906 := 0
def tw10259476912985193434 := 0
def tw10421742229924053051 := 0
def tw6275386613826520187 := 0
def tw3439188605358486651 := 0
def tw10200320614260815035 := 0
def tw1013396337396047035 := 0
def tw17059982080266095099 := 0
def tw17938580213355904539 := 0
def tw1401765495244926012 := 0
def tw2823882463224080732 := 0
def tw8173109782869194108 := 0
def tw2628350049870334492 := 0
def tw8092983587505247100 := 0
def tw3589537311273359260 := 0
def tw6304588581628042172 := 0
def tw17657422045203165245 := 0
def tw8136845250747663453 := 0
def tw11710832247511926973 := 0
def tw5108487878283065533 := 0
def tw4923189390806610141 := 0
def tw10411612443684615773 := 0
def tw18178880715755831933 := 0
def tw3735984619774776029 := 0
def tw6458635262514643741 := 0
def tw5683013042464276253 := 0
def tw8921178248783749949 := 0
def tw2215112678666654653 := 0
def tw9291138431191054333 := 0
def tw14671344322937818206 := 0
def tw8388883602755145886 := 0
def tw5633903916026125502 := 0
def tw13900655124680448254 := 0
def tw11030786061039503806 := 0
def tw16459730838052476350 := 0
def tw10193479364046860894 := 0
def tw1030479272652714622 := 0
def tw1941092800216938174 := 0
def tw14062572150420359902 := 0
def tw13534163992065878846 := 0
def tw16241685993348396030 := 0
def tw14398249246041090143 := 0
def tw5739469489003402527 := 0
def tw12505963758272146815 := 0
def tw3434474660755598975 := 0
def tw1657946584026018559 := 0
def tw6365020906999303967 := 0
def tw15334059467899453279 := 0
def tw3344967841033414591 := 0
end PySem.W.Fast
open PySem PySem.W PyProof.Rows
set_option maxRecDepth 100000 in
set_option maxHeartbeats 0 in
theorem PySem.Challenge.cw_roundsalone_k72_texts_written_holds : PySem.Challenge.rw_roundsalone_k72_texts_written.Holds := by
  w_on; o_law; k_head; (case hw => w_witness2)
  k_fill
  refine My.walk (l := PySem.Challenge.rw_roundsalone_k72_texts_written) rfl rfl (fun w h Y => PySem.W.kIn_of Y) ?F
  case F =>
    intro w mg fa h KX G hmg
    refine' My.all_mk KX G hmg ?h1 ?h2 ?h3 ?h4 ?h5 ?h6 ?h7 ?h8 ?h9 ?h10 ?h11 ?h12 ?h13 ?h14 ?h15 ?h16 ?h17 ?h18 ?h19 ?h20 ?h21 ?h22 ?h23 ?h24 ?h25 ?h26 ?h27 ?h28 ?h29 ?h30 ?h31 ?h32 ?h33 ?h34 ?h35 ?h36 ?h37 ?h38 ?h39 ?h40 ?h41 ?h42 ?h43 ?h44 ?h45 ?h46 ?h47 ?a48 ?l48 ?c48 ?k48 ?q1 ?q2 ?q3 ?q4 ?q5 ?q6 ?z1 ?z2 ?z3 ?z4 ?z5 ?z6 ?z7 ?z8 ?z9 ?z10 ?z11 ?z12 ?z13 ?z14
    all_goals (try (refine' My.hs_mk ?a ?l ?c ?k; (case a => k_is); (case l => k_is); (case c => k_is); (case k => k_is)))
    (case a48 => k_is)
    (case l48 => k_is)
    (case c48 => k_is)
    (case k48 => k_is)
    (case q1 => k_is)
    (case q2 => k_is)
    (case q3 => k_is)
    (case q4 => k_is)
    (case q5 => k_is)
    (case q6 => k_is)
    (case z1 => k_is)
    (case z2 => k_is)
    (case z3 => k_is)
    (case z4 => k_is)
    (case z5 => k_is)
    (case z6 => k_is)
    (case z7 => k_is)
    (case z8 => k_is)
    (case z9 => k_is)
    (case z10 => k_is)
    (case z11 => k_is)
    (case z12 => k_is)
    (case z13 => k_is)
    (case z14 => k_is)
#print axioms PySem.Challenge.cw_roundsalone_k72_texts_written_holds
