import PyProof.Rows.All
import Wide.All
import OpenK.AllK
import Wide.FinOn
import Lean
import PyProof.EqAt
import PyProof.EqKinds
import PyProof.TupleCall
import PySem.Challenge.RW_roundsalone_k18_points_stars_pieces
set_option Elab.async false
set_option linter.all false
set_option maxRecDepth 100000
/-! THE HAND LAYER, for ints, bools, texts, own classes, LISTS and tuples (index, slices, in, append, pop ..), calls, loops. Paste it whole ahead of your own text; what your proof does not reach may be deleted. -/
namespace L2
open PySem PySem.Spec PyProof.Rows

/-- a key: an int or a str -/
abbrev Key := Sum Int Str
def keyIs : Key → Value → Bool
  | .inl k, v => Value.isInt k v
  | .inr x, v => Value.isStrOf x v
def keyH (w : World) : Key → Int
  | .inl k => hashInt k
  | .inr x => hashStr w x
theorem keyIs_shape : ∀ {k : Key} {v : Value}, keyIs k v = true → (∃ i t, k = Sum.inl i ∧ v = Value.int i t) ∨ (∃ x t, k = Sum.inr x ∧ v = Value.str x t)
  | .inl i, v, h => by
    obtain ⟨t, e⟩ := Value.isInt_shape (k := i) (v := v) h
    exact .inl ⟨i, t, rfl, e⟩
  | .inr x, v, h => by
    obtain ⟨t, e⟩ := Value.isStrOf_shape (x := x) (v := v) h
    exact .inr ⟨x, t, rfl, e⟩
theorem keyIs_int (i : Int) (t : Tok) : keyIs (.inl i) (.int i t) = true := by simp [keyIs, Value.isInt]
theorem keyIs_str (x : Str) (t : Tok) : keyIs (.inr x) (.str x t) = true := by simp [keyIs, Value.isStrOf]
theorem key_ll (a b : Int) : decide ((Sum.inl a : Key) = Sum.inl b) = (a == b) := by
  by_cases e : a = b
  · subst e; simp
  · have h : ¬ (Sum.inl a : Key) = Sum.inl b := fun q => e (Sum.inl.inj q)
    rw [decide_eq_false h]
    exact (beq_eq_false_iff_ne.mpr e).symm
theorem key_rr (a b : Str) : decide ((Sum.inr a : Key) = Sum.inr b) = decide (a = b) := by
  by_cases e : a = b
  · subst e; simp
  · have h : ¬ (Sum.inr a : Key) = Sum.inr b := fun q => e (Sum.inr.inj q)
    rw [decide_eq_false h, decide_eq_false e]
theorem key_lr (a : Int) (b : Str) : decide ((Sum.inl a : Key) = Sum.inr b) = false := decide_eq_false (fun q => nomatch q)
theorem key_rl (a : Str) (b : Int) : decide ((Sum.inr a : Key) = Sum.inl b) = false := decide_eq_false (fun q => nomatch q)

def mixKind (prog : Program) (w : World) : PySem.KeyKind prog w Key where
  is := keyIs
  hash := keyH w
  inj := fun v a b ha hb => by
    rcases keyIs_shape ha with ⟨i, t, rfl, rfl⟩ | ⟨x, t, rfl, rfl⟩
    · rcases keyIs_shape hb with ⟨j, u, rfl, e⟩ | ⟨y, u, rfl, e⟩
      · injection e with e1 _; rw [e1]
      · exact nomatch e
    · rcases keyIs_shape hb with ⟨j, u, rfl, e⟩ | ⟨y, u, rfl, e⟩
      · exact nomatch e
      · injection e with e1 _; rw [e1]
  byValue := fun k v h => by
    rcases keyIs_shape h with ⟨i, t, rfl, rfl⟩ | ⟨x, t, rfl, rfl⟩ <;> rfl
  pyHash := fun hv h => by
    rcases keyIs_shape hv with ⟨i, t, rfl, rfl⟩ | ⟨x, t, rfl, rfl⟩
    · exact wpAny_pyHash_int h
    · exact wpAny_pyHash_str h
  eqBool := fun hu hv h => by
    rcases keyIs_shape hu with ⟨i, t, rfl, rfl⟩ | ⟨x, t, rfl, rfl⟩
    · rcases keyIs_shape hv with ⟨j, u, rfl, rfl⟩ | ⟨y, u, rfl, rfl⟩
      · rw [key_ll] at h; exact wpAny_eqBool_int h
      · rw [key_lr] at h; exact SeqAt.EqAt.int_str i t y u _ _ _ _ h
    · rcases keyIs_shape hv with ⟨j, u, rfl, rfl⟩ | ⟨y, u, rfl, rfl⟩
      · rw [key_rl] at h; exact SeqAt.EqAt.str_int x t j u _ _ _ _ h
      · rw [key_rr] at h; exact wpAny_eqBool_str h
  «strs» := fun k x t v h => by
    rcases keyIs_shape h with ⟨i, u, rfl, e⟩ | ⟨y, u, rfl, e⟩
    · exact nomatch e
    · injection e with e1 _
      subst e1
      cases v <;> rfl

theorem mixKind_is (prog : Program) (w : World) (k : Key) (v : Value) : (mixKind prog w).is k v = keyIs k v := rfl
theorem mixKind_int (prog : Program) (w : World) (i : Int) (t : Tok) : (mixKind prog w).is (.inl i) (.int i t) = true := keyIs_int i t
theorem mixKind_str (prog : Program) (w : World) (x : Str) (t : Tok) : (mixKind prog w).is (.inr x) (.str x t) = true := keyIs_str x t
end L2

namespace L2
open PySem PySem.Spec PyProof.Rows

/-- a value, without the heap -/
inductive V where
  | non | bl (b : Bool) | int (i : Int) | str (x : Str) | byt (b : Array UInt8) | flt (b : UInt64) | ref (a : Addr) | ty (n : String)
  deriving DecidableEq

def RelV : V → Value → Prop
  | .non, u => u = Value.none
  | .bl b, u => u = Value.bool b
  | .int i, u => ∃ t, u = Value.int i t
  | .str x, u => ∃ t, u = Value.str x t
  | .byt b, u => ∃ t, u = Value.bytes b t
  | .flt b, u => ∃ t, u = Value.float b t
  | .ref a, u => u = Value.ref a
  | .ty n, u => u = Value.type n

abbrev Vals : List V → List Value → Prop := Paired RelV
theorem Vals.length {xs : List V} {us : List Value} (r : Vals xs us) : xs.length = us.length := Paired.length r
theorem Vals.get : ∀ {xs : List V} {us : List Value} {i : Nat} {x : V}, Vals xs us → xs[i]? = some x → ∃ u, us[i]? = some u ∧ RelV x u
  | _, _, _, _, .nil, e => by simp at e
  | _, _, 0, _, .cons r _, e => by simp at e; subst e; exact ⟨_, rfl, r⟩
  | _, _, i + 1, x, .cons _ t, e => by
    obtain ⟨u, h1, h2⟩ := Vals.get (i := i) (x := x) t (by simpa using e)
    exact ⟨u, by simpa using h1, h2⟩
theorem Vals.set {x : V} {u : Value} (r : RelV x u) : ∀ {xs : List V} {us : List Value} (i : Nat), Vals xs us → Vals (xs.set i x) (us.set i u)
  | _, _, _, .nil => .nil
  | _, _, 0, .cons _ t => .cons r t
  | _, _, i + 1, .cons q t => .cons q (Vals.set r i t)
theorem Vals.append : ∀ {xs ys : List V} {us ws : List Value}, Vals xs us → Vals ys ws → Vals (xs ++ ys) (us ++ ws)
  | _, _, _, _, .nil, s => s
  | _, _, _, _, .cons r t, s => .cons r (Vals.append t s)
theorem Vals.take : ∀ {xs : List V} {us : List Value} (n : Nat), Vals xs us → Vals (xs.take n) (us.take n)
  | _, _, 0, _ => .nil
  | _, _, _ + 1, .nil => .nil
  | _, _, n + 1, .cons r t => .cons r (Vals.take n t)
theorem Vals.drop : ∀ {xs : List V} {us : List Value} (n : Nat), Vals xs us → Vals (xs.drop n) (us.drop n)
  | _, _, 0, r => r
  | _, _, _ + 1, .nil => .nil
  | _, _, n + 1, .cons _ t => Vals.drop n t
theorem Vals.none_of : ∀ {xs : List V} {us : List Value} {i : Nat}, Vals xs us → xs[i]? = none → us[i]? = none := fun {xs us i} r e => by
  have h1 := r.length
  have h2 : xs.length ≤ i := List.getElem?_eq_none_iff.mp e
  exact List.getElem?_eq_none_iff.mpr (by omega)

def RelO : Option V → Option Value → Prop
  | some v, some u => RelV v u
  | none, none => True
  | _, _ => False
def KV {κ : Type} : List (κ × V) → List (κ × Value) → Prop := Paired fun (p : κ × V) (q : κ × Value) => p.1 = q.1 ∧ RelV p.2 q.2

/-- a key of a dict (00_mix): an int or a text -/
def kV : Key → V
  | .inl i => .int i
  | .inr x => .str x

/-- what stands at a tracked address -/
inductive HO where
  /-- a list -/
  | lst (xs : List V)
  /-- a tuple (never changes) -/
  | tup (xs : List V)
  /-- a dict whose keys are ints and texts; one whose keys are tuples of ints and texts (the empty one is both) -/
  | dK (kvs : List (Key × V)) | dT (kvs : List (List Key × V))
  /-- a set of ints: its members, its size -/
  | set (S : Int → Bool) (n : Nat)
  /-- an instance of the class at C, its dict at dx, its attributes -/
  | ins (C dx : Addr) (fs : List (Str × V))
  /-- the dict of the instance at x -/
  | own (x : Addr)
  /-- the dict of an exception -/
  | xd (fs : List (Str × V))
  /-- a bound method, f of x -/
  | met (f x : Addr)
  /-- a range object lo, lo + 1, .. below hi -/
  | rng (lo hi : Int)
  /-- a thing that is known to the object (the script; a dict while a loop walks it): read, never written while it is so -/
  | frz (o : Obj) (u : HO)
  /-- a code object's table -/
  | tbl (ps : Array Value)
  /-- any other thing, by what is true of its one object (a def of one's own: SetO a S n := HO.ext fun h => ..) -/
  | ext (φ : Heap → Prop)

abbrev Hp := Addr → Option HO
def upd (H : Hp) (a : Addr) (o : HO) : Hp := fun b => if b = a then some o else H b
theorem upd_same {H : Hp} {a : Addr} {o : HO} : upd H a o a = some o := by unfold upd; rw [if_pos rfl]
theorem upd_ne {H : Hp} {a b : Addr} {o : HO} (h : b ≠ a) : upd H a o b = H b := by unfold upd; rw [if_neg h]
theorem upd_upd {H : Hp} {a : Addr} {o u : HO} : upd (upd H a o) a u = upd H a u := by
  funext b; unfold upd; split <;> rfl
/-- two objects of different content stand apart -/
theorem ne_of {H : Hp} {a b : Addr} {o u : HO} (h : H a = some o) (h' : H b = some u) (d : o ≠ u) : a ≠ b := by
  intro e; subst e; rw [h] at h'; exact d (Option.some.inj h')
theorem ne_of_none {H : Hp} {a b : Addr} {o : HO} (h : H a = some o) (h' : H b = none) : a ≠ b := by
  intro e; subst e; rw [h] at h'; cases h'

section
variable (P : Program) (w : World)
def ObjOk (H : Hp) (h : Heap) (a : Addr) : HO → Prop
  | .lst xs => xs.length ≤ sizeLine ∧ ∃ (its : List Value) (n : Nat), Vals xs its ∧ h.get? a = some { cls := .type "list", data := .seq its.toArray n }
  | .tup xs => xs.length ≤ sizeLine ∧ ∃ its : List Value, Vals xs its ∧ IsTup h a its.toArray
  | .dK kvs => kvs.length ≤ sizeLine ∧ (a == sysModules) = false ∧ ∃ vs, KV kvs vs ∧ h.DictOf (mixKind P w) a vs
  | .dT kvs => kvs.length ≤ sizeLine ∧ (a == sysModules) = false ∧ ∃ xs : List (List Key × Addr × Value),
      Paired (fun (p : List Key × V) (q : List Key × Addr × Value) => p.1 = q.1 ∧ H q.2.1 = some (.tup (p.1.map kV)) ∧ RelV p.2 q.2.2) kvs xs ∧
      ∃ o es ep, h.get? a = some o ∧ o.ExactDict ∧ o.data = .dict es ep ∧ es.toList = xs.map (entryOfKey (tupleKind (mixKind P w))) ∧ (xs.map (·.1)).Nodup
  | .set S n => h.SetOf (intKind P w) a S n
  | .ins C dx fs => H dx = some (.own a) ∧ fs.length ≤ 1000 ∧ dx ≠ a ∧ h.get? a = some (PySem.W.instObj C dx) ∧
      ∃ mA, h.Ns1 dx mA ∧ (∀ f, RelO (fs.lookup f) (mA f)) ∧ PySem.Within mA (fs.map (·.1))
  | .own _ => ∃ o, h.get? a = some o
  | .xd fs => ∃ mA, h.Ns1 a mA ∧ ∀ f, RelO (fs.lookup f) (mA f)
  | .rng lo hi => ∃ t u v, h.get? a = some { cls := .type "range", data := .fields #[.int lo t, .int hi u, .int 1 v] }
  | .frz o u => h.get? a = some o ∧ ObjOk H h a u
  | .tbl ps => h.get? a = some { cls := .none, data := .fields ps }
  | .met f x => h.get? a = some (PySem.W.methodObj (.ref f) (.ref x))
  | .ext φ => φ h ∧ (∃ o, h.get? a = some o) ∧ ∀ h1 h2 : Heap, φ h1 → (∀ o, h1.get? a = some o → h2.get? a = some o) → φ h2
/-- the abstract heap is held -/
def HOk (H : Hp) (h : Heap) : Prop := ∀ a o, H a = some o → ObjOk P w H h a o
end

section
variable {P : Program} {w : World} {H H' : Hp} {h h' : Heap} {a : Addr} {o : HO}
theorem ObjOk.lt (x : ObjOk P w H h a o) : a < h.objs.size := by
  cases o with
  | lst xs => obtain ⟨_, _, _, _, e⟩ := x; exact Heap.lt_size e
  | tup xs => obtain ⟨_, _, _, p⟩ := x; exact p.lt
  | dK kvs => obtain ⟨_, _, _, _, o, _, _, e, _⟩ := x; exact Heap.lt_size e
  | dT kvs => obtain ⟨_, _, _, _, o, _, _, e, _⟩ := x; exact Heap.lt_size e
  | set S n => obtain ⟨o, _, _, _, e, _⟩ := x; exact Heap.lt_size e
  | ins C dx fs => obtain ⟨_, _, _, e, _⟩ := x; exact Heap.lt_size e
  | own y => obtain ⟨_, e⟩ := x; exact Heap.lt_size e
  | xd fs => obtain ⟨_, ⟨_, _, _, e, _⟩, _⟩ := x; exact Heap.lt_size e
  | rng lo hi => obtain ⟨_, _, _, e⟩ := x; exact Heap.lt_size e
  | frz ob u => obtain ⟨e, _⟩ := x; exact Heap.lt_size e
  | tbl ps => exact Heap.lt_size (show h.get? a = some _ from x)
  | met f y => exact Heap.lt_size (show h.get? a = some _ from x)
  | ext φ => obtain ⟨_, ⟨_, e⟩, _⟩ := x; exact Heap.lt_size e
theorem Paired.mapP {α β : Type} {F G : α → β → Prop} : ∀ {l₁ : List α} {l₂ : List β}, Paired F l₁ l₂ → (∀ a b, F a b → G a b) → Paired G l₁ l₂
  | _, _, .nil, _ => .nil
  | _, _, .cons r t, f => .cons (f _ _ r) (Paired.mapP t f)
theorem Paired.imp' {α β : Type} {F G : α → β → Prop} (f : ∀ a b, F a b → G a b) {l₁ : List α} {l₂ : List β} (r : Paired F l₁ l₂) : Paired G l₁ l₂ := Paired.mapP r f
/-- what an object's description leans on: its own object, its own dict, the tuples -/
theorem ObjOk.stay (x : ObjOk P w H h a o) (k : ∀ b u, (b = a ∨ H b = some (.own a)) → h.get? b = some u → h'.get? b = some u)
    (ho : ∀ b, H b = some (.own a) → H' b = some (.own a)) (ht : ∀ b xs, H b = some (.tup xs) → H' b = some (.tup xs)) : ObjOk P w H' h' a o := by
  induction o with
  | lst xs => obtain ⟨z, its, n, r, e⟩ := x; exact ⟨z, its, n, r, k _ _ (.inl rfl) e⟩
  | tup xs => obtain ⟨z, its, r, ob, e, c⟩ := x; exact ⟨z, its, r, ob, k _ _ (.inl rfl) e, c⟩
  | dK kvs => obtain ⟨z, y, vs, r, ob, es, ep, e, c⟩ := x; exact ⟨z, y, vs, r, ob, es, ep, k _ _ (.inl rfl) e, c⟩
  | dT kvs =>
    obtain ⟨z, y, xs, r, ob, es, ep, e, c⟩ := x
    exact ⟨z, y, xs, Paired.mapP r fun p q z => ⟨z.1, ht _ _ z.2.1, z.2.2⟩, ob, es, ep, k _ _ (.inl rfl) e, c⟩
  | set S n => obtain ⟨ob, es, ep, t, e, c⟩ := x; exact ⟨ob, es, ep, t, k _ _ (.inl rfl) e, c⟩
  | ins C dx fs =>
    obtain ⟨d, z, ne, e, mA, ⟨od, es, ep, e2, c⟩, r⟩ := x
    exact ⟨ho _ d, z, ne, k _ _ (.inl rfl) e, mA, ⟨od, es, ep, k _ _ (.inr d) e2, c⟩, r⟩
  | own y => obtain ⟨ob, e⟩ := x; exact ⟨ob, k _ _ (.inl rfl) e⟩
  | xd fs => obtain ⟨mA, ⟨od, es, ep, e, c⟩, r⟩ := x; exact ⟨mA, ⟨od, es, ep, k _ _ (.inl rfl) e, c⟩, r⟩
  | rng lo hi => obtain ⟨t, u, v, e⟩ := x; exact ⟨t, u, v, k _ _ (.inl rfl) e⟩
  | frz ob u ih => obtain ⟨e, q⟩ := x; exact ⟨k _ _ (.inl rfl) e, ih q⟩
  | tbl ps =>
    have e : h.get? a = some { cls := .none, data := .fields ps } := x
    show h'.get? a = some { cls := .none, data := .fields ps }
    exact k a _ (.inl rfl) e
  | met f y =>
    have e : h.get? a = some (PySem.W.methodObj (.ref f) (.ref y)) := x
    show h'.get? a = some (PySem.W.methodObj (.ref f) (.ref y))
    exact k a _ (.inl rfl) e
  | ext φ => obtain ⟨p, ⟨o, e⟩, st⟩ := x; exact ⟨st _ _ p fun o q => k _ _ (.inl rfl) q, ⟨o, k _ _ (.inl rfl) e⟩, st⟩
theorem HOk.lt (x : HOk P w H h) (e : H a = some o) : a < h.objs.size := (x a o e).lt
theorem HOk.fresh (x : HOk P w H h) (e : h.objs.size ≤ a) : H a = none := by
  cases q : H a with
  | none => rfl
  | some u => exact absurd (Nat.lt_of_lt_of_le (x.lt q) e) (Nat.lt_irrefl _)
/-- every object of the heap is kept -/
theorem HOk.kept (x : HOk P w H h) (k : ∀ b u, h.get? b = some u → h'.get? b = some u) : HOk P w H h' := fun a o e =>
  (x a o e).stay (fun b u _ q => k b u q) (fun _ q => q) fun _ _ q => q
/-- a new object is laid and tracked -/
theorem HOk.laid (x : HOk P w H h) (k : ∀ b u, h.get? b = some u → h'.get? b = some u) (hp : h.objs.size ≤ a) (new : ObjOk P w (upd H a o) h' a o) : HOk P w (upd H a o) h' := fun b u e => by
  have hn := x.fresh hp
  by_cases hb : b = a
  · subst hb; rw [upd_same] at e; cases e; exact new
  · rw [upd_ne hb] at e
    exact (x b u e).stay (fun c v _ q => k c v q) (fun c q => by rw [upd_ne (ne_of_none q hn)]; exact q) fun c xs q => by rw [upd_ne (ne_of_none q hn)]; exact q
end

/-- what may be read as u: it is u, or a known u -/
def Rd (H : Hp) (a : Addr) (u : HO) : Prop := H a = some u ∨ ∃ o, H a = some (.frz o u)
theorem Rd.of {H : Hp} {a : Addr} {u : HO} (h : H a = some u) : Rd H a u := .inl h
theorem Rd.ok {P : Program} {w : World} {H : Hp} {h : Heap} {a : Addr} {u : HO} (r : Rd H a u) (x : HOk P w H h) : ObjOk P w H h a u := by
  rcases r with r | ⟨o, r⟩
  · exact x a u r
  · obtain ⟨_, q⟩ := x a _ r
    exact q
/-- what may be written -/
def Mut : Option HO → Prop
  | some (.lst _) => True
  | some (.dK _) => True
  | some (.dT _) => True
  | some (.set _ _) => True
  | some (.ins _ _ _) => True
  | some (.ext _) => True
  | _ => False
section
variable {P : Program} {w : World} {H : Hp} {h h' : Heap} {x e : Addr} {o' : HO}
/-- the object at e is changed: x itself, or the dict of the instance x -/
theorem HOk.write (ok : HOk P w H h) (mu : Mut (H x)) (he : e = x ∨ H e = some (.own x)) (k : ∀ b u, b ≠ e → h.get? b = some u → h'.get? b = some u) (heo : ∃ u, h'.get? e = some u)
    (new : ObjOk P w (upd H x o') h' x o') : HOk P w (upd H x o') h' := fun b u q => by
  have nown : ∀ c y, H c = some (.own y) → c ≠ x := fun c y r z => by subst z; rw [r] at mu; exact mu
  have ntup : ∀ c xs, H c = some (.tup xs) → c ≠ x := fun c xs r z => by subst z; rw [r] at mu; exact mu
  by_cases hb : b = x
  · subst hb; rw [upd_same] at q; cases q; exact new
  · rw [upd_ne hb] at q
    by_cases hbe : b = e
    · have q' : H b = some (.own x) := by
        rcases he with z | z
        · exact absurd (hbe.trans z) hb
        · rw [hbe]; exact z
      rw [q] at q'; cases q'
      obtain ⟨v, hv⟩ := heo
      exact ⟨v, by rw [hbe]; exact hv⟩
    · refine (ok b u q).stay (fun c v hc r => k c v ?_ r) (fun c r => by rw [upd_ne (nown c b r)]; exact r) fun c xs r => by rw [upd_ne (ntup c xs r)]; exact r
      rcases hc with rfl | hc
      · exact hbe
      · rintro rfl
        rcases he with z | z
        · exact nown c b hc z
        · rw [hc] at z; cases z; exact hb rfl
end

/-! ### kept unless tracked; of the frames at fs (the callers') the slots may change (an exception that passes writes there); of the records at ex (iterators) nothing is said -/
structure Un (fs ex : List Addr) (H H' : Hp) (h h' : Heap) : Prop where
  keep : ∀ b o, h.get? b = some o → H b = none → b ∉ fs → b ∉ ex → h'.get? b = some o
  slot : ∀ b o, h.get? b = some o → H b = none → b ∈ fs → b ∉ ex → ∃ sl, h'.get? b = some { o with slots := sl }
  free : ∀ b o, h.get? b = some o → H b = none → b ∉ ex → H' b = none
  there : ∀ b o, h.get? b = some o → b ∉ ex → ∃ o', h'.get? b = some o'
  tups : ∀ b xs, H b = some (.tup xs) → H' b = some (.tup xs)
  frzs : ∀ b o u, H b = some (.frz o u) → H' b = some (.frz o u)
  tbls : ∀ b ps, H b = some (.tbl ps) → ∃ more, H' b = some (.tbl (ps ++ more))
section
variable {fs fs' ex ex' : List Addr} {H H1 H2 : Hp} {h h1 h2 h' : Heap} {a x e : Addr} {o : HO}
theorem Un.any (u : Un fs ex H H1 h h1) {b : Addr} {ob : Obj} (q : h.get? b = some ob) (n : H b = none) (hx : b ∉ ex) : ∃ sl, h1.get? b = some { ob with slots := sl } := by
  by_cases hb : b ∈ fs
  · exact u.slot b ob q n hb hx
  · exact ⟨ob.slots, u.keep b ob q n hb hx⟩
theorem Un.trans (a : Un fs ex H H1 h h1) (b : Un fs ex H1 H2 h1 h2) : Un fs ex H H2 h h2 where
  keep := fun c ob q n hc hx => b.keep c ob (a.keep c ob q n hc hx) (a.free c ob q n hx) hc hx
  slot := fun c ob q n hc hx => by
    obtain ⟨sl, e1⟩ := a.slot c ob q n hc hx
    obtain ⟨sl', e2⟩ := b.slot c _ e1 (a.free c ob q n hx) hc hx
    exact ⟨sl', e2⟩
  free := fun c ob q n hx => by
    obtain ⟨o', e1⟩ := a.there c ob q hx
    exact b.free c o' e1 (a.free c ob q n hx) hx
  there := fun c ob q hx => by
    obtain ⟨o', e1⟩ := a.there c ob q hx
    exact b.there c o' e1 hx
  tups := fun c xs q => b.tups c xs (a.tups c xs q)
  frzs := fun c ob xs q => b.frzs c ob xs (a.frzs c ob xs q)
  tbls := fun c ps q => by
    obtain ⟨m1, e1⟩ := a.tbls c ps q
    obtain ⟨m2, e2⟩ := b.tbls c _ e1
    exact ⟨m1 ++ m2, by rw [e2, Array.append_assoc]⟩
theorem Un.kept (k : ∀ b u, h.get? b = some u → h'.get? b = some u) : Un fs ex H H h h' :=
  ⟨fun b ob q _ _ _ => k b ob q, fun b ob q _ _ _ => ⟨ob.slots, k b ob q⟩, fun _ _ _ n _ => n, fun b ob q _ => ⟨ob, k b ob q⟩, fun _ _ q => q, fun _ _ _ q => q, fun _ ps q => ⟨#[], by rw [q]; simp⟩⟩
theorem Un.refl : Un fs ex H H h h := Un.kept fun _ _ q => q
theorem Un.laid (k : ∀ b u, h.get? b = some u → h'.get? b = some u) (hp : h.objs.size ≤ a) (hn : H a = none) : Un fs ex H (upd H a o) h h' where
  keep := fun b u q _ _ _ => k b u q
  slot := fun b u q _ _ _ => ⟨u.slots, k b u q⟩
  free := fun b u q n _ => by rw [upd_ne (Nat.ne_of_lt (Nat.lt_of_lt_of_le (Heap.lt_size q) hp))]; exact n
  there := fun b u q _ => ⟨u, k b u q⟩
  tups := fun b xs q => by rw [upd_ne (ne_of_none q hn)]; exact q
  frzs := fun b u xs q => by rw [upd_ne (ne_of_none q hn)]; exact q
  tbls := fun b ps q => ⟨#[], by rw [upd_ne (ne_of_none q hn), q]; simp⟩
theorem Un.write (mu : Mut (H x)) (he : e = x ∨ H e = some (.own x)) (k : ∀ b u, b ≠ e → h.get? b = some u → h'.get? b = some u) (heo : ∃ u, h'.get? e = some u) : Un fs ex H (upd H x o) h h' := by
  have hx : ∀ b, H b = none → b ≠ x := fun b n z => by subst z; rw [n] at mu; exact mu
  have hb : ∀ b, H b = none → b ≠ e := fun b n z => by
    subst z
    rcases he with r | r
    · exact hx b n r
    · rw [n] at r; cases r
  have hm : ∀ b u, H b = some u → ¬ Mut (some u) → b ≠ x := fun b u q nm z => by subst z; rw [q] at mu; exact nm mu
  refine ⟨fun b u q n _ _ => k b u (hb b n) q, fun b u q n _ _ => ⟨u.slots, k b u (hb b n) q⟩, fun b u q n _ => by rw [upd_ne (hx b n)]; exact n, fun b u q _ => ?_,
    fun b xs q => by rw [upd_ne (hm b _ q fun z => z)]; exact q, fun b u xs q => by rw [upd_ne (hm b _ q fun z => z)]; exact q, fun b ps q => ⟨#[], by rw [upd_ne (hm b _ q fun z => z), q]; simp⟩⟩
  by_cases hbe : b = e
  · subst hbe; exact heo
  · exact ⟨u, k b u hbe q⟩
theorem Un.mono (u : Un fs ex H H1 h h1) (hs : ∀ b ∈ fs, b ∈ fs') (hx : ∀ b ∈ ex, b ∈ ex') : Un fs' ex' H H1 h h1 :=
  ⟨fun b ob q n hb he => u.keep b ob q n (fun z => hb (hs b z)) fun z => he (hx b z), fun _ _ q n _ he => u.any q n fun z => he (hx _ z), fun b ob q n he => u.free b ob q n fun z => he (hx b z), fun b ob q he => u.there b ob q fun z => he (hx b z), u.tups, u.frzs, u.tbls⟩
end

/-! ### the heap without what is tracked -/
def trk (h : Heap) (H : Hp) : List Addr := (List.range h.objs.size).filter fun a => (H a).isSome
def hidT (h : Heap) (H : Hp) : Heap := PySem.W.hideAll h (trk h H)
theorem hidT_size (h : Heap) (H : Hp) : (hidT h H).objs.size = h.objs.size := PySem.W.hideAll_size _ _
theorem hidT_get {h : Heap} {H : Hp} {b : Addr} {o : Obj} (e : h.get? b = some o) (n : H b = none) : (hidT h H).get? b = some o :=
  PySem.W.hideAll_get _ e fun hm => by
    have q : (H b).isSome = true := (List.mem_filter.mp hm).2
    rw [n] at q; simp at q
theorem of_hidT {h : Heap} {H : Hp} {b : Addr} {o : Obj} (e : (hidT h H).get? b = some o) : h.get? b = some o ∧ H b = none := by
  have e' : h.get? b = some o := PySem.W.of_hideAll (trk h H) e
  refine ⟨e', ?_⟩
  cases q : H b with
  | none => rfl
  | some x =>
    have hm : b ∈ trk h H := List.mem_filter.mpr ⟨List.mem_range.mpr (Heap.lt_size e'), by simp [q]⟩
    have z : (hidT h H).get? b = none := PySem.W.hideAll_none (trk h H) hm
    rw [z] at e; cases e

/-! ### OpenK's ledger, filled with every new object but one -/
def allNews (g h : Heap) (L : Addr) : List (Addr × Obj) := (List.range h.objs.size).filterMap fun a => if a = L ∨ (g.get? a).isSome = true then none else (h.get? a).map fun o => (a, o)
theorem mem_allNews {g h : Heap} {L a : Addr} {o : Obj} (h1 : a ≠ L) (h2 : g.get? a = none) (h3 : h.get? a = some o) : (a, o) ∈ allNews g h L :=
  List.mem_filterMap.mpr ⟨a, List.mem_range.mpr (Heap.lt_size h3), by simp [h1, h2, h3]⟩
theorem of_mem_allNews {g h : Heap} {L : Addr} {p : Addr × Obj} (hp : p ∈ allNews g h L) : p.1 ≠ L ∧ g.get? p.1 = none ∧ h.get? p.1 = some p.2 := by
  obtain ⟨b, _, e⟩ := List.mem_filterMap.mp hp
  split at e
  · cases e
  · rename_i hn
    cases q : h.get? b with
    | none => rw [q] at e; simp at e
    | some u =>
      rw [q] at e
      simp only [Option.map_some, Option.some.injEq] at e
      subst e
      refine ⟨fun z => hn (.inl z), ?_, q⟩
      show g.get? b = none
      cases r : g.get? b with
      | none => rfl
      | some v => exact (hn (.inr (by simp [r]))).elim
def rest (g h : Heap) (L d : Addr) : List (Addr × Obj) := (allNews g h L).filter fun p => decide (p.1 ≠ d)
theorem rest_ne {g h : Heap} {L d : Addr} : ∀ p ∈ rest g h L d, p.1 ≠ d := fun p hp => of_decide_eq_true (List.mem_filter.mp hp).2
theorem mem_rest {g h : Heap} {L d a : Addr} {o : Obj} (h1 : a ≠ L) (h2 : g.get? a = none) (h3 : h.get? a = some o) (h4 : a ≠ d) : (a, o) ∈ rest g h L d :=
  List.mem_filter.mpr ⟨mem_allNews h1 h2 h3, decide_eq_true h4⟩
theorem news_all {g h : Heap} {L : Addr} : News g L h (allNews g h L) := fun p hp => let ⟨a, b, c⟩ := of_mem_allNews hp; ⟨c, a, b⟩
theorem news_at {g h : Heap} {L d : Addr} {o : Obj} (h1 : d ≠ L) (h2 : g.get? d = none) (h3 : h.get? d = some o) : News g L h ((d, o) :: rest g h L d) := fun p hp => by
  rcases List.mem_cons.mp hp with rfl | hp
  · exact ⟨h3, h1, h2⟩
  · exact news_all p (List.mem_filter.mp hp).1
/-- behind a rule that changed d alone: all else but the frame is kept -/
theorem kept_of_news {g h h' : Heap} {L d : Addr} {m : Str → Option Value} (k : ∀ b o, g.get? b = some o → h.get? b = some o) (F : Fr g L h' m) (N : News g L h' (rest g h L d)) :
    ∀ b o, b ≠ L → b ≠ d → h.get? b = some o → h'.get? b = some o := fun b o h1 h2 e => by
  cases q : g.get? b with
  | some u =>
    have := k b u q
    rw [e] at this; cases this
    exact F.keep b _ q
  | none => exact (N (b, o) (mem_rest h1 q e h2)).1
end L2

namespace L2
open PySem PySem.Spec PyProof.Rows

/-- the module's facts, over the base: the heap at the law's entry without what is tracked there -/
structure Mod (K : PySem.W.Frag) (mg : Str → Option Value) (base : Heap) : Prop where
  kin : K.In base
  glob : base.Ns mainGlobals mg
  blt : ∃ mb, base.Ns builtinsNs mb ∧ ∀ x : Str, x ≠ "__name__" → mb x = bootBuiltins x
  nolimit : base.NoLimit

/-- the context: a def's body (or a comprehension's block) running. base: fixed through the whole law; s₀, H₀: the entry; outer: the frames whose slots others may change (a def's callers); stack: all frames that run;
   ex: iterators that were made ahead of the entry and are walked here (a comprehension's); fn: the names whose cells were made at the entry (a def: all; a comprehension's block: its own); calm: not within an except suite; pn: pins that every state bears; xe: what is wanted of an exception that leaves the code -/
structure Cx where
  prog : Program
  w : World
  K : PySem.W.Frag
  mg : Str → Option Value
  base : Heap
  A : Around
  N : List Str
  s₀ : Shared
  H₀ : Hp
  env : Env
  outer : List Env
  stack : List Env
  ex : List Addr
  fn : Str → Bool
  calm : Bool
  pn : List (Addr × Obj)
  xe : Value → Shared → Prop
/-- the callers' frames -/
def frs (l : List Env) : List Addr := l.filterMap (·.frame)
abbrev Cx.fs (X : Cx) : List Addr := frs X.outer

def Vis (sc : Scope) (x : Str) : Prop := sc.names.lookup x = some .local ∨ sc.names.lookup x = some .cell ∨ sc.names.lookup x = some .free
def Loc (sc : Scope) (x : Str) : Prop := sc.names.lookup x = some .local ∨ sc.names.lookup x = some .cell
def Look (env : Env) (h : Heap) (m : Str → Option Value) (x : Str) (u : Value) : Prop :=
  (env.kindOf x = some .local ∧ m x = some u) ∨ ((env.kindOf x = some .cell ∨ env.kindOf x = some .free) ∧ ∃ c, env.cells.lookup x = some c ∧ h.IsCell c (some u))

structure Cx.Ok (X : Cx) : Prop where
  mod : Mod X.K X.mg X.base
  kind : X.env.scope.kind = .function
  glob : X.env.globals = mainGlobals
  blt : X.env.builtins = builtinsNs
  above : X.s₀.heap.objs.size ≤ X.env.locals
  inj : ∀ x y c, X.env.cells.lookup x = some c → X.env.cells.lookup y = some c → x = y
  has : ∀ x, (X.env.kindOf x = some .cell ∨ X.env.kindOf x = some .free) → ∃ c, X.env.cells.lookup x = some c
  cab : ∀ x c, X.fn x = true → X.env.cells.lookup x = some c → X.s₀.heap.objs.size ≤ c
  hd : X.calm = true → X.A.handled = none
  frames : X.A.frames = some X.stack
  stk : X.stack = X.outer ∨ (X.stack = X.env :: X.outer ∧ X.env.frame = some X.env.locals)
  exf : ∀ b ∈ X.ex, b ≠ X.env.locals ∧ ∀ x c, X.env.cells.lookup x = some c → c ≠ b
  bs : ∀ b o, X.base.get? b = some o → X.s₀.heap.get? b = some o ∧ X.H₀ b = none
  bsz : X.base.objs.size ≤ X.s₀.heap.objs.size
  noex : ∀ b o, X.base.get? b = some o → b ∉ X.ex
  exfs : ∀ b ∈ X.ex, b ∉ X.fs
  funs : X.s₀.heap.FunFrames X.base X.outer
  frf : ∀ b ∈ X.fs, X.H₀ b = none

structure Inv (X : Cx) (pins : List (Addr × Obj)) (σ : List (Option V)) (H : Hp) (s : Shared) : Prop where
  ok : X.Ok
  os : s.os = X.s₀.os
  bare : AllBare s.gens
  base : Un X.fs X.ex X.H₀ H X.s₀.heap s.heap
  loc : ∃ m, s.heap.Ns X.env.locals m ∧ ∀ (i : Nat) (x : Str) (v : V), X.N[i]? = some x → σ[i]? = some (some v) → Vis X.env.scope x → ∃ u, RelV v u ∧ Look X.env s.heap m x u
  cell : ∀ x c, X.env.cells.lookup x = some c → ∃ v, s.heap.IsCell c v
  free : H X.env.locals = none
  freeC : ∀ x c, X.env.cells.lookup x = some c → H c = none
  pin : ∀ p ∈ X.pn ++ pins, s.heap.get? p.1 = some p.2 ∧ H p.1 = none ∧ p.1 ≠ X.env.locals ∧ p.1 ∉ X.fs ∧ ∀ v, p.2.data ≠ .cell v
  hok : HOk X.prog X.w H s.heap
  len : σ.length = X.N.length

section
variable {X : Cx} {pins : List (Addr × Obj)} {σ : List (Option V)} {H H' : Hp} {s : Shared} {h' : Heap}

theorem Cx.Ok.nofr (ok : X.Ok) {b : Addr} {o : Obj} (e : X.base.get? b = some o) : b ∉ X.fs := fun hb => by
  have := (ok.funs.mem hb).1
  rw [e] at this; cases this
theorem Inv.bs (I : Inv X pins σ H s) : ∀ b o, X.base.get? b = some o → s.heap.get? b = some o ∧ H b = none := fun b o e =>
  ⟨I.base.keep b o (I.ok.bs b o e).1 (I.ok.bs b o e).2 (I.ok.nofr e) (I.ok.noex b o e), I.base.free b o (I.ok.bs b o e).1 (I.ok.bs b o e).2 (I.ok.noex b o e)⟩
theorem Inv.bk (I : Inv X pins σ H s) : ∀ b o, X.base.get? b = some o → s.heap.get? b = some o := fun b o e => (I.bs b o e).1
theorem Inv.mod (I : Inv X pins σ H s) : Mod X.K X.mg X.base := I.ok.mod
theorem Inv.kIn (I : Inv X pins σ H s) : X.K.In s.heap := I.ok.mod.kin.keeps I.bk
theorem Inv.nolimit (I : Inv X pins σ H s) : s.heap.NoLimit := I.ok.mod.nolimit.keeps I.bk
/-- the frame over the base: for OpenK's rules (K.In X.base is I.mod.kin) -/
theorem Inv.fr (I : Inv X pins σ H s) : ∃ m, Fr X.base X.env.locals s.heap m :=
  let ⟨m, hn, _⟩ := I.loc
  ⟨m, hn, I.bk, Nat.le_trans I.ok.bsz I.ok.above⟩
theorem Inv.lt (I : Inv X pins σ H s) : X.env.locals < s.heap.objs.size := let ⟨_, hn, _⟩ := I.loc; hn.lt
theorem Inv.sz (I : Inv X pins σ H s) : X.s₀.heap.objs.size ≤ s.heap.objs.size := Nat.le_trans I.ok.above (Nat.le_of_lt I.lt)
theorem Inv.nofs (I : Inv X pins σ H s) {a : Addr} (h : s.heap.objs.size ≤ a) : a ∉ X.fs := fun hb => by
  obtain ⟨_, o, ho, _⟩ := I.ok.funs.mem hb
  exact absurd (Nat.lt_of_lt_of_le (Heap.lt_size ho) (Nat.le_trans I.sz h)) (Nat.lt_irrefl _)
theorem Inv.cne (I : Inv X pins σ H s) : ∀ x c, X.env.cells.lookup x = some c → c ≠ X.env.locals := fun x c e z => by
  obtain ⟨v, o, ho, hd⟩ := I.cell x c e
  obtain ⟨m, ⟨o', es, ep, ho', hd', _⟩, _⟩ := I.loc
  rw [z, ho'] at ho; cases ho; rw [hd'] at hd; cases hd
theorem Inv.funs (I : Inv X pins σ H s) : s.heap.FunFrames X.base X.outer := by
  have all : ∀ (l : List Env), (∀ b ∈ frs l, b ∈ X.fs) → X.s₀.heap.FunFrames X.base l → s.heap.FunFrames X.base l := by
    intro l
    induction l with
    | nil => intro _ _; trivial
    | cons env r ih =>
      intro hs hl
      obtain ⟨hk, ⟨L, o, hf, hn, ho, hd⟩, hr⟩ := hl
      have hL : L ∈ X.fs := hs L (by unfold frs; rw [List.filterMap_cons, hf]; exact List.mem_cons_self)
      obtain ⟨sl, e⟩ := I.base.slot L o ho (I.ok.frf L hL) hL fun z => I.ok.exfs L z hL
      exact ⟨hk, ⟨L, _, hf, hn, e, hd⟩, ih (fun b hb => hs b (by unfold frs; rw [List.filterMap_cons, hf]; exact List.mem_cons_of_mem _ hb)) hr⟩
  exact all X.outer (fun _ hb => hb) I.ok.funs

/-- the frames that run, for a call -/
theorem Inv.stack (I : Inv X pins σ H s) : s.heap.FunFrames X.base X.stack := by
  rcases I.ok.stk with e | ⟨e, hf⟩
  · rw [e]; exact I.funs
  · rw [e]
    obtain ⟨m, hn, _⟩ := I.loc
    refine .cons (by rw [I.ok.kind]; decide) hf hn ?_ I.funs
    exact Heap.get?_none_of_le (Nat.le_trans I.ok.bsz I.ok.above)
theorem Inv.stkSub (I : Inv X pins σ H s) : ∀ b ∈ frs X.stack, b ∈ X.env.locals :: X.fs := fun b hb => by
  rcases I.ok.stk with e | ⟨e, hf⟩
  · rw [e] at hb; exact List.mem_cons_of_mem _ hb
  · rw [e] at hb
    unfold frs at hb
    rw [List.filterMap_cons, hf] at hb
    exact hb
theorem Inv.stkFree (I : Inv X pins σ H s) : ∀ b ∈ frs X.stack, H b = none := fun b hb => by
  rcases List.mem_cons.mp (I.stkSub b hb) with e | hb
  · rw [e]; exact I.free
  · obtain ⟨_, o, ho, _⟩ := I.ok.funs.mem hb
    exact I.base.free b o ho (I.ok.frf b hb) fun z => I.ok.exfs b z hb

/-- THE STEP: the untracked objects but the frame and the records at ch are kept (the callers' frames up to slots), the frame's map is kept, the new abstract heap is held -/
theorem Inv.step {g' : Array GenState} {t' : Nat} {d' : Drawn} {ch : List Addr} (I : Inv X pins σ H s)
    (hch : ∀ b ∈ ch, (b ∈ X.ex ∨ X.s₀.heap.objs.size ≤ b) ∧ b ≠ X.env.locals ∧ (∀ x c, X.env.cells.lookup x = some c → c ≠ b) ∧ ∀ p ∈ X.pn ++ pins, p.1 ≠ b)
    (keep : ∀ b o, b ≠ X.env.locals → b ∉ X.fs → b ∉ ch → s.heap.get? b = some o → H b = none → h'.get? b = some o)
    (slot : ∀ b o, b ≠ X.env.locals → b ∈ X.fs → b ∉ ch → s.heap.get? b = some o → H b = none → ∃ sl, h'.get? b = some { o with slots := sl }) (free : ∀ b o, b ∉ ch → s.heap.get? b = some o → H b = none → H' b = none)
    (there : ∀ b o, b ∉ ch → s.heap.get? b = some o → ∃ o', h'.get? b = some o')
    (tups : ∀ b xs, H b = some (.tup xs) → H' b = some (.tup xs)) (frzs : ∀ b o u, H b = some (.frz o u) → H' b = some (.frz o u)) (tbls : ∀ b ps, H b = some (.tbl ps) → ∃ more, H' b = some (.tbl (ps ++ more)))
    (ns : ∀ m, s.heap.Ns X.env.locals m → h'.Ns X.env.locals m) (hok : HOk X.prog X.w H' h') (hg : AllBare g') :
    Inv X pins σ H' { s with heap := h', gens := g', drawn := d', toks := t' } := by
  have neL : ∀ b o, X.s₀.heap.get? b = some o → b ≠ X.env.locals := fun b o e => Nat.ne_of_lt (Nat.lt_of_lt_of_le (Heap.lt_size e) I.ok.above)
  have neC : ∀ b o, X.s₀.heap.get? b = some o → b ∉ X.ex → b ∉ ch := fun b o e hx hb => by
    rcases (hch b hb).1 with z | z
    · exact hx z
    · exact absurd (Nat.lt_of_lt_of_le (Heap.lt_size e) z) (Nat.lt_irrefl _)
  have cellK : ∀ x c, X.env.cells.lookup x = some c → ∀ v, s.heap.IsCell c v → h'.IsCell c v := fun x c e v ⟨o, ho, hd⟩ => by
    have nch : c ∉ ch := fun z => (hch c z).2.2.1 x c e rfl
    by_cases hc : c ∈ X.fs
    · obtain ⟨sl, q⟩ := slot c o (I.cne x c e) hc nch ho (I.freeC x c e)
      exact ⟨_, q, hd⟩
    · exact ⟨o, keep c o (I.cne x c e) hc nch ho (I.freeC x c e), hd⟩
  refine ⟨I.ok, I.os, hg, ⟨fun b o e n hb hx => ?_, fun b o e n hb hx => ?_, fun b o e n hx => ?_, fun b o e hx => ?_, fun b xs e => tups b xs (I.base.tups b xs e), fun b o xs e => frzs b o xs (I.base.frzs b o xs e), fun b ps e => ?_⟩, ?_, fun x c e => ?_, ?_, fun x c e => ?_, fun p hp => ?_, hok, I.len⟩
  · exact keep b o (neL b o e) hb (neC b o e hx) (I.base.keep b o e n hb hx) (I.base.free b o e n hx)
  · obtain ⟨sl, e1⟩ := I.base.slot b o e n hb hx
    obtain ⟨sl', e2⟩ := slot b _ (neL b o e) hb (neC b o e hx) e1 (I.base.free b o e n hx)
    exact ⟨sl', e2⟩
  · obtain ⟨o', e1⟩ := I.base.there b o e hx
    exact free b o' (neC b o e hx) e1 (I.base.free b o e n hx)
  · obtain ⟨o', e1⟩ := I.base.there b o e hx
    exact there b o' (neC b o e hx) e1
  · obtain ⟨m1, e1⟩ := I.base.tbls b ps e
    obtain ⟨m2, e2⟩ := tbls b _ e1
    exact ⟨m1 ++ m2, by rw [e2, Array.append_assoc]⟩
  · obtain ⟨m, hn, hl⟩ := I.loc
    refine ⟨m, ns m hn, fun i x v e1 e2 e3 => ?_⟩
    obtain ⟨u, r, l⟩ := hl i x v e1 e2 e3
    refine ⟨u, r, ?_⟩
    rcases l with l | ⟨k, c, e, z⟩
    · exact .inl l
    · exact .inr ⟨k, c, e, cellK x c e _ z⟩
  · obtain ⟨v, z⟩ := I.cell x c e
    exact ⟨v, cellK x c e v z⟩
  · obtain ⟨m, ⟨o, _, _, ho, _⟩, _⟩ := I.loc
    exact free _ o (fun z => (hch _ z).2.1 rfl) ho I.free
  · obtain ⟨v, o, ho, hd⟩ := I.cell x c e
    exact free c o (fun z => (hch c z).2.2.1 x c e rfl) ho (I.freeC x c e)
  · obtain ⟨e, n, ne, nf, d⟩ := I.pin p hp
    have nch : p.1 ∉ ch := fun z => (hch p.1 z).2.2.2 p hp rfl
    exact ⟨keep p.1 p.2 ne nf nch e n, free p.1 p.2 nch e n, ne, nf, d⟩
/-- .. where the frame's own object is kept too -/
theorem Inv.un {t' : Nat} (I : Inv X pins σ H s) (u : Un X.fs [] H H' s.heap h') (hok : HOk X.prog X.w H' h') : Inv X pins σ H' { s with heap := h', toks := t' } := by
  obtain ⟨m, ⟨o, es, ep, ho, r⟩, _⟩ := id I.loc
  obtain ⟨sl, hL⟩ := u.any ho I.free (by simp)
  exact I.step (g' := s.gens) (d' := s.drawn) (ch := []) (fun _ z => nomatch z) (fun b o _ hb _ e n => u.keep b o e n hb (by simp)) (fun b o _ hb _ e n => u.slot b o e n hb (by simp)) (fun b o _ e n => u.free b o e n (by simp)) (fun b o _ e => u.there b o e (by simp)) u.tups u.frzs u.tbls (fun m' hm => by
    obtain ⟨o', es', ep', ho', r'⟩ := hm
    rw [ho] at ho'; cases ho'
    exact ⟨_, es', ep', hL, r'⟩) hok I.bare
/-- behind a call (or a comprehension's block): the slots of this frame may have changed too, the records at ch may have turned -/
theorem Inv.call {g' : Array GenState} {t' : Nat} {d' : Drawn} {ch : List Addr} (I : Inv X pins σ H s) (u : Un (frs X.stack) ch H H' s.heap h') (hok : HOk X.prog X.w H' h') (hg : AllBare g')
    (hch : ∀ b ∈ ch, (b ∈ X.ex ∨ X.s₀.heap.objs.size ≤ b) ∧ b ≠ X.env.locals ∧ (∀ x c, X.env.cells.lookup x = some c → c ≠ b) ∧ ∀ p ∈ X.pn ++ pins, p.1 ≠ b) :
    Inv X pins σ H' { s with heap := h', gens := g', drawn := d', toks := t' } := by
  obtain ⟨m, ⟨o, es, ep, ho, r⟩, _⟩ := id I.loc
  obtain ⟨sl, hL⟩ := u.any ho I.free fun z => (hch _ z).2.1 rfl
  exact I.step (ch := ch) hch (fun b o hL hb hc e n => u.keep b o e n (fun z => (List.mem_cons.mp (I.stkSub b z)).elim hL hb) hc) (fun b o _ _ hc e n => u.any e n hc) (fun b o hc e n => u.free b o e n hc) (fun b o hc e => u.there b o e hc) u.tups u.frzs u.tbls (fun m' hm => by
    obtain ⟨o', es', ep', ho', r'⟩ := hm
    rw [ho] at ho'; cases ho'
    exact ⟨_, es', ep', hL, r'⟩) hok hg
/-- an untracked record of ours (an iterator) has turned -/
theorem Inv.turned {t' : Nat} {it : Addr} (I : Inv X pins σ H s) (k : ∀ b o, b ≠ it → s.heap.get? b = some o → h'.get? b = some o) (hn : H it = none) (hL : it ≠ X.env.locals)
    (h1 : it ∈ X.ex ∨ X.s₀.heap.objs.size ≤ it) (h2 : ∀ x c, X.env.cells.lookup x = some c → c ≠ it) (h3 : ∀ p ∈ X.pn ++ pins, p.1 ≠ it) : Inv X pins σ H { s with heap := h', toks := t' } := by
  have nit : ∀ b u, H b = some u → b ≠ it := fun b u e z => by rw [z, hn] at e; cases e
  refine I.step (g' := s.gens) (d' := s.drawn) (ch := [it]) (fun b hb => ?_) (fun b o _ _ hc e _ => k b o (fun z => hc (by simp [z])) e) (fun b o _ _ hc e _ => ⟨o.slots, k b o (fun z => hc (by simp [z])) e⟩) (fun _ _ _ _ n => n)
    (fun b o hc e => ⟨o, k b o (fun z => hc (by simp [z])) e⟩) (fun _ _ e => e) (fun _ _ _ e => e) (fun b ps e => ⟨#[], by rw [e]; simp⟩) (fun m hm => ?_) (fun b u e => ?_) I.bare
  · have e : b = it := by simpa using hb
    subst e
    exact ⟨h1, hL, h2, h3⟩
  · obtain ⟨o, es, ep, ho, r⟩ := hm
    exact ⟨o, es, ep, k _ o (Ne.symm hL) ho, r⟩
  · refine (I.hok b u e).stay (fun c v hc q => k c v ?_ q) (fun _ q => q) fun _ _ q => q
    rcases hc with z | z
    · rw [z]; exact nit b u e
    · exact nit c _ z
theorem Inv.tok (I : Inv X pins σ H s) (t : Nat) : Inv X pins σ H { s with toks := t } := I.un (h' := s.heap) (t' := t) Un.refl I.hok
/-- all objects kept -/
theorem Inv.kept {t' : Nat} (I : Inv X pins σ H s) (k : ∀ b u, s.heap.get? b = some u → h'.get? b = some u) : Inv X pins σ H { s with heap := h', toks := t' } := I.un (Un.kept k) (I.hok.kept k)
/-- a new object laid and tracked -/
theorem Inv.laid {a : Addr} {o : HO} {t' : Nat} (I : Inv X pins σ H s) (k : ∀ b u, s.heap.get? b = some u → h'.get? b = some u) (hp : s.heap.objs.size ≤ a) (new : ObjOk X.prog X.w (upd H a o) h' a o) :
    Inv X pins σ (upd H a o) { s with heap := h', toks := t' } := I.un (Un.laid k hp (I.hok.fresh hp)) (I.hok.laid k hp new)
/-- an object written -/
theorem Inv.write {x e : Addr} {o : HO} {t' : Nat} (I : Inv X pins σ H s) (mu : Mut (H x)) (he : e = x ∨ H e = some (.own x)) (k : ∀ b u, b ≠ e → s.heap.get? b = some u → h'.get? b = some u) (heo : ∃ u, h'.get? e = some u)
    (new : ObjOk X.prog X.w (upd H x o) h' x o) : Inv X pins σ (upd H x o) { s with heap := h', toks := t' } := I.un (Un.write mu he k heo) (I.hok.write mu he k heo new)
/-- forgetting slots, pins -/
theorem Inv.weak {σ' : List (Option V)} (I : Inv X pins σ H s) (hl : σ'.length = σ.length) (w : ∀ (i : Nat) v, σ'[i]? = some (some v) → σ[i]? = some (some v)) : Inv X pins σ' H s :=
  ⟨I.ok, I.os, I.bare, I.base, let ⟨m, hn, hl'⟩ := I.loc; ⟨m, hn, fun i x v e1 e2 e3 => hl' i x v e1 (w i v e2) e3⟩, I.cell, I.free, I.freeC, I.pin, I.hok, hl.trans I.len⟩
theorem Inv.pins_of {pins' : List (Addr × Obj)} (I : Inv X pins σ H s) (h : ∀ p ∈ pins', s.heap.get? p.1 = some p.2 ∧ H p.1 = none ∧ p.1 ≠ X.env.locals ∧ p.1 ∉ X.fs ∧ ∀ v, p.2.data ≠ .cell v) : Inv X pins' σ H s :=
  ⟨I.ok, I.os, I.bare, I.base, I.loc, I.cell, I.free, I.freeC, fun p hp => (List.mem_append.mp hp).elim (fun z => I.pin p (List.mem_append_left _ z)) (h p), I.hok, I.len⟩

theorem nodup_ix {N : List Str} (hN : N.Nodup) {i j : Nat} {x : Str} (a : N[i]? = some x) (b : N[j]? = some x) : i = j := by
  obtain ⟨h1, e1⟩ := List.getElem?_eq_some_iff.mp a
  obtain ⟨h2, e2⟩ := List.getElem?_eq_some_iff.mp b
  exact (List.getElem_inj hN).mp (e1.trans e2.symm)

/-- a name is stored; what changed -/
theorem store_ok2 {M : Model} {A : Around} {E : Value → Shared → Prop} {i : Nat} {x : Str} {v : V} {u : Value} {Q : Unit → Shared → Prop} (I : Inv X pins σ H s) (hN : X.N.Nodup) (hi : X.N[i]? = some x) (hx : Loc X.env.scope x) (r : RelV v u)
    (h : ∀ s', Inv X pins (σ.set i (some v)) H s' → (∃ a, Heap.SameBut a s.heap s'.heap ∧ (a = X.env.locals ∨ X.env.cells.lookup x = some a)) → Q () s') (hf : X.fn x = true ∨ X.env.scope.names.lookup x = some .local := by first | exact .inl rfl | exact .inr rfl | assumption) : wpAny M A (storeName X.env x u) Q E s := by
  obtain ⟨m, hn, hl⟩ := id I.loc
  have hcls : (X.env.scope.kind == .class || (X.env.scope.kind == .module && X.env.locals != X.env.globals)) = false := by rw [I.ok.kind]; rfl
  have hiσ : i < σ.length := by rw [I.len]; exact (List.getElem?_eq_some_iff.mp hi).1
  have cne := I.cne
  have tracked : ∀ {a : Addr} {h' : Heap}, (∃ o, s.heap.get? a = some o ∧ H a = none) → Heap.SameBut a s.heap h' → HOk X.prog X.w H h' := fun {a h'} ha hs b ob e => by
    obtain ⟨_, _, hfree⟩ := ha
    refine (I.hok b ob e).stay (fun c w' hc q => (hs.2 c ?_).trans q) (fun _ q => q) fun _ _ q => q
    rintro rfl
    rcases hc with rfl | hc
    · rw [hfree] at e; cases e
    · rw [hfree] at hc; cases hc
  rcases hx with hk | hk
  · refine wpAny_storeName_local hk hn (fun h' hn' hs => ?_) hcls
    obtain ⟨oL, _, _, hoL, _⟩ := id hn
    refine h _ ⟨I.ok, I.os, I.bare, ⟨fun b o e n hb hx => ?_, fun b o e n hb hx => ?_, I.base.free, fun b o e hx => ?_, I.base.tups, I.base.frzs, I.base.tbls⟩, ⟨_, hn', fun j y v' e1 e2 e3 => ?_⟩, fun y c e => ?_, I.free, I.freeC, fun p hp => ?_, tracked ⟨oL, hoL, I.free⟩ hs, by simpa using I.len⟩ ⟨_, hs, .inl rfl⟩
    · exact (hs.2 b (Nat.ne_of_lt (Nat.lt_of_lt_of_le (Heap.lt_size e) I.ok.above))).trans (I.base.keep b o e n hb hx)
    · obtain ⟨sl, e1⟩ := I.base.slot b o e n hb hx
      exact ⟨sl, (hs.2 b (Nat.ne_of_lt (Nat.lt_of_lt_of_le (Heap.lt_size e) I.ok.above))).trans e1⟩
    · obtain ⟨o', e1⟩ := I.base.there b o e hx
      exact ⟨o', (hs.2 b (Nat.ne_of_lt (Nat.lt_of_lt_of_le (Heap.lt_size e) I.ok.above))).trans e1⟩
    · by_cases hj : j = i
      · subst hj
        rw [hi] at e1; cases e1
        rw [List.getElem?_set_self hiσ] at e2
        cases e2
        exact ⟨u, r, .inl ⟨hk, by simp⟩⟩
      · rw [List.getElem?_set_ne (Ne.symm hj)] at e2
        obtain ⟨u', r', q⟩ := hl j y v' e1 e2 e3
        refine ⟨u', r', ?_⟩
        rcases q with ⟨k, e⟩ | ⟨k, c, e, z⟩
        · refine .inl ⟨k, ?_⟩
          have : y ≠ x := fun e => hj (nodup_ix hN e1 (e ▸ hi))
          simp [this, e]
        · exact .inr ⟨k, c, e, z.sameBut hs (cne y c e)⟩
    · obtain ⟨w', z⟩ := I.cell y c e
      exact ⟨w', z.sameBut hs (cne y c e)⟩
    · obtain ⟨e, n, ne, nf, d⟩ := I.pin p hp
      exact ⟨(hs.2 p.1 ne).trans e, n, ne, nf, d⟩
  · have hfn : X.fn x = true := by
      rcases hf with z | z
      · exact z
      · rw [z] at hk; cases hk
    obtain ⟨c, hc⟩ := I.ok.has x (.inl hk)
    obtain ⟨w', z⟩ := I.cell x c hc
    refine wpAny_storeName_cell I.ok.kind hk hc z (fun h' hc' hs => ?_)
    obtain ⟨oc, hoc, hocd⟩ := id z
    refine h { s with heap := h' } ⟨I.ok, I.os, I.bare, ⟨fun b o e n hb hx => ?_, fun b o e n hb hx => ?_, I.base.free, fun b o e hx => ?_, I.base.tups, I.base.frzs, I.base.tbls⟩, ⟨m, hn.sameBut hs (Ne.symm (cne x c hc)), fun j y v' e1 e2 e3 => ?_⟩, fun y c' e => ?_, I.free, I.freeC, fun p hp => ?_, tracked ⟨oc, hoc, I.freeC x c hc⟩ hs, by simpa using I.len⟩ ⟨c, hs, .inr hc⟩
    · exact (hs.2 b (Nat.ne_of_lt (Nat.lt_of_lt_of_le (Heap.lt_size e) (I.ok.cab x c hfn hc)))).trans (I.base.keep b o e n hb hx)
    · obtain ⟨sl, e1⟩ := I.base.slot b o e n hb hx
      exact ⟨sl, (hs.2 b (Nat.ne_of_lt (Nat.lt_of_lt_of_le (Heap.lt_size e) (I.ok.cab x c hfn hc)))).trans e1⟩
    · obtain ⟨o', e1⟩ := I.base.there b o e hx
      exact ⟨o', (hs.2 b (Nat.ne_of_lt (Nat.lt_of_lt_of_le (Heap.lt_size e) (I.ok.cab x c hfn hc)))).trans e1⟩
    · by_cases hj : j = i
      · subst hj
        rw [hi] at e1; cases e1
        rw [List.getElem?_set_self hiσ] at e2
        cases e2
        exact ⟨u, r, .inr ⟨.inl hk, c, hc, hc'⟩⟩
      · rw [List.getElem?_set_ne (Ne.symm hj)] at e2
        obtain ⟨u', r', q⟩ := hl j y v' e1 e2 e3
        refine ⟨u', r', ?_⟩
        rcases q with q | ⟨k, c', e, z'⟩
        · exact .inl q
        · refine .inr ⟨k, c', e, z'.sameBut hs ?_⟩
          rintro rfl
          exact hj (nodup_ix hN e1 (I.ok.inj _ _ _ e hc ▸ hi))
    · by_cases hcc : c' = c
      · subst hcc; exact ⟨_, hc'⟩
      · obtain ⟨w2, z2⟩ := I.cell y c' e
        exact ⟨w2, z2.sameBut hs hcc⟩
    · obtain ⟨e, n, ne, nf, d⟩ := I.pin p hp
      refine ⟨(hs.2 p.1 ?_).trans e, n, ne, nf, d⟩
      intro q
      rw [q, hoc] at e
      have q' : oc = p.2 := Option.some.inj e
      exact d w' (by rw [← q']; exact hocd)
theorem store_ok {M : Model} {A : Around} {E : Value → Shared → Prop} {i : Nat} {x : Str} {v : V} {u : Value} {Q : Unit → Shared → Prop} (I : Inv X pins σ H s) (hN : X.N.Nodup) (hi : X.N[i]? = some x) (hx : Loc X.env.scope x) (r : RelV v u)
    (h : ∀ s', Inv X pins (σ.set i (some v)) H s' → Q () s') (hf : X.fn x = true ∨ X.env.scope.names.lookup x = some .local := by first | exact .inl rfl | exact .inr rfl | assumption) : wpAny M A (storeName X.env x u) Q E s :=
  store_ok2 I hN hi hx r (fun s' I' _ => h s' I') hf
/-- behind a call or a block, the state as it is -/
theorem Inv.call' {s' : Shared} {ch : List Addr} (I : Inv X pins σ H s) (ho : s'.os = s.os) (u : Un (frs X.stack) ch H H' s.heap s'.heap) (hok : HOk X.prog X.w H' s'.heap) (hg : AllBare s'.gens)
    (hch : ∀ b ∈ ch, (b ∈ X.ex ∨ X.s₀.heap.objs.size ≤ b) ∧ b ≠ X.env.locals ∧ (∀ x c, X.env.cells.lookup x = some c → c ≠ b) ∧ ∀ p ∈ X.pn ++ pins, p.1 ≠ b) : Inv X pins σ H' s' := by
  obtain ⟨h', g', d', t', o'⟩ := s'
  have e : o' = s.os := ho
  subst e
  exact I.call (g' := g') (t' := t') (d' := d') u hok hg hch
end

/-! ### the judgements -/
/-- an exception: its class, its own dict's address (where it has one), the abstract heap behind it -/
abbrev XK := Value → Option Addr → Hp → Prop
abbrev St := List (Option V)
abbrev VK := V → Hp → Prop
/-- an expression's reading; a test's; an argument list's -/
abbrev TE := St → Hp → VK → Prop
abbrev TT := St → Hp → (Bool → Hp → Prop) → Prop
abbrev TA := St → Hp → (List V → Hp → Prop) → Prop
/-- what is wanted behind a statement -/
structure Ends where
  nx : St → Hp → Prop
  rt : VK
  bk : St → Hp → Prop := fun _ _ => False
  ct : St → Hp → Prop := fun _ _ => False
abbrev TS := Ends → St → Hp → Prop

def EP (X : Cx) (pins : List (Addr × Obj)) (σ : St) (Q : VK) (u : Value) (s' : Shared) : Prop := ∃ v H', Inv X pins σ H' s' ∧ RelV v u ∧ Q v H'
def TP (X : Cx) (pins : List (Addr × Obj)) (σ : St) (Q : Bool → Hp → Prop) (b : Bool) (s' : Shared) : Prop := ∃ H', Inv X pins σ H' s' ∧ Q b H'
def AP (X : Cx) (pins : List (Addr × Obj)) (σ : St) (Q : List V → Hp → Prop) (us : List Value) (s' : Shared) : Prop := ∃ vs H', Inv X pins σ H' s' ∧ Vals vs us ∧ Q vs H'
def SP (X : Cx) (pins : List (Addr × Obj)) (D : Ends) (f : Flow) (s' : Shared) : Prop :=
  match f with
  | .next => ∃ σ' H', Inv X pins σ' H' s' ∧ D.nx σ' H'
  | .brk => ∃ σ' H', Inv X pins σ' H' s' ∧ D.bk σ' H'
  | .cont => ∃ σ' H', Inv X pins σ' H' s' ∧ D.ct σ' H'
  | .ret u => ∃ v σ' H', Inv X pins σ' H' s' ∧ RelV v u ∧ D.rt v H'

def PE (X : Cx) (e : Expr) (t : TE) : Prop :=
  ∀ (pins : List (Addr × Obj)) (s : Shared) (σ : St) (H : Hp) (Q : VK), Inv X pins σ H s → t σ H Q → wpAny (model X.prog X.w) X.A (eval e X.env) (EP X pins σ Q) X.xe s
def PT (X : Cx) (e : Expr) (t : TT) : Prop :=
  ∀ (pins : List (Addr × Obj)) (s : Shared) (σ : St) (H : Hp) (Q : Bool → Hp → Prop), Inv X pins σ H s → t σ H Q → wpAny (model X.prog X.w) X.A (isTrue e X.env (eval e X.env)) (TP X pins σ Q) X.xe s
/-- a test whatever its 'whole' is (and, or) -/
def PW (X : Cx) (e : Expr) (t : TT) : Prop :=
  ∀ (whole : Sem Value) (pins : List (Addr × Obj)) (s : Shared) (σ : St) (H : Hp) (Q : Bool → Hp → Prop), Inv X pins σ H s → t σ H Q → wpAny (model X.prog X.w) X.A (isTrue e X.env whole) (TP X pins σ Q) X.xe s
theorem PW.pt {X : Cx} {e : Expr} {t : TT} (h : PW X e t) : PT X e t := h _
/-- an argument list (no star), from the left -/
def PA (X : Cx) (es : List Expr) (t : TA) : Prop :=
  ∀ (pos : Pos) (pins : List (Addr × Obj)) (s : Shared) (σ : St) (H : Hp) (Q : List V → Hp → Prop), Inv X pins σ H s → t σ H Q → wpAny (model X.prog X.w) X.A (spliced (backTo pos (starEach es X.env))) (AP X pins σ Q) X.xe s
def PS (X : Cx) (st : Stmt) (t : TS) : Prop :=
  ∀ (pins : List (Addr × Obj)) (s : Shared) (σ : St) (H : Hp) (D : Ends), Inv X pins σ H s → t D σ H → wpAny (model X.prog X.w) X.A (exec st X.env) (SP X pins D) X.xe s
def PSs (X : Cx) (st : List Stmt) (t : TS) : Prop :=
  ∀ (pins : List (Addr × Obj)) (s : Shared) (σ : St) (H : Hp) (D : Ends), Inv X pins σ H s → t D σ H → wpAny (model X.prog X.w) X.A (execs st X.env) (SP X pins D) X.xe s
/-- weaken the end -/
theorem thn {α : Type} {t : Sem α} {Q Q' : α → Shared → Prop} {M : Model} {A : Around} {E : Value → Shared → Prop} {s : Shared} (h : wpAny M A t Q E s) (hQ : ∀ a s, Q a s → Q' a s) : wpAny M A t Q' E s := wpAny_mono h hQ fun _ _ x => x
end L2

namespace L2
open PySem PySem.Spec PyProof.Rows
section
variable {X : Cx}

/-- two expressions in a row -/
theorem bin {a b : Expr} {ta tb : TE} (ha : PE X a ta) (hb : PE X b tb) {pins : List (Addr × Obj)} {s : Shared} {σ : St} {H : Hp} {R : V → V → Hp → Prop} (I : Inv X pins σ H s) (h : ta σ H fun x H1 => tb σ H1 fun y H2 => R x y H2)
    {α : Type} {Q : α → Shared → Prop} {f : Value → Value → Sem α}
    (hf : ∀ v u s2 x y H2, Inv X pins σ H2 s2 → RelV x v → RelV y u → R x y H2 → wpAny (model X.prog X.w) X.A (f v u) Q X.xe s2) :
    wpAny (model X.prog X.w) X.A (eval a X.env) (fun v s₁ => wpAny (model X.prog X.w) X.A (eval b X.env) (fun u s₂ => wpAny (model X.prog X.w) X.A (f v u) Q X.xe s₂) X.xe s₁) X.xe s := by
  refine thn (ha pins s σ H _ I h) fun v s1 ⟨x, H1, I1, r1, q1⟩ => ?_
  refine thn (hb pins s1 σ H1 _ I1 q1) fun u s2 ⟨y, H2, I2, r2, q2⟩ => ?_
  exact hf v u s2 x y H2 I2 r1 r2 q2

/-! ### names and constants -/
def tVar (i : Nat) : TE := fun σ H Q => ∃ v, σ[i]? = some (some v) ∧ Q v H
def tC (v : V) : TE := fun _ H Q => Q v H
theorem pe_var {i : Nat} {x : Str} {pos : Pos} (hN : X.N[i]? = some x) (hv : Vis X.env.scope x) (hd : (x == ("__debug__" : Str)) = false := by decide) (hcd : (x == ("__classdict__" : Str)) = false := by decide) : PE X (.Name x pos) (tVar i) := by
  intro pins s σ H Q I h
  obtain ⟨v, e, h⟩ := h
  obtain ⟨m, hn, hl⟩ := I.loc
  obtain ⟨u, r, l⟩ := hl i x v hN e hv
  have fin : EP X pins σ Q u s := ⟨v, H, I, r, h⟩
  rcases l with ⟨hk, hm⟩ | ⟨hk, c, hc, hcell⟩
  · exact wpAny_Name (wpAny_loadName_local I.ok.kind hk hn hm fin) hd
  · rcases hk with hk | hk
    · exact wpAny_Name (wpAny_loadName_cell I.ok.kind hk hc hcell fin) hd
    · exact wpAny_Name (wpAny_loadName_free I.ok.kind hk hc hcell fin hcd) hd
theorem pe_int {i j pos} : PE X (.Constant (.int i) j pos) (tC (.int i)) := fun _ _ _ H _ I h => wpAny_Constant_int ⟨.int i, H, I.tok _, ⟨_, rfl⟩, h⟩
theorem pe_bl {b j pos} : PE X (.Constant (.bool b) j pos) (tC (.bl b)) := fun _ _ _ H _ I h => Constant_bool ⟨.bl b, H, I, rfl, h⟩
theorem pe_non {j pos} : PE X (.Constant .none j pos) (tC .non) := fun _ _ _ H _ I h => Constant_none ⟨.non, H, I, rfl, h⟩
theorem pe_str {x j pos} : PE X (.Constant (.str x) j pos) (tC (.str x)) := fun _ _ _ H _ I h => Calls.Constant_str ⟨.str x, H, I.tok _, ⟨_, rfl⟩, h⟩

/-- a global name of the def -/
def Gl (X : Cx) (x : Str) : Prop := X.env.kindOf x = some .globalImplicit
theorem ld_glob {E : Value → Shared → Prop} {pins : List (Addr × Obj)} {s : Shared} {σ : St} {H : Hp} {x : Str} {u : Value} {pos : Pos} {Q : Value → Shared → Prop} (I : Inv X pins σ H s) (hg : Gl X x) (hm : X.mg x = some u) (h : Q u s)
    (hd : (x == ("__debug__" : Str)) = false := by decide) : wpAny (model X.prog X.w) X.A (eval (.Name x pos) X.env) Q E s :=
  Calls.Name_function_global I.ok.kind hg (Calls.loadGlobal_global (by rw [I.ok.glob]; exact I.mod.glob.keeps I.bk) hm h) hd
theorem ld_blt {E : Value → Shared → Prop} {pins : List (Addr × Obj)} {s : Shared} {σ : St} {H : Hp} {x : Str} {u : Value} {pos : Pos} {Q : Value → Shared → Prop} (I : Inv X pins σ H s) (hg : Gl X x) (hm : X.mg x = none) (hv : bootBuiltins x = some u) (h : Q u s)
    (hn : x ≠ "__name__" := by decide) (hd : (x == ("__debug__" : Str)) = false := by decide) : wpAny (model X.prog X.w) X.A (eval (.Name x pos) X.env) Q E s := by
  obtain ⟨mb, h1, h2⟩ := I.mod.blt
  exact Calls.Name_function_global I.ok.kind hg (Calls.loadGlobal_builtin (by rw [I.ok.glob]; exact I.mod.glob.keeps I.bk) hm (by rw [I.ok.blt]; exact h1.keeps I.bk) ((h2 x hn).trans hv) h) hd
/-- a module's constant, a class, a function, as a value -/
theorem pe_glob {x : Str} {v : V} {u : Value} {pos : Pos} (hg : Gl X x) (hm : X.mg x = some u) (r : RelV v u) (hd : (x == ("__debug__" : Str)) = false := by decide) : PE X (.Name x pos) (tC v) :=
  fun _ _ _ H _ I h => ld_glob I hg hm ⟨v, H, I, r, h⟩ hd
theorem pe_bltn {x : Str} {v : V} {u : Value} {pos : Pos} (hg : Gl X x) (hm : X.mg x = none) (hv : bootBuiltins x = some u) (r : RelV v u) (hn : x ≠ "__name__" := by decide) (hd : (x == ("__debug__" : Str)) = false := by decide) : PE X (.Name x pos) (tC v) :=
  fun _ _ _ H _ I h => ld_blt I hg hm hv ⟨v, H, I, r, h⟩ hn hd

/-! ### arithmetic -/
/-- two ints -/
def t2I (ta tb : TE) (k : Int → Int → Hp → Prop) : St → Hp → Prop := fun σ H => ta σ H fun x H1 => tb σ H1 fun y H2 => ∃ i j, x = .int i ∧ y = .int j ∧ k i j H2
def tAdd (ta tb : TE) : TE := fun σ H Q => t2I ta tb (fun i j H2 => Q (.int (i + j)) H2) σ H
def tSub (ta tb : TE) : TE := fun σ H Q => t2I ta tb (fun i j H2 => Q (.int (i - j)) H2) σ H
/-- the left factor below 2^64 -/
def tMul (ta tb : TE) : TE := fun σ H Q => t2I ta tb (fun i j H2 => (-(2 ^ 64) < i ∧ i < 2 ^ 64) ∧ Q (.int (i * j)) H2) σ H
variable {a b : Expr} {ta tb : TE} {pos : Pos}
theorem pe_add (ha : PE X a ta) (hb : PE X b tb) : PE X (.BinOp a .Add b pos) (tAdd ta tb) := by
  intro pins s σ H Q I h
  refine wpAny_BinOp (bin ha hb I h fun v u s2 x y H2 I2 rx ry q => ?_)
  obtain ⟨i, j, rfl, rfl, q⟩ := q
  obtain ⟨t, rfl⟩ := rx
  obtain ⟨t', rfl⟩ := ry
  exact add_int ⟨.int _, H2, I2.tok _, ⟨_, rfl⟩, q⟩
theorem pe_sub (ha : PE X a ta) (hb : PE X b tb) : PE X (.BinOp a .Sub b pos) (tSub ta tb) := by
  intro pins s σ H Q I h
  refine wpAny_BinOp (bin ha hb I h fun v u s2 x y H2 I2 rx ry q => ?_)
  obtain ⟨i, j, rfl, rfl, q⟩ := q
  obtain ⟨t, rfl⟩ := rx
  obtain ⟨t', rfl⟩ := ry
  exact sub_int ⟨.int _, H2, I2.tok _, ⟨_, rfl⟩, q⟩
theorem pe_mul (ha : PE X a ta) (hb : PE X b tb) : PE X (.BinOp a .Mult b pos) (tMul ta tb) := by
  intro pins s σ H Q I h
  refine wpAny_BinOp (bin ha hb I h fun v u s2 x y H2 I2 rx ry q => ?_)
  obtain ⟨i, j, rfl, rfl, ⟨q1, q2⟩, q⟩ := q
  obtain ⟨t, rfl⟩ := rx
  obtain ⟨t', rfl⟩ := ry
  exact mul_int ⟨.int _, H2, I2.tok _, ⟨_, rfl⟩, q⟩ (.of_left (intBits_le_64 q1 q2))

/-! ### comparisons -/
def PC (X : Cx) (op : CmpOp) (a b : Expr) (t : TE) : Prop :=
  ∀ (pins : List (Addr × Obj)) (s : Shared) (σ : St) (H : Hp) (Q : VK), Inv X pins σ H s → t σ H Q →
    wpAny (model X.prog X.w) X.A (eval a X.env) (fun v s₁ => wpAny (model X.prog X.w) X.A (eval b X.env) (fun u s₂ => wpAny (model X.prog X.w) X.A (compareOp op v u) (EP X pins σ Q) X.xe s₂) X.xe s₁) X.xe s
theorem nobehind (b : Expr) {op : CmpOp} (h : op ≠ .In) (h2 : op ≠ .NotIn) : behindInMarks op b = false := by
  have e1 : (op == CmpOp.In) = false := by cases op <;> first | rfl | exact absurd rfl h
  have e2 : (op == CmpOp.NotIn) = false := by cases op <;> first | rfl | exact absurd rfl h2
  cases b <;> simp [behindInMarks, e1, e2]
def tCmp (p : Int → Int → Bool) (ta tb : TE) : TE := fun σ H Q => t2I ta tb (fun i j H2 => Q (.bl (p i j)) H2) σ H
abbrev tLt : TE → TE → TE := tCmp fun i j => decide (i < j)
abbrev tLe : TE → TE → TE := tCmp fun i j => decide (i ≤ j)
abbrev tGt : TE → TE → TE := tCmp fun i j => decide (j < i)
abbrev tGe : TE → TE → TE := tCmp fun i j => decide (j ≤ i)
abbrev tEqI : TE → TE → TE := tCmp fun i j => decide (i = j)
abbrev tNeI : TE → TE → TE := tCmp fun i j => !decide (i = j)
/-- a comparison of two ints, by its rule -/
theorem pc_int {op : CmpOp} {p : Int → Int → Bool} (ha : PE X a ta) (hb : PE X b tb)
    (rule : ∀ (i j : Int) (t u : Tok) (Q : Value → Shared → Prop) (s : Shared), Q (.bool (p i j)) s → wpAny (model X.prog X.w) X.A (compareOp op (.int i t) (.int j u)) Q X.xe s) : PC X op a b (tCmp p ta tb) := by
  intro pins s σ H Q I h
  refine bin ha hb I h fun v u s2 x y H2 I2 rx ry q => ?_
  obtain ⟨i, j, rfl, rfl, q⟩ := q
  obtain ⟨t, rfl⟩ := rx
  obtain ⟨t', rfl⟩ := ry
  exact rule i j t t' _ s2 ⟨.bl _, H2, I2, rfl, q⟩
theorem pc_lt (ha : PE X a ta) (hb : PE X b tb) : PC X .Lt a b (tLt ta tb) := pc_int ha hb fun _ _ _ _ _ _ h => lt_int h
theorem pc_le (ha : PE X a ta) (hb : PE X b tb) : PC X .LtE a b (tLe ta tb) := pc_int ha hb fun _ _ _ _ _ _ h => le_int h
theorem pc_gt (ha : PE X a ta) (hb : PE X b tb) : PC X .Gt a b (tGt ta tb) := pc_int ha hb fun _ _ _ _ _ _ h => gt_int h
theorem pc_ge (ha : PE X a ta) (hb : PE X b tb) : PC X .GtE a b (tGe ta tb) := pc_int ha hb fun _ _ _ _ _ _ h => ge_int h
theorem pc_eqI (ha : PE X a ta) (hb : PE X b tb) : PC X .Eq a b (tEqI ta tb) := pc_int ha hb fun _ _ _ _ _ _ h => eq_int (by rw [Bool.beq_eq_decide_eq]; exact h)
theorem pc_neI (ha : PE X a ta) (hb : PE X b tb) : PC X .NotEq a b (tNeI ta tb) := pc_int ha hb fun _ _ _ _ _ _ h => ne_int (by rw [bne, Bool.beq_eq_decide_eq]; exact h)
/-- is None -/
def tIsN (ta : TE) : TE := fun σ H Q => ta σ H fun x H1 => Q (.bl (decide (x = .non))) H1
def tNotN (ta : TE) : TE := fun σ H Q => ta σ H fun x H1 => Q (.bl (!decide (x = .non))) H1
theorem RelV.none_iff {x : V} {v : Value} (r : RelV x v) : (v == Value.none) = decide (x = .non) := by
  cases x with
  | non => cases r; rfl
  | bl _ => cases r; rfl
  | int _ => obtain ⟨t, rfl⟩ := r; rfl
  | str _ => obtain ⟨t, rfl⟩ := r; rfl
  | byt _ => obtain ⟨t, rfl⟩ := r; rfl
  | flt _ => obtain ⟨t, rfl⟩ := r; rfl
  | ref _ => cases r; rfl
  | ty _ => cases r; rfl
theorem pc_isN {j pos'} (ha : PE X a ta) : PC X .Is a (.Constant .none j pos') (tIsN ta) := by
  intro pins s σ H Q I h
  refine thn (ha pins s σ H _ I h) fun v s1 ⟨x, H1, I1, r1, q1⟩ => ?_
  exact Constant_none (is_none_gen ⟨.bl _, H1, I1, by rw [r1.none_iff]; rfl, q1⟩)
theorem pc_notN {j pos'} (ha : PE X a ta) : PC X .IsNot a (.Constant .none j pos') (tNotN ta) := by
  intro pins s σ H Q I h
  refine thn (ha pins s σ H _ I h) fun v s1 ⟨x, H1, I1, r1, q1⟩ => ?_
  exact Constant_none (isnot_none_gen ⟨.bl _, H1, I1, by rw [r1.none_iff]; rfl, q1⟩)
/-- a comparison as a value, as a test -/
def tB (t : TE) : TT := fun σ H Q => t σ H fun x H1 => ∃ c, x = .bl c ∧ Q c H1
theorem pe_cmp {op : CmpOp} {t : TE} (h : PC X op a b t) (h1 : behindInMarks op b = false := by first | exact nobehind _ (by decide) (by decide) | rfl) : PE X (.Compare a [op] [b] pos) t := fun pins s σ H Q I hw => wpAny_Compare1 (h pins s σ H Q I hw) h1
theorem pt_cmp {op : CmpOp} {t : TE} (h : PC X op a b t) (h1 : behindInMarks op b = false := by first | exact nobehind _ (by decide) (by decide) | rfl) : PT X (.Compare a [op] [b] pos) (tB t) := by
  intro pins s σ H Q I hw
  refine wpAny_isTrue_Compare1 (thn (h pins s σ H _ I hw) fun v s1 h1 => thn h1 fun u s2 h2 => thn h2 fun c s3 ⟨x, H1, I1, r1, q1⟩ => ?_) h1
  obtain ⟨d, rfl, q⟩ := q1
  cases r1
  exact wpAny_truthy_bool ⟨H1, I1, q⟩
/-- an expression whose value is a bool, as a test -/
theorem pt_val {e : Expr} {t : TE} (h : PE X e t) (he : ∀ whole, isTrue e X.env whole = (do let v ← whole; standAt e.pos; holding [v] (truthy v)) := by intro _; rfl) : PT X e (tB t) := by
  intro pins s σ H Q I hw
  refine isTrue_plain (thn (h pins s σ H _ I hw) fun v s1 ⟨x, H1, I1, r1, q1⟩ => ?_) (he _)
  obtain ⟨d, rfl, q⟩ := q1
  cases r1
  exact wpAny_truthy_bool ⟨H1, I1, q⟩

/-! ### and, or, not -/
variable {tA tB' : TT} {rest : List Expr}
def tAnd (t u : TT) : TT := fun σ H Q => t σ H fun c H1 => if c = true then u σ H1 Q else Q false H1
def tOr (t u : TT) : TT := fun σ H Q => t σ H fun c H1 => if c = true then Q true H1 else u σ H1 Q
def tNot (t : TT) : TT := fun σ H Q => t σ H fun c H1 => Q (!c) H1
theorem pw_and1 (ha : PT X a tA) : PW X (.BoolOp .And [a] pos) tA := by
  intro wh pins s σ H Q I h
  refine isTrue_and (thn (ha pins s σ H Q I h) fun c s1 e => ?_)
  cases c with
  | true => exact isTrue_and_nil e
  | false => exact e
theorem pw_or1 (ha : PT X a tA) : PW X (.BoolOp .Or [a] pos) tA := by
  intro wh pins s σ H Q I h
  refine isTrue_or (thn (ha pins s σ H Q I h) fun c s1 e => ?_)
  cases c with
  | false => exact isTrue_or_nil e
  | true => exact e
theorem pw_and (ha : PT X a tA) (hb : PW X (.BoolOp .And (b :: rest) pos) tB') : PW X (.BoolOp .And (a :: b :: rest) pos) (tAnd tA tB') := by
  intro wh pins s σ H Q I h
  refine isTrue_and (thn (ha pins s σ H _ I h) fun c s1 ⟨H1, I1, q1⟩ => ?_)
  cases c with
  | true => exact hb wh pins s1 σ H1 Q I1 q1
  | false => exact ⟨H1, I1, q1⟩
theorem pw_or (ha : PT X a tA) (hb : PW X (.BoolOp .Or (b :: rest) pos) tB') : PW X (.BoolOp .Or (a :: b :: rest) pos) (tOr tA tB') := by
  intro wh pins s σ H Q I h
  refine isTrue_or (thn (ha pins s σ H _ I h) fun c s1 ⟨H1, I1, q1⟩ => ?_)
  cases c with
  | true => exact ⟨H1, I1, q1⟩
  | false => exact hb wh pins s1 σ H1 Q I1 q1
theorem pt_not (ha : PT X a tA) : PT X (.UnaryOp .Not a pos) (tNot tA) := by
  intro pins s σ H Q I h
  exact isTrue_not (ha pins s σ H (fun c H1 => Q (!c) H1) I h)
/-- .. as values (bools) -/
def tAndV (ta tb : TE) : TE := fun σ H Q => ta σ H fun x H1 => ∃ c, x = .bl c ∧ if c = true then tb σ H1 Q else Q (.bl false) H1
def tOrV (ta tb : TE) : TE := fun σ H Q => ta σ H fun x H1 => ∃ c, x = .bl c ∧ if c = true then Q (.bl true) H1 else tb σ H1 Q
def tNotV (ta : TE) : TE := fun σ H Q => ta σ H fun x H1 => ∃ c, x = .bl c ∧ Q (.bl (!c)) H1
theorem pe_one {op} {t : TE} (h : PE X a t) : PE X (.BoolOp op [a] pos) t := fun pins s σ H Q I hw => BoolOp_one (h pins s σ H Q I hw)
theorem pe_and (ha : PE X a ta) (hb : PE X (.BoolOp .And (b :: rest) pos) tb) : PE X (.BoolOp .And (a :: b :: rest) pos) (tAndV ta tb) := by
  intro pins s σ H Q I h
  refine BoolOp_and (thn (ha pins s σ H _ I h) fun v s1 ⟨x, H1, I1, r1, q1⟩ => ?_)
  obtain ⟨c, rfl, q1⟩ := q1
  cases r1
  refine wpAny_truthy_bool ?_
  cases c with
  | true => exact hb pins s1 σ H1 Q I1 q1
  | false => exact ⟨.bl false, H1, I1, rfl, q1⟩
theorem pe_or (ha : PE X a ta) (hb : PE X (.BoolOp .Or (b :: rest) pos) tb) : PE X (.BoolOp .Or (a :: b :: rest) pos) (tOrV ta tb) := by
  intro pins s σ H Q I h
  refine BoolOp_or (thn (ha pins s σ H _ I h) fun v s1 ⟨x, H1, I1, r1, q1⟩ => ?_)
  obtain ⟨c, rfl, q1⟩ := q1
  cases r1
  refine wpAny_truthy_bool ?_
  cases c with
  | false => exact hb pins s1 σ H1 Q I1 q1
  | true => exact ⟨.bl true, H1, I1, rfl, q1⟩
theorem pe_not (ha : PE X a ta) : PE X (.UnaryOp .Not a pos) (tNotV ta) := by
  intro pins s σ H Q I h
  refine UnaryOp_ (thn (ha pins s σ H _ I h) fun v s1 ⟨x, H1, I1, r1, q1⟩ => ?_)
  obtain ⟨c, rfl, q1⟩ := q1
  cases r1
  exact not_of (wpAny_truthy_bool ⟨.bl (!c), H1, I1, rfl, q1⟩)
/-- a if t else b -/
def tIf (t : TT) (ta tb : TE) : TE := fun σ H Q => t σ H fun c H1 => if c = true then ta σ H1 Q else tb σ H1 Q
theorem pe_ifExp {c : Expr} (hc : PT X c tA) (ha : PE X a ta) (hb : PE X b tb) : PE X (.IfExp c a b pos) (tIf tA ta tb) := by
  intro pins s σ H Q I h
  refine wpAny_IfExp (thn (hc pins s σ H _ I h) fun d s1 ⟨H1, I1, q1⟩ => ?_)
  cases d with
  | true => exact ha pins s1 σ H1 Q I1 q1
  | false => exact hb pins s1 σ H1 Q I1 q1
end
end L2

namespace L2
open PySem PySem.Spec PyProof.Rows

/-! ### a list, a tuple that is read: tracked, frozen, or an object of the module -/
def SqL (K : PySem.W.Frag) (H : Hp) (a : Addr) (xs : List V) : Prop :=
  Rd H a (.lst xs) ∨
    ∃ (o : Obj) (its : Array Value) (n : Nat), K.lookup a = some o ∧ o.cls = .type "list" ∧ o.dict = none ∧ o.data = .seq its n ∧ its.size ≤ sizeLine ∧ Vals xs its.toList
def SqT (K : PySem.W.Frag) (H : Hp) (a : Addr) (xs : List V) : Prop :=
  Rd H a (.tup xs) ∨
    ∃ (o : Obj) (its : Array Value) (n : Nat), K.lookup a = some o ∧ o.cls = .type "tuple" ∧ o.data = .seq its n ∧ its.size ≤ sizeLine ∧ Vals xs its.toList
def absV : Value → Option V
  | .none => some .non
  | .bool b => some (.bl b)
  | .int i _ => some (.int i)
  | .str x _ => some (.str x)
  | .bytes b _ => some (.byt b)
  | .float b _ => some (.flt b)
  | .ref a => some (.ref a)
  | .type n => some (.ty n)
  | _ => none
theorem RelV.abs {x : V} {u : Value} (r : RelV x u) : absV u = some x := by
  cases x with
  | non => cases r; rfl
  | bl _ => cases r; rfl
  | int _ => obtain ⟨t, rfl⟩ := r; rfl
  | str _ => obtain ⟨t, rfl⟩ := r; rfl
  | byt _ => obtain ⟨t, rfl⟩ := r; rfl
  | flt _ => obtain ⟨t, rfl⟩ := r; rfl
  | ref _ => cases r; rfl
  | ty _ => cases r; rfl
theorem RelV.inj {x y : V} {u : Value} (r : RelV x u) (q : RelV y u) : x = y := Option.some.inj (r.abs.symm.trans q.abs)
theorem Vals.inj : ∀ {xs ys : List V} {us : List Value}, Vals xs us → Vals ys us → xs = ys
  | _, _, _, .nil, .nil => rfl
  | _, _, _, .cons r t, .cons r' t' => by rw [r.inj r', Vals.inj t t']
section
variable {X : Cx} {pins : List (Addr × Obj)} {σ : St} {H : Hp} {s : Shared} {a : Addr} {xs ys : List V}
theorem SqL.of {K : PySem.W.Frag} (h : H a = some (.lst xs)) : SqL K H a xs := .inl (.inl h)
theorem SqT.of {K : PySem.W.Frag} (h : H a = some (.tup xs)) : SqT K H a xs := .inl (.inl h)
theorem Inv.list (I : Inv X pins σ H s) (h : SqL X.K H a xs) : ∃ its : List Value, Vals xs its ∧ PlainL s.heap a its.toArray ∧ xs.length ≤ sizeLine := by
  rcases h with h | ⟨o, its, n, hk, hc, hd, hs, hz, r⟩
  · obtain ⟨z, its, n, r, e⟩ := h.ok I.hok
    exact ⟨its, r, ⟨_, n, e, rfl, rfl, rfl⟩, z⟩
  · refine ⟨its.toList, r, ⟨o, n, I.kIn a o hk, hc, hd, by simpa using hs⟩, ?_⟩
    have e := r.length
    simp only [Array.length_toList] at e
    omega
theorem Inv.tuple (I : Inv X pins σ H s) (h : SqT X.K H a xs) : ∃ its : List Value, Vals xs its ∧ IsTup s.heap a its.toArray ∧ xs.length ≤ sizeLine := by
  rcases h with h | ⟨o, its, n, hk, hc, hs, hz, r⟩
  · obtain ⟨z, its, r, p⟩ := h.ok I.hok
    exact ⟨its, r, p, z⟩
  · refine ⟨its.toList, r, ⟨o, I.kIn a o hk, hc, n, by simpa using hs⟩, ?_⟩
    have e := r.length
    simp only [Array.length_toList] at e
    omega
theorem Inv.list_inj (I : Inv X pins σ H s) (h : SqL X.K H a xs) (h' : SqL X.K H a ys) : xs = ys := by
  obtain ⟨its, r, ⟨o, n, e, _, _, d⟩, _⟩ := I.list h
  obtain ⟨its', r', ⟨o', n', e', _, _, d'⟩, _⟩ := I.list h'
  rw [e] at e'; cases e'
  rw [d] at d'
  injection d' with d1 _
  have : its = its' := by simpa using congrArg Array.toList d1
  subst this
  exact r.inj r'
theorem Inv.tuple_inj (I : Inv X pins σ H s) (h : SqT X.K H a xs) (h' : SqT X.K H a ys) : xs = ys := by
  obtain ⟨its, r, ⟨o, e, _, n, d⟩, _⟩ := I.tuple h
  obtain ⟨its', r', ⟨o', e', _, n', d'⟩, _⟩ := I.tuple h'
  rw [e] at e'; cases e'
  rw [d] at d'
  injection d' with d1 _
  have : its = its' := by simpa using congrArg Array.toList d1
  subst this
  exact r.inj r'
end

/-! ### another wish about exceptions -/
abbrev Cx.wish (X : Cx) (E : Value → Shared → Prop) : Cx := { X with xe := E }
/-- no exception leaves -/
abbrev Cx.nox (X : Cx) : Cx := X.wish fun _ _ => False
theorem Cx.Ok.wish {X : Cx} (ok : X.Ok) (E : Value → Shared → Prop) : (X.wish E).Ok :=
  ⟨ok.mod, ok.kind, ok.glob, ok.blt, ok.above, ok.inj, ok.has, ok.cab, ok.hd, ok.frames, ok.stk, ok.exf, ok.bs, ok.bsz, ok.noex, ok.exfs, ok.funs, ok.frf⟩
theorem Cx.Ok.unwish {X : Cx} {E : Value → Shared → Prop} (ok : (X.wish E).Ok) : X.Ok :=
  ⟨ok.mod, ok.kind, ok.glob, ok.blt, ok.above, ok.inj, ok.has, ok.cab, ok.hd, ok.frames, ok.stk, ok.exf, ok.bs, ok.bsz, ok.noex, ok.exfs, ok.funs, ok.frf⟩
section
variable {X : Cx} {pins : List (Addr × Obj)} {σ : St} {H : Hp} {s : Shared} {E : Value → Shared → Prop}
theorem Inv.wish (I : Inv X pins σ H s) (E : Value → Shared → Prop) : Inv (X.wish E) pins σ H s := ⟨I.ok.wish E, I.os, I.bare, I.base, I.loc, I.cell, I.free, I.freeC, I.pin, I.hok, I.len⟩
theorem Inv.unwish (I : Inv (X.wish E) pins σ H s) : Inv X pins σ H s := ⟨I.ok.unwish, I.os, I.bare, I.base, I.loc, I.cell, I.free, I.freeC, I.pin, I.hok, I.len⟩
theorem SP.unwish {D : Ends} {f : Flow} {s' : Shared} (h : SP (X.wish E) pins D f s') : SP X pins D f s' := by
  cases f with
  | next => obtain ⟨σ', H', I, q⟩ := h; exact ⟨σ', H', I.unwish, q⟩
  | brk => obtain ⟨σ', H', I, q⟩ := h; exact ⟨σ', H', I.unwish, q⟩
  | cont => obtain ⟨σ', H', I, q⟩ := h; exact ⟨σ', H', I.unwish, q⟩
  | ret u => obtain ⟨v, σ', H', I, r, q⟩ := h; exact ⟨v, σ', H', I.unwish, r, q⟩
theorem PE.nox {e : Expr} {t : TE} (h : PE X.nox e t) : PE X e t := fun pins s σ H Q I hw =>
  wpAny_mono (h pins s σ H Q (I.wish _) hw) (fun _ _ ⟨v, H', I', r, q⟩ => ⟨v, H', I'.unwish, r, q⟩) fun _ _ z => False.elim z
theorem PT.nox {e : Expr} {t : TT} (h : PT X.nox e t) : PT X e t := fun pins s σ H Q I hw =>
  wpAny_mono (h pins s σ H Q (I.wish _) hw) (fun _ _ ⟨H', I', q⟩ => ⟨H', I'.unwish, q⟩) fun _ _ z => False.elim z
theorem PSs.nox {st : List Stmt} {t : TS} (h : PSs X.nox st t) : PSs X st t := fun pins s σ H D I hw =>
  wpAny_mono (h pins s σ H D (I.wish _) hw) (fun _ _ q => q.unwish) fun _ _ z => False.elim z
end

/-! ### blocks and small statements -/
section
variable {X : Cx} {st : Stmt} {rest : List Stmt} {t u : TS} {e : Expr} {te : TE} {pos : Pos}
def tNext : TS := fun D σ H => D.nx σ H
def tSeq (t u : TS) : TS := fun D σ H => t { D with nx := u D } σ H
theorem pss_nil : PSs X [] tNext := fun _ _ σ H _ I h => wpAny_execs_nil ⟨σ, H, I, h⟩
theorem pss_cons (h1 : PS X st t) (h2 : PSs X rest u) : PSs X (st :: rest) (tSeq t u) := by
  intro pins s σ H D I h
  refine wpAny_execs_cons (thn (h1 pins s σ H { D with nx := u D } I h) fun f s1 q => ?_)
  cases f with
  | next =>
    obtain ⟨σ', H', I', q⟩ := q
    exact h2 pins s1 σ' H' D I' q
  | ret v => exact q
  | brk => exact q
  | cont => exact q
theorem pss_one (h1 : PS X st t) : PSs X [st] t := by
  intro pins s σ H D I h
  refine wpAny_execs_cons (thn (h1 pins s σ H D I h) fun f s1 q => ?_)
  cases f with
  | next => exact wpAny_execs_nil q
  | ret v => exact q
  | brk => exact q
  | cont => exact q
def tBreak : TS := fun D σ H => D.bk σ H
def tCont : TS := fun D σ H => D.ct σ H
theorem ps_pass : PS X (.Pass pos) tNext := fun _ _ σ H _ I h => wpAny_Pass ⟨σ, H, I, h⟩
theorem ps_break : PS X (.Break pos) tBreak := fun _ _ σ H _ I h => wpAny_Break ⟨σ, H, I, h⟩
theorem ps_continue : PS X (.Continue pos) tCont := fun _ _ σ H _ I h => wpAny_Continue ⟨σ, H, I, h⟩
/-- in a def's body nothing is shown -/
theorem Inv.quiet {pins : List (Addr × Obj)} {σ : St} {H : Hp} {s : Shared} (I : Inv X pins σ H s) : interactive X.env = false := by simp [interactive, I.ok.kind]
/-- a docstring -/
theorem ps_doc {x j pos pos'} : PS X (.Expr (.Constant (.str x) j pos) pos') tNext := fun _ s σ H _ I h => wpAny_Expr (Calls.Constant_str (show SP X _ _ .next { s with toks := s.toks + 1 } from ⟨σ, H, I.tok _, h⟩)) I.quiet
/-- an expression whose value is dropped -/
def tDrop (te : TE) : TS := fun D σ H => te σ H fun _ H1 => D.nx σ H1
theorem ps_expr (he : PE X e te) (hs : swapsWith e none pos.line X.env = pure false := by rfl) : PS X (.Expr e pos) (tDrop te) := by
  intro pins s σ H D I h
  exact wpAny_Expr_any (thn (he pins s σ H _ I h) fun v s1 ⟨x, H1, I1, r1, q1⟩ => ⟨σ, H1, I1, q1⟩) I.quiet hs
def tRet (te : TE) : TS := fun D σ H => te σ H D.rt
theorem ps_ret (he : PE X e te) : PS X (.Return (some e) pos) (tRet te) := by
  intro pins s σ H D I h
  exact wpAny_Return_some (thn (he pins s σ H _ I h) fun v s1 ⟨x, H1, I1, r1, q1⟩ => ⟨x, σ, H1, I1, r1, q1⟩)
def tRetN : TS := fun D _ H => D.rt .non H
theorem ps_retN : PS X (.Return none pos) tRetN := fun _ _ σ H _ I h => wpAny_Return_none ⟨.non, σ, H, I, rfl, h⟩
def tIfS (c : TT) (t u : TS) : TS := fun D σ H => c σ H fun b H1 => if b = true then t D σ H1 else u D σ H1
theorem ps_if {c : Expr} {a b : List Stmt} {tc : TT} (hc : PT X c tc) (ha : PSs X a t) (hb : PSs X b u) : PS X (.If c a b pos) (tIfS tc t u) := by
  intro pins s σ H D I h
  refine wpAny_If (thn (hc pins s σ H _ I h) fun d s1 ⟨H1, I1, q1⟩ => ?_)
  cases d with
  | true => exact ha pins s1 σ H1 D I1 q1
  | false => exact hb pins s1 σ H1 D I1 q1
/-- code that the proof never comes to -/
def tNever : TS := fun _ _ _ => False
theorem ps_never : PS X st tNever := fun _ _ _ _ _ _ h => h.elim
theorem pss_never {sts : List Stmt} : PSs X sts tNever := fun _ _ _ _ _ _ h => h.elim
end

/-! ### targets -/
abbrev TG := V → St → Hp → (St → Hp → Prop) → Prop
abbrev TGs := List V → St → Hp → (St → Hp → Prop) → Prop
def PG (X : Cx) (target : Expr) (t : TG) : Prop :=
  ∀ (pins : List (Addr × Obj)) (s : Shared) (σ : St) (H : Hp) (v : V) (u : Value) (Q : St → Hp → Prop), Inv X pins σ H s → RelV v u → t v σ H Q →
    wpAny (model X.prog X.w) X.A (assign target X.env u) (fun _ s' => ∃ σ' H', Inv X pins σ' H' s' ∧ Q σ' H') X.xe s
/-- several targets, one after another -/
def PGs (X : Cx) (ts : List Expr) (t : TGs) : Prop :=
  ∀ (pins : List (Addr × Obj)) (s : Shared) (σ : St) (H : Hp) (vs : List V) (us : List Value) (Q : St → Hp → Prop), Inv X pins σ H s → Vals vs us → t vs σ H Q →
    wpAny (model X.prog X.w) X.A (assignInOrder ((assignEach ts X.env).map (·.2)) us) (fun _ s' => ∃ σ' H', Inv X pins σ' H' s' ∧ Q σ' H') X.xe s
/-- o[i] = v, by values -/
abbrev TSet := V → V → V → Hp → (Hp → Prop) → Prop
def PSet (X : Cx) (t : TSet) : Prop :=
  ∀ (pins : List (Addr × Obj)) (s : Shared) (σ : St) (H : Hp) (o i v : V) (ov iv u : Value) (Q : Hp → Prop), Inv X pins σ H s → RelV o ov → RelV i iv → RelV v u → t o i v H Q →
    wpAny (model X.prog X.w) X.A (setItem ov iv u) (fun _ s' => ∃ H', Inv X pins σ H' s' ∧ Q H') X.xe s
/-- a op= b, by values -/
abbrev TIp := V → V → Hp → VK → Prop
def PIp (X : Cx) (op : Operator) (t : TIp) : Prop :=
  ∀ (pins : List (Addr × Obj)) (s : Shared) (σ : St) (H : Hp) (x y : V) (v u : Value) (Q : VK), Inv X pins σ H s → RelV x v → RelV y u → t x y H Q →
    wpAny (model X.prog X.w) X.A (inplaceOp op v u) (EP X pins σ Q) X.xe s
section
variable {X : Cx} {pos : Pos}
def gName (i : Nat) : TG := fun v σ H Q => Q (σ.set i (some v)) H
theorem pg_name {i : Nat} {x : Str} (hN : X.N.Nodup) (hi : X.N[i]? = some x) (hx : Loc X.env.scope x) (hf : X.fn x = true ∨ X.env.scope.names.lookup x = some .local := by first | exact .inl rfl | exact .inr rfl | assumption) : PG X (.Name x pos) (gName i) := by
  intro pins s σ H v u Q I r h
  exact wpAny_assign_Name (store_ok I hN hi hx r (fun s' I' => ⟨_, H, I', h⟩) hf)
def gNil : TGs := fun vs σ H Q => vs = [] ∧ Q σ H
def gCons (t : TG) (u : TGs) : TGs := fun vs σ H Q => ∃ v r, vs = v :: r ∧ t v σ H fun σ' H' => u r σ' H' Q
theorem pgs_nil : PGs X [] gNil := by
  intro pins s σ H vs us Q I r h
  obtain ⟨e, h⟩ := h
  subst e
  cases r
  exact assignInOrder_nil ⟨σ, H, I, h⟩
theorem pgs_cons {e : Expr} {es : List Expr} {t : TG} {u : TGs} (h1 : PG X e t) (h2 : PGs X es u)
    (hs : (assignEach (e :: es) X.env).map (·.2) = assign e X.env :: (assignEach es X.env).map (·.2) := by rfl) : PGs X (e :: es) (gCons t u) := by
  intro pins s σ H vs us Q I r h
  obtain ⟨v, vr, e1, h⟩ := h
  subst e1
  cases r with
  | cons r rr =>
    rw [hs]
    refine assignInOrder_cons (thn (h1 pins s σ H _ _ _ I r h) fun _ s1 ⟨σ1, H1, I1, q1⟩ => ?_)
    exact h2 pins s1 σ1 H1 _ _ Q I1 rr q1
/-- (a, b, ..) = a tuple of that length -/
def gTup (K : PySem.W.Frag) (n : Nat) (t : TGs) : TG := fun v σ H Q => ∃ a xs, v = .ref a ∧ SqT K H a xs ∧ xs.length = n ∧ t xs σ H Q
theorem pg_tup {es : List Expr} {k : Nat} {t : TGs} {n : Nat} (hc : X.calm = true) (h : PGs X es t)
    (hn : (assignEach es X.env).length = n := by rfl) (hst : (assignEach es X.env).findIdx? (·.1) = none := by rfl) : PG X (.Tuple es k pos) (gTup X.K n t) := by
  intro pins s σ H v u Q I r hw
  obtain ⟨a, xs, e1, hq, hl, hw⟩ := hw
  subst e1
  cases r
  obtain ⟨its, rv, ht, hz⟩ := I.tuple hq
  refine assign_Tuple_tuple (I.ok.hd hc) ht (by simp [hn, ← hl, rv.length]) hst fun h' hx => ?_
  have I1 : Inv X pins σ H { s with heap := h' } := I.kept (t' := s.toks) fun b o e => hx b o (Nat.ne_of_lt (Heap.lt_size e)) e
  exact h pins _ σ H xs _ Q I1 (by simpa using rv) hw
/-- o[i] = .. -/
def gSub (to ti : TE) (t : TSet) : TG := fun v σ H Q => to σ H fun o H1 => ti σ H1 fun i H2 => t o i v H2 fun H3 => Q σ H3
theorem pg_sub {o i : Expr} {to ti : TE} {t : TSet} (ho : PE X o to) (hi : PE X i ti) (hs : PSet X t)
    (ha : ∀ v, assign (.Subscript o i pos) X.env v = (do
      let ov ← holding [v] (eval o X.env)
      let iv ← holding [v, ov] (eval i X.env)
      standAt pos
      holding [v, ov, iv] (setItem ov iv v)
      release [v, ov, iv] []) := by intro _; rfl) : PG X (.Subscript o i pos) (gSub to ti t) := by
  intro pins s σ H v u Q I r h
  rw [ha]
  refine wpAny_bind (wpAny_holding (thn (ho pins s σ H _ I h) fun ov s1 ⟨x, H1, I1, r1, q1⟩ => ?_))
  refine wpAny_bind (wpAny_holding (thn (hi pins s1 σ H1 _ I1 q1) fun iv s2 ⟨y, H2, I2, r2, q2⟩ => ?_))
  refine wpAny_bind (wpAny_standAt (wpAny_bind (wpAny_holding (thn (hs pins s2 σ H2 x y v ov iv u _ I2 r1 r2 r q2) fun _ s3 ⟨H3, I3, q3⟩ => ?_))))
  exact wpAny_release ⟨σ, H3, I3, q3⟩
/-- target = value -/
def tAsg (te : TE) (g : TG) : TS := fun D σ H => te σ H fun x H1 => g x σ H1 D.nx
theorem ps_asg {tg e : Expr} {te : TE} {g : TG} (he : PE X e te) (hg : PG X tg g) (hs : swapsWithSole [tg] e pos.line X.env = pure false := by rfl) (hw : swappedStores [tg] e X.env = pure none := by rfl)
    (h1 : (assignEach [tg] X.env).map (·.2) = [assign tg X.env] := by rfl) : PS X (.Assign [tg] e pos) (tAsg te g) := by
  intro pins s σ H D I h
  refine wpAny_Assign_stores (thn (he pins s σ H _ I h) fun v s1 ⟨x, H1, I1, r1, q1⟩ => ?_) hs hw
  rw [h1]
  exact thn (hg pins s1 σ H1 x v _ I1 r1 q1) fun _ s2 q => q
/-- name = value -/
theorem ps_set {i : Nat} {x : Str} {e : Expr} {te : TE} {pos' : Pos} (hN : X.N.Nodup) (hi : X.N[i]? = some x) (hx : Loc X.env.scope x) (he : PE X e te) (hs : swapsWith e (some (.Name x pos')) pos.line X.env = pure false := by rfl) (hf : X.fn x = true ∨ X.env.scope.names.lookup x = some .local := by first | exact .inl rfl | exact .inr rfl | assumption) :
    PS X (.Assign [.Name x pos'] e pos) (tAsg te (gName i)) := by
  intro pins s σ H D I h
  refine wpAny_Assign_Name (thn (he pins s σ H _ I h) fun v s1 ⟨y, H1, I1, r1, q1⟩ => ?_) hs
  exact store_ok I1 hN hi hx r1 (fun s2 I2 => ⟨_, H1, I2, q1⟩) hf
/-- a, b = x, y with plain local names: stored from the right; the pair itself is not tracked (the opening rows as in PyProof/Rows/TupAssign.lean:23) -/
def tPar (i j : Nat) (ta : TA) : TS := fun D σ H => ta σ H fun vs H1 => ∃ v w, vs = [v, w] ∧ D.nx ((σ.set i (some v)).set j (some w)) H1
theorem ps_par {i j : Nat} {x y : Str} {a b : Expr} {ta : TA} {px py pt : Pos} {kt k2 pt2} (hc : X.calm = true) (hN : X.N.Nodup) (hi : X.N[i]? = some x) (hj : X.N[j]? = some y) (hij : i ≠ j)
    (hx : X.env.scope.names.lookup x = some .local) (hy : X.env.scope.names.lookup y = some .local) (ha : PA X [a, b] ta)
    (hw : swappedStores [.Tuple [.Name x px, .Name y py] kt pt] (.Tuple [a, b] k2 pt2) X.env = pure (some [x, y]))
    (hs : swapsWithSole [.Tuple [.Name x px, .Name y py] kt pt] (.Tuple [a, b] k2 pt2) pos.line X.env = pure false := by rfl) :
    PS X (.Assign [.Tuple [.Name x px, .Name y py] kt pt] (.Tuple [a, b] k2 pt2) pos) (tPar i j ta) := by
  intro pins s σ H D I h
  rw [exec_Assign_arm]
  refine wpAny_bind (wpAny_standAt ?_)
  rw [hs]
  refine wpAny_bind (wpAny_pure ?_)
  rw [if_neg (by decide)]
  refine wpAny_bind (Tuple_ (thn (ha _ pins s σ H _ I h) fun us s1 ⟨vs, H1, I1, r1, q1⟩ => ?_))
  obtain ⟨v, w, e1, q1⟩ := q1
  subst e1
  obtain ⟨u1, u2, rfl, rv, rw'⟩ : ∃ u1 u2, us = [u1, u2] ∧ RelV v u1 ∧ RelV w u2 := by
    cases r1 with
    | cons p q =>
      cases q with
      | cons p' q' =>
        cases q'
        exact ⟨_, _, rfl, p, p'⟩
  refine wpAny_newObj_type ?_ (by show 2 ≤ sizeLine; decide)
  have I2 : Inv X pins σ H1 { s1 with heap := s1.heap.push { cls := .type "tuple", data := .seq [u1, u2].toArray } } := I1.kept (t' := s1.toks) fun b o e => Heap.get?_push_of_some _ e
  rw [hw]
  refine wpAny_bind (wpAny_pure ?_)
  show wpAny (model X.prog X.w) X.A (do rule "assign.swapped-stores"; let items ← unpackItems (.ref s1.heap.objs.size) 2 none; assignInOrder [fun v => bindName X.env y v, fun v => bindName X.env x v] items.reverse; pure Flow.next) _ _ _
  refine wpAny_bind (wpAny_rule (wpAny_bind (unpackItems_tuple (items := #[u1, u2]) (I.ok.hd hc) (IsTup.new s1.heap _) fun h' hx' => ?_)))
  have I3 := I2.kept (h' := h') (t' := s1.toks) fun b o e => hx' b o (Nat.ne_of_lt (Heap.lt_size e)) e
  show wpAny _ _ (assignInOrder [fun v => bindName X.env y v, fun v => bindName X.env x v] [u2, u1] >>= fun _ => pure Flow.next) _ _ _
  refine wpAny_bind (assignInOrder_cons (wpAny_bindName (store_ok I3 hN hj (.inl hy) rw' (fun s2 I4 => ?_) (.inr hy))))
  refine assignInOrder_cons (wpAny_bindName (store_ok I4 hN hi (.inl hx) rv (fun s3 I5 => assignInOrder_nil (wpAny_pure ?_)) (.inr hx)))
  rw [List.set_comm _ _ (Ne.symm hij)] at I5
  exact ⟨_, H1, I5, q1⟩
/-- name op= e -/
def tAug (i : Nat) (te : TE) (ti : TIp) : TS := fun D σ H => ∃ x, σ[i]? = some (some x) ∧ te σ H fun y H1 => ti x y H1 fun z H2 => D.nx (σ.set i (some z)) H2
theorem ps_aug {i : Nat} {x : Str} {e : Expr} {te : TE} {op : Operator} {ti : TIp} {pos' : Pos} (hN : X.N.Nodup) (hi : X.N[i]? = some x) (hx : Loc X.env.scope x) (he : PE X e te) (ho : PIp X op ti) (hf : X.fn x = true ∨ X.env.scope.names.lookup x = some .local := by first | exact .inl rfl | exact .inr rfl | assumption) :
    PS X (.AugAssign (.Name x pos') op e pos) (tAug i te ti) := by
  intro pins s σ H D I h
  obtain ⟨v, e1, h⟩ := h
  obtain ⟨m, hn, hl⟩ := I.loc
  have vis : Vis X.env.scope x := by rcases hx with k | k; exact .inl k; exact .inr (.inl k)
  obtain ⟨u, r, l⟩ := hl i x v hi e1 vis
  refine wpAny_AugAssign_Name ?_
  have go : wpAny (model X.prog X.w) X.A (eval e X.env) (fun w s₂ => wpAny (model X.prog X.w) X.A (inplaceOp op u w) (fun r s₃ => wpAny (model X.prog X.w) X.A (storeName X.env x r) (fun _ => SP X pins D .next) X.xe s₃) X.xe s₂) X.xe s := by
    refine thn (he pins s σ H _ I h) fun w s1 ⟨y, H1, I1, r1, q1⟩ => ?_
    refine thn (ho pins s1 σ H1 v y u w _ I1 r r1 q1) fun z s2 ⟨zv, H2, I2, r2, q2⟩ => ?_
    exact store_ok I2 hN hi hx r2 (fun s3 I3 => ⟨_, H2, I3, q2⟩) hf
  rcases l with ⟨hk, hm⟩ | ⟨hk, c, hc, hcell⟩
  · exact wpAny_loadName_local I.ok.kind hk hn hm go
  · rcases hk with hk | hk
    · exact wpAny_loadName_cell I.ok.kind hk hc hcell go
    · rcases hx with k | k
      · have : X.env.scope.names.lookup x = some .free := hk
        rw [k] at this; cases this
      · have : X.env.scope.names.lookup x = some .free := hk
        rw [k] at this; cases this
/-- o[i] op= e -/
def tAugS (to ti te : TE) (tget : V → V → Hp → VK → Prop) (tip : TIp) (tset : TSet) : TS := fun D σ H => to σ H fun o H1 => ti σ H1 fun i H2 => tget o i H2 fun x H3 => te σ H3 fun y H4 => tip x y H4 fun z H5 => tset o i z H5 fun H6 => D.nx σ H6
/-- o[i], by values -/
def PGet (X : Cx) (t : V → V → Hp → VK → Prop) : Prop :=
  ∀ (pins : List (Addr × Obj)) (s : Shared) (σ : St) (H : Hp) (o i : V) (ov iv : Value) (Q : VK), Inv X pins σ H s → RelV o ov → RelV i iv → t o i H Q →
    wpAny (model X.prog X.w) X.A (getItem ov iv) (EP X pins σ Q) X.xe s
theorem ps_augS {o i e : Expr} {to ti te : TE} {tget : V → V → Hp → VK → Prop} {tip : TIp} {tset : TSet} {op : Operator} {tpos : Pos} (ho : PE X o to) (hi : PE X i ti) (hg : PGet X tget) (he : PE X e te) (hp : PIp X op tip) (hs : PSet X tset)
    (ha : ∀ ov iv new, augStore i ov iv new = (do holding [new, ov, iv] (setItem ov iv new); release [new, ov, iv] []; pure .next) := by intros; rfl) : PS X (.AugAssign (.Subscript o i tpos) op e pos) (tAugS to ti te tget tip tset) := by
  intro pins s σ H D I h
  refine wpAny_AugAssign_SubscriptAny (thn (ho pins s σ H _ I h) fun ov s1 ⟨x1, H1, I1, r1, q1⟩ => ?_) ha
  refine thn (hi pins s1 σ H1 _ I1 q1) fun iv s2 ⟨x2, H2, I2, r2, q2⟩ => ?_
  refine thn (hg pins s2 σ H2 x1 x2 ov iv _ I2 r1 r2 q2) fun old s3 ⟨x3, H3, I3, r3, q3⟩ => ?_
  refine thn (he pins s3 σ H3 _ I3 q3) fun v s4 ⟨x4, H4, I4, r4, q4⟩ => ?_
  refine thn (hp pins s4 σ H4 x3 x4 old v _ I4 r3 r4 q4) fun new s5 ⟨x5, H5, I5, r5, q5⟩ => ?_
  exact thn (hs pins s5 σ H5 x1 x2 x5 ov iv new _ I5 r1 r2 r5 q5) fun _ s6 ⟨H6, I6, q6⟩ => ⟨σ, H6, I6, q6⟩
/-- ints -/
def ipI (f : Int → Int → Int) : TIp := fun x y H Q => ∃ i j, x = .int i ∧ y = .int j ∧ Q (.int (f i j)) H
theorem ip_add : PIp X .Add (ipI fun i j => i + j) := by
  intro pins s σ H x y v u Q I r1 r2 h
  obtain ⟨i, j, e1, e2, q⟩ := h
  subst e1; subst e2
  obtain ⟨t, rfl⟩ := r1
  obtain ⟨t', rfl⟩ := r2
  exact iadd_int ⟨.int _, H, I.tok _, ⟨_, rfl⟩, q⟩
theorem ip_sub : PIp X .Sub (ipI fun i j => i - j) := by
  intro pins s σ H x y v u Q I r1 r2 h
  obtain ⟨i, j, e1, e2, q⟩ := h
  subst e1; subst e2
  obtain ⟨t, rfl⟩ := r1
  obtain ⟨t', rfl⟩ := r2
  exact isub_int ⟨.int _, H, I.tok _, ⟨_, rfl⟩, q⟩
end

/-! ### while -/
section
variable {X : Cx} {pos : Pos}
/-- the invariant W with its measure -/
def tWhile (c : TT) (tb : TS) : TS := fun D σ H => ∃ W : Nat → St → Hp → Prop, (∃ m, W m σ H) ∧ ∀ m σ H, W m σ H →
  c σ H fun b H1 => if b = true then ∃ N : St → Hp → Prop, (∀ σ' H', N σ' H' → ∃ m', m' < m ∧ W m' σ' H') ∧ tb { D with nx := N, ct := N, bk := D.nx } σ H1 else D.nx σ H1
theorem ps_while {c : Expr} {body : List Stmt} {tc : TT} {tb : TS} (hp : PassesOwn (model X.prog X.w) X.A X.env X.xe) (hc : PT X c tc) (hb : PSs X body tb) : PS X (.While c body [] pos) (tWhile tc tb) := by
  intro pins s σ H D I h
  obtain ⟨W, ⟨m0, w0⟩, turn⟩ := h
  refine wpAny_While (codeAny_whileLoop (fun n s' => ∃ σ' H', Inv X pins σ' H' s' ∧ W n σ' H') ?_ m0 ⟨σ, H, I, w0⟩)
  rintro n s1 ⟨σ1, H1, I1, w1⟩
  refine wpAny_passesOwn hp (thn (hc pins s1 σ1 H1 _ I1 (turn n σ1 H1 w1)) fun b s2 ⟨H2, I2, q2⟩ => ?_)
  cases b with
  | true =>
    obtain ⟨N, hN, q2⟩ := q2
    rw [if_pos rfl]
    refine wpAny_passesOwn hp (thn (hb pins s2 σ1 H2 _ I2 q2) fun f s3 q3 => ?_)
    cases f with
    | next =>
      obtain ⟨σ3, H3, I3, n3⟩ := q3
      obtain ⟨m', hm, w3⟩ := hN σ3 H3 n3
      exact ⟨m', hm, σ3, H3, I3, w3⟩
    | cont =>
      obtain ⟨σ3, H3, I3, n3⟩ := q3
      obtain ⟨m', hm, w3⟩ := hN σ3 H3 n3
      exact ⟨m', hm, σ3, H3, I3, w3⟩
    | brk => exact q3
    | ret v => exact q3
  | false =>
    rw [if_neg Bool.false_ne_true]
    exact wpAny_execs_nil ⟨σ1, H2, I2, q2⟩
end

/-! ### what a loop or a comprehension walks -/
/-- at turn i: it yields x (the heap may grow), or it stops -/
structure It where
  go : Nat → Hp → Prop
  yld : Nat → Hp → V → Hp → Prop
  stop : Nat → Hp → Prop
/-- the iterator's own objects may turn: they are not the frame's, not pinned, younger than the entry (or a comprehension's own) -/
def FpOk (X : Cx) (pins : List (Addr × Obj)) (H : Hp) (b : Addr) : Prop :=
  H b = none ∧ b ≠ X.env.locals ∧ b ∉ X.fs ∧ (b ∈ X.ex ∨ X.s₀.heap.objs.size ≤ b) ∧ (∀ x c, X.env.cells.lookup x = some c → c ≠ b) ∧ ∀ p ∈ X.pn ++ pins, p.1 ≠ b
theorem Inv.fpOk {X : Cx} {pins : List (Addr × Obj)} {σ : St} {H H' : Hp} {s : Shared} {b : Addr} (I : Inv X pins σ H s) (hb : s.heap.objs.size ≤ b) (hn : H' b = none) : FpOk X pins H' b := by
  refine ⟨hn, Nat.ne_of_gt (Nat.lt_of_lt_of_le I.lt hb), I.nofs hb, .inr (Nat.le_trans I.sz hb), fun x c e z => ?_, fun p hp z => ?_⟩
  · obtain ⟨v, q⟩ := I.cell x c e
    exact absurd (Nat.lt_of_lt_of_le q.lt (by rw [z]; exact hb)) (Nat.lt_irrefl _)
  · exact absurd (Nat.lt_of_lt_of_le (Heap.lt_size (I.pin p hp).1) (by rw [z]; exact hb)) (Nat.lt_irrefl _)
structure Turn (P : Program) (w : World) (K : PySem.W.Frag) (tg : Expr) (J : It) (fp : List Addr) (it : Addr) (tn : Nat → Heap → Prop) : Prop where
  mem : it ∈ fp
  obj : ∀ i h, tn i h → ∀ b ∈ fp, ∃ o, h.get? b = some o ∧ ∀ v, o.data ≠ .cell v
  keep : ∀ i h h', tn i h → (∀ b ∈ fp, ∀ o, h.get? b = some o → h'.get? b = some o) → tn i h'
  item : ∀ (X : Cx), X.prog = P → X.w = w → X.K = K → X.calm = true → ∀ (i : Nat) (pins : List (Addr × Obj)) (s : Shared) (σ : St) (H : Hp) (E : Value → Shared → Prop), Inv X pins σ H s → (∀ b ∈ fp, FpOk X pins H b) → tn i s.heap → J.go i H →
    wpAny (model P w) X.A (pyNext (.ref it)) (fun r s1 => ∃ u, r = some u ∧
      wpAny (model P w) X.A (letOwnedTupleGo tg (.ref it) u) (fun _ s2 => ∃ x H', Inv X pins σ H' s2 ∧ RelV x u ∧ J.yld i H x H' ∧ tn (i + 1) s2.heap ∧ ∀ b ∈ fp, H' b = none) E s1) E s
  done : ∀ (X : Cx), X.prog = P → X.w = w → X.K = K → X.calm = true → ∀ (i : Nat) (pins : List (Addr × Obj)) (s : Shared) (σ : St) (H : Hp) (E : Value → Shared → Prop), Inv X pins σ H s → (∀ b ∈ fp, FpOk X pins H b) → tn i s.heap → J.stop i H →
    wpAny (model P w) X.A (pyNext (.ref it)) (fun r s1 => r = none ∧ Inv X pins σ H s1) E s
  self : ∀ (A : Around) (i : Nat) (s : Shared) (Q : Value → Shared → Prop) (E : Value → Shared → Prop), tn i s.heap → Q (.ref it) s → wpAny (model P w) A (pyIter (.ref it)) Q E s
abbrev TI := St → Hp → (It → Hp → Prop) → Prop
/-- an iterator has come -/
def PIE (X : Cx) (pins : List (Addr × Obj)) (σ : St) (tg : Expr) (R : It → Hp → Prop) (itv : Value) (s2 : Shared) : Prop :=
  ∃ (it : Addr) (fp : List Addr) (tn : Nat → Heap → Prop) (J : It) (H' : Hp), itv = .ref it ∧ Inv X pins σ H' s2 ∧ Turn X.prog X.w X.K tg J fp it tn ∧ tn 0 s2.heap ∧ (∀ b ∈ fp, FpOk X pins H' b) ∧ R J H'
def PI (X : Cx) (tg iter : Expr) (wi : TI) : Prop :=
  ∀ (pins : List (Addr × Obj)) (s : Shared) (σ : St) (H : Hp) (R : It → Hp → Prop), Inv X pins σ H s → wi σ H R →
    wpAny (model X.prog X.w) X.A (eval iter X.env) (fun v s1 => wpAny (model X.prog X.w) X.A (pyIter v) (PIE X pins σ tg R) X.xe s1) X.xe s

/-- the step ahead of the store is nothing for an iterator that keeps no tuple -/
theorem go_of {M : Model} {A : Around} {E : Value → Shared → Prop} {s : Shared} {tg : Expr} {it : Addr} {u : Value} {o : Obj} {n : String} {vs : Array Value} {Q : Unit → Shared → Prop} (ho : s.heap.get? it = some o) (hc : o.cls = .type n) (hd : o.data = .fields vs)
    (hn : ["enumerate", "zip", "dict_itemiterator", "dict_reverseitemiterator", "odict_iterator", "itertools.zip_longest", "itertools.pairwise"].contains n = false) (hQ : Q () s) : wpAny M A (letOwnedTupleGo tg (.ref it) u) Q E s := by
  unfold letOwnedTupleGo
  cases tg <;> first
    | exact wpAny_pure hQ
    | (cases u <;> first
        | exact wpAny_pure hQ
        | (refine wpAny_bind (wpAny_load ho ?_)
           rw [hc, hd]
           show wpAny M A (if (["enumerate", "zip", "dict_itemiterator", "dict_reverseitemiterator", "odict_iterator", "itertools.zip_longest", "itertools.pairwise"].contains n && vs[0]? == some (rawInt _)) = true then _ else _) Q E s
           rw [if_neg (by intro h; rw [hn, Bool.false_and] at h; cases h)]
           exact wpAny_pure hQ))

/-- the list at a, as it stands at each turn (a loop may append to it) -/
def Itl (K : PySem.W.Frag) (a : Addr) : It :=
  ⟨fun i H => ∃ xs x, SqL K H a xs ∧ xs[i]? = some x, fun i H x H' => H' = H ∧ ∀ xs, SqL K H a xs → xs[i]? = some x, fun i H => ∃ xs, SqL K H a xs ∧ xs.length ≤ i⟩
def Itt (K : PySem.W.Frag) (a : Addr) : It :=
  ⟨fun i H => ∃ xs x, SqT K H a xs ∧ xs[i]? = some x, fun i H x H' => H' = H ∧ ∀ xs, SqT K H a xs → xs[i]? = some x, fun i H => ∃ xs, SqT K H a xs ∧ xs.length ≤ i⟩
/-- lo, lo + 1, .. (n of them) -/
def Itr (lo : Int) (n : Nat) : It := ⟨fun i _ => i < n, fun i H x H' => H' = H ∧ x = .int (lo + i), fun i _ => n ≤ i⟩
theorem turn_list {P : Program} {w : World} {K : PySem.W.Frag} {tg : Expr} (a it : Addr) : Turn P w K tg (Itl K a) [it] it (fun i h => h.IsListIter it a i) where
  mem := by simp
  obj := fun i h st b hb => by
    have e : b = it := by simpa using hb
    subst e
    obtain ⟨o, e, c, d⟩ := st
    exact ⟨o, e, fun v z => by rw [d] at z; cases z⟩
  keep := fun i h h' st k => st.at fun o e => k it (by simp) o e
  item := by
    intro X hP hw hK hc i pins s σ H E I hf st hg
    subst hP hw hK
    obtain ⟨xs, x, hq, hx⟩ := hg
    obtain ⟨its, rv, p, hz⟩ := I.list hq
    obtain ⟨u, hu, ru⟩ := rv.get hx
    obtain ⟨f0, f1, f2, f3, f4, f5⟩ := hf it (by simp)
    refine wpAny_pyNext_list_item st p.isList (x := u) (by simpa using hu) fun h' st' sb => ?_
    have I1 : Inv X pins σ H { s with heap := h' } := I.turned (t' := s.toks) (fun b o hb e => (sb.2 b hb).trans e) f0 f1 f3 f4 f5
    obtain ⟨o, e, c, d⟩ := id st'
    exact ⟨u, rfl, go_of (s := { s with heap := h' }) e c d (by decide) ⟨x, H, I1, ru, ⟨rfl, fun ys hy => by rw [I.list_inj hy hq]; exact hx⟩, st', fun b hb => (hf b hb).1⟩⟩
  done := by
    intro X hP hw hK hc i pins s σ H E I hf st hg
    subst hP hw hK
    obtain ⟨xs, hq, hx⟩ := hg
    obtain ⟨its, rv, p, hz⟩ := I.list hq
    obtain ⟨f0, f1, f2, f3, f4, f5⟩ := hf it (by simp)
    have hl := rv.length
    exact wpAny_pyNext_list_end (I.ok.hd hc) st p.isList (by simp; omega) fun h' eb => ⟨rfl, I.turned (t' := s.toks) (fun b o hb e => eb b o hb e) f0 f1 f3 f4 f5⟩
  self := fun _ _ _ _ _ st h => wpAny_pyIter_listiter st h
theorem turn_tuple {P : Program} {w : World} {K : PySem.W.Frag} {tg : Expr} (a it : Addr) : Turn P w K tg (Itt K a) [it] it (fun i h => h.IsTupleIter it a i) where
  mem := by simp
  obj := fun i h st b hb => by
    have e : b = it := by simpa using hb
    subst e
    obtain ⟨o, e, c, d⟩ := st
    exact ⟨o, e, fun v z => by rw [d] at z; cases z⟩
  keep := fun i h h' st k => st.at fun o e => k it (by simp) o e
  item := by
    intro X hP hw hK hc i pins s σ H E I hf st hg
    subst hP hw hK
    obtain ⟨xs, x, hq, hx⟩ := hg
    obtain ⟨its, rv, p, hz⟩ := I.tuple hq
    obtain ⟨u, hu, ru⟩ := rv.get hx
    obtain ⟨f0, f1, f2, f3, f4, f5⟩ := hf it (by simp)
    refine wpAny_pyNext_tuple_item st (show s.heap.IsTuple a its.toArray from p) (x := u) (by simpa using hu) fun h' st' sb => ?_
    have I1 : Inv X pins σ H { s with heap := h' } := I.turned (t' := s.toks) (fun b o hb e => (sb.2 b hb).trans e) f0 f1 f3 f4 f5
    obtain ⟨o, e, c, d⟩ := id st'
    exact ⟨u, rfl, go_of (s := { s with heap := h' }) e c d (by decide) ⟨x, H, I1, ru, ⟨rfl, fun ys hy => by rw [I.tuple_inj hy hq]; exact hx⟩, st', fun b hb => (hf b hb).1⟩⟩
  done := by
    intro X hP hw hK hc i pins s σ H E I hf st hg
    subst hP hw hK
    obtain ⟨xs, hq, hx⟩ := hg
    obtain ⟨its, rv, p, hz⟩ := I.tuple hq
    obtain ⟨f0, f1, f2, f3, f4, f5⟩ := hf it (by simp)
    have hl := rv.length
    exact wpAny_pyNext_tuple_end (I.ok.hd hc) st (show s.heap.IsTuple a its.toArray from p) (by simp; omega) fun h' eb => ⟨rfl, I.turned (t' := s.toks) (fun b o hb e => eb b o hb e) f0 f1 f3 f4 f5⟩
  self := fun _ _ _ _ _ st h => wpAny_pyIter_tupleiter st h
theorem turn_range {P : Program} {w : World} {K : PySem.W.Frag} {tg : Expr} (it : Addr) (lo : Int) (n : Nat) : Turn P w K tg (Itr lo n) [it] it (fun i h => IsRangeIter h it (lo + (i : Nat) * 1) ((n : Int) - (i : Nat)) 1) where
  mem := by simp
  obj := fun i h st b hb => by
    have e : b = it := by simpa using hb
    subst e
    exact ⟨_, st, fun v z => by
      have z' : Data.fields _ = Data.cell v := z
      cases z'⟩
  keep := fun i h h' st k => k it (by simp) _ st
  item := by
    intro X hP hw hK hc i pins s σ H E I hf st hg
    subst hP hw hK
    obtain ⟨f0, f1, f2, f3, f4, f5⟩ := hf it (by simp)
    have W := Walks.range (prog := X.prog) (w := X.w) (I.ok.hd hc) it lo 1 n
    refine W.item i s _ _ hg st fun v h' tk hv st' kk => ?_
    obtain ⟨t, rfl⟩ := hv
    have I1 : Inv X pins σ H { s with heap := h', toks := tk } := I.turned (fun b o hb e => kk b o (by simpa using hb) e) f0 f1 f3 f4 f5
    refine ⟨_, rfl, go_of (s := { s with heap := h', toks := tk }) (n := "range_iterator") st' rfl rfl (by decide) ⟨.int (lo + i), H, I1, ⟨t, ?_⟩, ⟨rfl, rfl⟩, st', fun b hb => (hf b hb).1⟩⟩
    rw [Int.mul_one]
  done := by
    intro X hP hw hK hc i pins s σ H E I hf st hg
    subst hP hw hK
    obtain ⟨f0, f1, f2, f3, f4, f5⟩ := hf it (by simp)
    exact wpAny_pyNext_range_end (I.ok.hd hc) st (by have : n ≤ i := hg; omega) fun h' eb => ⟨rfl, I.turned (t' := s.toks) (fun b o hb e => eb b o hb e) f0 f1 f3 f4 f5⟩
  self := fun _ _ _ _ _ st h => wpAny_pyIter_rangeiter st h
end L2

namespace L2
open PySem PySem.Spec PyProof.Rows
section
variable {X : Cx} {tg : Expr}
def iList (K : PySem.W.Frag) (tl : TE) : TI := fun σ H R => tl σ H fun x H1 => ∃ a, x = .ref a ∧ (∃ xs, SqL K H1 a xs) ∧ R (Itl K a) H1
def iTup (K : PySem.W.Frag) (tl : TE) : TI := fun σ H R => tl σ H fun x H1 => ∃ a, x = .ref a ∧ (∃ xs, SqT K H1 a xs) ∧ R (Itt K a) H1
theorem pi_list {l : Expr} {tl : TE} (hl : PE X l tl) : PI X tg l (iList X.K tl) := by
  intro pins s σ H R I h
  refine thn (hl pins s σ H _ I h) fun v s1 ⟨x, H1, I1, r1, q1⟩ => ?_
  obtain ⟨a, e, ⟨xs, hq⟩, q⟩ := q1
  subst e
  cases r1
  obtain ⟨its, rv, p, hz⟩ := I1.list hq
  refine wpAny_pyIter_list p.isList ?_
  refine ⟨s1.heap.objs.size, [s1.heap.objs.size], _, _, H1, rfl, I1.kept (t' := s1.toks) fun b o e => Heap.get?_push_of_some _ e, turn_list a _, ⟨_, Heap.get?_push_size _ rfl, rfl, rfl⟩, fun b hb => ?_, q⟩
  have e : b = s1.heap.objs.size := by simpa using hb
  subst e
  exact I1.fpOk (Nat.le_refl _) (I1.hok.fresh (Nat.le_refl _))
theorem pi_tup {l : Expr} {tl : TE} (hl : PE X l tl) : PI X tg l (iTup X.K tl) := by
  intro pins s σ H R I h
  refine thn (hl pins s σ H _ I h) fun v s1 ⟨x, H1, I1, r1, q1⟩ => ?_
  obtain ⟨a, e, ⟨xs, hq⟩, q⟩ := q1
  subst e
  cases r1
  obtain ⟨its, rv, p, hz⟩ := I1.tuple hq
  refine wpAny_pyIter_tuple (show s1.heap.IsTuple a its.toArray from p) ?_
  refine ⟨s1.heap.objs.size, [s1.heap.objs.size], _, _, H1, rfl, I1.kept (t' := s1.toks) fun b o e => Heap.get?_push_of_some _ e, turn_tuple a _, ⟨_, Heap.get?_push_size _ rfl, rfl, rfl⟩, fun b hb => ?_, q⟩
  have e : b = s1.heap.objs.size := by simpa using hb
  subst e
  exact I1.fpOk (Nat.le_refl _) (I1.hok.fresh (Nat.le_refl _))
/-- a range object just made, walked -/
theorem range_it {pins : List (Addr × Obj)} {σ : St} {H : Hp} {s : Shared} {R : It → Hp → Prop} {E : Value → Shared → Prop} {lo hi : Int} {t u v : Tok} {tk : Nat} (I : Inv X pins σ H s) (h1 : -(2 ^ 62) ≤ lo) (h2 : lo < 2 ^ 62) (h3 : -(2 ^ 62) ≤ hi) (h4 : hi < 2 ^ 62)
    (q : R (Itr lo (hi - lo).toNat) H) : wpAny (model X.prog X.w) X.A (pyIter (.ref s.heap.objs.size)) (PIE X pins σ tg R) E { s with heap := s.heap.push { cls := .type "range", data := .fields #[.int lo t, .int hi u, .int 1 v] }, toks := tk } := by
  refine wpAny_pyIter_range (IsRange.new ..) (small_one h1 h2 h3 h4) ?_
  have I1 : Inv X pins σ H { s with heap := s.heap.push { cls := .type "range", data := .fields #[.int lo t, .int hi u, .int 1 v] }, toks := tk } := I.kept fun b o e => Heap.get?_push_of_some _ e
  refine ⟨(s.heap.push { cls := .type "range", data := .fields #[.int lo t, .int hi u, .int 1 v] }).objs.size, [(s.heap.push { cls := .type "range", data := .fields #[.int lo t, .int hi u, .int 1 v] }).objs.size], _, _, H, rfl,
    I1.kept (t' := tk) fun b o e => Heap.get?_push_of_some _ e, turn_range _ lo (hi - lo).toNat, ?_, fun b hb => ?_, q⟩
  · have e1 : lo + ((0 : Nat) : Int) * 1 = lo := by simp
    have e2 : (((hi - lo).toNat : Nat) : Int) - ((0 : Nat) : Int) = Builtin.Range.rangeSize lo hi 1 := by rw [rangeSize_one]; split <;> omega
    show IsRangeIter _ _ (lo + ((0 : Nat) : Int) * 1) ((((hi - lo).toNat : Nat) : Int) - ((0 : Nat) : Int)) 1
    rw [e1, e2]
    exact Heap.get?_push_size _ rfl
  · have e : b = (s.heap.push { cls := .type "range", data := .fields #[.int lo t, .int hi u, .int 1 v] }).objs.size := by simpa using hb
    subst e
    exact I1.fpOk (Nat.le_refl _) (I1.hok.fresh (Nat.le_refl _))
def iRng1 (ta : TA) : TI := fun σ H R => ta σ H fun vs H1 => ∃ j : Int, vs = [.int j] ∧ -(2 ^ 62) ≤ j ∧ j < 2 ^ 62 ∧ R (Itr 0 j.toNat) H1
def iRng2 (ta : TA) : TI := fun σ H R => ta σ H fun vs H1 => ∃ i j : Int, vs = [.int i, .int j] ∧ (-(2 ^ 62) ≤ i ∧ i < 2 ^ 62 ∧ -(2 ^ 62) ≤ j ∧ j < 2 ^ 62) ∧ R (Itr i (j - i).toNat) H1
theorem pi_range1 {a : Expr} {ta : TA} {p pos : Pos} (hg : Gl X "range") (hm : X.mg "range" = none) (ha : PA X [a] ta) (hs : starEach [a] X.env = [(false, eval a X.env)] := by rfl) : PI X tg (.Call (.Name "range" p) [a] [] pos) (iRng1 ta) := by
  intro pins s σ H R I h
  refine Call_ (ld_blt I hg hm boot_range (PyProof.Rows.callWith_type1 (thn (ha pos pins s σ H _ I h) fun us s1 ⟨vs, H1, I1, r1, q1⟩ => ?_) hs rfl))
  obtain ⟨j, e, q1, q2, q⟩ := q1
  subst e
  cases r1 with
  | cons r rr =>
    cases rr
    obtain ⟨t, rfl⟩ := r
    exact call_range_1 (range_it I1 (by omega) (by omega) q1 q2 (by simpa using q))
theorem pi_range2 {a b : Expr} {ta : TA} {p pos : Pos} (hg : Gl X "range") (hm : X.mg "range" = none) (ha : PA X [a, b] ta) (hs : starEach [a, b] X.env = [(false, eval a X.env), (false, eval b X.env)] := by rfl) (hs2 : starEach [b] X.env = [(false, eval b X.env)] := by rfl) :
    PI X tg (.Call (.Name "range" p) [a, b] [] pos) (iRng2 ta) := by
  intro pins s σ H R I h
  refine Call_ (ld_blt I hg hm boot_range (PyProof.Rows.callWith_type1 (thn (ha pos pins s σ H _ I h) fun us s1 ⟨vs, H1, I1, r1, q1⟩ => ?_) (by rw [hs, hs2]) (by rw [hs2]; rfl)))
  obtain ⟨i, j, e, ⟨q1, q2, q3, q4⟩, q⟩ := q1
  subst e
  cases r1 with
  | cons r rr =>
    cases rr with
    | cons r' rr =>
      cases rr
      obtain ⟨t, rfl⟩ := r
      obtain ⟨t', rfl⟩ := r'
      exact call_range_2 (range_it I1 q1 q2 q3 q4 q)

/-! ### for -/
/-- W: the invariant by the turn and a measure; N: what the body is to reach -/
def tFor (wi : TI) (g : TG) (tb : TS) : TS := fun D σ H => wi σ H fun J H1 => ∃ W : Nat → Nat → St → Hp → Prop, (∃ m, W 0 m σ H1) ∧ ∀ i m σ H, W i m σ H →
  (J.stop i H ∧ D.nx σ H) ∨ (J.go i H ∧ ∃ N : St → Hp → Prop, (∀ σ' H', N σ' H' → ∃ m', m' < m ∧ W (i + 1) m' σ' H') ∧ ∀ x H', J.yld i H x H' → g x σ H' fun σ2 H2 => tb { D with nx := N, ct := N, bk := D.nx } σ2 H2)
/-- the records at fp as they stand -/
def pinsAt (fp : List Addr) (h : Heap) : List (Addr × Obj) := fp.filterMap fun b => (h.get? b).map fun o => (b, o)
theorem mem_pinsAt {fp : List Addr} {h : Heap} {b : Addr} {o : Obj} (hb : b ∈ fp) (e : h.get? b = some o) : (b, o) ∈ pinsAt fp h := List.mem_filterMap.mpr ⟨b, hb, by rw [e]; rfl⟩
theorem of_pinsAt {fp : List Addr} {h : Heap} {p : Addr × Obj} (hp : p ∈ pinsAt fp h) : p.1 ∈ fp ∧ h.get? p.1 = some p.2 := by
  obtain ⟨b, hb, e⟩ := List.mem_filterMap.mp hp
  cases q : h.get? b with
  | none => rw [q] at e; cases e
  | some o =>
    rw [q] at e
    have e' : (b, o) = p := Option.some.inj e
    subst e'
    exact ⟨hb, q⟩
theorem Inv.pinned {pins : List (Addr × Obj)} {σ : St} {H : Hp} {s : Shared} {fp : List Addr} (I : Inv X pins σ H s) (hf : ∀ b ∈ fp, FpOk X pins H b) (ho : ∀ b ∈ fp, ∃ o, s.heap.get? b = some o ∧ ∀ v, o.data ≠ .cell v) : Inv X (pins ++ pinsAt fp s.heap) σ H s :=
  I.pins_of fun p hp => (List.mem_append.mp hp).elim (fun z => I.pin p (List.mem_append_right _ z)) fun z => by
    obtain ⟨hb, e⟩ := of_pinsAt z
    obtain ⟨f0, f1, f2, _⟩ := hf p.1 hb
    obtain ⟨o, e', d⟩ := ho p.1 hb
    rw [e] at e'; cases e'
    exact ⟨e, f0, f1, f2, d⟩
theorem Inv.unpinned {pins pl : List (Addr × Obj)} {σ : St} {H : Hp} {s : Shared} (I : Inv X (pins ++ pl) σ H s) : Inv X pins σ H s := I.pins_of fun p hp => I.pin p (List.mem_append_right _ (List.mem_append_left _ hp))
theorem ps_for {iter : Expr} {body : List Stmt} {wi : TI} {g : TG} {tb : TS} {pos : Pos} (hp : PassesOwn (model X.prog X.w) X.A X.env X.xe) (hc : X.calm = true) (hi : PI X tg iter wi) (hg : PG X tg g) (hb : PSs X body tb)
    (hs : ∀ x, foldedSetIterable iter X.env x = pure x := by intro _; rfl) : PS X (.For tg iter body [] pos) (tFor wi g tb) := by
  intro pins s σ H D I h
  refine wpAny_For (thn (hi pins s σ H _ I h) fun v s1 h1 => thn h1 fun itv s2 h2 => ?_) hs
  obtain ⟨it, fp, tn, J, H2, e, I2, T, st2, f2, W, ⟨m0, w0⟩, turn⟩ := h2
  subst e
  -- what stays true of the iterator's objects through the loop
  have stat : ∀ {H' : Hp}, (∀ b ∈ fp, H' b = none) → ∀ b ∈ fp, FpOk X pins H' b := fun hn b hb => ⟨hn b hb, (f2 b hb).2⟩
  refine codeAny_forLoop_any (fun n s' => ∃ i σ' H', Inv X pins σ' H' s' ∧ tn i s'.heap ∧ (∀ b ∈ fp, H' b = none) ∧ W i n σ' H') ?_ m0 ⟨0, σ, H2, I2, st2, fun b hb => (f2 b hb).1, w0⟩
  rintro n s3 ⟨i, σ3, H3, I3, st3, fr3, w3⟩
  rcases turn i n σ3 H3 w3 with ⟨stop, qn⟩ | ⟨go, N, hN, step⟩
  · refine wpAny_passesOwn hp (thn (T.done X rfl rfl rfl hc i pins s3 σ3 H3 X.xe I3 (stat fr3) st3 stop) fun r s4 ⟨hr, I4⟩ => ?_)
    subst hr
    exact wpAny_execs_nil ⟨σ3, H3, I4, qn⟩
  · refine wpAny_passesOwn hp (thn (T.item X rfl rfl rfl hc i pins s3 σ3 H3 X.xe I3 (stat fr3) st3 go) fun r s4 ⟨u, hr, h4⟩ => ?_)
    subst hr
    refine wpAny_passesOwn hp (thn h4 fun _ s5 ⟨x, H5, I5, r5, y5, st5, fr5⟩ => ?_)
    have I5' := I5.pinned (stat fr5) (T.obj _ _ st5)
    refine wpAny_passesOwn hp (thn (hg _ s5 σ3 H5 x u _ I5' r5 (step x H5 y5)) fun _ s6 ⟨σ6, H6, I6, q6⟩ => ?_)
    refine wpAny_passesOwn hp (thn (hb _ s6 σ6 H6 _ I6 q6) fun f s7 q7 => ?_)
    have again : ∀ {σ7 : St} {H7 : Hp}, Inv X (pins ++ pinsAt fp s5.heap) σ7 H7 s7 → N σ7 H7 → ∃ m, m < n ∧ ∃ i σ' H', Inv X pins σ' H' s7 ∧ tn i s7.heap ∧ (∀ b ∈ fp, H' b = none) ∧ W i m σ' H' := fun {σ7 H7} I7 n7 => by
      obtain ⟨m', hm, w7⟩ := hN σ7 H7 n7
      refine ⟨m', hm, i + 1, σ7, H7, I7.unpinned, T.keep _ _ _ st5 fun b hb o e => (I7.pin (b, o) (List.mem_append_right _ (List.mem_append_right _ (mem_pinsAt hb e)))).1, fun b hb => ?_, w7⟩
      obtain ⟨o, e, d⟩ := T.obj _ _ st5 b hb
      exact (I7.pin (b, o) (List.mem_append_right _ (List.mem_append_right _ (mem_pinsAt hb e)))).2.1
    cases f with
    | next => obtain ⟨σ7, H7, I7, n7⟩ := q7; exact again I7 n7
    | cont => obtain ⟨σ7, H7, I7, n7⟩ := q7; exact again I7 n7
    | brk => obtain ⟨σ7, H7, I7, q7⟩ := q7; exact ⟨σ7, H7, I7.unpinned, q7⟩
    | ret v => obtain ⟨x7, σ7, H7, I7, r7, q7⟩ := q7; exact ⟨x7, σ7, H7, I7.unpinned, r7, q7⟩
end

/-! ### the forms one uses -/
/-- over a list that the body leaves as it is -/
theorem for_list {K : PySem.W.Frag} {a : Addr} {xs : List V} {g : TG} {tb : TS} {D : Ends} {σ : St} {H : Hp} (Pv : Nat → St → Hp → Prop) (h0 : Pv 0 σ H) (hl : ∀ i σ H, i ≤ xs.length → Pv i σ H → SqL K H a xs)
    (hs : ∀ i x σ H, xs[i]? = some x → Pv i σ H → g x σ H fun σ2 H2 => tb { D with nx := Pv (i + 1), ct := Pv (i + 1), bk := D.nx } σ2 H2) (hd : ∀ σ H, Pv xs.length σ H → D.nx σ H) :
    ∃ W : Nat → Nat → St → Hp → Prop, (∃ m, W 0 m σ H) ∧ ∀ i m σ H, W i m σ H →
      ((Itl K a).stop i H ∧ D.nx σ H) ∨ ((Itl K a).go i H ∧ ∃ N : St → Hp → Prop, (∀ σ' H', N σ' H' → ∃ m', m' < m ∧ W (i + 1) m' σ' H') ∧ ∀ x H', (Itl K a).yld i H x H' → g x σ H' fun σ2 H2 => tb { D with nx := N, ct := N, bk := D.nx } σ2 H2) := by
  refine ⟨fun i m σ H => m = xs.length - i ∧ i ≤ xs.length ∧ Pv i σ H, ⟨xs.length, by simp, Nat.zero_le _, h0⟩, ?_⟩
  rintro i m σ H ⟨rfl, hi, p⟩
  have q := hl i σ H hi p
  by_cases hlt : i < xs.length
  · refine .inr ⟨⟨xs, xs[i], q, by simp [hlt]⟩, Pv (i + 1), fun σ' H' p' => ⟨xs.length - (i + 1), by omega, rfl, hlt, p'⟩, fun x H' y => ?_⟩
    obtain ⟨e, y⟩ := y
    subst e
    exact hs i x σ _ (y xs q) p
  · have e : i = xs.length := by omega
    subst e
    exact .inl ⟨⟨xs, q, Nat.le_refl _⟩, hd σ H p⟩
theorem for_tup {K : PySem.W.Frag} {a : Addr} {xs : List V} {g : TG} {tb : TS} {D : Ends} {σ : St} {H : Hp} (Pv : Nat → St → Hp → Prop) (h0 : Pv 0 σ H) (hl : ∀ i σ H, i ≤ xs.length → Pv i σ H → SqT K H a xs)
    (hs : ∀ i x σ H, xs[i]? = some x → Pv i σ H → g x σ H fun σ2 H2 => tb { D with nx := Pv (i + 1), ct := Pv (i + 1), bk := D.nx } σ2 H2) (hd : ∀ σ H, Pv xs.length σ H → D.nx σ H) :
    ∃ W : Nat → Nat → St → Hp → Prop, (∃ m, W 0 m σ H) ∧ ∀ i m σ H, W i m σ H →
      ((Itt K a).stop i H ∧ D.nx σ H) ∨ ((Itt K a).go i H ∧ ∃ N : St → Hp → Prop, (∀ σ' H', N σ' H' → ∃ m', m' < m ∧ W (i + 1) m' σ' H') ∧ ∀ x H', (Itt K a).yld i H x H' → g x σ H' fun σ2 H2 => tb { D with nx := N, ct := N, bk := D.nx } σ2 H2) := by
  refine ⟨fun i m σ H => m = xs.length - i ∧ i ≤ xs.length ∧ Pv i σ H, ⟨xs.length, by simp, Nat.zero_le _, h0⟩, ?_⟩
  rintro i m σ H ⟨rfl, hi, p⟩
  have q := hl i σ H hi p
  by_cases hlt : i < xs.length
  · refine .inr ⟨⟨xs, xs[i], q, by simp [hlt]⟩, Pv (i + 1), fun σ' H' p' => ⟨xs.length - (i + 1), by omega, rfl, hlt, p'⟩, fun x H' y => ?_⟩
    obtain ⟨e, y⟩ := y
    subst e
    exact hs i x σ _ (y xs q) p
  · have e : i = xs.length := by omega
    subst e
    exact .inl ⟨⟨xs, q, Nat.le_refl _⟩, hd σ H p⟩
theorem for_range {lo : Int} {n : Nat} {g : TG} {tb : TS} {D : Ends} {σ : St} {H : Hp} (Pv : Nat → St → Hp → Prop) (h0 : Pv 0 σ H)
    (hs : ∀ i σ H, i < n → Pv i σ H → g (.int (lo + i)) σ H fun σ2 H2 => tb { D with nx := Pv (i + 1), ct := Pv (i + 1), bk := D.nx } σ2 H2) (hd : ∀ σ H, Pv n σ H → D.nx σ H) :
    ∃ W : Nat → Nat → St → Hp → Prop, (∃ m, W 0 m σ H) ∧ ∀ i m σ H, W i m σ H →
      ((Itr lo n).stop i H ∧ D.nx σ H) ∨ ((Itr lo n).go i H ∧ ∃ N : St → Hp → Prop, (∀ σ' H', N σ' H' → ∃ m', m' < m ∧ W (i + 1) m' σ' H') ∧ ∀ x H', (Itr lo n).yld i H x H' → g x σ H' fun σ2 H2 => tb { D with nx := N, ct := N, bk := D.nx } σ2 H2) := by
  refine ⟨fun i m σ H => m = n - i ∧ i ≤ n ∧ Pv i σ H, ⟨n, by simp, Nat.zero_le _, h0⟩, ?_⟩
  rintro i m σ H ⟨rfl, hi, p⟩
  by_cases hlt : i < n
  · refine .inr ⟨hlt, Pv (i + 1), fun σ' H' p' => ⟨n - (i + 1), by omega, rfl, hlt, p'⟩, fun x H' y => ?_⟩
    obtain ⟨e, y⟩ := y
    subst e y
    exact hs i σ _ hlt p
  · have e : i = n := by omega
    subst e
    exact .inl ⟨Nat.le_refl _, hd σ H p⟩
/-- while, by a word and a measure of the state -/
theorem while_by {c : TT} {tb : TS} {D : Ends} {σ : St} {H : Hp} (Pv : St → Hp → Prop) (μ : St → Hp → Nat) (h0 : Pv σ H)
    (hs : ∀ σ H, Pv σ H → c σ H fun b H1 => if b = true then tb { D with nx := fun σ' H' => Pv σ' H' ∧ μ σ' H' < μ σ H, ct := fun σ' H' => Pv σ' H' ∧ μ σ' H' < μ σ H, bk := D.nx } σ H1 else D.nx σ H1)
    (mono : ∀ σ H Q Q', (∀ b H1, Q b H1 → Q' b H1) → c σ H Q → c σ H Q') : tWhile c tb D σ H := by
  refine ⟨fun m σ H => m = μ σ H ∧ Pv σ H, ⟨_, rfl, h0⟩, ?_⟩
  rintro m σ H ⟨rfl, p⟩
  refine mono σ H _ _ (fun b H1 q => ?_) (hs σ H p)
  cases b with
  | true => exact ⟨_, fun σ' H' ⟨p', l⟩ => ⟨_, l, rfl, p'⟩, q⟩
  | false => exact q
end L2

namespace L2
open PySem PySem.Spec PyProof.Rows

abbrev R2 := V → V → Hp → VK → Prop
/-- a two-place operation on values: f is binaryOp op, inplaceOp op or compareOp op -/
def OpR (X : Cx) (f : Value → Value → Sem Value) (r : R2) : Prop :=
  ∀ (pins : List (Addr × Obj)) (s : Shared) (σ : St) (H : Hp) (x y : V) (v u : Value) (Q : VK), Inv X pins σ H s → RelV x v → RelV y u → r x y H Q →
    wpAny (model X.prog X.w) X.A (f v u) (EP X pins σ Q) X.xe s
/-- a one-place operation -/
def UnR (X : Cx) (f : Value → Sem Value) (r : V → Hp → VK → Prop) : Prop :=
  ∀ (pins : List (Addr × Obj)) (s : Shared) (σ : St) (H : Hp) (x : V) (v : Value) (Q : VK), Inv X pins σ H s → RelV x v → r x H Q →
    wpAny (model X.prog X.w) X.A (f v) (EP X pins σ Q) X.xe s
/-- a call of a value that is known (a builtin, a type) with values -/
def CallR (X : Cx) (f : Value) (r : List V → Hp → VK → Prop) : Prop :=
  ∀ (pins : List (Addr × Obj)) (s : Shared) (σ : St) (H : Hp) (xs : List V) (us : List Value) (Q : VK), Inv X pins σ H s → Vals xs us → r xs H Q →
    wpAny (model X.prog X.w) X.A (call f us) (EP X pins σ Q) X.xe s
/-- a value's truth -/
def TruR (X : Cx) (r : V → Hp → (Bool → Hp → Prop) → Prop) : Prop :=
  ∀ (pins : List (Addr × Obj)) (s : Shared) (σ : St) (H : Hp) (x : V) (v : Value) (Q : Bool → Hp → Prop), Inv X pins σ H s → RelV x v → r x H Q →
    wpAny (model X.prog X.w) X.A (truthy v) (TP X pins σ Q) X.xe s

def tOp (r : R2) (ta tb : TE) : TE := fun σ H Q => ta σ H fun x H1 => tb σ H1 fun y H2 => r x y H2 Q
def tUn (r : V → Hp → VK → Prop) (ta : TE) : TE := fun σ H Q => ta σ H fun x H1 => r x H1 Q
/-- ints in, under C, and a value out -/
def rI (C : Int → Int → Prop) (g : Int → Int → V) : R2 := fun x y H Q => ∃ i j, x = .int i ∧ y = .int j ∧ C i j ∧ Q (g i j) H
def rI0 (g : Int → Int → V) : R2 := fun x y H Q => ∃ i j, x = .int i ∧ y = .int j ∧ Q (g i j) H
def rU (g : Int → V) : V → Hp → VK → Prop := fun x H Q => ∃ i, x = .int i ∧ Q (g i) H

section
variable {X : Cx} {a b c : Expr} {ta tb tc : TE} {pos : Pos}

theorem binT (ha : PE X a ta) (hb : PE X b tb) {pins : List (Addr × Obj)} {s : Shared} {σ : St} {H : Hp} {R : V → V → Hp → Prop} (I : Inv X pins σ H s)
    (h : ta σ H fun x H1 => tb σ H1 fun y H2 => R x y H2) {Q : Value → Shared → Prop} {f : Value → Value → Sem Value}
    (hf : ∀ v u s2 x y H2, Inv X pins σ H2 s2 → RelV x v → RelV y u → R x y H2 → wpAny (model X.prog X.w) X.A (f v u) Q X.xe s2) :
    wpAny (model X.prog X.w) X.A (eval a X.env) (fun v s₁ => wpAny (model X.prog X.w) X.A (eval b X.env) (fun u s₂ => wpAny (model X.prog X.w) X.A (f v u) Q X.xe s₂) X.xe s₁) X.xe s := by
  refine thn (ha pins s σ H _ I h) fun v s1 ⟨x, H1, I1, r1, q1⟩ => ?_
  refine thn (hb pins s1 σ H1 _ I1 q1) fun u s2 ⟨y, H2, I2, r2, q2⟩ => ?_
  exact hf v u s2 x y H2 I2 r1 r2 q2

theorem pe_op {op : Operator} {r : R2} (ho : OpR X (binaryOp op) r) (ha : PE X a ta) (hb : PE X b tb) : PE X (.BinOp a op b pos) (tOp r ta tb) := by
  intro pins s σ H Q I h
  exact wpAny_BinOp (binT ha hb I h fun v u s2 x y H2 I2 rx ry q => ho pins s2 σ H2 x y v u Q I2 rx ry q)
theorem pe_un {op : UnaryOp} {r : V → Hp → VK → Prop} (ho : UnR X (unaryOp op) r) (ha : PE X a ta) : PE X (.UnaryOp op a pos) (tUn r ta) := by
  intro pins s σ H Q I h
  exact UnaryOp_ (thn (ha pins s σ H _ I h) fun v s1 ⟨x, H1, I1, r1, q1⟩ => ho pins s1 σ H1 x v Q I1 r1 q1)
/-- a op= e at a name: the name's slot i -/
theorem augR {op : Operator} {r : R2} (ho : OpR X (inplaceOp op) r) {pins : List (Addr × Obj)} {s : Shared} {σ : St} {H : Hp} {x y : V} {v u : Value} {Q : VK} (I : Inv X pins σ H s)
    (rx : RelV x v) (ry : RelV y u) (q : r x y H Q) : wpAny (model X.prog X.w) X.A (inplaceOp op v u) (EP X pins σ Q) X.xe s := ho pins s σ H x y v u Q I rx ry q

/-! ### ints -/
theorem opI {f : Value → Value → Sem Value} {C : Int → Int → Prop} {g : Int → Int → Int}
    (rule : ∀ (i j : Int) (t u : Tok) (s : Shared) (Q : Value → Shared → Prop) (E : Value → Shared → Prop), C i j → Q (.int (g i j) s.toks) { s with toks := s.toks + 1 } → wpAny (model X.prog X.w) X.A (f (.int i t) (.int j u)) Q E s) :
    OpR X f (rI C fun i j => .int (g i j)) := by
  intro pins s σ H x y v u Q I rx ry h
  obtain ⟨i, j, rfl, rfl, hc, q⟩ := h
  obtain ⟨t, rfl⟩ := rx
  obtain ⟨t', rfl⟩ := ry
  exact rule i j t t' s _ _ hc ⟨.int (g i j), H, I.tok _, ⟨_, rfl⟩, q⟩
theorem opI0 {f : Value → Value → Sem Value} {g : Int → Int → Int}
    (rule : ∀ (i j : Int) (t u : Tok) (s : Shared) (Q : Value → Shared → Prop) (E : Value → Shared → Prop), Q (.int (g i j) s.toks) { s with toks := s.toks + 1 } → wpAny (model X.prog X.w) X.A (f (.int i t) (.int j u)) Q E s) :
    OpR X f (rI0 fun i j => .int (g i j)) := by
  intro pins s σ H x y v u Q I rx ry h
  obtain ⟨i, j, rfl, rfl, q⟩ := h
  obtain ⟨t, rfl⟩ := rx
  obtain ⟨t', rfl⟩ := ry
  exact rule i j t t' s _ _ ⟨.int (g i j), H, I.tok _, ⟨_, rfl⟩, q⟩
theorem opB0 {f : Value → Value → Sem Value} {g : Int → Int → Bool}
    (rule : ∀ (i j : Int) (t u : Tok) (s : Shared) (Q : Value → Shared → Prop) (E : Value → Shared → Prop), Q (.bool (g i j)) s → wpAny (model X.prog X.w) X.A (f (.int i t) (.int j u)) Q E s) :
    OpR X f (rI0 fun i j => .bl (g i j)) := by
  intro pins s σ H x y v u Q I rx ry h
  obtain ⟨i, j, rfl, rfl, q⟩ := h
  obtain ⟨t, rfl⟩ := rx
  obtain ⟨t', rfl⟩ := ry
  exact rule i j t t' s _ _ ⟨.bl (g i j), H, I, rfl, q⟩

def CDiv (i j : Int) : Prop := 0 < j ∧ j < 1073741824
def CDivN (i j : Int) : Prop := j ≠ 0 ∧ j.natAbs < 1073741824
def CPow (i j : Int) : Prop := 0 ≤ j ∧ j ≤ 1000000 ∧ i.natAbs < 2 ^ 64
def CMul (i j : Int) : Prop := (-(2 ^ 64) < i ∧ i < 2 ^ 64) ∨ (-(2 ^ 64) < j ∧ j < 2 ^ 64)
theorem CMul.ok {i j : Int} (h : CMul i j) : IntMulOk i j := by
  rcases h with ⟨h1, h2⟩ | ⟨h1, h2⟩
  · exact .of_left (intBits_le_64 h1 h2)
  · exact .of_right (intBits_le_64 h1 h2)
theorem two_pow_nn (k : Nat) : (0 : Int) ≤ 2 ^ k := by
  rw [two_pow_cast]
  exact Int.natCast_nonneg _

theorem op_add : OpR X (binaryOp .Add) (rI0 fun i j => .int (i + j)) := opI0 fun _ _ _ _ _ _ _ q => add_int q
theorem op_sub : OpR X (binaryOp .Sub) (rI0 fun i j => .int (i - j)) := opI0 fun _ _ _ _ _ _ _ q => sub_int q
theorem op_mul : OpR X (binaryOp .Mult) (rI CMul fun i j => .int (i * j)) := opI fun _ _ _ _ _ _ _ hc q => mul_int q hc.ok
/-- // by a positive divisor -/
theorem op_fdiv : OpR X (binaryOp .FloorDiv) (rI CDiv fun i j => .int (i / j)) := opI fun i j _ _ _ _ _ hc q => by
  have h1 : (0 : Int) < j := hc.1
  have h2 : j < 1073741824 := hc.2
  exact floordiv_int (by omega) (by rw [Int.fdiv_eq_ediv_of_nonneg i (by omega)]; exact q) (.inl (PyProof.noPylong_small (by omega)))
theorem op_fdivN : OpR X (binaryOp .FloorDiv) (rI CDivN fun i j => .int (i.fdiv j)) := opI fun _ _ _ _ _ _ _ hc q => floordiv_int hc.1 q (.inl (PyProof.noPylong_small hc.2))
/-- % by a positive divisor of any size -/
theorem op_mod : OpR X (binaryOp .Mod) (rI (fun _ j => 0 < j) fun i j => .int (i % j)) := opI fun i j _ _ _ _ _ hc q => by
  have h1 : (0 : Int) < j := hc
  exact mod_int' (by omega) (by rw [Int.fmod_eq_emod_of_nonneg i (by omega)]; exact q)
theorem op_modN : OpR X (binaryOp .Mod) (rI (fun _ j => j ≠ 0) fun i j => .int (i.fmod j)) := opI fun _ _ _ _ _ _ _ hc q => mod_int' hc q
theorem op_pow : OpR X (binaryOp .Pow) (rI CPow fun i j => .int (i ^ j.toNat)) := opI fun _ _ _ _ _ _ _ hc q => pow_int_small hc.1 hc.2.1 hc.2.2 q
theorem op_shl : OpR X (binaryOp .LShift) (rI CPow fun i j => .int (i * 2 ^ j.toNat)) := opI fun _ _ _ _ _ _ _ hc q => lshift_int_small hc.1 hc.2.1 hc.2.2 q
theorem op_shr : OpR X (binaryOp .RShift) (rI (fun _ j => 0 ≤ j) fun i j => .int (i / 2 ^ j.toNat)) := opI fun i j _ _ _ _ _ hc q =>
  rshift_int hc (by rw [Int.fdiv_eq_ediv_of_nonneg i (two_pow_nn _)]; exact q)
theorem op_and : OpR X (binaryOp .BitAnd) (rI0 fun i j => .int (Builtin.bitAnd i j)) := opI0 fun _ _ _ _ _ _ _ q => and_int q
theorem op_or : OpR X (binaryOp .BitOr) (rI0 fun i j => .int (Builtin.bitOr i j)) := opI0 fun _ _ _ _ _ _ _ q => or_int q
theorem op_xor : OpR X (binaryOp .BitXor) (rI0 fun i j => .int (Builtin.bitXor i j)) := opI0 fun _ _ _ _ _ _ _ q => xor_int q

theorem iop_add : OpR X (inplaceOp .Add) (rI0 fun i j => .int (i + j)) := opI0 fun _ _ _ _ _ _ _ q => iadd_int q
theorem iop_sub : OpR X (inplaceOp .Sub) (rI0 fun i j => .int (i - j)) := opI0 fun _ _ _ _ _ _ _ q => isub_int q
theorem iop_mul : OpR X (inplaceOp .Mult) (rI CMul fun i j => .int (i * j)) := opI fun _ _ _ _ _ _ _ hc q => imul_int q hc.ok
theorem iop_fdiv : OpR X (inplaceOp .FloorDiv) (rI CDiv fun i j => .int (i / j)) := opI fun i j _ _ _ _ _ hc q => by
  have h1 : (0 : Int) < j := hc.1
  have h2 : j < 1073741824 := hc.2
  exact ifloordiv_int (by omega) (by rw [Int.fdiv_eq_ediv_of_nonneg i (by omega)]; exact q) (.inl (PyProof.noPylong_small (by omega)))
theorem iop_mod : OpR X (inplaceOp .Mod) (rI (fun _ j => 0 < j) fun i j => .int (i % j)) := opI fun i j _ _ _ _ _ hc q => by
  have h1 : (0 : Int) < j := hc
  exact imod_int (by omega) (by rw [Int.fmod_eq_emod_of_nonneg i (by omega)]; exact q)
theorem iop_shl : OpR X (inplaceOp .LShift) (rI CPow fun i j => .int (i * 2 ^ j.toNat)) := opI fun _ _ _ _ _ _ _ hc q => ilshift_int_small hc.1 hc.2.1 hc.2.2 q
theorem iop_shr : OpR X (inplaceOp .RShift) (rI (fun _ j => 0 ≤ j) fun i j => .int (i / 2 ^ j.toNat)) := opI fun i j _ _ _ _ _ hc q =>
  irshift_int hc (by rw [Int.fdiv_eq_ediv_of_nonneg i (two_pow_nn _)]; exact q)
theorem iop_and : OpR X (inplaceOp .BitAnd) (rI0 fun i j => .int (Builtin.bitAnd i j)) := opI0 fun _ _ _ _ _ _ _ q => iand_int q
theorem iop_or : OpR X (inplaceOp .BitOr) (rI0 fun i j => .int (Builtin.bitOr i j)) := opI0 fun _ _ _ _ _ _ _ q => ior_int q
theorem iop_xor : OpR X (inplaceOp .BitXor) (rI0 fun i j => .int (Builtin.bitXor i j)) := opI0 fun _ _ _ _ _ _ _ q => ixor_int q

theorem unI {f : Value → Sem Value} {g : Int → Int}
    (rule : ∀ (i : Int) (t : Tok) (s : Shared) (Q : Value → Shared → Prop) (E : Value → Shared → Prop), Q (.int (g i) s.toks) { s with toks := s.toks + 1 } → wpAny (model X.prog X.w) X.A (f (.int i t)) Q E s) :
    UnR X f (rU fun i => .int (g i)) := by
  intro pins s σ H x v Q I rx h
  obtain ⟨i, rfl, q⟩ := h
  obtain ⟨t, rfl⟩ := rx
  exact rule i t s _ _ ⟨.int (g i), H, I.tok _, ⟨_, rfl⟩, q⟩
theorem un_neg : UnR X (unaryOp .USub) (rU fun i => .int (-i)) := unI fun _ _ _ _ _ q => neg_int q
theorem un_inv : UnR X (unaryOp .Invert) (rU fun i => .int (Builtin.bitNot i)) := unI fun _ _ _ _ _ q => invert_int q

/-! ### bools among ints: n += (a < b) -/
theorem op_add_ib : OpR X (binaryOp .Add) (fun x y H Q => ∃ i k, x = .int i ∧ y = .bl k ∧ Q (.int (i + b2i k)) H) := by
  intro pins s σ H x y v u Q I rx ry h
  obtain ⟨i, k, rfl, rfl, q⟩ := h
  obtain ⟨t, rfl⟩ := rx
  cases ry
  exact add_int_bool ⟨.int (i + b2i k), H, I.tok _, ⟨_, rfl⟩, q⟩
end

/-! ### comparisons -/
/-- the scalars that == tells apart as data does -/
def scal : V → V → Bool
  | .non, .non => true | .non, .int _ => true | .int _, .non => true | .non, .bl _ => true | .bl _, .non => true | .non, .str _ => true | .str _, .non => true
  | .int _, .int _ => true | .bl _, .bl _ => true | .str _, .str _ => true | .byt _, .byt _ => true
  | .int _, .str _ => true | .str _, .int _ => true | .bl _, .str _ => true | .str _, .bl _ => true
  | _, _ => false
def rEq : R2 := fun x y H Q => scal x y = true ∧ Q (.bl (decide (x = y))) H
def rNe : R2 := fun x y H Q => scal x y = true ∧ Q (.bl (!decide (x = y))) H

theorem dec_int {i j : Int} : decide (V.int i = V.int j) = (i == j) := by
  rw [Bool.eq_iff_iff]
  simp
theorem dec_bl {i j : Bool} : decide (V.bl i = V.bl j) = (i == j) := by
  rw [Bool.eq_iff_iff]
  simp
theorem dec_str {i j : Str} : decide (V.str i = V.str j) = (i == j) := by
  rw [Bool.eq_iff_iff]
  simp
theorem dec_byt {i j : Array UInt8} : decide (V.byt i = V.byt j) = (i.toList == j.toList) := by
  rw [Bool.eq_iff_iff]
  cases i
  cases j
  simp

section
variable {X : Cx} {a b c : Expr} {ta tb tc : TE} {pos : Pos}
theorem fin_bl {pins : List (Addr × Obj)} {σ : St} {H : Hp} {s : Shared} {Q : VK} {k k' : Bool} (I : Inv X pins σ H s) (q : Q (.bl k) H) (e : k = k') : EP X pins σ Q (.bool k') s := by
  subst e
  exact ⟨.bl k, H, I, rfl, q⟩
theorem op_eq : OpR X (compareOp .Eq) rEq := by
  intro pins s σ H x y v u Q I rx ry h
  obtain ⟨hs, q⟩ := h
  cases x with
  | non =>
    cases rx
    cases y with
    | non => cases ry; exact PySem.EqNone.eq_none_none (fin_bl I q (by simp))
    | bl j => cases ry; exact PySem.EqNone.eq_none_bool (fin_bl I q (by simp))
    | int j => obtain ⟨t', rfl⟩ := ry; exact PySem.EqNone.eq_none_int (fin_bl I q (by simp))
    | str j => obtain ⟨t', rfl⟩ := ry; exact PySem.EqNone.eq_none_str (fin_bl I q (by simp))
    | _ => exact absurd (show false = true from hs) Bool.false_ne_true
  | bl i =>
    cases rx
    cases y with
    | non => cases ry; exact PySem.EqNone.eq_bool_none (fin_bl I q (by simp))
    | bl j => cases ry; exact eq_bool (fin_bl I q dec_bl)
    | str j => obtain ⟨t', rfl⟩ := ry; exact PySem.EqMixed.eq_bool_str (fin_bl I q (by simp))
    | _ => exact absurd (show false = true from hs) Bool.false_ne_true
  | int i =>
    obtain ⟨t, rfl⟩ := rx
    cases y with
    | non => cases ry; exact PySem.EqNone.eq_int_none (fin_bl I q (by simp))
    | int j => obtain ⟨t', rfl⟩ := ry; exact eq_int (fin_bl I q dec_int)
    | str j => obtain ⟨t', rfl⟩ := ry; exact PySem.EqMixed.eq_int_str (fin_bl I q (by simp))
    | _ => exact absurd (show false = true from hs) Bool.false_ne_true
  | str i =>
    obtain ⟨t, rfl⟩ := rx
    cases y with
    | non => cases ry; exact PySem.EqNone.eq_str_none (fin_bl I q (by simp))
    | bl j => cases ry; exact PySem.EqMixed.eq_str_bool (fin_bl I q (by simp))
    | int j => obtain ⟨t', rfl⟩ := ry; exact PySem.EqMixed.eq_str_int (fin_bl I q (by simp))
    | str j => obtain ⟨t', rfl⟩ := ry; exact eq_str (fin_bl I q dec_str)
    | _ => exact absurd (show false = true from hs) Bool.false_ne_true
  | byt i =>
    obtain ⟨t, rfl⟩ := rx
    cases y with
    | byt j => obtain ⟨t', rfl⟩ := ry; exact PySem.W.eq_bytes (fin_bl I q dec_byt)
    | _ => exact absurd (show false = true from hs) Bool.false_ne_true
  | _ => cases y <;> exact absurd (show false = true from hs) Bool.false_ne_true
theorem op_ne : OpR X (compareOp .NotEq) rNe := by
  intro pins s σ H x y v u Q I rx ry h
  obtain ⟨hs, q⟩ := h
  cases x with
  | non =>
    cases rx
    cases y with
    | non => cases ry; exact PySem.EqNone.ne_none_none (fin_bl I q (by simp))
    | bl j => cases ry; exact PySem.EqNone.ne_none_bool (fin_bl I q (by simp))
    | int j => obtain ⟨t', rfl⟩ := ry; exact PySem.EqNone.ne_none_int (fin_bl I q (by simp))
    | str j => obtain ⟨t', rfl⟩ := ry; exact PySem.EqNone.ne_none_str (fin_bl I q (by simp))
    | _ => exact absurd (show false = true from hs) Bool.false_ne_true
  | bl i =>
    cases rx
    cases y with
    | non => cases ry; exact PySem.EqNone.ne_bool_none (fin_bl I q (by simp))
    | bl j => cases ry; exact ne_bool (fin_bl I q (congrArg not dec_bl))
    | str j => obtain ⟨t', rfl⟩ := ry; exact PySem.EqMixed.ne_bool_str (fin_bl I q (by simp))
    | _ => exact absurd (show false = true from hs) Bool.false_ne_true
  | int i =>
    obtain ⟨t, rfl⟩ := rx
    cases y with
    | non => cases ry; exact PySem.EqNone.ne_int_none (fin_bl I q (by simp))
    | int j => obtain ⟨t', rfl⟩ := ry; exact ne_int (fin_bl I q (congrArg not dec_int))
    | str j => obtain ⟨t', rfl⟩ := ry; exact PySem.EqMixed.ne_int_str (fin_bl I q (by simp))
    | _ => exact absurd (show false = true from hs) Bool.false_ne_true
  | str i =>
    obtain ⟨t, rfl⟩ := rx
    cases y with
    | non => cases ry; exact PySem.EqNone.ne_str_none (fin_bl I q (by simp))
    | bl j => cases ry; exact PySem.EqMixed.ne_str_bool (fin_bl I q (by simp))
    | int j => obtain ⟨t', rfl⟩ := ry; exact PySem.EqMixed.ne_str_int (fin_bl I q (by simp))
    | str j => obtain ⟨t', rfl⟩ := ry; exact ne_str (fin_bl I q (congrArg not dec_str))
    | _ => exact absurd (show false = true from hs) Bool.false_ne_true
  | byt i =>
    obtain ⟨t, rfl⟩ := rx
    cases y with
    | byt j => obtain ⟨t', rfl⟩ := ry; exact PySem.W.ne_bytes (fin_bl I q (congrArg not dec_byt))
    | _ => exact absurd (show false = true from hs) Bool.false_ne_true
  | _ => cases y <;> exact absurd (show false = true from hs) Bool.false_ne_true

theorem op_lt : OpR X (compareOp .Lt) (rI0 fun i j => .bl (decide (i < j))) := opB0 fun _ _ _ _ _ _ _ q => lt_int q
theorem op_le : OpR X (compareOp .LtE) (rI0 fun i j => .bl (decide (i ≤ j))) := opB0 fun _ _ _ _ _ _ _ q => le_int q
theorem op_gt : OpR X (compareOp .Gt) (rI0 fun i j => .bl (decide (j < i))) := opB0 fun _ _ _ _ _ _ _ q => gt_int q
theorem op_ge : OpR X (compareOp .GtE) (rI0 fun i j => .bl (decide (j ≤ i))) := opB0 fun _ _ _ _ _ _ _ q => ge_int q
theorem op_lt_str : OpR X (compareOp .Lt) (fun x y H Q => ∃ i j, x = .str i ∧ y = .str j ∧ Q (.bl (decide (i.cps.toList < j.cps.toList))) H) := by
  intro pins s σ H x y v u Q I rx ry h
  obtain ⟨i, j, rfl, rfl, q⟩ := h
  obtain ⟨t, rfl⟩ := rx
  obtain ⟨t', rfl⟩ := ry
  exact lt_str (fin_bl I q rfl)
/-- the one string within the other -/
theorem op_in_str : OpR X (compareOp .In) (fun x y H Q => ∃ i j, x = .str i ∧ y = .str j ∧ Q (.bl (!(Builtin.Str.occurrences j i 0 j.length 1).isEmpty)) H) := by
  intro pins s σ H x y v u Q I rx ry h
  obtain ⟨i, j, rfl, rfl, q⟩ := h
  obtain ⟨t, rfl⟩ := rx
  obtain ⟨t', rfl⟩ := ry
  exact in_str (fin_bl I q rfl)

/-- is None, is not None: the right side a value none -/
theorem op_isN : OpR X (compareOp .Is) (fun x y H Q => y = .non ∧ Q (.bl (decide (x = .non))) H) := by
  intro pins s σ H x y v u Q I rx ry h
  obtain ⟨rfl, q⟩ := h
  cases ry
  refine is_none_gen (fin_bl I q ?_)
  cases x <;> first
    | (cases rx; rfl)
    | (obtain ⟨t, rfl⟩ := rx; rfl)
theorem op_notN : OpR X (compareOp .IsNot) (fun x y H Q => y = .non ∧ Q (.bl (!decide (x = .non))) H) := by
  intro pins s σ H x y v u Q I rx ry h
  obtain ⟨rfl, q⟩ := h
  cases ry
  refine isnot_none_gen (fin_bl I q ?_)
  cases x <;> first
    | (cases rx; rfl)
    | (obtain ⟨t, rfl⟩ := rx; rfl)

theorem op_notin_str : OpR X (compareOp .NotIn) (fun x y H Q => ∃ i j, x = .str i ∧ y = .str j ∧ Q (.bl (!(!(Builtin.Str.occurrences j i 0 j.length 1).isEmpty))) H) := by
  intro pins s σ H x y v u Q I rx ry h
  obtain ⟨i, j, rfl, rfl, q⟩ := h
  obtain ⟨t, rfl⟩ := rx
  obtain ⟨t', rfl⟩ := ry
  exact notIn_str (fin_bl I q rfl)
/-- is, is not of two objects that are tracked lists or instances -/
def isObj : HO → Bool
  | .lst _ => true
  | .ins _ _ _ => true
  | _ => false
theorem obj_there {pins : List (Addr × Obj)} {s : Shared} {σ : St} {H : Hp} {a : Addr} {o : HO} (I : Inv X pins σ H s) (h : H a = some o) (p : isObj o = true) : ∃ ob, s.heap.get? a = some ob ∧ ob.cls ≠ .type "tuple" := by
  cases o with
  | lst xs =>
    obtain ⟨_, its, n, _, e⟩ : xs.length ≤ sizeLine ∧ ∃ (its : List Value) (n : Nat), Vals xs its ∧ s.heap.get? a = some { cls := .type "list", data := .seq its.toArray n } := I.hok a _ h
    exact ⟨_, e, (by show Value.type "list" ≠ .type "tuple"; decide +kernel)⟩
  | ins C dx fs =>
    have x := I.hok a _ h
    obtain ⟨_, _, _, e, _⟩ := x
    exact ⟨_, e, (by show Value.ref C ≠ .type "tuple"; exact fun z => by cases z)⟩
  | _ => exact absurd (show false = true from p) Bool.false_ne_true
theorem op_is_ref : OpR X (compareOp .Is) (fun x y H Q => ∃ a b oa ob, x = .ref a ∧ y = .ref b ∧ H a = some oa ∧ isObj oa = true ∧ H b = some ob ∧ isObj ob = true ∧ Q (.bl (decide (a = b))) H) := by
  intro pins s σ H x y v u Q I rx ry h
  obtain ⟨a, b, oa, ob, rfl, rfl, ha, pa, hb, pb, q⟩ := h
  cases rx
  cases ry
  obtain ⟨o1, e1, n1⟩ := obj_there I ha pa
  obtain ⟨o2, e2, _⟩ := obj_there I hb pb
  by_cases z : a = b
  · subst z
    exact wpAny_is_ref_self (fin_bl I q (by simp))
  · exact wpAny_is_ref_other z e1 e2 n1 (fin_bl I q (by simp [z]))
theorem op_isnot_ref : OpR X (compareOp .IsNot) (fun x y H Q => ∃ a b oa ob, x = .ref a ∧ y = .ref b ∧ H a = some oa ∧ isObj oa = true ∧ H b = some ob ∧ isObj ob = true ∧ Q (.bl (!decide (a = b))) H) := by
  intro pins s σ H x y v u Q I rx ry h
  obtain ⟨a, b, oa, ob, rfl, rfl, ha, pa, hb, pb, q⟩ := h
  cases rx
  cases ry
  obtain ⟨o1, e1, n1⟩ := obj_there I ha pa
  obtain ⟨o2, e2, _⟩ := obj_there I hb pb
  by_cases z : a = b
  · subst z
    exact wpAny_isNot_ref_self (fin_bl I q (by simp))
  · exact wpAny_isNot_ref_other z e1 e2 n1 (fin_bl I q (by simp [z]))

/-- two rules for one operation: by cases -/
theorem OpR.or {f : Value → Value → Sem Value} {r r' : R2} (h : OpR X f r) (h' : OpR X f r') : OpR X f (fun x y H Q => r x y H Q ∨ r' x y H Q) := by
  intro pins s σ H x y v u Q I rx ry q
  rcases q with q | q
  · exact h pins s σ H x y v u Q I rx ry q
  · exact h' pins s σ H x y v u Q I rx ry q

theorem nomark (b : Expr) {op : CmpOp} (h : op ≠ .In := by decide) (h2 : op ≠ .NotIn := by decide) : behindInMarks op b = false := by
  have e1 : (op == CmpOp.In) = false := by cases op <;> first | rfl | exact absurd rfl h
  have e2 : (op == CmpOp.NotIn) = false := by cases op <;> first | rfl | exact absurd rfl h2
  cases b <;> simp [behindInMarks, e1, e2]
/-- a comparison as a value; hm: nomark b, or (for in, not in) by with_unfolding_all rfl -/
theorem pe_cmpR {op : CmpOp} {r : R2} (ho : OpR X (compareOp op) r) (ha : PE X a ta) (hb : PE X b tb) (hm : behindInMarks op b = false) : PE X (.Compare a [op] [b] pos) (tOp r ta tb) := by
  intro pins s σ H Q I h
  exact wpAny_Compare1 (binT ha hb I h fun v u s2 x y H2 I2 rx ry q => ho pins s2 σ H2 x y v u Q I2 rx ry q) hm
/-- a reading of a value as a test -/
def tTest (t : TE) : TT := fun σ H Q => t σ H fun x H' => ∃ k, x = .bl k ∧ Q k H'
theorem pt_cmpR {op : CmpOp} {r : R2} (ho : OpR X (compareOp op) r) (ha : PE X a ta) (hb : PE X b tb) (hm : behindInMarks op b = false) : PT X (.Compare a [op] [b] pos) (tTest (tOp r ta tb)) := by
  intro pins s σ H Q I h
  refine wpAny_isTrue_Compare1 (thn (ha pins s σ H _ I h) fun v s1 ⟨x, H1, I1, r1, q1⟩ => thn (hb pins s1 σ H1 _ I1 q1) fun u s2 ⟨y, H2, I2, r2, q2⟩ =>
    thn (ho pins s2 σ H2 x y v u _ I2 r1 r2 q2) fun c s3 ⟨z, H3, I3, r3, k, e, q3⟩ => ?_) hm
  subst e
  cases r3
  exact wpAny_truthy_bool ⟨H3, I3, q3⟩
/-- a op1 b op2 c -/
def tChain (r r' : R2) (ta tb tc : TE) : TE := fun σ H Q => ta σ H fun x H1 => tb σ H1 fun y H2 => r x y H2 fun z H3 => ∃ k, z = .bl k ∧
  (if k = true then tc σ H3 fun w' H4 => r' y w' H4 Q else Q (.bl false) H3)
theorem pe_chain {op op' : CmpOp} {r r' : R2} (ho : OpR X (compareOp op) r) (ho' : OpR X (compareOp op') r') (ha : PE X a ta) (hb : PE X b tb) (hc : PE X c tc)
    (hm : lastMarks [op, op'] [b, c] = false := by with_unfolding_all rfl) : PE X (.Compare a [op, op'] [b, c] pos) (tChain r r' ta tb tc) := by
  intro pins s σ H Q I h
  refine Compare_chain (thn (ha pins s σ H _ I h) fun v s1 ⟨x, H1, I1, r1, q1⟩ => chain_link (thn (hb pins s1 σ H1 _ I1 q1) fun u s2 ⟨y, H2, I2, r2, q2⟩ =>
    thn (ho pins s2 σ H2 x y v u _ I2 r1 r2 q2) fun d s3 ⟨z, H3, I3, r3, k, e, q3⟩ => ?_)) hm
  subst e
  cases r3
  refine wpAny_truthy_bool ?_
  cases k with
  | false => exact ite_ff ⟨.bl false, H3, I3, rfl, q3⟩
  | true => exact ite_tt (chain_last (thn (hc pins s3 σ H3 _ I3 q3) fun w' s4 ⟨z', H4, I4, r4, q4⟩ => ho' pins s4 σ H4 y z' u w' Q I4 r2 r4 q4))
theorem pt_chain {op op' : CmpOp} {r r' : R2} (ho : OpR X (compareOp op) r) (ho' : OpR X (compareOp op') r') (ha : PE X a ta) (hb : PE X b tb) (hc : PE X c tc)
    (hm : lastMarks [op, op'] [b, c] = false := by with_unfolding_all rfl) : PT X (.Compare a [op, op'] [b, c] pos) (tTest (tChain r r' ta tb tc)) := by
  intro pins s σ H Q I h
  refine isTrue_chain (thn (ha pins s σ H _ I h) fun v s1 ⟨x, H1, I1, r1, q1⟩ => test_link (thn (hb pins s1 σ H1 _ I1 q1) fun u s2 ⟨y, H2, I2, r2, q2⟩ =>
    thn (ho pins s2 σ H2 x y v u _ I2 r1 r2 q2) fun d s3 ⟨z, H3, I3, r3, k, e, q3⟩ => ?_)) hm
  subst e
  cases r3
  refine wpAny_truthy_bool ?_
  cases k with
  | false =>
    obtain ⟨k', e', q'⟩ := q3
    cases e'
    exact ite_ff ⟨H3, I3, q'⟩
  | true =>
    refine ite_tt (test_last (thn (hc pins s3 σ H3 _ I3 q3) fun w' s4 ⟨z', H4, I4, r4, q4⟩ => thn (ho' pins s4 σ H4 y z' u w' _ I4 r2 r4 q4) fun d' s5 ⟨z2, H5, I5, r5, k2, e2, q5⟩ => ?_))
    subst e2
    cases r5
    exact wpAny_truthy_bool ⟨H5, I5, q5⟩

/-! ### truth -/
/-- a value's truth by the abstract heap -/
def TruV (K : PySem.W.Frag) (x : V) (H : Hp) (k : Bool) : Prop :=
  match x with
  | .non => k = false
  | .bl b => k = b
  | .int i => k = (i != 0)
  | .str y => y.length ≤ sizeLine ∧ k = ((y.length : Int) != 0)
  | .byt y => y.size ≤ sizeLine ∧ k = ((y.size : Int) != 0)
  | .ref p => (∃ xs, SqL K H p xs ∧ k = !xs.isEmpty) ∨ (∃ xs, SqT K H p xs ∧ k = !xs.isEmpty) ∨ ∃ kvs, H p = some (.dK kvs) ∧ k = !kvs.isEmpty
  | _ => False
theorem isEmpty_kv {κ : Type} {kvs : List (κ × V)} {vs : List (κ × Value)} (r : KV kvs vs) : (!vs.isEmpty) = !kvs.isEmpty := by
  cases r <;> rfl
theorem isEmpty_of {xs : List V} {its : List Value} (r : Vals xs its) : (!its.toArray.isEmpty) = !xs.isEmpty := by
  cases r <;> simp
theorem line63 : (sizeLine : Nat) < 2 ^ 63 := by rw [sizeLine_eq]; decide
theorem tru_ok : TruR X (fun x H Q => ∃ k, TruV X.K x H k ∧ Q k H) := by
  intro pins s σ H x v Q I rx h
  obtain ⟨k, e, q⟩ := h
  have hl := line63
  have hs : sizeLine = 16777216 := sizeLine_eq
  cases x with
  | non =>
    cases rx
    have e' : k = false := e
    subst e'
    exact truthy_none ⟨H, I, q⟩
  | bl b =>
    cases rx
    have e' : k = b := e
    subst e'
    exact wpAny_truthy_bool ⟨H, I, q⟩
  | int i =>
    obtain ⟨t, rfl⟩ := rx
    have e' : k = (i != 0) := e
    subst e'
    exact PySem.P.truthy_int ⟨H, I, q⟩
  | str y =>
    obtain ⟨t, rfl⟩ := rx
    obtain ⟨hy, e'⟩ : y.length ≤ sizeLine ∧ k = ((y.length : Int) != 0) := e
    subst e'
    exact PySem.P.truthy_str (by omega) ⟨H, I.tok _, q⟩
  | byt y =>
    obtain ⟨t, rfl⟩ := rx
    obtain ⟨hy, e'⟩ : y.size ≤ sizeLine ∧ k = ((y.size : Int) != 0) := e
    subst e'
    exact PySem.W.truthy_bytes (by omega) ⟨H, I.tok _, q⟩
  | ref p =>
    cases rx
    have e' : (∃ xs, SqL X.K H p xs ∧ k = !xs.isEmpty) ∨ (∃ xs, SqT X.K H p xs ∧ k = !xs.isEmpty) ∨ ∃ kvs, H p = some (.dK kvs) ∧ k = !kvs.isEmpty := e
    rcases e' with ⟨xs, hx, e'⟩ | ⟨xs, hx, e'⟩ | ⟨kvs, hx, e'⟩
    · subst e'
      obtain ⟨its, r, pl, hz⟩ := I.list hx
      have hlen := r.length
      exact wpAny_truthy_list pl.isList (by simp only [List.size_toArray]; omega) ⟨H, I.tok _, by rw [isEmpty_of r]; exact q⟩
    · subst e'
      obtain ⟨its, r, pl, hz⟩ := I.tuple hx
      have hlen := r.length
      exact truthy_tuple pl (by simp only [List.size_toArray]; omega) ⟨H, I.tok _, by rw [isEmpty_of r]; exact q⟩
    · subst e'
      obtain ⟨hz, hS, vs, r, m⟩ : kvs.length ≤ sizeLine ∧ (p == sysModules) = false ∧ ∃ vs, KV kvs vs ∧ s.heap.DictOf (mixKind X.prog X.w) p vs := I.hok p _ hx
      have hlen : kvs.length = vs.length := Paired.length r
      exact wpAny_truthy_dict hS m (by omega) ⟨H, I.tok _, by rw [isEmpty_kv r]; exact q⟩
  | _ => exact (show False from e).elim
/-- any expression whose test is its value's truth (a name, a call, a subscript, a field ..: he by fun _ => rfl) -/
theorem pt_truth (ha : PE X a ta) (he : ∀ whole, isTrue a X.env whole = (do let v ← whole; standAt a.pos; holding [v] (truthy v))) :
    PT X a (fun σ H Q => ta σ H fun x H' => ∃ k, TruV X.K x H' k ∧ Q k H') := by
  intro pins s σ H Q I h
  exact isTrue_plain (thn (ha pins s σ H _ I h) fun v s1 ⟨x, H1, I1, r1, q1⟩ => tru_ok pins s1 σ H1 x v Q I1 r1 q1) (he _)

/-! ### strs and bytes -/
theorem pe_byt {x : List UInt8} {k : Nat} : PE X (.Constant (.bytes x) k pos) (fun _ H Q => Q (.byt x.toArray) H) := fun _ _ _ H _ I h => PySem.W.Constant_bytes ⟨.byt x.toArray, H, I.tok _, ⟨_, rfl⟩, h⟩
theorem op_add_str : OpR X (binaryOp .Add) (fun x y H Q => ∃ i j, x = .str i ∧ y = .str j ∧ i.length + j.length ≤ sizeLine ∧ Q (.str (i ++ j)) H) := by
  intro pins s σ H x y v u Q I rx ry h
  obtain ⟨i, j, rfl, rfl, hz, q⟩ := h
  obtain ⟨t, rfl⟩ := rx
  obtain ⟨t', rfl⟩ := ry
  exact add_str (fun t' tk => ⟨.str (i ++ j), H, I.tok _, ⟨_, rfl⟩, q⟩) hz
theorem iop_add_str : OpR X (inplaceOp .Add) (fun x y H Q => ∃ i j, x = .str i ∧ y = .str j ∧ i.length + j.length ≤ sizeLine ∧ Q (.str (i ++ j)) H) := by
  intro pins s σ H x y v u Q I rx ry h
  obtain ⟨i, j, rfl, rfl, hz, q⟩ := h
  obtain ⟨t, rfl⟩ := rx
  obtain ⟨t', rfl⟩ := ry
  exact iadd_str (fun t' tk => ⟨.str (i ++ j), H, I.tok _, ⟨_, rfl⟩, q⟩) hz
theorem op_add_byt : OpR X (binaryOp .Add) (fun x y H Q => ∃ i j, x = .byt i ∧ y = .byt j ∧ i.size + j.size ≤ 16777216 ∧ Q (.byt (i ++ j)) H) := by
  intro pins s σ H x y v u Q I rx ry h
  obtain ⟨i, j, rfl, rfl, hz, q⟩ := h
  obtain ⟨t, rfl⟩ := rx
  obtain ⟨t', rfl⟩ := ry
  exact PySem.W.KBy.add_bytes hz (fun t' tk => ⟨.byt (i ++ j), H, I.tok _, ⟨_, rfl⟩, q⟩)

def PlainIxT (b : Expr) : Prop := ∀ o i, subscripted b false o i = operate [o, i] (getItem o i)
/-- s[i], 0 ≤ i < len -/
theorem pe_item_str (ha : PE X a ta) (hb : PE X b tb) (hs : PlainIxT b) :
    PE X (.Subscript a b pos) (tOp (fun x y H Q => ∃ z i c, x = .str z ∧ y = .int i ∧ 0 ≤ i ∧ i < 2 ^ 63 ∧ i < z.length ∧ z.cps[i.toNat]? = some c ∧ Q (.str ⟨#[c]⟩) H) ta tb) := by
  intro pins s σ H Q I h
  refine Subscript_ (binT ha hb I h fun v u s2 x y H2 I2 rx ry q => ?_)
  obtain ⟨z, i, c, rfl, rfl, h0, h63, h1, hc, q⟩ := q
  obtain ⟨t, rfl⟩ := rx
  obtain ⟨t', rfl⟩ := ry
  have e : seqIndex? i z.length = some i.toNat := PySem.StrLaws.seqIndex_nonneg h0 h1
  exact tail_any (typeIs_str s2 z t) slot_str_getitem.lookup (getItem_str (c := c) (by
    have e1 : decide (i < -(2 ^ 63 : Int)) = false := decide_eq_false (by omega)
    have e2 : decide (i ≥ 2 ^ 63) = false := decide_eq_false (by omega)
    rw [e1, e2] <;> rfl) (by rw [e]; exact hc) ⟨.str ⟨#[c]⟩, H2, I2.tok _, ⟨_, rfl⟩, q⟩) (hs _ _)
/-- b[i], 0 ≤ i < len -/
theorem pe_item_byt (ha : PE X a ta) (hb : PE X b tb) (hs : PlainIxT b) :
    PE X (.Subscript a b pos) (tOp (fun x y H Q => ∃ (z : List UInt8) (i : Int), x = .byt z.toArray ∧ y = .int i ∧ z.length ≤ sizeLine ∧ 0 ≤ i ∧ i < z.length ∧ Q (.int ((z.getD i.toNat 0).toNat : Nat)) H) ta tb) := by
  intro pins s σ H Q I h
  refine Subscript_ (binT ha hb I h fun v u s2 x y H2 I2 rx ry q => ?_)
  obtain ⟨z, i, rfl, rfl, hz, h0, h1, q⟩ := q
  obtain ⟨t, rfl⟩ := rx
  obtain ⟨t', rfl⟩ := ry
  have hl : sizeLine = 16777216 := sizeLine_eq
  exact tail_any (PySem.W.typeIs_bytes s2 z.toArray t) PySem.W.FB.slot_bytes_getitem.lookup (PySem.W.getItem_bytes (by omega) h0 h1 ⟨.int ((z.getD i.toNat 0).toNat : Nat), H2, I2.tok _, ⟨_, rfl⟩, q⟩) (hs _ _)

/-! ### scalar builtins, by CallR -/
theorem vals1 {x : V} {us : List Value} (r : Vals [x] us) : ∃ u, us = [u] ∧ RelV x u := by
  cases r with
  | cons r1 r2 => cases r2; exact ⟨_, rfl, r1⟩
theorem vals2 {x y : V} {us : List Value} (r : Vals [x, y] us) : ∃ u w', us = [u, w'] ∧ RelV x u ∧ RelV y w' := by
  cases r with
  | cons r1 r2 =>
    cases r2 with
    | cons r3 r4 => cases r4; exact ⟨_, _, rfl, r1, r3⟩
theorem call_abs : CallR X (.builtin "abs") (fun xs H Q => ∃ i, xs = [.int i] ∧ Q (.int (if i < 0 then -i else i)) H) := by
  intro pins s σ H xs us Q I r h
  obtain ⟨i, rfl, q⟩ := h
  obtain ⟨u, rfl, t, rfl⟩ := vals1 r
  exact call_abs_int fun u tk => ⟨.int (if i < 0 then -i else i), H, I.tok _, ⟨_, rfl⟩, q⟩
theorem call_max2 (hc : X.calm = true) : CallR X (.builtin "max") (fun xs H Q => ∃ i j, xs = [.int i, .int j] ∧ Q (.int (if j > i then j else i)) H) := by
  intro pins s σ H xs us Q I r h
  obtain ⟨i, j, rfl, q⟩ := h
  obtain ⟨u, w', rfl, ⟨t, rfl⟩, ⟨t', rfl⟩⟩ := vals2 r
  refine max_two_ints (I.ok.hd hc) fun h' tk k => ⟨_, H, I.kept k, ?_, q⟩
  by_cases hj : j > i
  · rw [if_pos hj, if_pos hj]; exact ⟨_, rfl⟩
  · rw [if_neg hj, if_neg hj]; exact ⟨_, rfl⟩
theorem call_min2 (hc : X.calm = true) : CallR X (.builtin "min") (fun xs H Q => ∃ i j, xs = [.int i, .int j] ∧ Q (.int (if j < i then j else i)) H) := by
  intro pins s σ H xs us Q I r h
  obtain ⟨i, j, rfl, q⟩ := h
  obtain ⟨u, w', rfl, ⟨t, rfl⟩, ⟨t', rfl⟩⟩ := vals2 r
  refine min_two_ints (I.ok.hd hc) fun h' tk k => ⟨_, H, I.kept k, ?_, q⟩
  by_cases hj : j < i
  · rw [if_pos hj, if_pos hj]; exact ⟨_, rfl⟩
  · rw [if_neg hj, if_neg hj]; exact ⟨_, rfl⟩
theorem call_int1 : CallR X (.type "int") (fun xs H Q => (∃ i, xs = [.int i] ∧ Q (.int i) H) ∨ ∃ k, xs = [.bl k] ∧ Q (.int (if k then 1 else 0)) H) := by
  intro pins s σ H xs us Q I r h
  rcases h with ⟨i, rfl, q⟩ | ⟨k, rfl, q⟩
  · obtain ⟨u, rfl, t, rfl⟩ := vals1 r
    exact call_int_int ⟨.int i, H, I, ⟨_, rfl⟩, q⟩
  · obtain ⟨u, rfl, r1⟩ := vals1 r
    cases r1
    exact call_int_bool ⟨.int (if k then 1 else 0), H, I.tok _, ⟨_, rfl⟩, q⟩
theorem call_bool1 : CallR X (.type "bool") (fun xs H Q => (∃ i, xs = [.int i] ∧ Q (.bl (i != 0)) H) ∨ ∃ k, xs = [.bl k] ∧ Q (.bl k) H) := by
  intro pins s σ H xs us Q I r h
  rcases h with ⟨i, rfl, q⟩ | ⟨k, rfl, q⟩
  · obtain ⟨u, rfl, t, rfl⟩ := vals1 r
    exact call_bool_int ⟨.bl (i != 0), H, I, rfl, q⟩
  · obtain ⟨u, rfl, r1⟩ := vals1 r
    cases r1
    exact call_bool_bool ⟨.bl k, H, I, rfl, q⟩
theorem call_str_int : CallR X (.type "str") (fun xs H Q => ∃ i, xs = [.int i] ∧ i.natAbs.log2 < 1920 ∧ Q (.str (toString i)) H) := by
  intro pins s σ H xs us Q I r h
  obtain ⟨i, rfl, hz, q⟩ := h
  obtain ⟨u, rfl, t, rfl⟩ := vals1 r
  exact PySem.P.str_of_int hz ⟨.str _, H, I.tok _, ⟨_, rfl⟩, q⟩
theorem call_ord : CallR X (.builtin "ord") (fun xs H Q => ∃ x, xs = [.str x] ∧ x.length = 1 ∧ Q (.int (x.cps.getD 0 0 : Nat)) H) := by
  intro pins s σ H xs us Q I r h
  obtain ⟨x, rfl, hz, q⟩ := h
  obtain ⟨u, rfl, t, rfl⟩ := vals1 r
  exact ord_of_one hz ⟨.int _, H, I.tok _, ⟨_, rfl⟩, q⟩
theorem call_chr : CallR X (.builtin "chr") (fun xs H Q => ∃ i, xs = [.int i] ∧ 0 ≤ i ∧ i ≤ 1114111 ∧ Q (.str ⟨#[i.toNat]⟩) H) := by
  intro pins s σ H xs us Q I r h
  obtain ⟨i, rfl, h0, h1, q⟩ := h
  obtain ⟨u, rfl, t, rfl⟩ := vals1 r
  exact chr_of_range h0 h1 ⟨.str _, H, I.tok _, ⟨_, rfl⟩, q⟩
/-- len of a str, a bytes, a list, a tuple -/
def LenV (K : PySem.W.Frag) (x : V) (H : Hp) (n : Nat) : Prop :=
  match x with
  | .str y => y.length ≤ sizeLine ∧ n = y.length
  | .byt y => y.size ≤ sizeLine ∧ n = y.size
  | .ref p => (∃ xs, SqL K H p xs ∧ n = xs.length) ∨ ∃ xs, SqT K H p xs ∧ n = xs.length
  | _ => False
theorem call_len : CallR X (.builtin "len") (fun xs H Q => ∃ x n, xs = [x] ∧ LenV X.K x H n ∧ Q (.int n) H) := by
  intro pins s σ H xs us Q I r h
  obtain ⟨x, n, rfl, e, q⟩ := h
  obtain ⟨u, rfl, rx⟩ := vals1 r
  have hl := line63
  have hs : sizeLine = 16777216 := sizeLine_eq
  cases x with
  | str y =>
    obtain ⟨t, rfl⟩ := rx
    obtain ⟨hy, e'⟩ : y.length ≤ sizeLine ∧ n = y.length := e
    subst e'
    exact len_str (by omega) ⟨.int _, H, I.tok _, ⟨_, rfl⟩, q⟩
  | byt y =>
    obtain ⟨t, rfl⟩ := rx
    obtain ⟨hy, e'⟩ : y.size ≤ sizeLine ∧ n = y.size := e
    subst e'
    exact PySem.W.len_bytes (by omega) ⟨.int _, H, I.tok _, ⟨_, rfl⟩, q⟩
  | ref p =>
    cases rx
    have e' : (∃ xs, SqL X.K H p xs ∧ n = xs.length) ∨ ∃ xs, SqT X.K H p xs ∧ n = xs.length := e
    rcases e' with ⟨xs, hx, e'⟩ | ⟨xs, hx, e'⟩
    · subst e'
      obtain ⟨its, r', pl, hz⟩ := I.list hx
      have hlen := r'.length
      exact Calls.call_len_list pl.isList (by simp only [List.size_toArray]; omega) ⟨.int xs.length, H, I.tok _, ⟨_, by simp only [List.size_toArray]; rw [hlen]⟩, q⟩
    · subst e'
      obtain ⟨its, r', pl, hz⟩ := I.tuple hx
      have hlen := r'.length
      exact len_tuple pl (by simp only [List.size_toArray]; omega) ⟨.int xs.length, H, I.tok _, ⟨_, by simp only [List.size_toArray]; rw [hlen]⟩, q⟩
  | _ => exact (show False from e).elim
/-- divmod: a new tuple -/
theorem call_divmod : CallR X (.builtin "divmod") (fun xs H Q => ∃ i j, xs = [.int i, .int j] ∧ CDiv i j ∧ ∀ p, H p = none → Q (.ref p) (upd H p (.tup [.int (i / j), .int (i % j)]))) := by
  intro pins s σ H xs us Q I r h
  obtain ⟨i, j, rfl, ⟨h1, h2⟩, q⟩ := h
  obtain ⟨u, w', rfl, ⟨t, rfl⟩, ⟨t', rfl⟩⟩ := vals2 r
  refine divmod_int (by omega) ?_ (.inl (PyProof.noPylong_small (by omega)))
  rw [Int.fdiv_eq_ediv_of_nonneg i (by omega), Int.fmod_eq_emod_of_nonneg i (by omega)]
  have hn : H s.heap.objs.size = none := I.hok.fresh (Nat.le_refl _)
  refine ⟨.ref s.heap.objs.size, _, ?_, rfl, q _ hn⟩
  refine I.laid (fun b o e => Heap.get?_push_of_some _ e) (Nat.le_refl _) ⟨by simp only [List.length_cons, List.length_nil]; rw [sizeLine_eq]; decide, [.int (i / j) s.toks, .int (i % j) (s.toks + 1)], .cons ⟨_, rfl⟩ (.cons ⟨_, rfl⟩ .nil), ?_⟩
  exact ⟨_, Heap.get?_push_size s.heap rfl, rfl, 0, rfl⟩
end
end L2

namespace L2
open PySem PySem.Spec PyProof.Rows

/-! ### an instance, its attributes a map -/
structure ObjM (h : Heap) (x dx C : Addr) (mA : Str → Option Value) : Prop where
  obj : h.get? x = some (PySem.W.instObj C dx)
  ns : h.Ns1 dx mA
  ne : dx ≠ x

theorem lookIn_ns {h : Heap} {dx : Addr} {mA : Str → Option Value} (n : h.Ns1 dx mA) : ∃ od, h.get? dx = some od ∧ ∀ name, PySem.W.lookIn name od = some (mA name) := by
  obtain ⟨o, es, ep, ho, hd, hk, _, hm⟩ := n
  refine ⟨o, ho, fun name => ?_⟩
  have e := hm name
  unfold nsFind findBy at e
  rw [← Array.find?_toList] at e
  unfold PySem.W.lookIn
  rw [hd]
  dsimp only
  split
  · rename_i y q
    rw [q] at e
    exact congrArg some e
  · rename_i q
    rw [q] at e
    have a : es.toList.any (·.refKey) = false := by
      rw [List.any_eq_false]
      intro y hy
      obtain ⟨z, t, hkey⟩ := hk y (Array.mem_toList_iff.mp hy)
      simp [DictEntry.refKey, hkey]
    have a' : ¬ es.toList.any (·.refKey) = true := by rw [a]; exact Bool.false_ne_true
    rw [if_neg a']
    exact congrArg some e

theorem ObjM.look {h : Heap} {x dx C : Addr} {mA : Str → Option Value} (I : ObjM h x dx C mA) : ∃ od, PySem.W.InstAt h x (PySem.W.instObj C dx) C (some od) ∧ ∀ name, PySem.W.lookIn name od = some (mA name) :=
  let ⟨od, ho, hl⟩ := lookIn_ns I.ns
  ⟨od, ⟨I.obj, rfl, rfl, ho⟩, hl⟩

section
variable {prog : Program} {w : World} {A : Around} {E : Value → Shared → Prop} {s : Shared} {K : PySem.W.Frag} {x dx C f : Addr} {mA : Str → Option Value} {name : Str} {v : Value}

theorem get_map {expr : Bool} {Q : Value → Shared → Prop} (X : K.In s.heap) (I : ObjM s.heap x dx C mA) (hg : PySem.W.plainGet K C name = true) (hh : PySem.W.hasDictIn K C = true)
    (ha : PySem.W.findIn K (.ref C) name = some none) (hv : mA name = some v) (hv' : PySem.W.handedIn v = true) (h : Q v { s with toks := s.toks + 1 }) :
    wpAny (model prog w) A (getAttr (.ref x) name expr) Q E s := by
  obtain ⟨od, J, hl⟩ := I.look
  exact PySem.W.get_value X J (PySem.W.plainGet_of hg).1 (PySem.W.findObj_own hh ha rfl (by rw [hl, hv])) hv' h

theorem get_const {expr : Bool} {a : Value} {Q : Value → Shared → Prop} (X : K.In s.heap) (I : ObjM s.heap x dx C mA) (hg : PySem.W.plainGet K C name = true) (hh : PySem.W.hasDictIn K C = true)
    (ha : PySem.W.findIn K (.ref C) name = some (some a)) (hn : PySem.W.specialIn K a "__get__" = some none) (hc : PySem.W.copiedNames.contains name = false) (hv : mA name = none) (hv' : PySem.W.handedIn a = true)
    (h : Q a { s with toks := s.toks + 1 }) : wpAny (model prog w) A (getAttr (.ref x) name expr) Q E s := by
  obtain ⟨od, J, hl⟩ := I.look
  exact PySem.W.get_value X J (PySem.W.plainGet_of hg).1 (PySem.W.findObj_cls hh ha hn hv' hc (by rw [hl, hv])) hv' h

theorem get_meth {pl : Sem Bool} {Q : Value × List Value → Shared → Prop} (X : K.In s.heap) (I : ObjM s.heap x dx C mA) (hg : PySem.W.plainGet K C name = true)
    (hf : PySem.W.findIn K (.ref C) name = some (some (.ref f))) (ht : PySem.W.isFn K (.ref f) = true) (hv : mA name = none) (h : Q (.ref f, [.ref x]) s) :
    wpAny (model prog w) A (getMethod (.ref x) name pl) Q E s := by
  obtain ⟨od, J, hl⟩ := I.look
  exact PySem.W.method_fn X J (PySem.W.plainGet_of hg).1 (PySem.W.plainGet_of hg).2 hf (beq_iff_eq.mp ht) (by show (PySem.W.lookIn name od).map (·.isSome) = some false; rw [hl, hv]; rfl) h

theorem set_map {ns : List Str} {Q : Unit → Shared → Prop} (X : K.In s.heap) (I : ObjM s.heap x dx C mA)
    (hs : PySem.W.findIn K (.ref C) "__setattr__" = some (some (.builtin "object.__setattr__"))) (hp : PySem.W.plainOver K C = true) (ht : PySem.W.takerIn K C name = some none) (hh : PySem.W.hasDictIn K C = true)
    (hw : PySem.Within mA ns) (hsz : ns.length ≤ sizeLine)
    (h : ∀ h', ObjM h' x dx C (fun y => if y = name then some v else mA y) → Heap.SameBut dx s.heap h' → Q () { s with heap := h', toks := s.toks + 2 }) :
    wpAny (model prog w) A (setAttr (.ref x) name v) Q E s := by
  obtain ⟨od, J, hl⟩ := I.look
  refine PySem.W.set_plain X J hs (PySem.W.osa_open (s := { s with toks := s.toks + 1 }) (r := none) X J hp ht fun b => ?_)
  obtain ⟨cd, hc, hd'⟩ := PySem.W.any_some hh
  have hx : s.heap.get? x = some ⟨.ref C, some dx, .plain, #[]⟩ := I.obj
  refine wpAny_bind (wpAny_pure (wpAny_bind (wpAny_bind (wpAny_loadPart hx (wpAny_bind (PySem.W.Looks.here (s := { s with toks := s.toks + 1 }) (PySem.W.looks_clsIn X hc) ?_))))))
  rw [hd']
  refine wpAny_pure (a := some dx) (wpAny_bind (wpAny_pure (wpAny_bind ?_)))
  refine wpAny_nsSet1 (s := { s with toks := s.toks + 1 }) I.ns fun h' hn2 hs2 => ?_
  obtain ⟨oD, esD, epD, hoD, hdD, hcD⟩ := hn2.count (PySem.Within.cons name v hw)
  refine wpAny_bind (wpAny_lookBehind hoD (by rw [hdD]; exact pastItsLine_dict (Nat.le_trans hcD (by rw [List.length_cons]; omega))) ?_)
  exact wpAny_pure (h _ ⟨(hs2.2 _ (Ne.symm I.ne)).trans I.obj, hn2, I.ne⟩ hs2)

/-- C(..): the dict at the heap's end, the instance behind it; then its __init__ -/
theorem make_map {R : Result → Shared → Prop} {vs : List Value} {kw : List (Str × Value)} (X : K.In s.heap) (hm : PySem.W.makesIn K C = true)
    (hi : PySem.W.findIn K (.ref C) "__init__" = some (some (.ref f))) (hf : PySem.W.typeIn K (.ref f) = some (.type "function"))
    (h : codeAny (model prog w) (A.under (.builtin "type.__call__" ⟨.ref C :: vs, kw⟩)) (.call (.ref f) ⟨.ref (s.heap.objs.size + 1) :: vs, kw⟩) (PySem.W.InitBack (s.heap.objs.size + 1) R)
      { s with heap := (s.heap.push PySem.W.emptyDict).push (PySem.W.instObj C s.heap.objs.size) }) :
    codeAny (model prog w) A (.call (.ref C) ⟨vs, kw⟩) R s := by
  obtain ⟨hh, g, d, t, os⟩ := s
  exact PySem.W.make_core (PySem.W.makes_of X hm) (PySem.W.looks_findIn X hi) (fun self => PySem.W.bind_fn X self hf) (.inl rfl) h
/-- C() where there is no __init__ but object's -/
theorem make_map0 {R : Result → Shared → Prop} (X : K.In s.heap) (hm : PySem.W.makesIn K C = true)
    (hi : PySem.W.findIn K (.ref C) "__init__" = some (some (.builtin "object.__init__")))
    (hb : ∀ self, PySem.W.Looks (model prog w) s.heap (bindSpecial (.builtin "object.__init__") self) (.builtin "object.__init__", [self]))
    (h : codeAny (model prog w) (A.under (.builtin "type.__call__" ⟨[.ref C], []⟩)) (.call (.builtin "object.__init__") ⟨[.ref (s.heap.objs.size + 1)], []⟩) (PySem.W.InitBack (s.heap.objs.size + 1) R)
      { s with heap := (s.heap.push PySem.W.emptyDict).push (PySem.W.instObj C s.heap.objs.size) }) :
    codeAny (model prog w) A (.call (.ref C) ⟨[], []⟩) R s := by
  obtain ⟨hh, g, d, t, os⟩ := s
  exact PySem.W.make_core (PySem.W.makes_of X hm) (PySem.W.looks_findIn X hi) hb (.inr ⟨rfl, rfl⟩) h
end

/-! ### the attributes as a list of pairs -/
def putF (f : Str) (v : V) : List (Str × V) → List (Str × V)
  | [] => [(f, v)]
  | (g, x) :: r => if g = f then (g, v) :: r else (g, x) :: putF f v r
theorem lookup_putF (f g : Str) (v : V) : ∀ fs : List (Str × V), (putF f v fs).lookup g = if g = f then some v else fs.lookup g
  | [] => by
    show List.lookup g [(f, v)] = _
    by_cases h : g = f
    · have hb : (g == f) = true := beq_iff_eq.mpr h
      simp only [List.lookup, hb, if_pos h]
    · have hb : (g == f) = false := beq_eq_false_iff_ne.mpr h
      simp only [List.lookup, hb, if_neg h]
  | (k, x) :: r => by
    have ih := lookup_putF f g v r
    rw [show putF f v ((k, x) :: r) = (if k = f then (k, v) :: r else (k, x) :: putF f v r) from rfl]
    by_cases hk : k = f
    · rw [if_pos hk]
      by_cases h : g = k
      · have hb : (g == k) = true := beq_iff_eq.mpr h
        simp only [List.lookup, hb, if_pos (h.trans hk)]
      · have hb : (g == k) = false := beq_eq_false_iff_ne.mpr h
        simp only [List.lookup, hb, if_neg (fun e : g = f => h (e.trans hk.symm))]
    · rw [if_neg hk]
      by_cases h : g = k
      · have hb : (g == k) = true := beq_iff_eq.mpr h
        simp only [List.lookup, hb, if_neg (fun e : g = f => hk (h.symm.trans e))]
      · have hb : (g == k) = false := beq_eq_false_iff_ne.mpr h
        simp only [List.lookup, hb]
        exact ih
theorem keys_putF (f : Str) (v : V) : ∀ fs : List (Str × V), f ∈ (putF f v fs).map (·.1) ∧ ∀ g, g ∈ fs.map (·.1) → g ∈ (putF f v fs).map (·.1)
  | [] => ⟨by simp [putF], fun g h => by simp at h⟩
  | (k, x) :: r => by
    obtain ⟨i1, i2⟩ := keys_putF f v r
    rw [show putF f v ((k, x) :: r) = (if k = f then (k, v) :: r else (k, x) :: putF f v r) from rfl]
    by_cases hk : k = f
    · rw [if_pos hk]
      subst hk
      exact ⟨by simp, fun g h => by simpa using h⟩
    · rw [if_neg hk]
      refine ⟨?_, fun g h => ?_⟩
      · rw [List.map_cons]
        exact List.mem_cons_of_mem _ i1
      · rw [List.map_cons] at h ⊢
        rcases List.mem_cons.mp h with e | e
        · exact List.mem_cons.mpr (.inl e)
        · exact List.mem_cons_of_mem _ (i2 g e)
theorem length_putF (f : Str) (v : V) : ∀ fs : List (Str × V), (putF f v fs).length ≤ fs.length + 1
  | [] => by simp [putF]
  | (k, x) :: r => by
    have ih := length_putF f v r
    rw [show putF f v ((k, x) :: r) = (if k = f then (k, v) :: r else (k, x) :: putF f v r) from rfl]
    by_cases hk : k = f
    · rw [if_pos hk, List.length_cons, List.length_cons]; omega
    · rw [if_neg hk, List.length_cons, List.length_cons]; omega

theorem RelO.some_of {v : V} {o : Option Value} (r : RelO (some v) o) : ∃ u, o = some u ∧ RelV v u := by
  cases o with
  | none => exact (show False from r).elim
  | some u => exact ⟨u, rfl, r⟩
theorem RelO.none_of {o : Option Value} (r : RelO none o) : o = none := by
  cases o with
  | none => rfl
  | some u => exact (show False from r).elim
theorem handed_of {v : V} {u : Value} (r : RelV v u) : PySem.W.handedIn u = true := by
  cases v with
  | non => cases (show u = Value.none from r); rfl
  | bl b => cases (show u = Value.bool b from r); rfl
  | int i => obtain ⟨t, e⟩ := (show ∃ t, u = Value.int i t from r); cases e; rfl
  | str x => obtain ⟨t, e⟩ := (show ∃ t, u = Value.str x t from r); cases e; rfl
  | byt b => obtain ⟨t, e⟩ := (show ∃ t, u = Value.bytes b t from r); cases e; rfl
  | flt b => obtain ⟨t, e⟩ := (show ∃ t, u = Value.float b t from r); cases e; rfl
  | ref a => cases (show u = Value.ref a from r); rfl
  | ty n => cases (show u = Value.type n from r); rfl

section
variable {P : Program} {w : World} {H H' : Hp} {h h' : Heap} {a C dx : Addr} {fs fs' : List (Str × V)}
theorem ins_get (hok : HOk P w H h) (e : H a = some (.ins C dx fs)) : ∃ mA, ObjM h a dx C mA ∧ (∀ f, RelO (fs.lookup f) (mA f)) ∧ PySem.Within mA (fs.map (·.1)) ∧ fs.length ≤ 1000 ∧ H dx = some (.own a) := by
  obtain ⟨d, z, ne, ob, mA, n, r, q⟩ := (show ObjOk P w H h a (.ins C dx fs) from hok a _ e)
  exact ⟨mA, ⟨ob, n, ne⟩, r, q, z, d⟩
end

/-! ### what of the text a class must have -/
structure Cls (K : PySem.W.Frag) (C : Addr) : Prop where
  pg : PySem.W.plainGet K C Str.empty = true
  hd : PySem.W.hasDictIn K C = true
  po : PySem.W.plainOver K C = true
  sa : PySem.W.findIn K (.ref C) "__setattr__" = some (some (.builtin "object.__setattr__"))
theorem Cls.get {K : PySem.W.Frag} {C : Addr} (c : Cls K C) (f : Str) : PySem.W.plainGet K C f = true := c.pg
/-- no class of it has the name -/
def NoAttr (K : PySem.W.Frag) (C : Addr) (f : Str) : Prop := PySem.W.findIn K (.ref C) f = some none
theorem NoAttr.taker {K : PySem.W.Frag} {C : Addr} {f : Str} (n : NoAttr K C f) : PySem.W.takerIn K C f = some none := by
  unfold PySem.W.takerIn
  rw [show PySem.W.findIn K (.ref C) f = some none from n]
  rfl
/-- a constant of the class -/
structure Con (K : PySem.W.Frag) (C : Addr) (f : Str) (v : V) (u : Value) : Prop where
  at_ : PySem.W.findIn K (.ref C) f = some (some u)
  rel : RelV v u
  get : PySem.W.specialIn K u "__get__" = some none
  cp : PySem.W.copiedNames.contains f = false
/-- a method: a plain def of the class or of one above it -/
structure Meth (K : PySem.W.Frag) (C : Addr) (m : Str) (f : Addr) : Prop where
  at_ : PySem.W.findIn K (.ref C) m = some (some (.ref f))
  fn : PySem.W.isFn K (.ref f) = true
  kp : PySem.W.keepIn K (.ref f) = true

section
variable {X : Cx} {pins : List (Addr × Obj)} {σ : St} {H : Hp} {s : Shared} {a C dx : Addr} {fs : List (Str × V)} {f : Str} {v : V} {A : Around} {E : Value → Shared → Prop}

theorem getattr_ok {b : Bool} {Q : Value → Shared → Prop} (I : Inv X pins σ H s) (e : H a = some (.ins C dx fs)) (c : Cls X.K C) (n : NoAttr X.K C f) (l : fs.lookup f = some v)
    (h : ∀ u s', Inv X pins σ H s' → RelV v u → Q u s') : wpAny (model X.prog X.w) A (getAttr (.ref a) f b) Q E s := by
  obtain ⟨mA, O, r, _, _, _⟩ := ins_get I.hok e
  obtain ⟨u, hu, ru⟩ := RelO.some_of (v := v) (o := mA f) (by rw [← l]; exact r f)
  exact get_map I.kIn O (c.get f) c.hd n hu (handed_of ru) (h u _ (I.tok _) ru)

theorem getcon_ok {b : Bool} {u : Value} {Q : Value → Shared → Prop} (I : Inv X pins σ H s) (e : H a = some (.ins C dx fs)) (c : Cls X.K C) (k : Con X.K C f v u) (l : fs.lookup f = none)
    (h : ∀ s', Inv X pins σ H s' → Q u s') : wpAny (model X.prog X.w) A (getAttr (.ref a) f b) Q E s := by
  obtain ⟨mA, O, r, _, _, _⟩ := ins_get I.hok e
  have hn : mA f = none := RelO.none_of (by rw [← l]; exact r f)
  exact get_const I.kIn O (c.get f) c.hd k.at_ k.get k.cp hn (handed_of k.rel) (h _ (I.tok _))

theorem getmeth_ok {m : Str} {g : Addr} {pl : Sem Bool} {Q : Value × List Value → Shared → Prop} (I : Inv X pins σ H s) (e : H a = some (.ins C dx fs)) (c : Cls X.K C) (k : Meth X.K C m g) (l : fs.lookup m = none)
    (h : Q (.ref g, [.ref a]) s) : wpAny (model X.prog X.w) A (getMethod (.ref a) m pl) Q E s := by
  obtain ⟨mA, O, r, _, _, _⟩ := ins_get I.hok e
  have hn : mA m = none := RelO.none_of (by rw [← l]; exact r m)
  exact get_meth I.kIn O (c.get m) k.at_ k.fn hn h

theorem setattr_ok {y : V} {u : Value} {Q : Unit → Shared → Prop} (I : Inv X pins σ H s) (e : H a = some (.ins C dx fs)) (c : Cls X.K C) (n : NoAttr X.K C f) (hl : fs.length < 1000) (ry : RelV y u)
    (h : ∀ s', Inv X pins σ (upd H a (.ins C dx (putF f y fs))) s' → Q () s') : wpAny (model X.prog X.w) A (setAttr (.ref a) f u) Q E s := by
  obtain ⟨mA, O, r, wi, _, ho⟩ := ins_get I.hok e
  have hz : (fs.map (·.1)).length ≤ sizeLine := by rw [List.length_map, sizeLine_eq]; omega
  refine set_map I.kIn O c.sa c.po n.taker c.hd wi hz fun h' O' sb => h _ ?_
  have hd : ∃ o, h'.get? dx = some o := let ⟨o, _, _, e', _⟩ := O'.ns; ⟨o, e'⟩
  refine I.write (x := a) (e := dx) (by rw [e]; exact True.intro) (.inr ho) (fun b q hb z => (sb.2 b hb).trans z) hd ?_
  refine ⟨by rw [upd_ne O.ne]; exact ho, ?_, O.ne, O'.obj, _, O'.ns, fun g => ?_, fun g hg => ?_⟩
  · have := length_putF f y fs; omega
  · show RelO ((putF f y fs).lookup g) (if g = f then some u else mA g)
    rw [lookup_putF]
    by_cases q : g = f
    · rw [if_pos q, if_pos q]; exact ry
    · rw [if_neg q, if_neg q]; exact r g
  · by_cases q : g = f
    · rw [q]; exact (keys_putF f y fs).1
    · refine (keys_putF f y fs).2 g (wi g fun z => hg ?_)
      show (if g = f then some u else mA g) = none
      rw [if_neg q]; exact z

/-- a new instance, tracked, without attributes -/
theorem Inv.made (I : Inv X pins σ H s) : Inv X pins σ (upd (upd H s.heap.objs.size (.own (s.heap.objs.size + 1))) (s.heap.objs.size + 1) (.ins C s.heap.objs.size []))
    { s with heap := (s.heap.push PySem.W.emptyDict).push (PySem.W.instObj C s.heap.objs.size) } := by
  have e1 : (s.heap.push PySem.W.emptyDict).get? s.heap.objs.size = some PySem.W.emptyDict := Heap.get?_push_size s.heap rfl
  have e2 : ((s.heap.push PySem.W.emptyDict).push (PySem.W.instObj C s.heap.objs.size)).get? (s.heap.objs.size + 1) = some (PySem.W.instObj C s.heap.objs.size) := by
    have := Heap.get?_push_size (s.heap.push PySem.W.emptyDict) (o := PySem.W.instObj C s.heap.objs.size) rfl
    rwa [Heap.size_push] at this
  have e3 : (s.heap.push PySem.W.emptyDict).Ns s.heap.objs.size (fun _ => none) := ⟨PySem.W.emptyDict, #[], _, e1, rfl, (fun e he => absurd he (by simp)), fun _ => rfl⟩
  have I1 := I.laid (a := s.heap.objs.size) (o := .own (s.heap.objs.size + 1)) (h' := s.heap.push PySem.W.emptyDict) (t' := s.toks) (fun b u q => Heap.get?_push_of_some _ q) (Nat.le_refl _) ⟨_, e1⟩
  refine I1.laid (a := s.heap.objs.size + 1) (o := .ins C s.heap.objs.size []) (t' := s.toks) (fun b u q => Heap.get?_push_of_some _ q) (Nat.le_of_eq (Heap.size_push _ _)) ?_
  have ne : s.heap.objs.size ≠ s.heap.objs.size + 1 := Nat.ne_of_lt (Nat.lt_succ_self _)
  refine ⟨by rw [upd_ne ne, upd_same], Nat.zero_le _, ne, e2, fun _ => none, (Heap.Ns1.of_empty e3).at fun o q => Heap.get?_push_of_some _ q, fun _ => True.intro, fun y hy => absurd rfl hy⟩

/-- e.f where nothing but the object is asked: through attributeBase (super) and the last hold -/
theorem attr_of {prog : Program} {w : World} {env : Env} {e : Expr} {f : Str} {pos : Pos} {s : Shared} {Q : Value → Shared → Prop} (hb : attributeBase e f env (eval e env) = eval e env)
    (h : wpAny (model prog w) A (eval e env) (fun o s₁ => wpAny (model prog w) A (getAttr o f true) Q E s₁) E s) : wpAny (model prog w) A (eval (.Attribute e f pos) env) Q E s :=
  Attribute_any_ h (by rw [arm_eval_Attribute, hb])
end

/-! ### readings and rules -/
/-- e.f, an attribute of the instance -/
def tFld (K : PySem.W.Frag) (ta : TE) (f : Str) : TE := fun σ H Q => ta σ H fun x H1 => ∃ a C dx fs v, x = .ref a ∧ H1 a = some (.ins C dx fs) ∧ Cls K C ∧ NoAttr K C f ∧ fs.lookup f = some v ∧ Q v H1
/-- e.f, a constant of the class -/
def tCon (K : PySem.W.Frag) (ta : TE) (f : Str) : TE := fun σ H Q => ta σ H fun x H1 => ∃ a C dx fs v u, x = .ref a ∧ H1 a = some (.ins C dx fs) ∧ Cls K C ∧ Con K C f v u ∧ fs.lookup f = none ∧ Q v H1
/-- e.f = value -/
def sFld (K : PySem.W.Frag) (ta tv : TE) (f : Str) : TS := fun D σ H => tv σ H fun y H1 => ta σ H1 fun x H2 => ∃ a C dx fs, x = .ref a ∧ H2 a = some (.ins C dx fs) ∧ Cls K C ∧ NoAttr K C f ∧ fs.length < 1000 ∧
  D.nx σ (upd H2 a (.ins C dx (putF f y fs)))
/-- an augmented operator on two values -/
def InOp (X : Cx) (op : Operator) (rd : V → V → Hp → VK → Prop) : Prop :=
  ∀ (pins : List (Addr × Obj)) (s : Shared) (σ : St) (H : Hp) (x y : V) (u v : Value) (Q : VK), Inv X pins σ H s → RelV x u → RelV y v → rd x y H Q → wpAny (model X.prog X.w) X.A (inplaceOp op u v) (EP X pins σ Q) X.xe s
/-- e.f op= value -/
def sFldAug (K : PySem.W.Frag) (ta tv : TE) (rd : V → V → Hp → VK → Prop) (f : Str) : TS := fun D σ H => ta σ H fun x H1 => ∃ a C dx fs v, x = .ref a ∧ H1 a = some (.ins C dx fs) ∧ Cls K C ∧ NoAttr K C f ∧ fs.lookup f = some v ∧
  tv σ H1 fun y H2 => rd v y H2 fun z H3 => ∃ dx' fs', H3 a = some (.ins C dx' fs') ∧ fs'.length < 1000 ∧ D.nx σ (upd H3 a (.ins C dx' (putF f z fs')))

section
variable {X : Cx} {o e value : Expr} {f : Str} {pos pos' tpos : Pos} {ta tv : TE}
theorem pe_fld (he : PE X e ta) (hb : attributeBase e f X.env (eval e X.env) = eval e X.env) : PE X (.Attribute e f pos) (tFld X.K ta f) := by
  intro pins s σ H Q I h
  refine attr_of hb (thn (he pins s σ H _ I h) fun u s1 ⟨x, H1, I1, rx, a, C, dx, fs, v, ex, ea, c, n, l, q⟩ => ?_)
  subst ex
  obtain rfl : u = Value.ref a := rx
  exact getattr_ok I1 ea c n l fun u' s2 I2 ru => ⟨v, H1, I2, ru, q⟩
theorem pe_con (he : PE X e ta) (hb : attributeBase e f X.env (eval e X.env) = eval e X.env) : PE X (.Attribute e f pos) (tCon X.K ta f) := by
  intro pins s σ H Q I h
  refine attr_of hb (thn (he pins s σ H _ I h) fun u s1 ⟨x, H1, I1, rx, a, C, dx, fs, v, u0, ex, ea, c, k, l, q⟩ => ?_)
  subst ex
  obtain rfl : u = Value.ref a := rx
  exact getcon_ok I1 ea c k l fun s2 I2 => ⟨v, H1, I2, k.rel, q⟩
theorem ps_fld (ha : PE X o ta) (hv : PE X value tv) (hs : swapsWith value (some (.Attribute o f pos')) pos.line X.env = pure false) : PS X (.Assign [.Attribute o f pos'] value pos) (sFld X.K ta tv f) := by
  intro pins s σ H D I h
  refine plainObj_wpAny_Assign_Attribute (thn (hv pins s σ H _ I h) fun u s1 ⟨y, H1, I1, ry, q⟩ => thn (ha pins s1 σ H1 _ I1 q) fun ov s2 ⟨x, H2, I2, rx, a, C, dx, fs, ex, ea, c, n, l, q2⟩ => ?_) hs
  subst ex
  obtain rfl : ov = Value.ref a := rx
  exact setattr_ok I2 ea c n l ry fun s3 I3 => ⟨σ, _, I3, q2⟩
theorem ps_fldaug {op : Operator} {rd : V → V → Hp → VK → Prop} (ha : PE X o ta) (hv : PE X value tv) (hop : InOp X op rd) : PS X (.AugAssign (.Attribute o f tpos) op value pos) (sFldAug X.K ta tv rd f) := by
  intro pins s σ H D I h
  refine wpAny_AugAssign_AttributeAny (thn (ha pins s σ H _ I h) fun ov s1 ⟨x, H1, I1, rx, a, C, dx, fs, v, ex, ea, c, n, l, q⟩ => ?_)
  subst ex
  obtain rfl : ov = Value.ref a := rx
  refine getattr_ok I1 ea c n l fun u s2 I2 ru => thn (hv pins s2 σ H1 _ I2 q) fun w3 s3 ⟨y, H2, I3, ry, q3⟩ => thn (hop pins s3 σ H2 v y u w3 _ I3 ru ry q3) fun w4 s4 ⟨z, H3, I4, rz, dx', fs', ea', l', q4⟩ => ?_
  exact setattr_ok I4 ea' c n l' rz fun s5 I5 => ⟨σ, _, I5, q4⟩
def rAdd : V → V → Hp → VK → Prop := fun x y H Q => ∃ i j, x = .int i ∧ y = .int j ∧ Q (.int (i + j)) H
def rSub : V → V → Hp → VK → Prop := fun x y H Q => ∃ i j, x = .int i ∧ y = .int j ∧ Q (.int (i - j)) H
theorem in_add : InOp X .Add rAdd := by
  rintro pins s σ H x y u v Q I rx ry ⟨i, j, rfl, rfl, q⟩
  obtain ⟨t, rfl⟩ := (show ∃ t, u = Value.int i t from rx)
  obtain ⟨t', rfl⟩ := (show ∃ t', v = Value.int j t' from ry)
  exact PyProof.Rows.iadd_int ⟨.int (i + j), H, I.tok _, ⟨_, rfl⟩, q⟩
theorem in_sub : InOp X .Sub rSub := by
  rintro pins s σ H x y u v Q I rx ry ⟨i, j, rfl, rfl, q⟩
  obtain ⟨t, rfl⟩ := (show ∃ t, u = Value.int i t from rx)
  obtain ⟨t', rfl⟩ := (show ∃ t', v = Value.int j t' from ry)
  exact PyProof.Rows.isub_int ⟨.int (i - j), H, I.tok _, ⟨_, rfl⟩, q⟩

/-- what is between an instance and its method: the tree of a method call -/
theorem methcall_of {pl : Sem Bool} {m : Str} {apos : Pos} {args : List Expr} {pins : List (Addr × Obj)} {s : Shared} {σ : St} {H : Hp} {Q : Value → Shared → Prop} {te : TE} (he : PE X e te) (I : Inv X pins σ H s)
    (h : te σ H fun x H1 => ∃ a C dx fs g, x = .ref a ∧ H1 a = some (.ins C dx fs) ∧ Cls X.K C ∧ Meth X.K C m g ∧ fs.lookup m = none ∧
      ∀ s1, Inv X pins σ H1 s1 → wpAny (model X.prog X.w) X.A (callWith pos (.ref g) [.ref a] (backTo pos (starEach args X.env)) (backToKw pos (keywordEach [] X.env))) Q X.xe s1)
    (ht : eval (.Call (.Attribute e m apos) args [] pos) X.env = (do
      let ov ← eval e X.env
      standAt apos.atName
      let (f, first) ← holding [ov] (getMethod ov m pl)
      callWith pos f first (backTo pos (starEach args X.env)) (backToKw pos (keywordEach [] X.env)))) :
    wpAny (model X.prog X.w) X.A (eval (.Call (.Attribute e m apos) args [] pos) X.env) Q X.xe s := by
  refine PySem.W.methodCall_KW (pl := pl) (thn (he pins s σ H _ I h) fun u s1 ⟨x, H1, I1, rx, a, C, dx, fs, g, ex, ea, c, k, l, q⟩ => ?_) ht
  subst ex
  obtain rfl : u = Value.ref a := rx
  exact getmeth_ok I1 ea c k l (q s1 I1)
end

/-! ### isinstance -/
section
variable {X : Cx} {pins : List (Addr × Obj)} {σ : St} {H : Hp} {s : Shared} {A : Around} {E : Value → Shared → Prop} {Q : Value → Shared → Prop} {c : Value} {b : Bool}
/-- the type of a value, as the fragment's deciders take it; for an instance its class -/
inductive TyOf (K : PySem.W.Frag) (H : Hp) : V → Value → Prop where
  | non : TyOf K H .non (.type "NoneType")
  | bl (x : Bool) : TyOf K H (.bl x) (.type "bool")
  | int (i : Int) : TyOf K H (.int i) (.type "int")
  | str (x : Str) : TyOf K H (.str x) (.type "str")
  | flt (x : UInt64) : TyOf K H (.flt x) (.type "float")
  | lst {a : Addr} {xs : List V} (e : H a = some (.lst xs)) : TyOf K H (.ref a) (.type "list")
  | frz {a : Addr} {o : Obj} {xs : List V} (e : H a = some (.frz o (.lst xs))) : TyOf K H (.ref a) (.type "list")
  | tup {a : Addr} {xs : List V} (e : H a = some (.tup xs)) : TyOf K H (.ref a) (.type "tuple")
  | dK {a : Addr} {kvs : List (Key × V)} (e : H a = some (.dK kvs)) : TyOf K H (.ref a) (.type "dict")
  | dT {a : Addr} {kvs : List (List Key × V)} (e : H a = some (.dT kvs)) : TyOf K H (.ref a) (.type "dict")
  | ins {a C dx : Addr} {fs : List (Str × V)} (e : H a = some (.ins C dx fs)) (cl : Cls K C) (ha : PySem.W.findIn K (.ref C) "__class__" = some (some (.builtin "object.__class__")))
      (hn : PySem.W.specialIn K (.builtin "object.__class__") "__get__" = some (some (.builtin "getset_descriptor.__get__"))) (htk : PySem.W.takesIn K (.builtin "object.__class__") = some true)
      (hm : PySem.W.mroIn K C (.type "object") = some true) : TyOf K H (.ref a) (.ref C)
/-- isinstance(x, c) for one class c, a built-in or an own one: kitOne's answer -/
theorem isinst_ok {x : V} {u t : Value} (I : Inv X pins σ H s) (rx : RelV x u) (ty : TyOf X.K H x t) (e : PySem.W.kitOne X.K t c = some b) (h : ∀ tk, Q (.bool b) { s with toks := tk }) :
    wpAny (model X.prog X.w) A (call (.builtin "isinstance") [u, c]) Q E s := by
  cases ty with
  | non => cases (show u = Value.none from rx); exact PySem.W.kia_one PySem.W.kitx_none I.kIn True.intro e (fun z => nomatch z) h
  | bl y => cases (show u = Value.bool y from rx); exact PySem.W.kia_one PySem.W.kitx_bool I.kIn True.intro e (fun z => nomatch z) h
  | int i => obtain ⟨t, q⟩ := (show ∃ t, u = Value.int i t from rx); cases q; exact PySem.W.kia_one PySem.W.kitx_int I.kIn True.intro e (fun z => nomatch z) h
  | str y => obtain ⟨t, q⟩ := (show ∃ t, u = Value.str y t from rx); cases q; exact PySem.W.kia_one PySem.W.kitx_str I.kIn True.intro e (fun z => nomatch z) h
  | flt y => obtain ⟨t, q⟩ := (show ∃ t, u = Value.float y t from rx); cases q; exact PySem.W.kia_one PySem.W.kitx_float I.kIn True.intro e (fun z => nomatch z) h
  | @lst a xs ea =>
    cases (show u = Value.ref a from rx)
    obtain ⟨_, _, n, _, h1⟩ := (show ObjOk X.prog X.w H s.heap a (.lst xs) from I.hok a _ ea)
    exact PySem.W.kia_one PySem.W.kitx_list I.kIn ⟨_, h1, rfl⟩ e (fun z => nomatch z) h
  | @frz a ob xs ea =>
    cases (show u = Value.ref a from rx)
    obtain ⟨_, _, _, n, _, h1⟩ := (show ObjOk X.prog X.w H s.heap a (.frz ob (.lst xs)) from I.hok a _ ea)
    exact PySem.W.kia_one PySem.W.kitx_list I.kIn ⟨_, h1, rfl⟩ e (fun z => nomatch z) h
  | @tup a xs ea =>
    cases (show u = Value.ref a from rx)
    obtain ⟨_, _, _, p⟩ := (show ObjOk X.prog X.w H s.heap a (.tup xs) from I.hok a _ ea)
    obtain ⟨o, h1, h2, _⟩ := p
    exact PySem.W.kia_one PySem.W.kitx_tuple I.kIn ⟨o, h1, h2⟩ e (fun z => nomatch z) h
  | @dK a kvs ea =>
    cases (show u = Value.ref a from rx)
    obtain ⟨_, _, vs, _, p⟩ := (show ObjOk X.prog X.w H s.heap a (.dK kvs) from I.hok a _ ea)
    obtain ⟨o, es, ep, h1, h2, _⟩ := p
    exact PySem.W.kia_one PySem.W.kitx_dict I.kIn ⟨o, h1, h2.1⟩ e (fun z => nomatch z) h
  | @dT a kvs ea =>
    cases (show u = Value.ref a from rx)
    obtain ⟨_, _, xs, _, o, es, ep, h1, h2, _⟩ := (show ObjOk X.prog X.w H s.heap a (.dT kvs) from I.hok a _ ea)
    exact PySem.W.kia_one PySem.W.kitx_dict I.kIn ⟨o, h1, h2.1⟩ e (fun z => nomatch z) h
  | @ins a C dx fs ea cl ha hn htk hm =>
    cases (show u = Value.ref a from rx)
    obtain ⟨mA, O, _⟩ := ins_get I.hok ea
    obtain ⟨od, J, _⟩ := O.look
    exact PySem.W.kia_one (PySem.W.kitx_own (cl.get _) cl.hd ha hn htk hm) I.kIn J e (fun z => nomatch z) h
end
end L2

namespace L2
open PySem PySem.Spec PyProof.Rows

/-! ### room -/
structure Room (k : Nat) (A : Around) : Prop where
  hd : A.handled = none
  dp : A.depth + 3 * k + 5 < recursionLimit
  un : A.units + 16 * k + 200 < cLine
theorem Room.mono {j k : Nat} {A : Around} (r : Room k A) (h : j ≤ k) : Room j A := ⟨r.hd, by have := r.dp; omega, by have := r.un; omega⟩
theorem Room.deeper {k : Nat} {A : Around} (r : Room (k + 1) A) (env : Env) : Room k (A.deeper env) :=
  ⟨r.hd, by have := r.dp; show A.depth + 1 + 3 * k + 5 < _; omega, by have := r.un; show A.units + 3 + 16 * k + 200 < _; omega⟩
theorem Room.in1 {k : Nat} {A : Around} (r : Room (k + 1) A) : Room k A.in1 :=
  ⟨r.hd, by have := r.dp; show A.depth + 3 * k + 5 < _; omega, by have := r.un; show A.units + 1 + 16 * k + 200 < _; omega⟩
theorem make_depth {A : Around} {C : Addr} {us : List Value} {kw : List (Str × Value)} : (A.under (.builtin "type.__call__" ⟨.ref C :: us, kw⟩)).depth = A.depth + 1 := by
  first | rfl | simp [Around.under, Code.weight, Code.isCreation, Code.isGuard, Code.isCaller, Code.frames, Code.isFrame, guardIds]
theorem make_units {A : Around} {C : Addr} {us : List Value} {kw : List (Str × Value)} : (A.under (.builtin "type.__call__" ⟨.ref C :: us, kw⟩)).units = A.units + 1 := by
  first | rfl | simp [Around.under, Code.cUnits, Code.frames, Code.isFrame]
theorem Room.make {k : Nat} {A : Around} (r : Room (k + 1) A) (C : Addr) (us : List Value) (kw : List (Str × Value)) : Room k (A.under (.builtin "type.__call__" ⟨.ref C :: us, kw⟩)) :=
  ⟨r.hd, by have := r.dp; rw [make_depth]; omega, by have := r.un; rw [make_units]; omega⟩
theorem Room.depth {k : Nat} {A : Around} (r : Room k A) : A.depth < recursionLimit := by have := r.dp; omega
theorem Room.units {k : Nat} {A : Around} (r : Room k A) : A.units + 64 < cLine := by have := r.un; omega
theorem Room.units0 {k : Nat} {A : Around} (r : Room k A) : A.units < cLine := by have := r.un; omega

/-! ### argument lists and displays -/
def tNil : TA := fun _ H Q => Q [] H
def tCons (ta : TE) (tr : TA) : TA := fun σ H Q => ta σ H fun x H1 => tr σ H1 fun xs H2 => Q (x :: xs) H2
section
variable {X : Cx} {e : Expr} {es : List Expr} {te : TE} {t : TA} {pos : Pos}
theorem pa_nil : PA X [] tNil := fun _ _ _ _ H Q I h => Calls.spliced_nil ⟨[], H, I, .nil, h⟩
theorem pa_cons (ha : PE X e te) (hr : PA X es t) (hs : starEach (e :: es) X.env = (false, eval e X.env) :: starEach es X.env := by rfl) : PA X (e :: es) (tCons te t) := by
  intro pos pins s σ H Q I h
  rw [hs]
  show wpAny _ _ (spliced ((false, eval e X.env) :: backTo pos (starEach es X.env))) _ _ s
  refine Calls.spliced_cons (thn (ha pins s σ H _ I h) fun u s1 ⟨x, H1, I1, r1, q1⟩ => ?_)
  exact thn (hr pos pins s1 σ H1 _ I1 q1) fun us s2 ⟨xs, H2, I2, r2, q2⟩ => ⟨x :: xs, H2, I2, .cons r1 r2, q2⟩

/-- a tuple, a list of written items -/
def tTup (t : TA) : TE := fun σ H Q => t σ H fun xs H1 => xs.length ≤ sizeLine ∧ ∀ p, H1 p = none → Q (.ref p) (upd H1 p (.tup xs))
def tLst (t : TA) : TE := fun σ H Q => t σ H fun xs H1 => xs.length ≤ sizeLine ∧ ∀ p, H1 p = none → Q (.ref p) (upd H1 p (.lst xs))
theorem pe_tup {x1} (h : PA X es t) : PE X (.Tuple es x1 pos) (tTup t) := by
  intro pins s σ H Q I hq
  refine wpAny_Tuple_spliced (thn (h pos pins s σ H _ I hq) fun us s1 ⟨xs, H1, I1, r, z, q⟩ => ⟨by rw [← r.length]; exact z, ?_⟩)
  have hf : H1 s1.heap.objs.size = none := I1.hok.fresh (Nat.le_refl _)
  refine ⟨.ref s1.heap.objs.size, upd H1 s1.heap.objs.size (.tup xs), I1.laid (t' := s1.toks) (fun b u e => Heap.get?_push_of_some _ e) (Nat.le_refl _) ?_, rfl, q _ hf⟩
  exact ⟨z, us, r, ⟨_, Heap.get?_push_size _ rfl, rfl, _, rfl⟩⟩
theorem pe_lst (h : PA X es t) : PE X (.List es pos) (tLst t) := by
  intro pins s σ H Q I hq
  refine wpAny_List_spliced (thn (h pos pins s σ H _ I hq) fun us s1 ⟨xs, H1, I1, r, z, q⟩ => ⟨by rw [← r.length]; exact z, ?_⟩)
  have hf : H1 s1.heap.objs.size = none := I1.hok.fresh (Nat.le_refl _)
  refine ⟨.ref s1.heap.objs.size, upd H1 s1.heap.objs.size (.lst xs), I1.laid (t' := s1.toks) (fun b u e => Heap.get?_push_of_some _ e) (Nat.le_refl _) ?_, rfl, q _ hf⟩
  exact ⟨z, us, 0, r, Heap.get?_push_size _ rfl⟩
end

/-! ### what a def promises -/
/-- a def's promise: the bound arguments in the parameters' order, the heap, the wanted end, the wanted exception -/
abbrev Sp := List V → Hp → VK → XK → Prop
/-- how an exception lies behind a call (file 08 gives it): the callers' frames, abstract heap and state ahead of the call, the wish, the exception, the state -/
abbrev CXT := List Env → Hp → Shared → XK → Value → Shared → Prop

/-- the state at a call -/
structure Env0 (P : Program) (w : World) (K : PySem.W.Frag) (mg : Str → Option Value) (base : Heap) (A : Around) (outer : List Env) (s : Shared) (H : Hp) : Prop where
  frames : A.frames = some outer
  mod : Mod K mg base
  bs : ∀ b o, base.get? b = some o → s.heap.get? b = some o ∧ H b = none
  bsz : base.objs.size ≤ s.heap.objs.size
  funs : s.heap.FunFrames base outer
  frf : ∀ b ∈ frs outer, H b = none
  hok : HOk P w H s.heap
  bare : AllBare s.gens
/-- a call's end -/
def CE (outer : List Env) (P : Program) (w : World) (H : Hp) (s : Shared) (Q : VK) (u : Value) (s' : Shared) : Prop :=
  ∃ v H', s'.os = s.os ∧ AllBare s'.gens ∧ Un (frs outer) [] H H' s.heap s'.heap ∧ HOk P w H' s'.heap ∧ RelV v u ∧ Q v H'
def CR (CX : CXT) (outer : List Env) (P : Program) (w : World) (H : Hp) (s : Shared) (Q : VK) (E : XK) (r : Result) (s' : Shared) : Prop :=
  match r with
  | .ok (.ret u) => CE outer P w H s Q u s'
  | .ok _ => False
  | .error e => CX outer H s E e s'
structure FnOk (P : Program) (w : World) (K : PySem.W.Frag) (mg : Str → Option Value) (base : Heap) (CX : CXT) (k : Nat) (f : Addr) (fd : FuncData) (ps : List Str) (sp : Sp) : Prop where
  len : ∀ vs H Q E, sp vs H Q E → vs.length = ps.length
  run : ∀ (A : Around) (outer : List Env) (s : Shared) (H : Hp) (args : Args) (us : List Value) (vs : List V) (Q : VK) (E : XK), Room k A → Env0 P w K mg base A outer s H → BindsTo s fd args (ps.zip us) → Vals vs us → sp vs H Q E →
    codeAny (model P w) A (.call (.ref f) args) (CR CX outer P w H s Q E) s
theorem FnOk.mono {P : Program} {w : World} {K : PySem.W.Frag} {mg : Str → Option Value} {base : Heap} {CX : CXT} {j k : Nat} {f : Addr} {fd : FuncData} {ps : List Str} {sp : Sp} (F : FnOk P w K mg base CX j f fd ps sp) (h : j ≤ k) :
    FnOk P w K mg base CX k f fd ps sp := ⟨F.len, fun A outer s H args us vs Q E hr => F.run A outer s H args us vs Q E (hr.mono h)⟩
/-- a weaker promise -/
theorem FnOk.imp {P : Program} {w : World} {K : PySem.W.Frag} {mg : Str → Option Value} {base : Heap} {CX : CXT} {k : Nat} {f : Addr} {fd : FuncData} {ps : List Str} {sp sp' : Sp} (F : FnOk P w K mg base CX k f fd ps sp)
    (h : ∀ vs H Q E, sp' vs H Q E → sp vs H Q E) : FnOk P w K mg base CX k f fd ps sp' :=
  ⟨fun vs H Q E q => F.len vs H Q E (h _ _ _ _ q), fun A outer s H args us vs Q E hr he hb hv hs => F.run A outer s H args us vs Q E hr he hb hv (h _ _ _ _ hs)⟩

theorem Env0.make {P : Program} {w : World} {K : PySem.W.Frag} {mg : Str → Option Value} {base : Heap} {A : Around} {outer : List Env} {s : Shared} {H : Hp} (e : Env0 P w K mg base A outer s H) (C : Addr) (us : List Value) (kw : List (Str × Value)) :
    Env0 P w K mg base (A.under (.builtin "type.__call__" ⟨.ref C :: us, kw⟩)) outer s H := ⟨by first | exact e.frames | (simpa [Around.under, Code.envs, Code.isFrame, pushEnvs] using e.frames), e.mod, e.bs, e.bsz, e.funs, e.frf, e.hok, e.bare⟩
theorem Env0.in1 {P : Program} {w : World} {K : PySem.W.Frag} {mg : Str → Option Value} {base : Heap} {A : Around} {outer : List Env} {s : Shared} {H : Hp} (e : Env0 P w K mg base A outer s H) :
    Env0 P w K mg base A.in1 outer s H := ⟨e.frames, e.mod, e.bs, e.bsz, e.funs, e.frf, e.hok, e.bare⟩

section
variable {X : Cx} {pins : List (Addr × Obj)} {σ : St} {H : Hp} {s s' : Shared}
/-- from a body: what a callee wants -/
theorem Inv.env0 (I : Inv X pins σ H s) : Env0 X.prog X.w X.K X.mg X.base X.A X.stack s H :=
  ⟨I.ok.frames, I.ok.mod, I.bs, Nat.le_trans I.ok.bsz I.sz, I.stack, I.stkFree, I.hok, I.bare⟩
/-- behind a call -/
theorem Inv.after {Q : VK} {u : Value} (I : Inv X pins σ H s) (h : CE X.stack X.prog X.w H s Q u s') : EP X pins σ Q u s' := by
  obtain ⟨v, H', os, bare, un, hok, r, q⟩ := h
  obtain ⟨hh, g, d, t, os'⟩ := s'
  obtain rfl : os' = s.os := os
  exact ⟨v, H', I.call (h' := hh) (g' := g) (d' := d) (t' := t) (ch := []) un hok bare (fun b z => absurd z (by simp)), r, q⟩
end

/-! ### calls -/
/-- f(..): the written arguments, then the defaults dvs; E: what is wanted of an exception -/
def tCall (sp : Sp) (dvs : List V) (E : XK) (t : TA) : TE := fun σ H Q => t σ H fun vs H1 => sp (vs ++ dvs) H1 Q E
/-- o.m(..) of an instance of the class at C -/
def tMeth (C : Addr) (m : Str) (sp : Sp) (dvs : List V) (E : XK) (ta : TE) (t : TA) : TE := fun σ H Q => ta σ H fun x H1 => ∃ a dx fs, x = .ref a ∧ H1 a = some (.ins C dx fs) ∧ fs.lookup m = none ∧
  t σ H1 fun vs H2 => sp (x :: (vs ++ dvs)) H2 Q E
/-- C(..): a new instance and its dict, then __init__ -/
def tMake (C : Addr) (sp : Sp) (dvs : List V) (E : XK) (t : TA) : TE := fun σ H Q => t σ H fun vs H1 => ∀ x dx, H1 x = none → H1 dx = none → dx ≠ x →
  sp (.ref x :: (vs ++ dvs)) (upd (upd H1 dx (.own x)) x (.ins C dx [])) (fun v H2 => v = .non ∧ Q (.ref x) H2) E

/-- how the parameters are bound: us the positional arguments, kw the keywords' values by name, ds the defaults that fill up -/
def Binds (K : PySem.W.Frag) (fd : FuncData) (ps : List Str) (ds : List Value) : Prop :=
  ∀ (s : Shared) (us : List Value), K.In s.heap → (us ++ ds).length = ps.length → BindsTo s fd ⟨us, []⟩ (ps.zip (us ++ ds))
/-- every parameter is given -/
theorem Binds.all {K : PySem.W.Frag} {fd : FuncData} {ps : List Str} (h : ∀ us : List Value, us.length = ps.length → bindArgs fd ⟨us, []⟩ = pure (ps.zip us)) : Binds K fd ps [] := fun s us _ hl => by
  rw [List.append_nil] at hl ⊢
  exact .of_eq (h us hl)

/-- an exception of a callee reaches what this body wants of exceptions -/
def Passes (CX : CXT) (X : Cx) (E : XK) : Prop := ∀ (pins : List (Addr × Obj)) (σ : St) (H : Hp) (s : Shared) (e : Value) (s' : Shared), Inv X pins σ H s → CX X.stack H s E e s' → X.xe e s'

section
variable {X : Cx} {CX : CXT} {k : Nat} {f C : Addr} {fd : FuncData} {ps : List Str} {sp : Sp} {dvs : List V} {ds : List Value} {E : XK} {x m : Str} {p pos apos : Pos} {e o : Expr} {es : List Expr} {ta : TE} {t : TA}

/-- the callee runs -/
theorem run_fn {pins : List (Addr × Obj)} {σ : St} {H : Hp} {s : Shared} {Q : VK} {us : List Value} {vs : List V} (F : FnOk X.prog X.w X.K X.mg X.base CX k f fd ps sp) (hr : Room k X.A) (hb : Binds X.K fd ps ds) (hd : Vals dvs ds) (hx : Passes CX X E)
    (I : Inv X pins σ H s) (r : Vals vs us) (h : sp (vs ++ dvs) H Q E) : wpAny (model X.prog X.w) X.A (call (.ref f) us) (EP X pins σ Q) X.xe s := by
  have r2 : Vals (vs ++ dvs) (us ++ ds) := r.append hd
  have hl : (us ++ ds).length = ps.length := by rw [← r2.length]; exact F.len _ _ _ _ h
  refine wpAny_call (codeAny_mono (F.run X.A X.stack s H ⟨us, []⟩ (us ++ ds) (vs ++ dvs) Q E hr I.env0 (hb s us I.kIn hl) r2 h) fun r s' hq => ?_)
  cases r with
  | error e => exact hx pins σ H s e s' I hq
  | ok fl =>
    cases fl with
    | ret u => exact I.after hq
    | next => exact False.elim hq
    | brk => exact False.elim hq
    | cont => exact False.elim hq

theorem pe_call (F : FnOk X.prog X.w X.K X.mg X.base CX k f fd ps sp) (hr : Room k X.A) (hg : Gl X x) (hm : X.mg x = some (.ref f)) (hk : PySem.W.keepIn X.K (.ref f) = true) (hb : Binds X.K fd ps ds) (hd : Vals dvs ds) (hx : Passes CX X E)
    (ha : PA X (e :: es) t) (hdb : (x == ("__debug__" : Str)) = false := by decide) (he : starEach (e :: es) X.env = (false, eval e X.env) :: starEach es X.env := by rfl) (hpl : (backTo pos (starEach es X.env)).any (·.1) = false := by rfl) :
    PE X (.Call (.Name x p) (e :: es) [] pos) (tCall sp dvs E t) := by
  intro pins s σ H Q I h
  refine wpAny_Call_Name_kw (ld_glob I hg hm ?_ hdb)
  refine PySem.W.callWith_K (h₀ := X.base) I.ok.mod.kin hk (thn (ha pos pins s σ H _ I h) fun us s1 ⟨vs, H1, I1, r, q⟩ => ⟨I1.kIn, ?_⟩) he hpl
  exact run_fn F hr hb hd hx I1 r q
theorem pe_call0 (F : FnOk X.prog X.w X.K X.mg X.base CX k f fd ps sp) (hr : Room k X.A) (hg : Gl X x) (hm : X.mg x = some (.ref f)) (hk : PySem.W.keepIn X.K (.ref f) = true) (hb : Binds X.K fd ps ds) (hd : Vals dvs ds) (hx : Passes CX X E)
    (hdb : (x == ("__debug__" : Str)) = false := by decide) : PE X (.Call (.Name x p) [] [] pos) (tCall sp dvs E tNil) := by
  intro pins s σ H Q I h
  refine wpAny_Call_Name_kw (ld_glob I hg hm ?_ hdb)
  exact PySem.W.callWith_K0 I.kIn hk (run_fn (us := []) F hr hb hd hx I .nil h)

/-- o.m(e, ..) -/
theorem pe_meth {pl : Sem Bool} (he : PE X o ta) (c : Cls X.K C) (hm : Meth X.K C m f) (F : FnOk X.prog X.w X.K X.mg X.base CX k f fd ps sp) (hr : Room k X.A) (hb : Binds X.K fd ps ds) (hd : Vals dvs ds) (hx : Passes CX X E) (ha : PA X (e :: es) t)
    (hst : starEach (e :: es) X.env = (false, eval e X.env) :: starEach es X.env := by rfl) (hpl : (backTo pos (starEach es X.env)).any (·.1) = false := by rfl)
    (ht : eval (.Call (.Attribute o m apos) (e :: es) [] pos) X.env = (do
      let ov ← eval o X.env
      standAt apos.atName
      let (f, first) ← holding [ov] (getMethod ov m pl)
      callWith pos f first (backTo pos (starEach (e :: es) X.env)) (backToKw pos (keywordEach [] X.env))) := by rfl) :
    PE X (.Call (.Attribute o m apos) (e :: es) [] pos) (tMeth C m sp dvs E ta t) := by
  intro pins s σ H Q I h
  refine PySem.W.methodCall_KW (pl := pl) (thn (he pins s σ H _ I h) fun u s1 ⟨x, H1, I1, rx, a, dx, fs, ex, ea, l, q⟩ => ?_) ht
  subst ex
  obtain rfl : u = Value.ref a := rx
  refine getmeth_ok I1 ea c hm l ?_
  refine PySem.W.callWith_K (first := [.ref a]) (h₀ := X.base) I.ok.mod.kin hm.kp (thn (ha pos pins s1 σ H1 _ I1 q) fun us s2 ⟨vs, H2, I2, r, q2⟩ => ⟨I2.kIn, ?_⟩) hst hpl
  exact run_fn (us := .ref a :: us) (vs := .ref a :: vs) F hr hb hd hx I2 (.cons rfl r) q2
/-- o.m() -/
theorem pe_meth0 {pl : Sem Bool} (he : PE X o ta) (c : Cls X.K C) (hm : Meth X.K C m f) (F : FnOk X.prog X.w X.K X.mg X.base CX k f fd ps sp) (hr : Room k X.A) (hb : Binds X.K fd ps ds) (hd : Vals dvs ds) (hx : Passes CX X E)
    (ht : eval (.Call (.Attribute o m apos) [] [] pos) X.env = (do
      let ov ← eval o X.env
      standAt apos.atName
      let (f, first) ← holding [ov] (getMethod ov m pl)
      callWith pos f first (backTo pos (starEach [] X.env)) (backToKw pos (keywordEach [] X.env))) := by rfl) :
    PE X (.Call (.Attribute o m apos) [] [] pos) (tMeth C m sp dvs E ta tNil) := by
  intro pins s σ H Q I h
  refine PySem.W.methodCall_KW (pl := pl) (thn (he pins s σ H _ I h) fun u s1 ⟨x, H1, I1, rx, a, dx, fs, ex, ea, l, q⟩ => ?_) ht
  subst ex
  obtain rfl : u = Value.ref a := rx
  refine getmeth_ok I1 ea c hm l ?_
  exact PySem.W.callWith_K0 (first := [.ref a]) I1.kIn hm.kp (run_fn (us := [.ref a]) (vs := [.ref a]) F hr hb hd hx I1 (.cons rfl .nil) q)

/-- what a class must have to be made -/
structure Mk (K : PySem.W.Frag) (C f : Addr) : Prop where
  makes : PySem.W.makesIn K C = true
  init : PySem.W.findIn K (.ref C) "__init__" = some (some (.ref f))
  fn : PySem.W.isFn K (.ref f) = true
  kp : PySem.W.keepIn K (.ref C) = true

theorem run_make {pins : List (Addr × Obj)} {σ : St} {H : Hp} {s : Shared} {Q : VK} {us : List Value} {vs : List V} (M : Mk X.K C f) (F : FnOk X.prog X.w X.K X.mg X.base CX k f fd ps sp) (hr : Room (k + 1) X.A) (hb : Binds X.K fd ps ds) (hd : Vals dvs ds)
    (hx : Passes CX X E) (I : Inv X pins σ H s) (r : Vals vs us)
    (h : ∀ x dx, H x = none → H dx = none → dx ≠ x → sp (.ref x :: (vs ++ dvs)) (upd (upd H dx (.own x)) x (.ins C dx [])) (fun v H2 => v = .non ∧ Q (.ref x) H2) E) :
    wpAny (model X.prog X.w) X.A (call (.ref C) us) (EP X pins σ Q) X.xe s := by
  have hq := h (s.heap.objs.size + 1) s.heap.objs.size (I.hok.fresh (Nat.le_succ _)) (I.hok.fresh (Nat.le_refl _)) (Nat.ne_of_lt (Nat.lt_succ_self _))
  have I2 := Inv.made (C := C) I
  have r2 : Vals (V.ref (s.heap.objs.size + 1) :: (vs ++ dvs)) (Value.ref (s.heap.objs.size + 1) :: (us ++ ds)) := .cons rfl (r.append hd)
  have hl : (Value.ref (s.heap.objs.size + 1) :: us ++ ds).length = ps.length := by
    have e := r2.length
    rw [F.len _ _ _ _ hq] at e
    exact e.symm
  refine wpAny_call (make_map (f := f) I.kIn M.makes M.init (beq_iff_eq.mp M.fn) (codeAny_mono (F.run _ X.stack _ _ ⟨Value.ref (s.heap.objs.size + 1) :: us, []⟩ (Value.ref (s.heap.objs.size + 1) :: (us ++ ds)) _ _ E (hr.make C us [])
    (I2.env0.make C us []) (hb _ (Value.ref (s.heap.objs.size + 1) :: us) I2.kIn hl) r2 hq) fun r s' hq' => ?_))
  cases r with
  | error e => exact hx pins σ _ _ e s' I2 hq'
  | ok fl =>
    cases fl with
    | ret u =>
      obtain ⟨v, H', I3, rv, ev, q3⟩ := I2.after hq'
      subst ev
      exact ⟨rv, ⟨V.ref (s.heap.objs.size + 1), H', I3, rfl, q3⟩⟩
    | next => exact False.elim hq'
    | brk => exact False.elim hq'
    | cont => exact False.elim hq'
theorem pe_make (M : Mk X.K C f) (F : FnOk X.prog X.w X.K X.mg X.base CX k f fd ps sp) (hr : Room (k + 1) X.A) (hg : Gl X x) (hm : X.mg x = some (.ref C)) (hb : Binds X.K fd ps ds) (hd : Vals dvs ds) (hx : Passes CX X E)
    (ha : PA X (e :: es) t) (hdb : (x == ("__debug__" : Str)) = false := by decide) (he : starEach (e :: es) X.env = (false, eval e X.env) :: starEach es X.env := by rfl) (hpl : (backTo pos (starEach es X.env)).any (·.1) = false := by rfl) :
    PE X (.Call (.Name x p) (e :: es) [] pos) (tMake C sp dvs E t) := by
  intro pins s σ H Q I h
  refine wpAny_Call_Name_kw (ld_glob I hg hm ?_ hdb)
  refine PySem.W.callWith_K (h₀ := X.base) I.ok.mod.kin M.kp (thn (ha pos pins s σ H _ I h) fun us s1 ⟨vs, H1, I1, r, q⟩ => ⟨I1.kIn, ?_⟩) he hpl
  exact run_make M F hr hb hd hx I1 r q
theorem pe_make0 (M : Mk X.K C f) (F : FnOk X.prog X.w X.K X.mg X.base CX k f fd ps sp) (hr : Room (k + 1) X.A) (hg : Gl X x) (hm : X.mg x = some (.ref C)) (hb : Binds X.K fd ps ds) (hd : Vals dvs ds) (hx : Passes CX X E)
    (hdb : (x == ("__debug__" : Str)) = false := by decide) : PE X (.Call (.Name x p) [] [] pos) (tMake C sp dvs E tNil) := by
  intro pins s σ H Q I h
  refine wpAny_Call_Name_kw (ld_glob I hg hm ?_ hdb)
  exact PySem.W.callWith_K0 I.kIn M.kp (run_make (us := []) M F hr hb hd hx I .nil h)
end

/-! ### keywords -/
/-- the values of the keywords, from the left -/
def PK (X : Cx) (kws : List Keyword) (t : TA) : Prop :=
  ∀ (pos : Pos) (pins : List (Addr × Obj)) (s : Shared) (σ : St) (H : Hp) (Q : List V → Hp → Prop), Inv X pins σ H s → t σ H Q → wpAny (model X.prog X.w) X.A (evalAll ((backToKw pos (keywordEach kws X.env)).map (·.2))) (AP X pins σ Q) X.xe s
section
variable {X : Cx} {CX : CXT} {k : Nat} {f C : Addr} {fd : FuncData} {ps ks : List Str} {sp : Sp} {E : XK} {x m : Str} {p pos apos kpos : Pos} {e o : Expr} {es : List Expr} {kws : List Keyword} {te ta : TE} {t tk : TA} {nm : Option Str}
theorem pk_nil : PK X [] tNil := fun _ _ _ _ H Q I h => wpAny_evalAll_nil ⟨[], H, I, .nil, h⟩
theorem pk_cons (ha : PE X e te) (hr : PK X kws t) : PK X (⟨nm, e, kpos⟩ :: kws) (tCons te t) := by
  intro pos pins s σ H Q I h
  show wpAny _ _ (evalAll ((do let v ← eval e X.env; standAt pos; pure v) :: (backToKw pos (keywordEach kws X.env)).map (·.2))) _ _ s
  refine wpAny_evalAll_cons (wpAny_bind (thn (ha pins s σ H _ I h) fun u s1 ⟨x, H1, I1, r1, q1⟩ => wpAny_bind (wpAny_standAt (wpAny_pure ?_))))
  exact thn (hr pos pins s1 σ H1 _ I1 q1) fun us s2 ⟨xs, H2, I2, r2, q2⟩ => ⟨x :: xs, H2, I2, .cons r1 r2, q2⟩

/-- how a call with keywords binds: g puts the positional values us and the keywords' values ws (names ks) in the parameters' order, defaults among them -/
structure KBinds (K : PySem.W.Frag) (fd : FuncData) (ps ks : List Str) (g : List Value → List Value → List Value) (gV : List V → List V → List V) : Prop where
  to : ∀ (s : Shared) (us ws : List Value), K.In s.heap → (g us ws).length = ps.length → BindsTo s fd ⟨us, ks.zip ws⟩ (ps.zip (g us ws))
  rel : ∀ {vs : List V} {us : List Value} {zs : List V} {ws : List Value}, Vals vs us → Vals zs ws → Vals (gV vs zs) (g us ws)
def tCallK (sp : Sp) (gV : List V → List V → List V) (E : XK) (t tk : TA) : TE := fun σ H Q => t σ H fun vs H1 => tk σ H1 fun zs H2 => sp (gV vs zs) H2 Q E
variable {g : List Value → List Value → List Value} {gV : List V → List V → List V}
theorem run_fnk {pins : List (Addr × Obj)} {σ : St} {H : Hp} {s : Shared} {Q : VK} {us ws : List Value} {vs zs : List V} (F : FnOk X.prog X.w X.K X.mg X.base CX k f fd ps sp) (hr : Room k X.A) (hb : KBinds X.K fd ps ks g gV) (hx : Passes CX X E)
    (I : Inv X pins σ H s) (r : Vals vs us) (rz : Vals zs ws) (h : sp (gV vs zs) H Q E) : wpAny (model X.prog X.w) X.A (call (.ref f) us (ks.zip ws)) (EP X pins σ Q) X.xe s := by
  have r2 := hb.rel r rz
  have hl : (g us ws).length = ps.length := by rw [← r2.length]; exact F.len _ _ _ _ h
  refine wpAny_call (codeAny_mono (F.run X.A X.stack s H ⟨us, ks.zip ws⟩ (g us ws) (gV vs zs) Q E hr I.env0 (hb.to s us ws I.kIn hl) r2 h) fun r s' hq => ?_)
  cases r with
  | error e => exact hx pins σ H s e s' I hq
  | ok fl =>
    cases fl with
    | ret u => exact I.after hq
    | next => exact False.elim hq
    | brk => exact False.elim hq
    | cont => exact False.elim hq
/-- f(e, .., k = v, ..) -/
theorem pe_callK (F : FnOk X.prog X.w X.K X.mg X.base CX k f fd ps sp) (hr : Room k X.A) (hg : Gl X x) (hm : X.mg x = some (.ref f)) (hk : PySem.W.keepIn X.K (.ref f) = true) (hb : KBinds X.K fd ps ks g gV) (hx : Passes CX X E)
    (ha : PA X (e :: es) t) (hkw : PK X kws tk) (hall : (backToKw pos (keywordEach kws X.env)).all (·.1.isSome) = true := by rfl) (hks : (backToKw pos (keywordEach kws X.env)).filterMap (·.1) = ks := by rfl)
    (hdb : (x == ("__debug__" : Str)) = false := by decide) (he : starEach (e :: es) X.env = (false, eval e X.env) :: starEach es X.env := by rfl)
    (hpl : ((backTo pos (starEach (e :: es) X.env)).any (·.1) || (backToKw pos (keywordEach kws X.env)).any (·.1.isNone)) = false := by rfl) :
    PE X (.Call (.Name x p) (e :: es) kws pos) (tCallK sp gV E t tk) := by
  intro pins s σ H Q I h
  refine wpAny_Call_Name_kw (ld_glob I hg hm ?_ hdb)
  refine PySem.W.callWith_KW (h₀ := X.base) I.ok.mod.kin hk hall (thn (ha pos pins s σ H _ I h) fun us s1 ⟨vs, H1, I1, r, q⟩ => ?_) hpl he
  refine thn (hkw pos pins s1 σ H1 _ I1 q) fun ws s2 ⟨zs, H2, I2, rz, q2⟩ => ⟨I2.kIn, ?_⟩
  rw [hks]
  exact run_fnk F hr hb hx I2 r rz q2
end

/-! ### a def's body keeps its promise -/
/-- names: the parameters first -/
structure FnScope (N P : List Str) (sc : Scope) : Prop where
  kind : sc.kind = .function
  co : sc.isCoroutine = false
  gen : sc.isGenerator = false
  nd : N.Nodup
  pre : N.take P.length = P
  par : ∀ x ∈ P, sc.names.lookup x = some .local ∨ sc.names.lookup x = some .cell
  nofree : ∀ y ∈ sc.names, y.2 ≠ .free

theorem bindL_out {kindOf : Str → Option NameKind} {x : Str} : ∀ {binds : List (Str × Value)} {m : Str → Option Value}, (∀ v, (x, v) ∉ binds) → bindL kindOf binds m x = m x
  | [], _, _ => rfl
  | (n, v) :: r, m, h => by
    unfold bindL
    rw [bindL_out fun w hw => h w (List.mem_cons_of_mem _ hw)]
    split
    · have : x ≠ n := by rintro rfl; exact h v List.mem_cons_self
      simp [this]
    · rfl
theorem bindC_out {kindOf : Str → Option NameKind} {x : Str} : ∀ {binds : List (Str × Value)} {m : Str → Option Value}, (∀ v, (x, v) ∉ binds) → bindC kindOf binds m x = m x
  | [], _, _ => rfl
  | (n, v) :: r, m, h => by
    unfold bindC
    rw [bindC_out fun w hw => h w (List.mem_cons_of_mem _ hw)]
    split
    · rfl
    · have : x ≠ n := by rintro rfl; exact h v List.mem_cons_self
      simp [this]
theorem bindL_get {kindOf : Str → Option NameKind} {x : Str} {v : Value} : ∀ {P : List Str} {vs : List Value} {i : Nat} {m : Str → Option Value}, P.Nodup → P[i]? = some x → vs[i]? = some v → kindOf x = some .local →
    bindL kindOf (P.zip vs) m x = some v
  | [], _, _, _, _, h, _, _ => by simp at h
  | _ :: _, [], _, _, _, _, h, _ => by simp at h
  | p :: P, w :: vs, 0, m, nd, h1, h2, hk => by
    simp at h1 h2; subst h1; subst h2
    show bindL kindOf ((p, w) :: P.zip vs) m p = _
    unfold bindL
    rw [bindL_out fun v hv => (List.nodup_cons.mp nd).1 (List.of_mem_zip hv).1, if_pos hk]
    simp
  | p :: P, w :: vs, i + 1, m, nd, h1, h2, hk => by
    show bindL kindOf ((p, w) :: P.zip vs) m x = _
    unfold bindL
    exact bindL_get (i := i) (List.nodup_cons.mp nd).2 (by simpa using h1) (by simpa using h2) hk
theorem bindC_get {kindOf : Str → Option NameKind} {x : Str} {v : Value} : ∀ {P : List Str} {vs : List Value} {i : Nat} {m : Str → Option Value}, P.Nodup → P[i]? = some x → vs[i]? = some v → kindOf x ≠ some .local →
    bindC kindOf (P.zip vs) m x = some v
  | [], _, _, _, _, h, _, _ => by simp at h
  | _ :: _, [], _, _, _, _, h, _ => by simp at h
  | p :: P, w :: vs, 0, m, nd, h1, h2, hk => by
    simp at h1 h2; subst h1; subst h2
    show bindC kindOf ((p, w) :: P.zip vs) m p = _
    unfold bindC
    rw [bindC_out fun v hv => (List.nodup_cons.mp nd).1 (List.of_mem_zip hv).1, if_neg hk]
    simp
  | p :: P, w :: vs, i + 1, m, nd, h1, h2, hk => by
    show bindC kindOf ((p, w) :: P.zip vs) m x = _
    unfold bindC
    exact bindC_get (i := i) (List.nodup_cons.mp nd).2 (by simpa using h1) (by simpa using h2) hk

/-- the names' values at the entry -/
def start (N : List Str) (vs : List V) : St := vs.map some ++ List.replicate (N.length - vs.length) none

/-- the context of a def's body, at its entry; an exception leaves the frame, then lies as CX says -/
def cxOf (CX : CXT) (P : Program) (w : World) (K : PySem.W.Frag) (mg : Str → Option Value) (base : Heap) (N : List Str) (qual : Str) (scope : Scope) (f : Addr) (cd : Value) (A : Around) (outer : List Env) (s : Shared) (H : Hp) (E : XK) : Cx where
  prog := P
  w := w
  K := K
  mg := mg
  base := base
  A := A.deeper (envOfC qual scope s.heap.objs.size f cd)
  N := N
  s₀ := s
  H₀ := H
  env := envOfC qual scope s.heap.objs.size f cd
  outer := outer
  stack := envOfC qual scope s.heap.objs.size f cd :: outer
  ex := []
  calm := true
  fn := fun _ => true
  pn := []
  xe := fun e s' => wpAny (model P w) (A.deeper (envOfC qual scope s.heap.objs.size f cd)) (leaving (envOfC qual scope s.heap.objs.size f cd) e) (fun _ s'' => CX outer H s E e s'') (fun e' s'' => CX outer H s E e' s'') s'

theorem cell_has {sc : Scope} {n : Nat} {x : Str} (h : sc.names.lookup x = some .cell) : ∃ c, (cellsFrom n sc.names []).lookup x = some c := by
  have q := PySem.W.cellsFrom_some sc.names n [] (.inl h)
  exact Option.isSome_iff_exists.mp q

theorem inv_start {CX : CXT} {P : Program} {w : World} {K : PySem.W.Frag} {mg : Str → Option Value} {base : Heap} {N ps : List Str} {qual : Str} {scope : Scope} {f : Addr} {cd : Value} {A : Around} {outer : List Env} {s s1 : Shared} {H : Hp} {E : XK} {us : List Value} {vs : List V}
    (S : FnScope N ps scope) (hd : A.handled = none) (e0 : Env0 P w K mg base A outer s H) (hl : vs.length = ps.length) (r : Vals vs us)
    (x : InCallC s s.heap.objs.size (bindL (envOfC qual scope s.heap.objs.size f cd).kindOf (ps.zip us) fun _ => none) (cellsFrom (s.heap.objs.size + 1) scope.names []) (bindC (envOfC qual scope s.heap.objs.size f cd).kindOf (ps.zip us) fun _ => none) s1) :
    Inv (cxOf CX P w K mg base N qual scope f cd A outer s H E) [] (start N vs) H s1 := by
  have hpl : ps.length ≤ N.length := by have := congrArg List.length S.pre; rw [List.length_take] at this; omega
  obtain ⟨h1, tk, rfl, hk⟩ := x.done
  have noA : ∀ b : Addr, b ∉ (cxOf CX P w K mg base N qual scope f cd A outer s H E).ex := fun b z => absurd (show b ∈ ([] : List Addr) from z) (by simp)
  refine ⟨⟨e0.mod, S.kind, rfl, rfl, Nat.le_refl _, fun y z c h1 h2 => ?_, fun y hy => ?_, fun y c _ h => ?_, fun _ => hd, Around.frames_deeper e0.frames, .inr ⟨rfl, rfl⟩, fun b z => absurd z (noA b), e0.bs, e0.bsz, fun b _ _ => noA b, fun b z => absurd z (noA b), e0.funs, e0.frf⟩,
    rfl, e0.bare, Un.kept hk, ⟨_, x.toInCall.ns, fun i y v h1 h2 h3 => ?_⟩, fun y c h => ⟨_, x.cell y c h⟩, e0.hok.fresh (Nat.le_refl _), fun y c h => ?_, fun p hp => absurd (show p ∈ ([] : List (Addr × Obj)) from hp) (by simp), e0.hok.kept hk, ?_⟩
  · exact name_of_addr x.apart (PySem.mem_of_lookup h1) (PySem.mem_of_lookup h2)
  · have hy : scope.names.lookup y = some .cell ∨ scope.names.lookup y = some .free := hy
    rcases hy with hy | hy
    · exact cell_has hy
    · exact absurd rfl (S.nofree _ (PySem.mem_of_lookup hy))
  · exact Nat.le_of_lt (x.above y c (PySem.mem_of_lookup h))
  · have hi : i < vs.length := by
      unfold start at h2
      by_cases hi : i < vs.length
      · exact hi
      · rw [List.getElem?_append_right (by simpa using hi)] at h2
        rw [List.getElem?_replicate] at h2
        split at h2 <;> cases h2
    have ha : vs[i]? = some v := by
      unfold start at h2
      rw [List.getElem?_append_left (by simpa using hi), List.getElem?_map] at h2
      cases e : vs[i]? with
      | none => rw [e] at h2; cases h2
      | some a => rw [e] at h2; cases h2; rfl
    obtain ⟨u, hu, rv⟩ := r.get ha
    have hp : ps[i]? = some y := by
      rw [← S.pre, List.getElem?_take_of_lt (by omega)]; exact h1
    have ndP : ps.Nodup := by rw [← S.pre]; exact S.nd.sublist (List.take_sublist _ _)
    refine ⟨u, rv, ?_⟩
    rcases S.par y (List.mem_of_getElem? hp) with k | k
    · exact .inl ⟨k, bindL_get ndP hp hu k⟩
    · obtain ⟨c, e⟩ := cell_has (n := s.heap.objs.size + 1) k
      refine .inr ⟨.inl k, c, e, ?_⟩
      have q := x.cell y c e
      rw [bindC_get ndP hp hu (by show scope.names.lookup y ≠ _; rw [k]; decide)] at q
      exact q
  · exact e0.hok.fresh (Nat.le_of_lt (x.above y c (PySem.mem_of_lookup h)))
  · unfold start
    show _ = N.length
    rw [List.length_append, List.length_map, List.length_replicate]
    omega

/-- THE RULE: a def (or a method) of the text, by its body. The body's reading t is chosen for each entry; it is run at the parameters' values -/
theorem fn_of {CX : CXT} {P : Program} {w : World} {K : PySem.W.Frag} {mg : Str → Option Value} {base : Heap} {k : Nat} {f : Addr} {name qual : Str} {params : Arguments} {body : List Stmt} {scope : Scope} {dV kV doc pm cdv ct oc : Value} {an od : Option Addr}
    {osl : Array (Option Value)} {N ps : List Str} {sp : Sp} (lk : K.lookup f = some ⟨oc, od, .func (PySem.W.fnOf name qual params body scope dV kV doc pm an cdv ct), osl⟩) (hcd : PySem.W.codeIn K cdv qual = true) (S : FnScope N ps scope)
    (len : ∀ vs H Q E, sp vs H Q E → vs.length = ps.length)
    (hbody : ∀ (A : Around) (outer : List Env) (s : Shared) (H : Hp) (vs : List V) (Q : VK) (E : XK), Room k (A.deeper (envOfC qual scope s.heap.objs.size f cdv)) → sp vs H Q E →
      ∃ t, PSs (cxOf CX P w K mg base N qual scope f cdv A outer s H E) body t ∧ t { nx := fun _ H' => Q .non H', rt := Q } (start N vs) H) :
    FnOk P w K mg base CX (k + 1) f (PySem.W.fnOf name qual params body scope dV kV doc pm an cdv ct) ps sp := by
  refine ⟨len, fun A outer s H args us vs Q E hr e0 hb r hsp => ?_⟩
  have hl := len _ _ _ _ hsp
  have KX : K.In s.heap := e0.mod.kin.keeps fun b o e => (e0.bs b o e).1
  have lim : s.heap.NoLimit := e0.mod.nolimit.keeps fun b o e => (e0.bs b o e).1
  have hkind : ∀ y ∈ ps.zip us, scope.names.lookup y.1 = some .local ∨ (scope.names.lookup y.1 = some .cell ∧ ((cellsFrom (s.heap.objs.size + 1) scope.names []).lookup y.1).isSome = true) := fun ⟨n, v⟩ hy => by
    rcases S.par n (List.of_mem_zip hy).1 with q | q
    · exact .inl q
    · exact .inr ⟨q, PySem.W.cellsFrom_some _ _ _ (.inl q)⟩
  refine codeAny_call_function hr.depth (KX _ _ lk) rfl S.co S.gen rfl (PySem.W.codeRec_of KX hcd) (hb _ _ _ _ ?_)
  refine wpAny_newFunctionEnv_cells S.kind hkind fun env he s1 x => ?_
  subst he
  refine ⟨lim.keeps x.toInCall.keep, codeAny_func ?_⟩
  obtain ⟨t, ht, hq⟩ := hbody A outer s H vs Q E (hr.deeper _) hsp
  have I : Inv (cxOf CX P w K mg base N qual scope f cdv A outer s H E) [] (start N vs) H s1 := inv_start S hr.hd e0 hl r x
  refine wpAny_mono (ht [] s1 (start N vs) H _ I hq) (fun fl s' hs => ?_) fun e s' hs => hs
  have fin : ∀ {σ' : St} {H' : Hp} {v : V} {u : Value}, Inv (cxOf CX P w K mg base N qual scope f cdv A outer s H E) [] σ' H' s' → RelV v u → Q v H' → CE outer P w H s Q u s' :=
    fun {σ' H' v u} J rv q => ⟨v, H', J.os, J.bare, J.base, J.hok, rv, q⟩
  cases fl with
  | ret u =>
    obtain ⟨v, σ', H', J, rv, q⟩ := hs
    exact fin J rv q
  | next =>
    obtain ⟨σ', H', J, q⟩ := hs
    exact fin (v := V.non) (u := Value.none) J rfl q
  | brk =>
    obtain ⟨_, _, _, q⟩ := hs
    exact False.elim q
  | cont =>
    obtain ⟨_, _, _, q⟩ := hs
    exact False.elim q
end L2

namespace L2
open PySem PySem.Spec PyProof.Rows
section
variable {X : Cx} {x : Str} {p pos : Pos} {e : Expr} {es : List Expr} {t : TA} {id T : String} {r : List V → Hp → VK → Prop}

def tCB (r : List V → Hp → VK → Prop) (t : TA) : TE := fun σ H Q => t σ H fun vs H1 => r vs H1 Q
/-- f(e, ..), f a built-in function -/
theorem pe_callB (hc : CallR X (.builtin id) r) (hg : Gl X x) (hm : X.mg x = none) (hv : bootBuiltins x = some (.builtin id)) (ha : PA X (e :: es) t) (hn : x ≠ "__name__" := by decide) (hdb : (x == ("__debug__" : Str)) = false := by decide)
    (he : starEach (e :: es) X.env = (false, eval e X.env) :: starEach es X.env := by rfl) (hpl : (backTo pos (starEach es X.env)).any (·.1) = false := by rfl) : PE X (.Call (.Name x p) (e :: es) [] pos) (tCB r t) := by
  intro pins s σ H Q I h
  refine wpAny_Call_Name_kw (ld_blt I hg hm hv ?_ hn hdb)
  exact PyProof.Rows.callWith_builtin1 (thn (ha pos pins s σ H _ I h) fun us s1 ⟨vs, H1, I1, r1, q1⟩ => hc pins s1 σ H1 vs us Q I1 r1 q1) he hpl
/-- T(e, ..), T a built-in type -/
theorem pe_callTy (hc : CallR X (.type T) r) (hg : Gl X x) (hm : X.mg x = none) (hv : bootBuiltins x = some (.type T)) (ha : PA X (e :: es) t) (hn : x ≠ "__name__" := by decide) (hdb : (x == ("__debug__" : Str)) = false := by decide)
    (he : starEach (e :: es) X.env = (false, eval e X.env) :: starEach es X.env := by rfl) (hpl : (backTo pos (starEach es X.env)).any (·.1) = false := by rfl) : PE X (.Call (.Name x p) (e :: es) [] pos) (tCB r t) := by
  intro pins s σ H Q I h
  refine wpAny_Call_Name_kw (ld_blt I hg hm hv ?_ hn hdb)
  exact PyProof.Rows.callWith_type1 (thn (ha pos pins s σ H _ I h) fun us s1 ⟨vs, H1, I1, r1, q1⟩ => hc pins s1 σ H1 vs us Q I1 r1 q1) he hpl
/-- T() -/
theorem pe_callTy0 (hc : CallR X (.type T) r) (hg : Gl X x) (hm : X.mg x = none) (hv : bootBuiltins x = some (.type T)) (hn : x ≠ "__name__" := by decide) (hdb : (x == ("__debug__" : Str)) = false := by decide) :
    PE X (.Call (.Name x p) [] [] pos) (tCB r tNil) := by
  intro pins s σ H Q I h
  refine wpAny_Call_Name_kw (ld_blt I hg hm hv ?_ hn hdb)
  exact PyProof.Rows.callWith_type0 (hc pins s σ H [] [] Q I .nil h)
end
end L2

namespace HT
open PySem PyProof.Rows

/-- t < u of tuples of ints -/
def lexLt : List Int → List Int → Bool
  | [], [] => false
  | [], _ :: _ => true
  | _ :: _, [] => false
  | x :: xs, y :: ys => if x = y then lexLt xs ys else decide (x < y)
theorem lexLt_cons (x y : Int) (xs ys : List Int) : lexLt (x :: xs) (y :: ys) = if x = y then lexLt xs ys else decide (x < y) := rfl
theorem lexLt_nil_nil : lexLt [] [] = false := rfl
theorem lexLt_nil_cons (y : Int) (ys : List Int) : lexLt [] (y :: ys) = true := rfl
theorem lexLt_cons_nil (x : Int) (xs : List Int) : lexLt (x :: xs) [] = false := rfl

theorem eqAt_int (A : Around) (s : Shared) (a : Int) (t : Tok) (c : Int) (u : Tok) : ∃ e, SeqAt.EqAt A s (.int a t) (.int c u) e ∧ (e = true ↔ a = c) :=
  ⟨(a == c), SeqAt.EqAt.int_int a t c u, by simp⟩
theorem rcLt_int (A : Around) (s : Shared) (a : Int) (t : Tok) (c : Int) (u : Tok) (prog : Program) (w : World) (E : Value → Shared → Prop) (Q : Value → Shared → Prop) (h : Q (.bool (decide (a < c))) s) :
    wpAny (model prog w) A (richCompare .Lt (.int a t) (.int c u)) Q E s :=
  (PyProof.Rows.lt_int h : wpAny (model prog w) A (compareOp .Lt (.int a t) (.int c u)) Q E s)

section
open PySem.SeqAt
open PySem.AutoSeq1 (wpAny_loadPart')
open PySem.MeetsSeq PySem.MeetsSeq2 PySem.MeetsSeq3

theorem tuple_lt_ints (l b : Addr) (items items2 : Array Value) (n n2 : Nat) (dd dd2 : Option Addr) (sl sl2 : Array (Option Value)) (ns ms : List Int) (hi : IntsAre items.toList ns) (hj : IntsAre items2.toList ms) :
    Meets (Builtin.«tuple.__lt__» ⟨[.ref l, .ref b], []⟩)
      (fun _ R s => s.heap.get? l = some { cls := .type "tuple", dict := dd, data := .seq items n, slots := sl } ∧ s.heap.get? b = some { cls := .type "tuple", dict := dd2, data := .seq items2 n2, slots := sl2 } ∧
        R (.ok (.ret (.bool (lexLt ns ms)))) s) :=
  .of_wp fun prog w A R s h => by
    obtain ⟨hp, g, d, tk, os⟩ := s; obtain ⟨hl, hb, h⟩ := h
    have f2 := AutoSeq1.sub_tuple_tuple
    have z1 : items.size = ns.length := by rw [← hi.length]; simp
    have z2 : items2.size = ms.length := by rw [← hj.length]; simp
    wp_walk using wpAny_loadPart' hl, wpAny_loadPart' hb, wpAny_forIn_list _ (fun rest b s' => b.1 = none ∧ s' = ⟨hp, g, d, tk, os⟩ ∧ ∃ (vs ws : List Value) (ns' ms' : List Int), rest = vs.zip ws ∧
      IntsAre vs ns' ∧ IntsAre ws ms' ∧ ns'.length + items2.size = ms'.length + items.size ∧ R (.ok (.ret (.bool (lexLt ns' ms')))) ⟨hp, g, d, tk, os⟩) _
    case turn =>
      rintro ⟨y, x⟩ rest b s' ⟨hb', rfl, vs, ws, ns', ms', hz, hvi, hwi, hlen, hR⟩
      cases hvi with
      | nil => rw [List.zip_nil_left] at hz; cases hz
      | cons a t hvi' =>
        cases hwi with
        | nil => rw [List.zip_nil_right] at hz; cases hz
        | cons c u hwi' =>
          rw [List.zip_cons_cons] at hz
          injection hz with hyx hrest
          injection hyx with hy hx
          subst hy hx
          rw [lexLt_cons] at hR
          simp only [List.length_cons] at hlen
          obtain ⟨e, he, hiff⟩ := eqAt_int A.in1 ⟨hp, g, d, tk, os⟩ a t c u
          refine wpAny_bind (he prog w _ _ ?_)
          cases e with
          | true =>
            rw [if_pos (hiff.mp rfl)] at hR
            wp_walk
            exact ⟨rfl, rfl, _, _, _, _, hrest, hvi', hwi', by omega, hR⟩
          | false =>
            rw [if_neg (fun q => absurd (hiff.mpr q) Bool.false_ne_true)] at hR
            have hri := rcLt_int A.in1 ⟨hp, g, d, tk, os⟩ a t c u prog w
            wp_walk using hri
            exact ⟨_, rfl, by simpa using hR⟩
    case fin =>
      rintro ⟨b1, b2⟩ s' ⟨hb', rfl, vs, ws, ns', ms', hz, hvi, hwi, hlen, hR⟩
      simp only at hb'
      subst hb'
      have hv : lexLt ns' ms' = decide (items.size < items2.size) := by
        cases hvi with
        | nil =>
          cases hwi with
          | nil =>
            simp only [List.length_nil] at hlen
            rw [lexLt_nil_nil]
            exact (decide_eq_false (by omega)).symm
          | cons c u hw =>
            simp only [List.length_nil, List.length_cons] at hlen
            rw [lexLt_nil_cons]
            exact (decide_eq_true (by omega)).symm
        | cons a t hv =>
          cases hwi with
          | nil =>
            simp only [List.length_nil, List.length_cons] at hlen
            rw [lexLt_cons_nil]
            exact (decide_eq_false (by omega)).symm
          | cons c u hw =>
            rw [List.zip_cons_cons] at hz
            cases hz
      rw [hv] at hR
      wp_walk
      exact ⟨_, rfl, by simpa [Builtin.Tuple.tupleCompareSizes] using hR⟩
    case h =>
      exact ⟨rfl, rfl, items.toList, items2.toList, ns, ms, rfl, hi, hj, by omega, h⟩
end

section
variable {prog : Program} {w : World} {A : Around} {E : Value → Shared → Prop} {s : Shared}

theorem lt_tupInts {l b : Addr} {items items2 : Array Value} {ns ms : List Int} {Q : Value → Shared → Prop} (hl : IsTup s.heap l items) (hb : IsTup s.heap b items2) (hi : IntsAre items.toList ns) (hj : IntsAre items2.toList ms)
    (hu : A.units < cLine) (h : Q (.bool (lexLt ns ms)) s) : wpAny (model prog w) A (compareOp .Lt (.ref l) (.ref b)) Q E s := by
  obtain ⟨⟨cls, dd, data, sl⟩, ho, hc, n, hd⟩ := id hl
  obtain ⟨⟨cls2, dd2, data2, sl2⟩, ho2, hc2, n2, hd2⟩ := id hb
  simp only at hc hd hc2 hd2
  subst hc hd hc2 hd2
  exact richCompare_meets_room (op := .Lt) ⟨_, ho, rfl⟩ ⟨_, ho2, rfl⟩ PySem.F.slot_tuple_lt PySem.F.entry_tuple_lt (PySem.F.args_tuple_lt_2 _ _) (tuple_lt_ints l b items items2 n n2 dd dd2 sl sl2 ns ms hi hj)
    ⟨ho, ho2, show Value.bool (lexLt ns ms) ≠ Value.notImplemented ∧ Q (.bool (lexLt ns ms)) s from ⟨(fun x => nomatch x), h⟩⟩ hu

/-- t + u, t not empty -/
theorem cat_tup {t b : Addr} {vs ws : List Value} {Q : Value → Shared → Prop} (ht : IsTup s.heap t vs.toArray) (hb : IsTup s.heap b ws.toArray) (hv : vs ≠ [])
    (h1 : ws = [] → Q (.ref t) s) (h2 : ws ≠ [] → Q (.ref s.heap.objs.size) { s with heap := s.heap.push { cls := .type "tuple", data := .seq (vs ++ ws).toArray } })
    (hsz : vs.length + ws.length ≤ sizeLine) : wpAny (model prog w) A (binaryOp .Add (.ref t) (.ref b)) Q E s := by
  obtain ⟨⟨cls, dd, data, sl⟩, ho, hc, n, hd⟩ := id ht
  obtain ⟨⟨cls2, dd2, data2, sl2⟩, ho2, hc2, n2, hd2⟩ := id hb
  simp only at hc hd hc2 hd2
  subst hc hd hc2 hd2
  have e : vs.toArray ++ ws.toArray = (vs ++ ws).toArray := by simp
  by_cases hw : ws = []
  · exact concat_meets ⟨_, ho, rfl⟩ ⟨_, ho2, rfl⟩ noFill_tuple_add seq_tuple_add PySem.F.slot_tuple_add PySem.F.entry_tuple_add (PySem.F.args_tuple_add_2 _ _)
      (tuple_addW1 t b vs.toArray ws.toArray n n2 dd dd2 sl sl2 (by simpa using hv) (by simp [hw])) ⟨ho, ho2, h1 hw⟩
  · refine concat_meets ⟨_, ho, rfl⟩ ⟨_, ho2, rfl⟩ noFill_tuple_add seq_tuple_add PySem.F.slot_tuple_add PySem.F.entry_tuple_add (PySem.F.args_tuple_add_2 _ _)
      (tuple_addW2 t b vs.toArray ws.toArray n n2 dd dd2 sl sl2 (by simpa using hv) (by simpa using hw) (by rw [List.size_toArray, List.size_toArray]; exact hsz)) ⟨ho, ho2, ?_⟩
    rw [e]
    exact h2 hw

/-! ### t[a:b], not the whole -/
/-- a slice's bound as a place among n (d where it is left out) -/
def sIx (n d : Nat) : Option Int → Nat
  | none => d
  | some v => if v < 0 then (v + (n : Int)).toNat else min v.toNat n
theorem sIx_none (n d : Nat) : sIx n d none = d := rfl
theorem sIx_nat (n d k : Nat) : sIx n d (some (k : Int)) = min k n := by
  show (if (k : Int) < 0 then ((k : Int) + (n : Int)).toNat else min (k : Int).toNat n) = min k n
  rw [if_neg (by omega), Int.toNat_natCast]
theorem sIx_le (n d : Nat) (hd : d ≤ n) (o : Option Int) : sIx n d o ≤ n := by
  cases o with
  | none => exact hd
  | some v =>
    show (if v < 0 then (v + (n : Int)).toNat else min v.toNat n) ≤ n
    by_cases hv : v < 0
    · rw [if_pos hv]; omega
    · rw [if_neg hv]; exact Nat.min_le_right _ _
theorem clip_eq (v : Int) (n d : Nat) : (if v < 0 then max (v + (n : Int)) 0 else min v (n : Int)) = ((sIx n d (some v) : Nat) : Int) := by
  show (if v < 0 then max (v + (n : Int)) 0 else min v (n : Int)) = (((if v < 0 then (v + (n : Int)).toNat else min v.toNat n) : Nat) : Int)
  by_cases hv : v < 0
  · simp only [if_pos hv]; omega
  · simp only [if_neg hv]; omega
theorem adjust_gen (lo hi : Option Int) (n : Nat) : Builtin.Slice.sliceAdjust lo hi 1 (n : Int) = (((sIx n 0 lo : Nat) : Int), ((sIx n n hi : Nat) : Int)) := by
  have h1 : ¬ ((1 : Int) < 0) := by omega
  unfold Builtin.Slice.sliceAdjust
  simp only [h1, if_false]
  refine Prod.ext ?_ ?_
  · cases lo with
    | none => rfl
    | some v => exact clip_eq v n 0
  · cases hi with
    | none => rfl
    | some v => exact clip_eq v n n
theorem places_gen (i j : Nat) : Builtin.Slice.slicePlaces (i : Int) (j : Int) 1 = j - i := by
  unfold Builtin.Slice.slicePlaces
  have h1 : (1 : Int) > 0 := by omega
  simp only [h1, if_true, Int.ediv_one]
  split <;> omega
theorem slicePart_ {v : Value} {o : Option Int} {Q : Option Int → Shared → Prop} (p : IsPart v o) (h : Q o s) : wpAny (model prog w) A (Builtin.Slice.slicePartIndex v) Q E s := by
  cases p with
  | none => exact slicePart_none h
  | int i t => exact slicePart_int h
theorem sliceApplied_gen {sl : Addr} {vl vu : Value} {lo hi : Option Int} {n : Nat} {Q : Int × Int × Nat → Shared → Prop} (hs : s.heap.IsSliceOf sl vl vu .none) (pl : IsPart vl lo) (pu : IsPart vu hi)
    (h : Q (((sIx n 0 lo : Nat) : Int), 1, sIx n n hi - sIx n 0 lo) s) : wpAny (model prog w) A (Builtin.Slice.sliceApplied (.ref sl) (pure (n : Int))) Q E s := by
  obtain ⟨os, hos, hcs, hds⟩ := id hs
  unfold Builtin.Slice.sliceApplied Builtin.Slice.sliceFields
  refine wpAny_bind (wpAny_bind (wpAny_field hos hds (x := vl) rfl (wpAny_bind (wpAny_field hos hds (x := vu) rfl (wpAny_bind (wpAny_field hos hds (x := .none) rfl (wpAny_pure ?_)))))))
  refine wpAny_bind (slicePart_none ?_)
  show wpAny _ _ (if ((1 : Int) == 0) = true then _ else _) _ _ s
  rw [if_neg (by decide)]
  refine wpAny_bind (slicePart_ pl (wpAny_bind (slicePart_ pu (wpAny_bind (wpAny_pure ?_)))))
  show wpAny _ _ (match Builtin.Slice.sliceAdjust lo hi 1 (n : Int) with | (lo, hi) => pure (lo, (1 : Int), Builtin.Slice.slicePlaces lo hi 1)) _ _ s
  rw [adjust_gen lo hi n]
  show wpAny _ _ (pure (((sIx n 0 lo : Nat) : Int), (1 : Int), Builtin.Slice.slicePlaces ((sIx n 0 lo : Nat) : Int) ((sIx n n hi : Nat) : Int) 1)) _ _ s
  rw [places_gen]
  exact wpAny_pure h
theorem pick_gen (xs : Array Value) (i k : Nat) : ((List.range k).filterMap fun (m : Nat) => xs[((i : Int) + (m : Int) * 1).toNat]?).toArray = ((xs.toList.drop i).take k).toArray := by
  have e : (fun (m : Nat) => xs[((i : Int) + (m : Int) * 1).toNat]?) = fun m => xs[i + m]? := by
    funext m
    have : ((i : Int) + (m : Int) * 1).toNat = i + m := by omega
    rw [this]
  rw [e]
  have := pick_run xs i k
  rw [List.filterMap_map] at this
  have e2 : ((fun x => xs[x]?) ∘ fun x => i + x) = fun m => xs[i + m]? := rfl
  rw [e2] at this
  rw [this]

theorem getItem_tuple_cut {t sl : Addr} {items : Array Value} {vl vu : Value} {lo hi : Option Int} {Q : Value → Shared → Prop} (ht : IsTup s.heap t items) (hs : s.heap.IsSliceOf sl vl vu .none) (pl : IsPart vl lo) (pu : IsPart vu hi)
    (hw : ¬ (sIx items.size 0 lo = 0 ∧ sIx items.size items.size hi = items.size))
    (h : Q (.ref s.heap.objs.size) { s with heap := s.heap.push { cls := .type "tuple", data := .seq ((items.toList.drop (sIx items.size 0 lo)).take (sIx items.size items.size hi - sIx items.size 0 lo)).toArray } })
    (hsz : items.size ≤ sizeLine) : wpAny (model prog w) A (getItem (.ref t) (.ref sl)) Q E s := by
  have htake : sizeOk (.seq ((items.toList.drop (sIx items.size 0 lo)).take (sIx items.size items.size hi - sIx items.size 0 lo)).toArray) := by
    show ((items.toList.drop (sIx items.size 0 lo)).take (sIx items.size items.size hi - sIx items.size 0 lo)).toArray.size ≤ sizeLine
    rw [List.size_toArray, List.length_take, List.length_drop, Array.length_toList]
    omega
  have hj : sIx items.size items.size hi ≤ items.size := sIx_le _ _ (Nat.le_refl _) hi
  obtain ⟨os, hos, hcs, hds⟩ := id hs
  have hTs : s.TypeIs (.ref sl) "slice" := ⟨os, hos, hcs⟩
  unfold getItem
  try with_reducible refine wpAny_holding ?_
  first | refine wpAny_bind (wpAny_pure ?_) | skip
  refine wpAny_bind (wpAny_sequenceKey ht.typeIs (by decide) ?_)
  refine wpAny_bind (wpAny_callSpecial?_slot (name := Str.ofString "__getitem__") ht.typeIs PyProof.Rows.slot_tuple_getitem
    (wpAny_call_entry PyProof.Rows.slot_tuple_getitem ht.typeIs entry_tuple_getitem ?_ (args_tuple_getitem _ _)))
  show wpAny _ _ (Builtin.Tuple.tupleItemsOf (.ref t) >>= _) _ _ s
  refine wpAny_bind (tupleItemsOf_ ht ?_)
  refine wpAny_bind (wpAny_typeOf hTs ?_)
  rw [if_pos (by decide)]
  refine wpAny_bind (sliceApplied_gen hs pl pu ?_)
  have hno : ¬ ((((sIx items.size 0 lo : Nat) : Int) == 0 && (1 : Int) == 1 && (sIx items.size items.size hi - sIx items.size 0 lo) == items.size) = true) := by
    intro q
    rw [Bool.and_eq_true, Bool.and_eq_true] at q
    have q1 : ((sIx items.size 0 lo : Nat) : Int) = 0 := eq_of_beq q.1.1
    have q2 : sIx items.size items.size hi - sIx items.size 0 lo = items.size := eq_of_beq q.2
    exact hw ⟨by omega, by omega⟩
  show wpAny _ _ (if (((sIx items.size 0 lo : Nat) : Int) == 0 && (1 : Int) == 1 && (sIx items.size items.size hi - sIx items.size 0 lo) == items.size) = true then _ else _) _ _ s
  rw [if_neg hno, pick_gen]
  first
    | exact wpAny_bind (m := Builtin.Tuple.tupleExact _) (wpAny_newObj_type (wpAny_pure ⟨_, rfl, wpAny_pure h⟩) htake)
    | exact wpAny_bind (m := Builtin.Tuple.tupleExact _) (wpAny_newObj_type (wpAny_bind (wpAny_pure (wpAny_pure ⟨_, rfl, wpAny_pure h⟩))) htake)
    | exact wpAny_bind (wpAny_bind (m := Builtin.Tuple.tupleExact _) (wpAny_newObj_type (wpAny_pure (wpAny_pure ⟨_, rfl, wpAny_pure h⟩)) htake))
    | exact wpAny_bind (wpAny_bind (m := Builtin.Tuple.tupleExact _) (wpAny_newObj_type (wpAny_pure ⟨_, rfl, wpAny_pure h⟩) htake))
end
end HT

namespace L2
open PySem PySem.Spec PyProof.Rows

/-! ### the parts of a slice -/
abbrev TO := St → Hp → (Option Int → Hp → Prop) → Prop
/-- a slice's part (left out, or an int) -/
def PO (X : Cx) (e : Option Expr) (t : TO) : Prop :=
  ∀ (pins : List (Addr × Obj)) (s : Shared) (σ : St) (H : Hp) (Q : Option Int → Hp → Prop), Inv X pins σ H s → t σ H Q →
    wpAny (model X.prog X.w) X.A (evalPart e X.env) (fun u s' => ∃ o H', Inv X pins σ H' s' ∧ IsPart u o ∧ Q o H') X.xe s
def tNoPart : TO := fun _ H Q => Q none H
def tPart (t : TE) : TO := fun σ H Q => t σ H fun x H1 => ∃ i, x = .int i ∧ Q (some i) H1

theorem intsAre_of {ns : List Int} : ∀ {us : List Value}, Vals (ns.map V.int) us → IntsAre us ns := by
  induction ns with
  | nil => intro us r; rw [List.map_nil] at r; cases r; exact .nil
  | cons n ns ih =>
    intro us r
    rw [List.map_cons] at r
    cases r with
    | cons r1 r2 =>
      obtain ⟨t, e⟩ := r1
      subst e
      exact .cons n t (ih r2)

section
variable {X : Cx} {e : Expr} {te : TE} {lo hi : Option Expr} {tl th : TO} {pos p2 : Pos}

theorem po_none : PO X none tNoPart := by
  intro pins s σ H Q I h
  rw [evalPart_none]
  exact wpAny_pure ⟨none, H, I, .none, h⟩
theorem po_some (h : PE X e te) : PO X (some e) (tPart te) := by
  intro pins s σ H Q I hw
  rw [evalPart_some]
  refine thn (h pins s σ H _ I hw) fun u s1 ⟨x, H1, I1, r1, q1⟩ => ?_
  obtain ⟨i, rfl, q⟩ := q1
  obtain ⟨t, rfl⟩ := r1
  exact ⟨some i, H1, I1, .int i t, q⟩

/-- what a slice of a value is, by values: the slice object stands at sl -/
def SlR (X : Cx) (r : V → Option Int → Option Int → Hp → VK → Prop) : Prop :=
  ∀ (pins : List (Addr × Obj)) (s : Shared) (σ : St) (H : Hp) (x : V) (v vl vu : Value) (lo hi : Option Int) (sl : Addr) (Q : VK), Inv X pins σ H s → RelV x v → s.heap.IsSliceOf sl vl vu .none → IsPart vl lo → IsPart vu hi → r x lo hi H Q →
    ∃ T id, typeLookup (.type T) "__getitem__" = pure (some (.builtin id)) ∧ s.TypeIs v T ∧ wpAny (model X.prog X.w) X.A (getItem v (.ref sl)) (EP X pins σ Q) X.xe s
theorem SlR.or {r r' : V → Option Int → Option Int → Hp → VK → Prop} (h : SlR X r) (h' : SlR X r') : SlR X (fun x lo hi H Q => r x lo hi H Q ∨ r' x lo hi H Q) := by
  intro pins s σ H x v vl vu lo hi sl Q I rx hs pl pu q
  rcases q with q | q
  · exact h pins s σ H x v vl vu lo hi sl Q I rx hs pl pu q
  · exact h' pins s σ H x v vl vu lo hi sl Q I rx hs pl pu q
def tSl (r : V → Option Int → Option Int → Hp → VK → Prop) (te : TE) (tl th : TO) : TE := fun σ H Q => te σ H fun x H1 => tl σ H1 fun l H2 => th σ H2 fun u H3 => r x l u H3 Q
/-- a[lo:hi], any a -/
theorem pe_slice {r : V → Option Int → Option Int → Hp → VK → Prop} (hr : SlR X r) (he : PE X e te) (hl : PO X lo tl) (hu : PO X hi th) : PE X (.Subscript e (.Slice lo hi none p2) pos) (tSl r te tl th) := by
  intro pins s σ H Q I h
  refine Subscript_ (thn (he pins s σ H _ I h) fun v s1 ⟨x, H1, I1, r1, q1⟩ => ?_)
  refine wpAny_Slice (thn (hl pins s1 σ H1 _ I1 q1) fun vl s2 ⟨l, H2, I2, pl, q2⟩ => thn (hu pins s2 σ H2 _ I2 q2) fun vu s3 ⟨u, H3, I3, pu, q3⟩ => ?_)
  rw [evalPart_none]
  refine wpAny_pure ?_
  have I4 : Inv X pins σ H3 { s3 with heap := s3.heap.push { cls := .type "slice", data := .fields #[vl, vu, .none] } } := I3.kept (t' := s3.toks) fun b ob q => Heap.get?_push_of_some _ q
  obtain ⟨T, id, hT, ht, hg⟩ := hr pins { s3 with heap := s3.heap.push { cls := .type "slice", data := .fields #[vl, vu, .none] } } σ H3 x v vl vu l u s3.heap.objs.size Q I4 r1 (Heap.IsSliceOf.new ..) pl pu q3
  show wpAny (model X.prog X.w) X.A (subscriptTail e (.Slice lo hi none p2) v (.ref s3.heap.objs.size)) (EP X pins σ Q) X.xe { s3 with heap := s3.heap.push { cls := .type "slice", data := .fields #[vl, vu, .none] } }
  exact tail_any (ops := [.ref s3.heap.objs.size, v]) ht hT hg (by with_unfolding_all rfl)

/-- the items of xs[lo:hi] -/
def cutV (xs : List V) (lo hi : Option Int) : List V := (xs.drop (HT.sIx xs.length 0 lo)).take (HT.sIx xs.length xs.length hi - HT.sIx xs.length 0 lo)
theorem cutV_length (xs : List V) (lo hi : Option Int) : (cutV xs lo hi).length ≤ xs.length := by
  unfold cutV
  rw [List.length_take, List.length_drop]
  omega
/-- t[lo:hi], not the whole of it (the whole would be t itself) -/
def rSlT (K : PySem.W.Frag) : V → Option Int → Option Int → Hp → VK → Prop := fun x lo hi H Q => ∃ a xs, x = .ref a ∧ SqT K H a xs ∧
  ¬ (HT.sIx xs.length 0 lo = 0 ∧ HT.sIx xs.length xs.length hi = xs.length) ∧ ∀ p, H p = none → Q (.ref p) (upd H p (.tup (cutV xs lo hi)))
theorem sl_tup : SlR X (rSlT X.K) := by
  intro pins s σ H x v vl vu lo hi sl Q I rx hs pl pu h
  obtain ⟨a, xs, rfl, hx, hw, q⟩ := h
  cases rx
  obtain ⟨its, r, ht, hz⟩ := I.tuple hx
  have hlen : its.toArray.size = xs.length := by rw [List.size_toArray]; exact r.length.symm
  refine ⟨"tuple", _, PyProof.Rows.slot_tuple_getitem.lookup, ht.typeIs, ?_⟩
  refine HT.getItem_tuple_cut ht hs pl pu (by rw [hlen]; exact hw) ?_ (by rw [hlen]; exact hz)
  rw [hlen]
  refine ⟨.ref s.heap.objs.size, _, I.laid (t' := s.toks) (o := .tup (cutV xs lo hi)) (fun b ob q => Heap.get?_push_of_some _ q) (Nat.le_refl _) ?_, rfl, q _ (I.hok.fresh (Nat.le_refl _))⟩
  exact ⟨Nat.le_trans (cutV_length xs lo hi) hz, _, (r.drop (HT.sIx xs.length 0 lo)).take (HT.sIx xs.length xs.length hi - HT.sIx xs.length 0 lo), IsTup.new _ _⟩

/-! ### t < u, t + u -/
def rLtT (K : PySem.W.Frag) : R2 := fun x y H Q => ∃ a b ns ms, x = .ref a ∧ y = .ref b ∧ SqT K H a (ns.map V.int) ∧ SqT K H b (ms.map V.int) ∧ Q (.bl (HT.lexLt ns ms)) H
theorem op_ltT (hu : X.A.units < cLine) : OpR X (compareOp .Lt) (rLtT X.K) := by
  intro pins s σ H x y v u Q I rx ry h
  obtain ⟨a, b, ns, ms, rfl, rfl, ha, hb, q⟩ := h
  cases rx
  cases ry
  obtain ⟨its, r1, p1, _⟩ := I.tuple ha
  obtain ⟨its2, r2, p2, _⟩ := I.tuple hb
  have i1 : IntsAre its.toArray.toList ns := intsAre_of r1
  have i2 : IntsAre its2.toArray.toList ms := intsAre_of r2
  exact HT.lt_tupInts p1 p2 i1 i2 hu ⟨.bl (HT.lexLt ns ms), H, I, rfl, q⟩
/-- t + u, t not empty: u empty gives t itself -/
def rCatT (K : PySem.W.Frag) : R2 := fun x y H Q => ∃ a b xs ys, x = .ref a ∧ y = .ref b ∧ SqT K H a xs ∧ SqT K H b ys ∧ xs ≠ [] ∧ xs.length + ys.length ≤ sizeLine ∧
  (ys = [] → Q (.ref a) H) ∧ (ys ≠ [] → ∀ p, H p = none → Q (.ref p) (upd H p (.tup (xs ++ ys))))
theorem Vals.nil_iff {xs : List V} {us : List Value} (r : Vals xs us) : us = [] ↔ xs = [] := by
  cases r with
  | nil => simp
  | cons _ _ => simp
theorem op_catT : OpR X (binaryOp .Add) (rCatT X.K) := by
  intro pins s σ H x y v u Q I rx ry h
  obtain ⟨a, b, xs, ys, rfl, rfl, ha, hb, hx, hz, q1, q2⟩ := h
  cases rx
  cases ry
  obtain ⟨its, r1, p1, _⟩ := I.tuple ha
  obtain ⟨its2, r2, p2, _⟩ := I.tuple hb
  refine HT.cat_tup p1 p2 (fun z => hx (r1.nil_iff.mp z)) (fun z => ⟨.ref a, H, I, rfl, q1 (r2.nil_iff.mp z)⟩) (fun z => ?_) (by rw [← r1.length, ← r2.length]; exact hz)
  refine ⟨.ref s.heap.objs.size, _, I.laid (t' := s.toks) (o := .tup (xs ++ ys)) (fun b ob q => Heap.get?_push_of_some _ q) (Nat.le_refl _) ?_, rfl, q2 (fun w => z (r2.nil_iff.mpr w)) _ (I.hok.fresh (Nat.le_refl _))⟩
  exact ⟨by rw [List.length_append]; exact hz, _, r1.append r2, IsTup.new _ _⟩
/-- tuple(t) -/
theorem call_tupleT : CallR X (.type "tuple") (fun xs H Q => ∃ a ys, xs = [.ref a] ∧ SqT X.K H a ys ∧ Q (.ref a) H) := by
  intro pins s σ H xs us Q I r h
  obtain ⟨a, ys, rfl, ha, q⟩ := h
  obtain ⟨u, rfl, ru⟩ := vals1 r
  cases ru
  obtain ⟨its, _, p1, _⟩ := I.tuple ha
  exact call_tuple_same (items := its.toArray) p1 ⟨.ref a, H, I, rfl, q⟩
end
end L2

namespace L2
open PySem PySem.Spec PyProof.Rows

/-! ### places -/
/-- the place that an index of any sign means -/
def ixN (n : Nat) (i : Int) : Option Nat := if 0 ≤ i then (if i < n then some i.toNat else none) else if -(n : Int) ≤ i then some (i + n).toNat else none
def atI {α : Type} (xs : List α) (i : Int) : Option α := (ixN xs.length i).bind fun j => xs[j]?
theorem ixN_seq {n : Nat} {i : Int} {j : Nat} (h : ixN n i = some j) : seqIndex? i n = some j ∧ j < n ∧ -(n : Int) ≤ i ∧ i < n := by
  unfold ixN at h
  by_cases h0 : 0 ≤ i
  · rw [if_pos h0] at h
    by_cases h1 : i < n
    · rw [if_pos h1] at h
      have e : i.toNat = j := Option.some.inj h
      exact ⟨by rw [seqIndex_of h0 h1, e], by omega, by omega, h1⟩
    · rw [if_neg h1] at h; cases h
  · rw [if_neg h0] at h
    by_cases h1 : -(n : Int) ≤ i
    · rw [if_pos h1] at h
      have e : (i + n).toNat = j := Option.some.inj h
      exact ⟨by rw [seqIndex_neg (by omega) h1, e], by omega, h1, by omega⟩
    · rw [if_neg h1] at h; cases h
theorem atI_get {α : Type} {xs : List α} {i : Int} {v : α} (h : atI xs i = some v) : ∃ j, seqIndex? i xs.length = some j ∧ xs[j]? = some v ∧ j < xs.length ∧ -(xs.length : Int) ≤ i ∧ i < xs.length := by
  unfold atI at h
  cases e : ixN xs.length i with
  | none => rw [e] at h; cases h
  | some j =>
    rw [e] at h
    obtain ⟨h1, h2, h3, h4⟩ := ixN_seq e
    exact ⟨j, h1, h, h2, h3, h4⟩
theorem atI_nat {α : Type} {xs : List α} {j : Nat} {v : α} (h : xs[j]? = some v) : atI xs (j : Int) = some v := by
  have hj : j < xs.length := (List.getElem?_eq_some_iff.mp h).1
  have e : ixN xs.length (j : Int) = some j := by
    unfold ixN
    rw [if_pos (by omega), if_pos (by omega)]; simp
  unfold atI; rw [e]; exact h
theorem atI_last {α : Type} (xs : List α) (v : α) : atI (xs ++ [v]) (-1) = some v := by
  have hl : (xs ++ [v]).length = xs.length + 1 := by simp
  have e : ixN (xs ++ [v]).length (-1) = some xs.length := by
    unfold ixN
    rw [hl, if_neg (by decide), if_pos (by omega)]
    congr 1
    omega
  unfold atI
  rw [e]
  show (xs ++ [v])[xs.length]? = some v
  simp

/-! ### what may be subscripted -/
/-- what stands as an index of a plain subscript -/
def PlainIx (b : Expr) : Prop := ∀ o i, subscripted b false o i = operate [o, i] (getItem o i)
/-- a subscript by values -/
def IxR (X : Cx) (r : R2) : Prop :=
  ∀ (value slice : Expr) (pins : List (Addr × Obj)) (s : Shared) (σ : St) (H : Hp) (x y : V) (v u : Value) (Q : VK), Inv X pins σ H s → RelV x v → RelV y u → r x y H Q →
    subscripted slice false v u = operate [v, u] (getItem v u) → wpAny (model X.prog X.w) X.A (subscriptTail value slice v u) (EP X pins σ Q) X.xe s
/-- a call of a builtin's method by values: the receiver, the arguments -/
def MtR (X : Cx) (id : String) (r : V → List V → Hp → VK → Prop) : Prop :=
  ∀ (pins : List (Addr × Obj)) (s : Shared) (σ : St) (H : Hp) (x : V) (xs : List V) (v : Value) (us : List Value) (Q : VK), Inv X pins σ H s → RelV x v → Vals xs us → r x xs H Q →
    wpAny (model X.prog X.w) X.A (call (.builtin id) (v :: us)) (EP X pins σ Q) X.xe s
section
variable {X : Cx} {a b : Expr} {ta tb : TE} {pos : Pos}
theorem IxR.or {r r' : R2} (h : IxR X r) (h' : IxR X r') : IxR X (fun x y H Q => r x y H Q ∨ r' x y H Q) := by
  intro value slice pins s σ H x y v u Q I rx ry q hs
  rcases q with q | q
  · exact h value slice pins s σ H x y v u Q I rx ry q hs
  · exact h' value slice pins s σ H x y v u Q I rx ry q hs
theorem MtR.or {id : String} {r r' : V → List V → Hp → VK → Prop} (h : MtR X id r) (h' : MtR X id r') : MtR X id (fun x xs H Q => r x xs H Q ∨ r' x xs H Q) := by
  intro pins s σ H x xs v us Q I rx rs q
  rcases q with q | q
  · exact h pins s σ H x xs v us Q I rx rs q
  · exact h' pins s σ H x xs v us Q I rx rs q
/-- a[b] -/
theorem pe_ix {r : R2} (hr : IxR X r) (ha : PE X a ta) (hb : PE X b tb) (hs : PlainIx b) : PE X (.Subscript a b pos) (tOp r ta tb) := by
  intro pins s σ H Q I h
  exact Subscript_ (binT ha hb I h fun v u s2 x y H2 I2 rx ry q => hr a b pins s2 σ H2 x y v u Q I2 rx ry q (hs _ _))

def rIxL (K : PySem.W.Frag) : R2 := fun x y H Q => ∃ p xs i v, x = .ref p ∧ y = .int i ∧ SqL K H p xs ∧ atI xs i = some v ∧ Q v H
def rIxT (K : PySem.W.Frag) : R2 := fun x y H Q => ∃ p xs i v, x = .ref p ∧ y = .int i ∧ SqT K H p xs ∧ atI xs i = some v ∧ Q v H
def rIxS : R2 := fun x y H Q => ∃ z i c, x = .str z ∧ y = .int i ∧ z.length ≤ sizeLine ∧ atI z.cps.toList i = some c ∧ Q (.str ⟨#[c]⟩) H
theorem ix_list : IxR X (rIxL X.K) := by
  intro value slice pins s σ H x y v u Q I rx ry h hs
  obtain ⟨p, xs, i, z, rfl, rfl, hq, he, q⟩ := h
  cases rx
  obtain ⟨t, rfl⟩ := ry
  obtain ⟨its, r, pl, hz⟩ := I.list hq
  obtain ⟨j, h1, h2, h3, h4, h5⟩ := atI_get he
  obtain ⟨w, ew, rw'⟩ := r.get h2
  have hl := r.length
  have hn := line63
  have fin : EP X pins σ Q w s := ⟨z, H, I, rw', q⟩
  by_cases h0 : 0 ≤ i
  · have hj : i.toNat = j := by
      rw [seqIndex_of h0 h5] at h1
      exact Option.some.inj h1
    exact item_listR pl.isList h0 (by omega) (by rw [hj]; simpa using ew) fin hs
  · have hj : (i + (its.toArray.size : Int)).toNat = j := by
      rw [seqIndex_neg (by omega) h4] at h1
      rw [List.size_toArray, ← hl]
      exact Option.some.inj h1
    exact subscriptTail_builtinR (x := w) pl.isList.typeIs slot_list_getitem.lookup
      (wpAny_getItem_list_neg (Q := fun r s' => r = w ∧ EP X pins σ Q r s') pl.isList (by omega) (by rw [List.size_toArray] <;> omega) (by omega) (by rw [hj]; simpa using ew) ⟨rfl, fin⟩) hs
theorem ix_tup : IxR X (rIxT X.K) := by
  intro value slice pins s σ H x y v u Q I rx ry h hs
  obtain ⟨p, xs, i, z, rfl, rfl, hq, he, q⟩ := h
  cases rx
  obtain ⟨t, rfl⟩ := ry
  obtain ⟨its, r, pl, hz⟩ := I.tuple hq
  obtain ⟨j, h1, h2, h3, h4, h5⟩ := atI_get he
  obtain ⟨w, ew, rw'⟩ := r.get h2
  have hl := r.length
  have hn := line63
  have fin : EP X pins σ Q w s := ⟨z, H, I, rw', q⟩
  exact subscriptTail_builtinR (x := w) pl.typeIs slot_tuple_getitem.lookup
    (getItem_tuple (j := j) (Q := fun r s' => r = w ∧ EP X pins σ Q r s') pl (by omega) (by omega) (by rw [List.size_toArray, ← hl]; exact h1) (by simpa using ew) ⟨rfl, fin⟩) hs
theorem ix_str : IxR X rIxS := by
  intro value slice pins s σ H x y v u Q I rx ry h hs
  obtain ⟨z, i, c, rfl, rfl, hz, he, q⟩ := h
  obtain ⟨t, rfl⟩ := rx
  obtain ⟨t', rfl⟩ := ry
  obtain ⟨j, h1, h2, h3, h4, h5⟩ := atI_get he
  have hl : z.cps.toList.length = z.length := by simp [Str.length]
  rw [hl] at h1 h4 h5
  have hn := line63
  exact tail_any (typeIs_str s z t) slot_str_getitem.lookup (getItem_str (c := c) (by
    have e1 : decide (i < -(2 ^ 63 : Int)) = false := decide_eq_false (by omega)
    have e2 : decide (i ≥ 2 ^ 63) = false := decide_eq_false (by omega)
    rw [e1, e2, Bool.or_false]) (by rw [h1]; simpa using h2) ⟨.str ⟨#[c]⟩, H, I.tok _, ⟨_, rfl⟩, q⟩) hs
/-- list, tuple or str -/
def rIx (K : PySem.W.Frag) : R2 := fun x y H Q => rIxL K x y H Q ∨ rIxT K x y H Q ∨ rIxS x y H Q
theorem ix_seq : IxR X (rIx X.K) := ix_list.or (ix_tup.or ix_str)

/-! ### xs[i] = v, any sign -/
/-- the list's object behind a store -/
theorem mapSeq_set (its : List Value) (n j : Nat) (u : Value) : Obj.mapSeq (·.setIfInBounds j u) { cls := .type "list", data := .seq its.toArray n } = { cls := .type "list", data := .seq (its.set j u).toArray n } := by
  simp [Obj.mapSeq]
theorem Inv.lst {pins : List (Addr × Obj)} {σ : St} {H : Hp} {s : Shared} {p : Addr} {xs : List V} (I : Inv X pins σ H s) (h : H p = some (.lst xs)) :
    ∃ (its : List Value) (n : Nat), Vals xs its ∧ s.heap.get? p = some { cls := .type "list", data := .seq its.toArray n } ∧ xs.length ≤ sizeLine := by
  obtain ⟨z, its, n, r, e⟩ := I.hok p _ h
  exact ⟨its, n, r, e, z⟩
/-- the list at p is written by an update of its object -/
theorem Inv.lstUpd {pins : List (Addr × Obj)} {σ : St} {H : Hp} {s : Shared} {p : Addr} {xs ys : List V} {its its' : List Value} {n n' : Nat} {f : Obj → Obj} (I : Inv X pins σ H s) (h : H p = some (.lst xs))
    (ho : s.heap.get? p = some { cls := .type "list", data := .seq its.toArray n }) (hf : f { cls := .type "list", data := .seq its.toArray n } = { cls := .type "list", data := .seq its'.toArray n' }) (r : Vals ys its') (hz : ys.length ≤ sizeLine) (t : Nat) :
    Inv X pins σ (upd H p (.lst ys)) { s with heap := s.heap.update p f, toks := t } := by
  have e : (s.heap.update p f).get? p = some { cls := .type "list", data := .seq its'.toArray n' } := by
    rw [Heap.get?_update_self f ho (by rw [hf] <;> rfl), hf]
  refine I.write (x := p) (e := p) (by rw [h]; trivial) (.inl rfl) (fun b u hb q => (Heap.get?_update_other _ _ (Ne.symm hb)).trans q) ⟨_, e⟩ ?_
  exact ⟨hz, its', n', r, e⟩
def rSetL : V → V → V → Hp → (Hp → Prop) → Prop := fun o i v H Q => ∃ p xs k j, o = .ref p ∧ i = .int k ∧ H p = some (.lst xs) ∧ ixN xs.length k = some j ∧ Q (upd H p (.lst (xs.set j v)))
theorem set_list : PSet X rSetL := by
  intro pins s σ H o i v ov iv u Q I ro ri rv h
  obtain ⟨p, xs, k, j, rfl, rfl, hp, hj, q⟩ := h
  cases ro
  obtain ⟨t, rfl⟩ := ri
  obtain ⟨its, n, r, ho, hz⟩ := I.lst hp
  obtain ⟨h1, h2, h3, h4⟩ := ixN_seq hj
  have hl := r.length
  have hn := line63
  have I' : Inv X pins σ (upd H p (.lst (xs.set j v))) { s with heap := s.heap.update p (Obj.mapSeq (·.setIfInBounds j u)) } :=
    I.lstUpd hp ho (mapSeq_set its n j u) (r.set rv j) (by rw [List.length_set]; exact hz) s.toks
  by_cases h0 : 0 ≤ k
  · have hk : k.toNat = j := by
      rw [seqIndex_of h0 h4] at h1
      exact Option.some.inj h1
    exact PySem.W.ki_setAt ho h0 (by omega) (by rw [List.size_toArray, ← hl]; exact h4) (by rw [hk]; exact ⟨_, I', q⟩)
  · have hk : (k + (its.toArray.size : Int)).toNat = j := by
      rw [seqIndex_neg (by omega) h3] at h1
      rw [List.size_toArray, ← hl]
      exact Option.some.inj h1
    exact PySem.W.ki_setBack ho (by omega) (by rw [List.size_toArray, ← hl]; exact h3) (by omega) (by rw [hk]; exact ⟨_, I', q⟩)

/-! ### slices -/
theorem slice_bounds (lo hi : Option Int) (n : Nat) : (sliceBounds lo hi none n).1 = ((HT.sIx n 0 lo : Nat) : Int) ∧ (sliceBounds lo hi none n).2.1 = ((HT.sIx n n hi : Nat) : Int) ∧ (sliceBounds lo hi none n).2.2 = 1 := by
  refine ⟨?_, ?_, rfl⟩
  · cases lo with
    | none => simp [sliceBounds, HT.sIx]
    | some i =>
      simp only [sliceBounds, HT.sIx, Option.getD_none, show (1 : Int) > 0 by decide, if_true]
      by_cases h : i < 0
      · simp only [h, if_true] <;> omega
      · simp only [h, if_false] <;> omega
  · cases hi with
    | none => simp [sliceBounds, HT.sIx]
    | some i =>
      simp only [sliceBounds, HT.sIx, Option.getD_none, show (1 : Int) > 0 by decide, if_true]
      by_cases h : i < 0
      · simp only [h, if_true] <;> omega
      · simp only [h, if_false] <;> omega
theorem slicePick_cut (its : List Value) (lo hi : Option Int) : slicePick its.toArray lo hi none = ((its.drop (HT.sIx its.length 0 lo)).take (HT.sIx its.length its.length hi - HT.sIx its.length 0 lo)).toArray := by
  obtain ⟨h1, h2, h3⟩ := slice_bounds lo hi its.toArray.size
  unfold slicePick
  rw [h1, h2, h3]
  simp only [sliceRange_one, pick_run, List.size_toArray] <;> rfl
/-- xs[lo:hi] of a list: a new list -/
def rSlL (K : PySem.W.Frag) : V → Option Int → Option Int → Hp → VK → Prop := fun x lo hi H Q => ∃ a xs, x = .ref a ∧ SqL K H a xs ∧ ∀ p, H p = none → Q (.ref p) (upd H p (.lst (cutV xs lo hi)))
theorem sl_list : SlR X (rSlL X.K) := by
  intro pins s σ H x v vl vu lo hi sl Q I rx hs pl pu h
  obtain ⟨a, xs, rfl, hx, q⟩ := h
  cases rx
  obtain ⟨its, r, ht, hz⟩ := I.list hx
  have hlen := r.length
  refine ⟨"list", _, slot_list_getitem.lookup, ht.isList.typeIs, ?_⟩
  refine wpAny_getItem_list_slice ht.isList hs pl pu .none (by simp) ?_ (by rw [List.size_toArray] <;> omega)
  rw [slicePick_cut, ← hlen]
  refine ⟨.ref s.heap.objs.size, _, I.laid (t' := s.toks) (o := .lst (cutV xs lo hi)) (fun b ob q => Heap.get?_push_of_some _ q) (Nat.le_refl _) ?_, rfl, q _ (I.hok.fresh (Nat.le_refl _))⟩
  exact ⟨Nat.le_trans (cutV_length xs lo hi) hz, _, 0, (r.drop (HT.sIx xs.length 0 lo)).take (HT.sIx xs.length xs.length hi - HT.sIx xs.length 0 lo), Heap.get?_push_size _ rfl⟩

/-! ### in, not in: flat items -/
def flatV : V → Bool
  | .non => true
  | .bl _ => true
  | .int _ => true
  | .str _ => true
  | _ => false
/-- == of flat values -/
def eqV : V → V → Bool
  | .non, .non => true
  | .bl a, .bl b => a == b
  | .bl a, .int b => (if a then 1 else 0) == b
  | .int a, .bl b => a == (if b then 1 else 0)
  | .int a, .int b => a == b
  | .str a, .str b => a == b
  | _, _ => false
theorem eqAt_V {A : Around} {s : Shared} {y x : V} {u v : Value} (ry : RelV y u) (rx : RelV x v) (fy : flatV y = true) (fx : flatV x = true) : SeqAt.EqAt A s u v (eqV y x) := by
  cases y with
  | non =>
    cases ry
    cases x with
    | non => cases rx; exact SeqAt.EqAt.same _
    | bl b => cases rx; exact SeqAt.EqAt.none_bool b
    | int b => obtain ⟨t, rfl⟩ := rx; exact SeqAt.EqAt.none_int b t
    | str b => obtain ⟨t, rfl⟩ := rx; exact SeqAt.EqAt.none_str b t
    | _ => exact absurd (show false = true from fx) Bool.false_ne_true
  | bl a =>
    cases ry
    cases x with
    | non => cases rx; exact SeqAt.EqAt.bool_none a
    | bl b => cases rx; exact SeqAt.EqAt.bool_bool a b
    | int b => obtain ⟨t, rfl⟩ := rx; exact SeqAt.EqAt.bool_int a b t
    | str b => obtain ⟨t, rfl⟩ := rx; exact SeqAt.EqAt.bool_str a b t
    | _ => exact absurd (show false = true from fx) Bool.false_ne_true
  | int a =>
    obtain ⟨t', rfl⟩ := ry
    cases x with
    | non => cases rx; exact SeqAt.EqAt.int_none a t'
    | bl b => cases rx; exact SeqAt.EqAt.int_bool a t' b
    | int b => obtain ⟨t, rfl⟩ := rx; exact SeqAt.EqAt.int_int a t' b t
    | str b => obtain ⟨t, rfl⟩ := rx; exact SeqAt.EqAt.int_str a t' b t
    | _ => exact absurd (show false = true from fx) Bool.false_ne_true
  | str a =>
    obtain ⟨t', rfl⟩ := ry
    cases x with
    | non => cases rx; exact SeqAt.EqAt.str_none a t'
    | bl b => cases rx; exact SeqAt.EqAt.str_bool a t' b
    | int b => obtain ⟨t, rfl⟩ := rx; exact SeqAt.EqAt.str_int a t' b t
    | str b => obtain ⟨t, rfl⟩ := rx; exact SeqAt.EqAt.str_str a t' b t
    | _ => exact absurd (show false = true from fx) Bool.false_ne_true
  | _ => exact absurd (show false = true from fy) Bool.false_ne_true
/-- the items' answers, read off the values (a value's own answer does not lean on its token) -/
def eqU (x : V) (u : Value) : Bool := match u with
  | .none => eqV .non x
  | .bool b => eqV (.bl b) x
  | .int i _ => eqV (.int i) x
  | .str z _ => eqV (.str z) x
  | _ => false
theorem eqU_of {x y : V} {u : Value} (r : RelV y u) (f : flatV y = true) : eqU x u = eqV y x := by
  cases y with
  | non => cases r; rfl
  | bl b => cases r; rfl
  | int i => obtain ⟨t, rfl⟩ := r; rfl
  | str z => obtain ⟨t, rfl⟩ := r; rfl
  | _ => exact absurd (show false = true from f) Bool.false_ne_true
theorem any_eqU {x : V} : ∀ {xs : List V} {us : List Value}, Vals xs us → xs.all flatV = true → us.any (eqU x) = xs.any fun y => eqV y x
  | _, _, .nil, _ => rfl
  | y :: xs, u :: us, .cons r t, f => by
    rw [List.all_cons, Bool.and_eq_true] at f
    rw [List.any_cons, List.any_cons, eqU_of r f.1, any_eqU t f.2]
theorem mem_eqAt {A : Around} {s : Shared} {x : V} {v : Value} (rx : RelV x v) (fx : flatV x = true) : ∀ {xs : List V} {us : List Value}, Vals xs us → xs.all flatV = true → ∀ u ∈ us, SeqAt.EqAt A s u v (eqU x u)
  | _, _, .nil, _ => fun u hu => by cases hu
  | y :: xs, u :: us, .cons r t, f => fun u' hu => by
    rw [List.all_cons, Bool.and_eq_true] at f
    rcases List.mem_cons.mp hu with rfl | hu
    · rw [eqU_of r f.1]; exact eqAt_V r rx f.1 fx
    · exact mem_eqAt rx fx t f.2 u' hu
def inV (x : V) (xs : List V) : Bool := xs.any fun y => eqV y x
/-- x in a list or tuple of flat items -/
def rIn (K : PySem.W.Frag) (neg : Bool) : R2 := fun x y H Q => ∃ p xs, y = .ref p ∧ (SqL K H p xs ∨ SqT K H p xs) ∧ flatV x = true ∧ xs.all flatV = true ∧ Q (.bl (if neg then !inV x xs else inV x xs)) H
theorem op_in_seq : OpR X (compareOp .In) (rIn X.K false) := by
  intro pins s σ H x y v u Q I rx ry h
  obtain ⟨p, xs, rfl, hq, fx, fs, q⟩ := h
  cases ry
  rcases hq with hq | hq
  · obtain ⟨its, r, pl, hz⟩ := I.list hq
    refine SeqAt.in_listAt (eqU x) pl.isList (fun w hw => mem_eqAt rx fx r fs w (by simpa using hw)) ⟨.bl _, H, I, rfl, ?_⟩
    rw [show its.toArray.any (eqU x) = its.any (eqU x) by simp, any_eqU r fs]
    exact q
  · obtain ⟨its, r, pl, hz⟩ := I.tuple hq
    refine SeqAt.in_tupleAt (eqU x) pl (fun w hw => mem_eqAt rx fx r fs w (by simpa using hw)) ⟨.bl _, H, I, rfl, ?_⟩
    rw [show its.toArray.any (eqU x) = its.any (eqU x) by simp, any_eqU r fs]
    exact q
theorem op_notIn_seq : OpR X (compareOp .NotIn) (rIn X.K true) := by
  intro pins s σ H x y v u Q I rx ry h
  obtain ⟨p, xs, rfl, hq, fx, fs, q⟩ := h
  cases ry
  rcases hq with hq | hq
  · obtain ⟨its, r, pl, hz⟩ := I.list hq
    refine SeqAt.notIn_listAt (eqU x) pl.isList (fun w hw => mem_eqAt rx fx r fs w (by simpa using hw)) ⟨.bl _, H, I, rfl, ?_⟩
    rw [show its.toArray.any (eqU x) = its.any (eqU x) by simp, any_eqU r fs]
    exact q
  · obtain ⟨its, r, pl, hz⟩ := I.tuple hq
    refine SeqAt.notIn_tupleAt (eqU x) pl (fun w hw => mem_eqAt rx fx r fs w (by simpa using hw)) ⟨.bl _, H, I, rfl, ?_⟩
    rw [show its.toArray.any (eqU x) = its.any (eqU x) by simp, any_eqU r fs]
    exact q
theorem op_notIn_str : OpR X (compareOp .NotIn) (fun x y H Q => ∃ i j, x = .str i ∧ y = .str j ∧ Q (.bl (!(!(Builtin.Str.occurrences j i 0 j.length 1).isEmpty))) H) := by
  intro pins s σ H x y v u Q I rx ry h
  obtain ⟨i, j, rfl, rfl, q⟩ := h
  obtain ⟨t, rfl⟩ := rx
  obtain ⟨t', rfl⟩ := ry
  exact notIn_str ⟨.bl _, H, I, rfl, q⟩

/-! ### len, list(x), tuple(x) of any list or tuple that is read -/
theorem call_len_seq : CallR X (.builtin "len") (fun xs H Q => ∃ p ys, xs = [.ref p] ∧ (SqL X.K H p ys ∨ SqT X.K H p ys) ∧ Q (.int ys.length) H) := by
  intro pins s σ H xs us Q I r h
  obtain ⟨p, ys, rfl, hq, q⟩ := h
  obtain ⟨u, rfl, rx⟩ := vals1 r
  cases rx
  have hn := line63
  rcases hq with hq | hq
  · obtain ⟨its, r', pl, hz⟩ := I.list hq
    have hlen := r'.length
    exact Calls.call_len_list pl.isList (by simp only [List.size_toArray] <;> omega) ⟨.int ys.length, H, I.tok _, ⟨s.toks + 1, by rw [List.size_toArray, hlen]⟩, q⟩
  · obtain ⟨its, r', pl, hz⟩ := I.tuple hq
    have hlen := r'.length
    exact len_tuple pl (by simp only [List.size_toArray] <;> omega) ⟨.int ys.length, H, I.tok _, ⟨s.toks + 1, by rw [List.size_toArray, hlen]⟩, q⟩
theorem call_len_str : CallR X (.builtin "len") (fun xs H Q => ∃ z, xs = [.str z] ∧ z.length ≤ sizeLine ∧ Q (.int z.length) H) := by
  intro pins s σ H xs us Q I r h
  obtain ⟨z, rfl, hz, q⟩ := h
  obtain ⟨u, rfl, t, rfl⟩ := vals1 r
  have hn := line63
  exact len_str (by omega) ⟨.int z.length, H, I.tok _, ⟨_, rfl⟩, q⟩
theorem CallR.or {f : Value} {r r' : List V → Hp → VK → Prop} (h : CallR X f r) (h' : CallR X f r') : CallR X f (fun xs H Q => r xs H Q ∨ r' xs H Q) := by
  intro pins s σ H xs us Q I rs q
  rcases q with q | q
  · exact h pins s σ H xs us Q I rs q
  · exact h' pins s σ H xs us Q I rs q
theorem call_list_of : CallR X (.type "list") (fun xs H Q => ∃ p ys, xs = [.ref p] ∧ (SqL X.K H p ys ∨ SqT X.K H p ys) ∧ ∀ l, H l = none → Q (.ref l) (upd H l (.lst ys))) := by
  intro pins s σ H xs us Q I r h
  obtain ⟨p, ys, rfl, hq, q⟩ := h
  obtain ⟨u, rfl, rx⟩ := vals1 r
  cases rx
  have fin : ∀ (its : List Value), Vals ys its → ys.length ≤ sizeLine → ∀ (h' : Heap) (c' : Nat), (∀ b o', s.heap.get? b = some o' → h'.get? b = some o') →
      h'.get? s.heap.objs.size = some { cls := .type "list", dict := none, data := .seq its.toArray c', slots := #[] } → EP X pins σ Q (.ref s.heap.objs.size) { s with heap := h' } := fun its r' hz h' c' kp e =>
    ⟨.ref s.heap.objs.size, _, I.laid (t' := s.toks) kp (Nat.le_refl _) (show ObjOk X.prog X.w _ h' _ (.lst ys) from ⟨hz, its, c', r', e⟩), rfl, q _ (I.hok.fresh (Nat.le_refl _))⟩
  rcases hq with hq | hq
  · obtain ⟨its, r', pl, hz⟩ := I.list hq
    have hlen := r'.length
    obtain ⟨o, ho, hc, n, hd⟩ := pl.isList
    exact call_list_seq p (.inl rfl) ho hc hd (fun h' c' kp e => fin its r' hz h' c' kp e) (by simp only [List.size_toArray] <;> omega)
  · obtain ⟨its, r', pl, hz⟩ := I.tuple hq
    have hlen := r'.length
    obtain ⟨o, ho, hc, n, hd⟩ := pl
    exact call_list_seq p (.inr rfl) ho hc hd (fun h' c' kp e => fin its r' hz h' c' kp e) (by simp only [List.size_toArray] <;> omega)
theorem call_tuple_of : CallR X (.type "tuple") (fun xs H Q => ∃ p ys, xs = [.ref p] ∧ ((SqL X.K H p ys ∧ ∀ l, H l = none → Q (.ref l) (upd H l (.tup ys))) ∨ (SqT X.K H p ys ∧ Q (.ref p) H))) := by
  intro pins s σ H xs us Q I r h
  obtain ⟨p, ys, rfl, h⟩ := h
  obtain ⟨u, rfl, rx⟩ := vals1 r
  cases rx
  rcases h with ⟨hq, q⟩ | ⟨hq, q⟩
  · obtain ⟨its, r', pl, hz⟩ := I.list hq
    have hlen := r'.length
    refine call_tuple_list pl.isList (fun h' kp => ?_) (by simp only [List.size_toArray] <;> omega)
    have I1 : Inv X pins σ H { s with heap := h' } := I.kept (t' := s.toks) kp
    have I2 : Inv X pins σ (upd H h'.objs.size (.tup ys)) { s with heap := h'.push { cls := .type "tuple", data := .seq its.toArray } } :=
      I1.laid (t' := s.toks) (fun b o e => Heap.get?_push_of_some _ e) (Nat.le_refl _) (show ObjOk X.prog X.w _ _ _ (.tup ys) from ⟨hz, its, r', IsTup.new _ _⟩)
    exact ⟨.ref h'.objs.size, _, I2, rfl, q _ (I1.hok.fresh (Nat.le_refl _))⟩
  · obtain ⟨its, r', pl, hz⟩ := I.tuple hq
    exact call_tuple_same pl ⟨.ref p, H, I, rfl, q⟩

/-! ### the call of a builtin's method: o.m(..) -/
/-- the value is of that builtin type -/
def tyV (K : PySem.W.Frag) (T : String) (x : V) (H : Hp) : Prop := match x with
  | .str _ => T = "str"
  | .int _ => T = "int"
  | .ref p => (T = "list" ∧ ∃ xs, SqL K H p xs) ∨ (T = "tuple" ∧ ∃ o, K.lookup p = some o ∧ o.cls = .type "tuple" ∧ o.dict = none) ∨
      (T = "dict" ∧ ((∃ kvs, H p = some (.dK kvs)) ∨ ∃ kvs, H p = some (.dT kvs))) ∨ (T = "set" ∧ ∃ S n, H p = some (.set S n))
  | _ => False
theorem tyV_is {pins : List (Addr × Obj)} {σ : St} {H : Hp} {s : Shared} {T : String} {x : V} {v : Value} (I : Inv X pins σ H s) (r : RelV x v) (ty : tyV X.K T x H) :
    s.TypeIs v T ∧ ∀ a, v = .ref a → ∃ ob, s.heap.get? a = some ob ∧ ob.dict = none := by
  cases x with
  | str z =>
    obtain ⟨t, rfl⟩ := r
    cases (show T = "str" from ty)
    exact ⟨typeIs_str s z t, fun _ e => nomatch e⟩
  | int i =>
    obtain ⟨t, rfl⟩ := r
    cases (show T = "int" from ty)
    exact ⟨typeIs_int s i t, fun _ e => nomatch e⟩
  | ref p =>
    cases r
    rcases ty with ⟨rfl, xs, hq⟩ | ⟨rfl, o, hk, hc, hd⟩ | ⟨rfl, hk⟩ | ⟨rfl, S, n, hk⟩
    · obtain ⟨its, _, pl, _⟩ := I.list hq
      refine ⟨pl.isList.typeIs, fun a e => ?_⟩
      cases e
      obtain ⟨o, n, e, c, hd, _⟩ := pl
      exact ⟨o, e, hd⟩
    · refine ⟨⟨o, I.kIn p o hk, hc⟩, fun a e => ?_⟩
      cases e
      exact ⟨o, I.kIn _ o hk, hd⟩
    · have z : ∃ o, s.heap.get? p = some o ∧ o.ExactDict := by
        rcases hk with ⟨kvs, hk⟩ | ⟨kvs, hk⟩
        · obtain ⟨_, _, _, _, o, _, _, e, ex, _⟩ := I.hok p _ hk
          exact ⟨o, e, ex⟩
        · obtain ⟨_, _, _, _, o, _, _, e, ex, _⟩ := I.hok p _ hk
          exact ⟨o, e, ex⟩
      obtain ⟨o, e, ex⟩ := z
      refine ⟨⟨o, e, ex.1⟩, fun a e2 => ?_⟩
      cases e2
      exact ⟨o, e, ex.2.1⟩
    · obtain ⟨o, _, _, _, e, ex, _⟩ := I.hok p _ hk
      refine ⟨⟨o, e, ex.1⟩, fun a e2 => ?_⟩
      cases e2
      exact ⟨o, e, ex.2.1⟩
  | _ => exact False.elim ty
def tBM0 (K : PySem.W.Frag) (T : String) (r : V → List V → Hp → VK → Prop) (to : TE) : TE := fun σ H Q => to σ H fun x H1 => tyV K T x H1 ∧ r x [] H1 Q
def tBM (K : PySem.W.Frag) (T : String) (r : V → List V → Hp → VK → Prop) (to : TE) (t : TA) : TE := fun σ H Q => to σ H fun x H1 => tyV K T x H1 ∧ t σ H1 fun xs H2 => r x xs H2 Q
variable {o e : Expr} {es : List Expr} {to : TE} {t : TA} {name : Str} {apos cpos : Pos} {T id : String} {r : V → List V → Hp → VK → Prop}
theorem pe_bm0 (pa : PlainAttrs T) (slot : Slot T name id) (hty : typeOf (.builtin id) = pure (.type "method_descriptor")) (hm : MtR X id r) (ho : PE X o to)
    (hbase : attributeBase o name X.env (eval o X.env) = eval o X.env := by rfl) (hline : (apos.endLine == cpos.line) = true := by rfl) : PE X (.Call (.Attribute o name apos) [] [] cpos) (tBM0 X.K T r to) := by
  intro pins s σ H Q I h
  refine wpAny_Call_method0_late hbase hline (thn (ho pins s σ H _ I h) fun v s1 ⟨x, H1, I1, r1, ty, q1⟩ => ?_)
  obtain ⟨h1, h2⟩ := tyV_is I1 r1 ty
  exact ⟨T, id, pa, slot, hty, h1, h2, Calls.callWith_builtin rfl (PySem.evalArgs_none (hm pins s1 σ H1 x [] v [] Q I1 r1 .nil q1))⟩
theorem pe_bm (pa : PlainAttrs T) (slot : Slot T name id) (hty : typeOf (.builtin id) = pure (.type "method_descriptor")) (hm : MtR X id r) (ho : PE X o to) (ha : PA X (e :: es) t)
    (hbase : attributeBase o name X.env (eval o X.env) = eval o X.env := by rfl)
    (hfew : ((backTo cpos (starEach (e :: es) X.env)).all (fun x => !x.1) && (backToKw cpos (keywordEach [] X.env)).all (fun x => x.1.isSome)
      && decide ((e :: es).length + ([] : List Keyword).length + (if ([] : List Keyword).isEmpty then 0 else 1) < 30)) = true := by rfl)
    (hline : (apos.endLine == cpos.line) = true := by rfl) (hs : starEach (e :: es) X.env = (false, eval e X.env) :: starEach es X.env := by rfl) (hplain : (backTo cpos (starEach es X.env)).any (·.1) = false := by rfl) :
    PE X (.Call (.Attribute o name apos) (e :: es) [] cpos) (tBM X.K T r to t) := by
  intro pins s σ H Q I h
  refine wpAny_Call_method_late hbase hfew hline rfl (thn (ho pins s σ H _ I h) fun v s1 ⟨x, H1, I1, r1, ty, q1⟩ => ?_)
  obtain ⟨h1, h2⟩ := tyV_is I1 r1 ty
  refine ⟨T, id, pa, slot, hty, h1, h2, ?_⟩
  have hA := ha cpos pins s1 σ H1 _ I1 q1
  rw [hs] at hA ⊢
  refine Calls.callWith_builtin (by show (false || (backTo cpos (starEach es X.env)).any (·.1)) = false; rw [hplain] <;> rfl) (Calls.evalArgs_plain ?_)
  exact thn hA fun us s2 ⟨vs, H2, I2, r2, q2⟩ => hm pins s2 σ H2 x vs v us Q I2 r1 r2 q2
/- xs.append(e), list.index on a module's tuple .. are MtR facts of 06m -/
end
end L2

namespace L2
open PySem PySem.Spec PyProof.Rows

def MtM (X : Cx) (id : String) (r : V → List V → Hp → VK → Prop) : Prop :=
  ∀ (pins : List (Addr × Obj)) (s : Shared) (σ : St) (H : Hp) (x : V) (xs : List V) (v : Value) (us : List Value) (Q : VK), Inv X pins σ H s → RelV x v → Vals xs us → r x xs H Q →
    wpAny (model X.prog X.w) X.A (call (.builtin id) (v :: us)) (EP X pins σ Q) X.xe s

/-! ### lists of values -/
theorem Vals.one : ∀ {x : V} {us : List Value}, Vals [x] us → ∃ u, us = [u] ∧ RelV x u
  | _, _, .cons r .nil => ⟨_, rfl, r⟩
theorem Vals.two : ∀ {x y : V} {us : List Value}, Vals [x, y] us → ∃ u v, us = [u, v] ∧ RelV x u ∧ RelV y v
  | _, _, _, .cons r (.cons q .nil) => ⟨_, _, rfl, r, q⟩
theorem Vals.zero : ∀ {us : List Value}, Vals [] us → us = []
  | _, .nil => rfl
theorem Vals.dropLast {xs : List V} {us : List Value} (h : Vals xs us) : Vals xs.dropLast us.dropLast := by
  induction h with
  | nil => exact .nil
  | cons r t ih =>
    cases t with
    | nil => exact .nil
    | cons q t' => exact .cons r ih
theorem Vals.eraseIdx : ∀ {xs : List V} {us : List Value} (i : Nat), Vals xs us → Vals (xs.eraseIdx i) (us.eraseIdx i)
  | _, _, _, .nil => .nil
  | _, _, 0, .cons _ t => t
  | _, _, i + 1, .cons r t => .cons r (Vals.eraseIdx i t)
theorem Vals.reverse {xs : List V} {us : List Value} (h : Vals xs us) : Vals xs.reverse us.reverse := by
  induction h with
  | nil => exact .nil
  | cons r t ih => rw [List.reverse_cons, List.reverse_cons]; exact Vals.append ih (.cons r .nil)
theorem Vals.rep {xs : List V} {us : List Value} (h : Vals xs us) : ∀ k : Nat, Vals (List.replicate k xs).flatten (List.replicate k us).flatten
  | 0 => .nil
  | k + 1 => by
    rw [List.replicate_succ, List.replicate_succ, List.flatten_cons, List.flatten_cons]
    exact Vals.append h (Vals.rep h k)
theorem erase_last {α : Type} (l : List α) : l.eraseIdx (l.length - 1) = l.dropLast := by
  induction l with
  | nil => rfl
  | cons a r ih =>
    cases r with
    | nil => rfl
    | cons b r =>
      have e : (a :: b :: r).length - 1 = ((b :: r).length - 1) + 1 := by
        have h1 : (a :: b :: r).length = r.length + 2 := rfl
        have h2 : (b :: r).length = r.length + 1 := rfl
        omega
      rw [e, List.eraseIdx_cons_succ, ih]
      all_goals rfl
theorem len_erase {α : Type} : ∀ (l : List α) (i : Nat), (l.eraseIdx i).length ≤ l.length
  | [], _ => Nat.le_refl _
  | _ :: _, 0 => Nat.le_succ _
  | _ :: r, i + 1 => Nat.succ_le_succ (len_erase r i)
theorem foldl_rep (its : List Value) : ∀ (k : Nat) (acc : List Value),
    List.foldl (fun x1 x2 => x1 ++ x2) acc.toArray (List.replicate k its.toArray) = (acc ++ (List.replicate k its).flatten).toArray
  | 0, acc => by simp
  | k + 1, acc => by
    have e : acc.toArray ++ its.toArray = (acc ++ its).toArray := by simp
    have e2 : (acc ++ its) ++ (List.replicate k its).flatten = acc ++ (List.replicate (k + 1) its).flatten := by
      rw [List.replicate_succ, List.flatten_cons, List.append_assoc]
    rw [← e2, ← foldl_rep its k (acc ++ its), ← e, List.replicate_succ, List.foldl_cons]

section
variable {X : Cx} {pins : List (Addr × Obj)} {σ : St} {H : Hp} {s : Shared} {l b : Addr} {xs ys zs : List V}

/-! ### the two steps: a tracked list is rewritten, a new list is laid -/
theorem Inv.lset {its its' : List Value} {n : Nat} {f : Array Value → Array Value} {t' : Nat} (I : Inv X pins σ H s) (hH : H l = some (.lst xs))
    (e : s.heap.get? l = some { cls := .type "list", data := .seq its.toArray n }) (hf : f its.toArray = its'.toArray) (hv : Vals ys its') (hz : ys.length ≤ sizeLine) :
    Inv X pins σ (upd H l (.lst ys)) { s with heap := s.heap.update l (Obj.mapSeq f), toks := t' } := by
  have q := PySem.IsL.update e f
  rw [hf] at q
  refine I.write (x := l) (e := l) (by rw [hH]; exact trivial) (.inl rfl) (fun b' u hb hu => (Heap.get?_update_other s.heap (Obj.mapSeq f) (Ne.symm hb)).trans hu) ⟨_, q⟩ ?_
  exact ⟨hz, its', _, hv, q⟩
theorem Inv.lnew {its : List Value} {t' : Nat} (I : Inv X pins σ H s) (hv : Vals ys its) (hz : ys.length ≤ sizeLine) :
    Inv X pins σ (upd H s.heap.objs.size (.lst ys)) { s with heap := s.heap.push { cls := .type "list", data := .seq its.toArray }, toks := t' } :=
  I.laid (fun _ _ q => Heap.get?_push_of_some _ q) (Nat.le_refl _) ⟨hz, its, 0, hv, Heap.get?_push_size _ rfl⟩
theorem Inv.fresh (I : Inv X pins σ H s) : H s.heap.objs.size = none := I.hok.fresh (Nat.le_refl _)
theorem Inv.lstM (I : Inv X pins σ H s) (hH : H l = some (.lst xs)) : xs.length ≤ sizeLine ∧ ∃ (its : List Value) (n : Nat), Vals xs its ∧ xs.length = its.length ∧ s.heap.get? l = some { cls := .type "list", data := .seq its.toArray n } := by
  obtain ⟨z, its, n, r, e⟩ := I.hok l _ hH
  exact ⟨z, its, n, r, r.length, e⟩

theorem notLongL {n : Nat} (h : n ≤ sizeLine) : Builtin.List.listTooLong n = false := by
  unfold Builtin.List.listTooLong
  exact decide_eq_false (by omega)
end

section
variable {X : Cx}

/-! ### methods -/
def rAppend : V → List V → Hp → VK → Prop := fun x vs H Q => ∃ l xs y, x = .ref l ∧ vs = [y] ∧ H l = some (.lst xs) ∧ xs.length < sizeLine ∧ Q .non (upd H l (.lst (xs ++ [y])))
theorem mt_append : MtM X "list.append" rAppend := by
  intro pins s σ H x vs v us Q I rx rv h
  obtain ⟨l, xs, y, rfl, rfl, hH, hz, q⟩ := h
  cases rx
  obtain ⟨u, rfl, ru⟩ := rv.one
  obtain ⟨z, its, n, r, hl, e⟩ := I.lstM hH
  refine call_meets F.slot_list_append ⟨_, e, rfl⟩ F.entry_list_append (F.args_list_append_2 _ _) (PySem.list_append l its.toArray n u (by rw [List.size_toArray]; omega)) ⟨e, ?_⟩
  refine ⟨.non, _, I.lset (its' := its ++ [u]) hH e (by simp) (r.append (.cons ru .nil)) ?_, rfl, q⟩
  rw [List.length_append, List.length_singleton]
  omega

def rExtend : V → List V → Hp → VK → Prop := fun x vs H Q => ∃ l b xs zs, x = .ref l ∧ vs = [.ref b] ∧ H l = some (.lst xs) ∧ H b = some (.lst zs) ∧ xs.length + zs.length ≤ sizeLine ∧ Q .non (upd H l (.lst (xs ++ zs)))
theorem mt_extend : MtM X "list.extend" rExtend := by
  intro pins s σ H x vs v us Q I rx rv h
  obtain ⟨l, b, xs, zs, rfl, rfl, hH, hB, hz, q⟩ := h
  cases rx
  obtain ⟨u, rfl, ru⟩ := rv.one
  cases ru
  obtain ⟨z, its, n, r, hl, e⟩ := I.lstM hH
  obtain ⟨z2, its2, n2, r2, hl2, e2⟩ := I.lstM hB
  have hsz : its.toArray.size + its2.toArray.size ≤ sizeLine := by rw [List.size_toArray, List.size_toArray]; omega
  have hlong : ¬ (!its.toArray.isEmpty && Builtin.List.listTooLong (its.toArray.size + its2.toArray.size)) = true := by
    rw [notLongL hsz, Bool.and_false]
    exact Bool.false_ne_true
  refine call_meets F.slot_list_extend ⟨_, e, rfl⟩ F.entry_list_extend (F.args_list_extend_2 _ _)
    (AutoSeq1.list_extend_list_list_0 l its.toArray n b its2.toArray n2 hlong (by rw [List.size_toArray]; omega) (by omega)) ⟨e, e2, ?_⟩
  refine ⟨.non, _, I.lset (its' := its ++ its2) hH e (by simp) (r.append r2) ?_, rfl, q⟩
  rw [List.length_append]
  omega

def rPop : V → List V → Hp → VK → Prop := fun x vs H Q => ∃ l xs y, x = .ref l ∧ vs = [] ∧ H l = some (.lst xs) ∧ xs[xs.length - 1]? = some y ∧ Q y (upd H l (.lst xs.dropLast))
theorem mt_pop : MtM X "list.pop" rPop := by
  intro pins s σ H x vs v us Q I rx rv h
  obtain ⟨l, xs, y, rfl, rfl, hH, hy, q⟩ := h
  cases rx
  have hus := rv.zero
  subst hus
  obtain ⟨z, its, n, r, hl, e⟩ := I.lstM hH
  obtain ⟨u, hu, ru⟩ := r.get hy
  have hy' : its.toArray[its.toArray.size - 1]? = some u := by
    show its.toArray[its.length - 1]? = some u
    rw [← Array.getElem?_toList, ← hl]
    exact hu
  refine call_meets F.slot_list_pop ⟨_, e, rfl⟩ F.entry_list_pop (F.args_list_pop_1 _) (MeetsSeq.list_pop_last l its.toArray n u hy' (by rw [List.size_toArray]; omega)) ⟨e, ?_⟩
  refine ⟨y, _, I.lset (its' := its.dropLast) hH e ?_ r.dropLast ?_, ru, q⟩
  · show its.toArray.eraseIdxIfInBounds (its.toArray.size - 1) = its.dropLast.toArray
    rw [List.size_toArray, List.eraseIdxIfInBounds_toArray, erase_last]
  · rw [List.length_dropLast]
    omega

def rPopAt : V → List V → Hp → VK → Prop := fun x vs H Q => ∃ l xs i k y, x = .ref l ∧ vs = [.int i] ∧ H l = some (.lst xs) ∧ -(2 ^ 63) ≤ i ∧ i < 2 ^ 63 ∧ seqIndex? i xs.length = some k ∧ xs[k]? = some y ∧ Q y (upd H l (.lst (xs.eraseIdx k)))
theorem mt_popAt : MtM X "list.pop" rPopAt := by
  intro pins s σ H x vs v us Q I rx rv h
  obtain ⟨l, xs, i, k, y, rfl, rfl, hH, h1, h2, hk, hy, q⟩ := h
  cases rx
  obtain ⟨u, rfl, ru⟩ := rv.one
  obtain ⟨t, rfl⟩ := ru
  obtain ⟨z, its, n, r, hl, e⟩ := I.lstM hH
  obtain ⟨w, hw, rw'⟩ := r.get hy
  refine call_meets F.slot_list_pop ⟨_, e, rfl⟩ F.entry_list_pop (F.args_list_pop_2 _ _)
    (MeetsSeq.list_pop_at l its.toArray n i t k w (fitsIndex_both h1 h2) (by rw [List.size_toArray, ← hl]; exact hk) (by rw [← Array.getElem?_toList]; exact hw) (by rw [List.size_toArray]; omega)) ⟨e, ?_⟩
  refine ⟨y, _, I.lset (its' := its.eraseIdx k) hH e ?_ (r.eraseIdx k) ?_, rw', q⟩
  · show its.toArray.eraseIdxIfInBounds k = (its.eraseIdx k).toArray
    rw [List.eraseIdxIfInBounds_toArray]
  · have := len_erase xs k
    omega

def rReverse : V → List V → Hp → VK → Prop := fun x vs H Q => ∃ l xs, x = .ref l ∧ vs = [] ∧ H l = some (.lst xs) ∧ Q .non (upd H l (.lst xs.reverse))
theorem mt_reverse : MtM X "list.reverse" rReverse := by
  intro pins s σ H x vs v us Q I rx rv h
  obtain ⟨l, xs, rfl, rfl, hH, q⟩ := h
  cases rx
  have hus := rv.zero
  subst hus
  obtain ⟨z, its, n, r, hl, e⟩ := I.lstM hH
  refine call_meets F.slot_list_reverse ⟨_, e, rfl⟩ F.entry_list_reverse (F.args_list_reverse_1 _) (AutoSeq1.list_reverse_list_0 l its.toArray n (by rw [List.size_toArray]; omega)) ⟨e, ?_⟩
  refine ⟨.non, _, I.lset (its' := its.reverse) hH e (by simp) r.reverse ?_, rfl, q⟩
  rw [List.length_reverse]
  omega

def rClear : V → List V → Hp → VK → Prop := fun x vs H Q => ∃ l xs, x = .ref l ∧ vs = [] ∧ H l = some (.lst xs) ∧ Q .non (upd H l (.lst []))
theorem mt_clear : MtM X "list.clear" rClear := by
  intro pins s σ H x vs v us Q I rx rv h
  obtain ⟨l, xs, rfl, rfl, hH, q⟩ := h
  cases rx
  have hus := rv.zero
  subst hus
  obtain ⟨z, its, n, r, hl, e⟩ := I.lstM hH
  refine call_meets F.slot_list_clear ⟨_, e, rfl⟩ F.entry_list_clear (F.args_list_clear_1 _) (AutoSeq1.list_clear_list_0 l its.toArray n (by rw [List.size_toArray]; omega)) ⟨e, ?_⟩
  exact ⟨.non, _, I.lset (its' := []) (ys := []) hH e rfl .nil (Nat.zero_le _), rfl, q⟩

/-! ### list + list, list += list, list * int -/
def rCat : R2 := fun x y H Q => ∃ l b xs zs, x = .ref l ∧ y = .ref b ∧ H l = some (.lst xs) ∧ H b = some (.lst zs) ∧ xs.length + zs.length ≤ sizeLine ∧ ∀ p, H p = none → Q (.ref p) (upd H p (.lst (xs ++ zs)))
theorem op_cat : OpR X (binaryOp .Add) rCat := by
  intro pins s σ H x y v u Q I rx ry h
  obtain ⟨l, b, xs, zs, rfl, rfl, hH, hB, hz, q⟩ := h
  cases rx
  cases ry
  obtain ⟨z, its, n, r, hl, e⟩ := I.lstM hH
  obtain ⟨z2, its2, n2, r2, hl2, e2⟩ := I.lstM hB
  refine PySem.P.add_list e e2 ?_ (by rw [List.size_toArray, List.size_toArray]; omega)
  have ea : its.toArray ++ its2.toArray = (its ++ its2).toArray := by simp
  rw [ea]
  exact ⟨.ref _, _, I.lnew (t' := s.toks) (r.append r2) (by rw [List.length_append]; omega), rfl, q _ I.fresh⟩
/-- a list times an int (a negative one is nothing) -/
def rRep : R2 := fun x y H Q => ∃ l k xs, x = .ref l ∧ y = .int k ∧ H l = some (.lst xs) ∧ -(2 ^ 63) ≤ k ∧ k < 2 ^ 63 ∧ xs.length * k.toNat ≤ sizeLine ∧
  ∀ p, H p = none → Q (.ref p) (upd H p (.lst (List.replicate k.toNat xs).flatten))
theorem len_rep {α : Type} (xs : List α) (k : Nat) : (List.replicate k xs).flatten.length = k * xs.length := by
  induction k with
  | zero => simp
  | succ k ih => rw [List.replicate_succ, List.flatten_cons, List.length_append, ih, Nat.succ_mul, Nat.add_comm]
theorem op_rep : OpR X (binaryOp .Mult) rRep := by
  intro pins s σ H x y v u Q I rx ry h
  obtain ⟨l, k, xs, rfl, rfl, hH, h1, h2, hz, q⟩ := h
  cases rx
  obtain ⟨t, rfl⟩ := ry
  obtain ⟨z, its, n, r, hl, e⟩ := I.lstM hH
  have hlen : its.toArray.size * k.toNat ≤ sizeLine := by rw [List.size_toArray, ← hl]; exact hz
  have hcap : ¬ its.toArray.size * k.toNat > (2 ^ 63 - 1) / 8 := by
    have : (sizeLine : Nat) ≤ (2 ^ 63 - 1) / 8 := by decide
    omega
  have hfit : ¬ (!Builtin.List.listFitsIndex k) = true := by
    rw [fitsIndex_both h1 h2]
    exact Bool.false_ne_true
  have hlong : ¬ Builtin.List.listTooLong (its.toArray.size * k.toNat) = true := by
    rw [notLongL hlen]
    exact Bool.false_ne_true
  have hnew : List.foldl (fun x1 x2 => x1 ++ x2) #[] (List.replicate (if its.toArray.isEmpty = true then 0 else k.toNat) its.toArray) = (List.replicate k.toNat its).flatten.toArray := by
    have f0 : ∀ m : Nat, List.foldl (fun x1 x2 => x1 ++ x2) #[] (List.replicate m its.toArray) = (List.replicate m its).flatten.toArray := fun m => by
      have := foldl_rep its m []
      rw [List.nil_append] at this
      exact this
    rw [f0]
    cases its with
    | nil => simp
    | cons a r' => rw [if_neg (by simp)]
  refine wpAny_binaryOp_repeat_ref (T := "list") (U := "int") (by decide) ⟨_, e, rfl⟩ (fun s' => typeIs_int s' k t) noFill_list_mul F.fills_int_mul F.slot_int_rmul repeat_list F.slot_int_index.lookup
    (call_meets F.slot_int_rmul (typeIs_int s k t) F.entry_int_rmul (F.args_int_rmul_2 _ _) (int___rmul___int_list k t l its.toArray n)
      ⟨e, rfl, ⟨_, e, rfl⟩, call_meets F.slot_list_mul ⟨_, e, rfl⟩ F.entry_list_mul (F.args_list_mul_2 _ _) (AutoListH.list___mul___list_int_3 l its.toArray n k t hfit hcap hlong) ⟨e, ?_⟩⟩)
  rw [hnew]
  exact ⟨.ref _, _, I.lnew (t' := s.toks) (r.rep k.toNat) (by rw [len_rep, Nat.mul_comm]; exact hz), rfl, q _ I.fresh⟩

/-! ### del xs[i] -/
theorem del_list {pins : List (Addr × Obj)} {s : Shared} {σ : St} {H : Hp} {l : Addr} {xs : List V} {i : Int} {t : Tok} {k : Nat} {Q : Unit → Shared → Prop} (I : Inv X pins σ H s) (hH : H l = some (.lst xs))
    (h1 : -(2 ^ 63) ≤ i) (h2 : i < 2 ^ 63) (hk : seqIndex? i xs.length = some k) (h : ∀ s', Inv X pins σ (upd H l (.lst (xs.eraseIdx k))) s' → Q () s') :
    wpAny (model X.prog X.w) X.A (delItem (.ref l) (.int i t)) Q X.xe s := by
  obtain ⟨z, its, n, r, hl, e⟩ := I.lstM hH
  refine PySem.P.delItem_list (k := k) e (fitsIndex_both h1 h2) (by rw [List.size_toArray, ← hl]; exact hk) (h _ ?_) (by rw [List.size_toArray]; omega)
  refine I.lset (its' := its.eraseIdx k) (t' := s.toks) hH e ?_ (r.eraseIdx k) ?_
  · show its.toArray.eraseIdxIfInBounds k = (its.eraseIdx k).toArray
    rw [List.eraseIdxIfInBounds_toArray]
  · have := len_erase xs k
    omega
end

/-! ### xs[a:b] = ys -/
section
variable {prog : Program} {w : World} {A : Around} {E : Value → Shared → Prop} {s : Shared}
theorem splice_eq (its its2 : List Value) (a c : Nat) : its.toArray.extract 0 a ++ its2.toArray ++ its.toArray.extract c its.toArray.size = (its.take a ++ its2 ++ its.drop c).toArray := by
  apply Array.toList_inj.mp
  first
    | (simp
       exact List.take_of_length_le (by simp))
    | simp [List.take_of_length_le]
    | simp
theorem bounds_run {a c n : Nat} (hac : a ≤ c) (hc : c ≤ n) : sliceBounds (some (a : Int)) (some (c : Int)) none n = ((a : Int), (c : Int), 1) := by
  simp only [sliceBounds, Option.getD_none]
  have h1 : ¬ ((a : Int) < 0) := by omega
  have h2 : ¬ ((c : Int) < 0) := by omega
  simp only [h1, h2, if_false, show (1 : Int) > 0 by decide, if_true]
  congr 1
  · omega
  · congr 1; omega
set_option maxRecDepth 100000 in
/-- list.__setitem__ with a slice of step one and another list -/
theorem setItem_slice {l b sl : Addr} {items new : Array Value} {n n2 : Nat} {vl vu : Value} {a c : Nat} {Q : Unit → Shared → Prop}
    (e : s.heap.get? l = some { cls := .type "list", data := .seq items n }) (e2 : s.heap.get? b = some { cls := .type "list", data := .seq new n2 }) (hne : l ≠ b)
    (hs : s.heap.IsSliceOf sl vl vu .none) (pl : IsPart vl (some (a : Int))) (pu : IsPart vu (some (c : Int))) (hac : a ≤ c) (hc : c ≤ items.size)
    (hsz : items.size + new.size ≤ sizeLine) (h : Q () { s with heap := s.heap.update l (Obj.mapSeq fun xs => xs.extract 0 a ++ new ++ xs.extract c xs.size) }) :
    wpAny (model prog w) A (setItem (.ref l) (.ref sl) (.ref b)) Q E s := by
  have hl : s.heap.IsList l items := PySem.IsL.isList e
  have hb : s.heap.IsList b new := PySem.IsL.isList e2
  obtain ⟨os, hos, hcs, hds⟩ := id hs
  have hTs : s.TypeIs (.ref sl) "slice" := ⟨os, hos, hcs⟩
  have hstep : ¬ ((rawPart none == rawInt 0) = true) := Bool.false_ne_true
  have hsame : Builtin.List.listSameRef (.ref l) (.ref b) = false := by
    unfold Builtin.List.listSameRef
    exact beq_eq_false_iff_ne.mpr hne
  have hmax : (max (a : Int) (c : Int)).toNat = c := by omega
  have hz' : ((fun xs : Array Value => xs.extract 0 a ++ new ++ xs.extract c xs.size) items).size ≤ sizeLine + 1 := by
    simp only [Array.size_append, Array.size_extract]
    omega
  unfold setItem
  try with_reducible refine wpAny_holding ?_
  first | refine wpAny_bind (wpAny_pure ?_) | skip
  refine wpAny_bind (wpAny_sequenceKey hl.typeIs (by decide) ?_)
  refine wpAny_bind (wpAny_callSpecial?_slot (name := Str.ofString "__setitem__") hl.typeIs slot_list_setitem
    (wpAny_call_entry slot_list_setitem hl.typeIs entry_list_setitem ?_ (args_list_setitem _ _ _)))
  show wpAny _ _ (Builtin.List.listSubscript? (.ref sl) >>= _) _ _ s
  refine wpAny_bind ?_
  unfold Builtin.List.listSubscript?
  refine wpAny_bind (wpAny_specialOf hTs slice_no_index ?_)
  simp only [Option.isNone_none, if_true]
  refine wpAny_pure ?_
  show wpAny _ _ (typeOf (.ref sl) >>= _) _ _ s
  refine wpAny_bind (wpAny_typeOf hTs ?_)
  first
    | rw [if_neg (by decide)]
    | refine PySem.W.KFB.if_not (by decide) ?_
  rw [listSliceParts_eq]
  refine wpAny_bind (wpAny_bind (wpAny_field hos hds (x := .none) rfl (wpAny_bind (wpAny_listPart .none ?_))))
  rw [if_neg hstep]
  refine wpAny_bind (wpAny_field hos hds (x := vl) rfl (wpAny_bind (wpAny_listPart pl ?_)))
  refine wpAny_bind (wpAny_field hos hds (x := vu) rfl (wpAny_bind (wpAny_listPart pu (wpAny_pure ?_))))
  first
    | simp only [hsame, Bool.false_eq_true, if_false]
    | refine PySem.W.KFB.if_not hsame ?_
    | (dsimp only
       rw [if_neg (by rw [hsame]; exact Bool.false_ne_true)])
  refine wpAny_bind (m := Builtin.List.listAllItems (.ref b) "must assign iterable to extended slice") ?_
  unfold Builtin.List.listAllItems
  refine wpAny_bind (wpAny_typeOf hb.typeIs ?_)
  first
    | refine PySem.W.KFB.if_so (by decide) ?_
    | rw [if_pos (by decide)]
    | simp only [beq_self_eq_true, Bool.true_or, if_true]
  unfold Builtin.List.listItems
  refine wpAny_bind (wpAny_seqItems e2 rfl (wpAny_pure ?_))
  refine wpAny_bind (wpAny_bind (wpAny_seqItems e rfl (wpAny_pure ?_)))
  refine wpAny_bind (wpAny_of_eq ((sliceIndices_raw (some (a : Int)) (some (c : Int)) none items.size (by simp)).trans (congrArg (pure : Int × Int × Int → Sem (Int × Int × Int)) (bounds_run hac hc))) ?_)
  show wpAny _ _ (if ((1 : Int) == 1) = true then _ else _) _ _ s
  rw [if_pos (by decide)]
  refine wpAny_bind (wpAny_rule ?_)
  first
    | simp only [notLongL hsz, Bool.false_eq_true, if_false]
    | refine PySem.W.KFB.if_not (notLongL hsz) ?_
  first | refine wpAny_bind (wpAny_pure ?_) | skip
  show wpAny _ _ (updateSeq l (fun xs => xs.extract 0 ((a : Int)).toNat ++ new ++ xs.extract (max (a : Int) (c : Int)).toNat xs.size) >>= _) _ _ s
  rw [hmax, Int.toNat_natCast]
  refine wpAny_bind (wpAny_updateSeq (hz := Nat.le_trans (Nat.le_add_right _ _) hsz) (_hz' := hz') e rfl ?_)
  refine wpAny_bind (wpAny_letGo ?_)
  first
    | exact wpAny_bind (wpAny_pure (wpAny_pure ⟨.none, rfl, wpAny_pure h⟩))
    | exact wpAny_pure ⟨.none, rfl, wpAny_pure h⟩
end

section
variable {X : Cx}
/-- xs[a:c] = ys of another list, at the value level: sl is the slice object that was just made -/
theorem set_slice {pins : List (Addr × Obj)} {s : Shared} {σ : St} {H : Hp} {l b sl : Addr} {xs ys : List V} {a c : Int} {vl vu : Value} {Q : Unit → Shared → Prop} (I : Inv X pins σ H s)
    (hH : H l = some (.lst xs)) (hB : H b = some (.lst ys)) (hne : l ≠ b) (hs : s.heap.IsSliceOf sl vl vu .none) (ra : RelV (.int a) vl) (rc : RelV (.int c) vu) (h0 : 0 ≤ a) (hac : a ≤ c) (hc : c ≤ xs.length)
    (hz : xs.length + ys.length ≤ sizeLine) (h : ∀ s', Inv X pins σ (upd H l (.lst (xs.take a.toNat ++ ys ++ xs.drop c.toNat))) s' → Q () s') :
    wpAny (model X.prog X.w) X.A (setItem (.ref l) (.ref sl) (.ref b)) Q X.xe s := by
  obtain ⟨ta, rfl⟩ := ra
  obtain ⟨tc, rfl⟩ := rc
  obtain ⟨z, its, n, r, hl, e⟩ := I.lstM hH
  obtain ⟨z2, its2, n2, r2, hl2, e2⟩ := I.lstM hB
  obtain ⟨a', rfl⟩ := Int.eq_ofNat_of_zero_le h0
  obtain ⟨c', rfl⟩ := Int.eq_ofNat_of_zero_le (Int.le_trans h0 hac)
  simp only [Int.toNat_natCast] at h
  refine setItem_slice (a := a') (c := c') e e2 hne hs (.int _ _) (.int _ _) (by omega) (by rw [List.size_toArray]; omega) (by rw [List.size_toArray, List.size_toArray]; omega) (h _ ?_)
  refine I.lset (its' := its.take a' ++ its2 ++ its.drop c') (t' := s.toks) hH e ?_ (Vals.append (Vals.append (r.take _) r2) (r.drop _)) ?_
  · exact splice_eq its its2 a' c'
  · rw [List.length_append, List.length_append, List.length_take, List.length_drop]
    omega
end
end L2

namespace Att
open PySem PySem.W PySem.Calls PyProof.Rows

/-! ### the script -/
theorem ints_of_wellAll {P : Params} {h : Heap} : ∀ (ns : List Int) (vs : List Value), WellAll P h vs (ns.map WData.int) → IntsAre vs ns := by
  intro ns
  induction ns with
  | nil =>
    intro vs w
    rw [List.map_nil] at w
    cases w
    exact .nil
  | cons n ns ih =>
    intro vs w
    rw [List.map_cons] at w
    cases w with
    | cons a b =>
      cases a
      exact .cons _ _ (ih _ b)

theorem script_of {l : OpenLaw} {n : Nat} (hn : l.most = some n) {P : Params} {h : Heap} {args : List WData} {vals : List Value}
    (hpre : l.row.toRowW.claim.pre args = true) (hwl : WellAll P h vals args) :
    ∃ a vs ns, vals = [Value.ref a] ∧ args = [WData.list (ns.map WData.int)] ∧ h.get? a = some { cls := .type "list", data := .seq vs.toArray } ∧ IntsAre vs ns ∧ ns.length ≤ n := by
  have hsh : WShape.hasAll [] args [.list .int] = true := (pre_splitW hpre).1
  have hc : l.pre.holds [] { args := args } = true := (pre_splitW hpre).2
  obtain ⟨d, r, rfl, h1, h2⟩ := hasAllW_cons hsh
  obtain rfl := hasAllW_nil h2
  obtain ⟨xs, rfl, h3⟩ := hasW_list h1
  obtain ⟨ns, rfl⟩ := items_int h3
  have hlen : ns.length ≤ n := by
    unfold OpenLaw.pre at hc
    have h4 : (WTm.not (.lt (.lit (.int (n : Int))) (.len (.arg 0)))).holds [] { args := [.list (ns.map .int)] } = true := by
      have h4 := (holds_andW hc).1
      rw [hn] at h4
      exact h4
    have h5 := condW_of h4 (w_not (w_lt w_lit (w_len_list (w_arg rfl))))
    rw [List.length_map] at h5
    refine Nat.le_of_not_lt fun q => ?_
    have q' : (n : Int) < ((ns.length : Nat) : Int) := by omega
    first
      | (rw [decide_eq_true q'] at h5; exact absurd h5 (by decide))
      | (simp at h5; omega)
  cases hwl with
  | cons w1 w2 =>
    cases w2
    cases w1 with
    | list ho hall => exact ⟨_, _, ns, rfl, rfl, ho, ints_of_wellAll ns _ hall, hlen⟩

theorem post_true (l : OpenLaw) (args : List WData) : l.row.toRowW.claim.post args (.bool true) args = true :=
  postW_of (r := l.row.toRowW) (X := (true == true))
    (show WShape.has [] (.bool true) .bool = true by first | rfl | decide | simp [WShape.has, WShape.arms, WShape.armsAll])
    (show (WTm.eq .res (.lit (.bool true))).value [] { args := args, res := some (.bool true), after := args } = some (.bool (true == true)) from w_eq_bool (w_res rfl) w_lit) rfl

/-! ### the attachment: holds_open's last premise (the goal 'hc' behind k_head) from a wpAny of the law's body -/
theorem attach {l : OpenLaw} {n : Nat} {q : Program} {loose : List Str} {XP : (Str → Option Value) → Heap → Prop} {YP : World → Heap → Prop} {d : DefRec} {x : Str}
    (hn : l.most = some n) (hdf : d.params.defaults = [])
    (hbind : ∀ pm cd doc v : Value, bindArgs (docDef d.name d.params d.body d.scope pm cd doc) ⟨[v], []⟩ = pure [(x, v)])
    (hx : d.scope.names.lookup x = some .local ∨ d.scope.names.lookup x = some .cell)
    (hk : d.scope.kind = .function) (hco : d.scope.isCoroutine = false) (hgen : d.scope.isGenerator = false)
    (body : ∀ (w : World) (s₀ s₁ s : Shared) (mg mb : Str → Option Value) (fa : Addr) (o : Obj) (pm cd doc : Value) (a : Addr) (vs : List Value) (ns : List Int),
      Ground q loose [] XP w s₀ mg mb s₁.heap → YP w s₁.heap →
      s₁.heap.get? fa = some o → o.data = .func (docDef d.name d.params d.body d.scope pm cd doc) → s₁.heap.CodeRec cd d.name → mg d.name = some (.ref fa) →
      s₁.heap.get? a = some { cls := .type "list", data := .seq vs.toArray } → IntsAre vs ns → ns.length ≤ n →
      s.gens = #[] → s.os = s₁.os →
      Fr s₁.heap s₁.heap.objs.size s.heap (bindL (envOfC d.name d.scope s₁.heap.objs.size fa cd).kindOf [(x, .ref a)] fun _ => none) →
      Cl s₁.heap.objs.size (cellsFrom (s₁.heap.objs.size + 1) d.scope.names []) s.heap (bindC (envOfC d.name d.scope s₁.heap.objs.size fa cd).kindOf [(x, .ref a)] fun _ => none) →
      wpAny (model l.prog w) (callerA.deeper (envOfC d.name d.scope s₁.heap.objs.size fa cd)) (execs d.body (envOfC d.name d.scope s₁.heap.objs.size fa cd))
        (fun f s' => f = .ret (.bool true) ∧ OldK s₁.heap s'.heap ∧ s'.os = s₁.os ∧ AllBare s'.gens) (fun _ _ => False) s) :
    WalkO q loose XP YP l.row.toRowW d [] (fun f vs => PySem.call f vs) := by
  intro w s₀ s₁ mg mb G Y fa o pm cd doc dV kV ho hd hcd hD hmg hg args vals as hpre hlay hrd hwl hlo
  obtain rfl : dV = .none := Dflts.none hD hdf
  obtain rfl : kV = .none := Dflts.noKw hD
  obtain ⟨a, vs, ns, rfl, rfl, hobj, hints, hlen⟩ := script_of hn hpre hwl
  refine enter_call ?_
  refine call_cells_ret (o := o) (by rw [depth_caller]; decide) ho (fd_plain hd) G.T.nolimit hcd (hbind pm cd doc (.ref a)) (fun y hy => ?_) (fun h₁ tk F X => ?_) hco hgen hk
  · obtain rfl : y = (x, Value.ref a) := List.mem_singleton.mp hy
    rcases hx with e | e
    · exact .inl e
    · exact .inr ⟨e, cellsFrom_some _ _ _ (.inl e)⟩
  · refine wpAny_mono (body w s₀ s₁ { s₁ with heap := h₁, toks := tk } mg mb fa o pm cd doc a vs ns G Y ho (fd_plain hd) hcd hmg hobj hints hlen hg rfl F X) (fun f s' hq => ?_) (fun _ _ hq => hq)
    obtain ⟨rfl, h2, h3, h4⟩ := hq
    exact ⟨.inl ⟨.bool true, .bool true, [], rfl, fun _ => rfl, .bool true, post_true l _, fun _ => ⟨List.Pairwise.nil, fun _ hm => (nomatch hm)⟩⟩, h2, h3, h4⟩

/-- the same from a codeAny of the CALL (for a layer whose function contracts speak of calls) -/
theorem attach_call {l : OpenLaw} {n : Nat} {q : Program} {loose : List Str} {XP : (Str → Option Value) → Heap → Prop} {YP : World → Heap → Prop} {d : DefRec}
    (hn : l.most = some n) (hdf : d.params.defaults = [])
    (call : ∀ (w : World) (s₀ s₁ : Shared) (mg mb : Str → Option Value) (fa : Addr) (o : Obj) (pm cd doc : Value) (a : Addr) (vs : List Value) (ns : List Int),
      Ground q loose [] XP w s₀ mg mb s₁.heap → YP w s₁.heap →
      s₁.heap.get? fa = some o → o.data = .func (docDef d.name d.params d.body d.scope pm cd doc) → s₁.heap.CodeRec cd d.name → mg d.name = some (.ref fa) →
      s₁.heap.get? a = some { cls := .type "list", data := .seq vs.toArray } → IntsAre vs ns → ns.length ≤ n → s₁.gens = #[] →
      codeAny (model l.prog w) callerA (.call (.ref fa) ⟨[.ref a], []⟩) (fun r s' => r = .ok (.ret (.bool true)) ∧ OldK s₁.heap s'.heap ∧ s'.os = s₁.os ∧ AllBare s'.gens) s₁) :
    WalkO q loose XP YP l.row.toRowW d [] (fun f vs => PySem.call f vs) := by
  intro w s₀ s₁ mg mb G Y fa o pm cd doc dV kV ho hd hcd hD hmg hg args vals as hpre hlay hrd hwl hlo
  obtain rfl : dV = .none := Dflts.none hD hdf
  obtain rfl : kV = .none := Dflts.noKw hD
  obtain ⟨a, vs, ns, rfl, rfl, hobj, hints, hlen⟩ := script_of hn hpre hwl
  refine enter_call (codeAny_mono (call w s₀ s₁ mg mb fa o pm cd doc a vs ns G Y ho (fd_plain hd) hcd hmg hobj hints hlen hg) fun r s' hq => ?_)
  obtain ⟨rfl, h2, h3, h4⟩ := hq
  exact ⟨.inl ⟨.bool true, .bool true, [], rfl, fun _ => rfl, .bool true, post_true l _, fun _ => ⟨List.Pairwise.nil, fun _ hm => (nomatch hm)⟩⟩, h2, h3, h4⟩

/-- the same where the top left finished generators (o_head chose holds_openN): nothing may have changed at all and no generator may be left -/
theorem attachN {l : OpenLaw} {n : Nat} {q : Program} {loose : List Str} {XP : (Str → Option Value) → Heap → Prop} {YP : World → Heap → Prop} {d : DefRec} {x : Str}
    (hn : l.most = some n) (hdf : d.params.defaults = [])
    (hbind : ∀ pm cd doc v : Value, bindArgs (docDef d.name d.params d.body d.scope pm cd doc) ⟨[v], []⟩ = pure [(x, v)])
    (hx : d.scope.names.lookup x = some .local ∨ d.scope.names.lookup x = some .cell)
    (hk : d.scope.kind = .function) (hco : d.scope.isCoroutine = false) (hgen : d.scope.isGenerator = false)
    (body : ∀ (w : World) (s₀ s₁ s : Shared) (mg mb : Str → Option Value) (fa : Addr) (o : Obj) (pm cd doc : Value) (a : Addr) (vs : List Value) (ns : List Int),
      Ground q loose [] XP w s₀ mg mb s₁.heap → YP w s₁.heap →
      s₁.heap.get? fa = some o → o.data = .func (docDef d.name d.params d.body d.scope pm cd doc) → s₁.heap.CodeRec cd d.name → mg d.name = some (.ref fa) →
      s₁.heap.get? a = some { cls := .type "list", data := .seq vs.toArray } → IntsAre vs ns → ns.length ≤ n →
      s.gens = #[] → s.os = s₁.os →
      Fr s₁.heap s₁.heap.objs.size s.heap (bindL (envOfC d.name d.scope s₁.heap.objs.size fa cd).kindOf [(x, .ref a)] fun _ => none) →
      Cl s₁.heap.objs.size (cellsFrom (s₁.heap.objs.size + 1) d.scope.names []) s.heap (bindC (envOfC d.name d.scope s₁.heap.objs.size fa cd).kindOf [(x, .ref a)] fun _ => none) →
      wpAny (model l.prog w) (callerA.deeper (envOfC d.name d.scope s₁.heap.objs.size fa cd)) (execs d.body (envOfC d.name d.scope s₁.heap.objs.size fa cd))
        (fun f s' => f = .ret (.bool true) ∧ (∀ b o, s₁.heap.get? b = some o → s'.heap.get? b = some o) ∧ s'.os = s₁.os ∧ s'.gens = #[]) (fun _ _ => False) s) :
    WalkN q loose XP YP l.row.toRowW d [] (fun f vs => PySem.call f vs) := by
  intro w s₀ s₁ mg mb G Y fa o pm cd doc dV kV ho hd hcd hD hmg hg args vals as hpre hlay hrd hwl hlo
  obtain rfl : dV = .none := Dflts.none hD hdf
  obtain rfl : kV = .none := Dflts.noKw hD
  obtain ⟨a, vs, ns, rfl, rfl, hobj, hints, hlen⟩ := script_of hn hpre hwl
  refine enter_callW ?_
  refine call_cells_ret (o := o) (by rw [depth_caller]; decide) ho (fd_plain hd) G.T.nolimit hcd (hbind pm cd doc (.ref a)) (fun y hy => ?_) (fun h₁ tk F X => ?_) hco hgen hk
  · obtain rfl : y = (x, Value.ref a) := List.mem_singleton.mp hy
    rcases hx with e | e
    · exact .inl e
    · exact .inr ⟨e, cellsFrom_some _ _ _ (.inl e)⟩
  · refine wpAny_mono (body w s₀ s₁ { s₁ with heap := h₁, toks := tk } mg mb fa o pm cd doc a vs ns G Y ho (fd_plain hd) hcd hmg hobj hints hlen hg rfl F X) (fun f s' hq => ?_) (fun _ _ hq => hq)
    obtain ⟨rfl, h2, h3, h4⟩ := hq
    exact ⟨.inl ⟨.bool true, .bool true, [], rfl, fun _ => rfl, .bool true, post_true l _, fun _ => ⟨List.Pairwise.nil, fun _ hm => (nomatch hm)⟩⟩, h2, h3, h4⟩

/-! ### rules over ANY heap (no ledger) from facts about the written part K: the library's own take a ledger (News) for what they write -/
section
variable {prog : Program} {w : World} {A : Around} {E : Value → Shared → Prop} {s : Shared} {K : Frag}

/-- a def of the module, or a method (qual 'C.m'), entered: the frame is the next address; cells behind it -/
theorem call_fn {R : Result → Shared → Prop} {name qual : Str} {params : Arguments} {body : List Stmt} {scope : Scope} {dV kV doc pm cdv ct oc : Value} {an od : Option Addr} {osl : Array (Option Value)} {f : Addr} {args : Args} {binds : List (Str × Value)}
    (X : K.In s.heap) (hlim : s.heap.NoLimit) (ho : K.lookup f = some ⟨oc, od, .func (fnOf name qual params body scope dV kV doc pm an cdv ct), osl⟩) (hcd : codeIn K cdv qual = true) (hroom : A.depth < recursionLimit)
    (hbind : BindsTo s (fnOf name qual params body scope dV kV doc pm an cdv ct) args binds)
    (hkind : (binds.all fun y => scope.names.lookup y.1 == some .local || scope.names.lookup y.1 == some .cell) = true)
    (h : ∀ s₁, InCallC s s.heap.objs.size (bindL (envOfC qual scope s.heap.objs.size f cdv).kindOf binds fun _ => none) (cellsFrom (s.heap.objs.size + 1) scope.names [])
        (bindC (envOfC qual scope s.heap.objs.size f cdv).kindOf binds fun _ => none) s₁ →
      wpAny (model prog w) (A.deeper (envOfC qual scope s.heap.objs.size f cdv)) (execs body (envOfC qual scope s.heap.objs.size f cdv))
        (fun fl s' => R (.ok (.ret (match fl with | .ret v => v | _ => .none))) s')
        (fun e s' => wpAny (model prog w) (A.deeper (envOfC qual scope s.heap.objs.size f cdv)) (leaving (envOfC qual scope s.heap.objs.size f cdv) e) (fun _ s'' => R (.error e) s'') (fun e' s'' => R (.error e') s'') s') s₁)
    (hco : scope.isCoroutine = false) (hgen : scope.isGenerator = false) (hk : scope.kind = .function) : codeAny (model prog w) A (.call (.ref f) args) R s := by
  refine codeAny_call_function hroom (X _ _ ho) rfl hco hgen rfl (codeRec_of X hcd) (hbind _ _ _ _ ?_)
  refine wpAny_newFunctionEnv_cells hk (kindsX hkind _) fun env he s₁ x => ?_
  subst he
  exact ⟨hlim.keeps x.toInCall.keep, codeAny_func (h s₁ x)⟩

/-- C(..): dict at size, instance at size + 1, then __init__ -/
theorem make_obj {R : Result → Shared → Prop} {C fI : Addr} {rest : List Value} {kw : List (Str × Value)}
    (X : K.In s.heap) (hm : makesIn K C = true) (hi : findIn K (.ref C) "__init__" = some (some (.ref fI))) (hf : isFn K (.ref fI) = true)
    (h : codeAny (model prog w) (A.under (.builtin "type.__call__" ⟨.ref C :: rest, kw⟩)) (.call (.ref fI) ⟨.ref (s.heap.objs.size + 1) :: rest, kw⟩) (InitBack (s.heap.objs.size + 1) R)
      { s with heap := (s.heap.push emptyDict).push (instObj C s.heap.objs.size) }) : codeAny (model prog w) A (.call (.ref C) ⟨rest, kw⟩) R s := by
  obtain ⟨hh, g, d, t, os⟩ := s
  exact make_core (makes_of X hm) (looks_findIn X hi) (fun self => bind_fn X self (beq_iff_eq.mp hf)) (.inl rfl) h

/-- x.name where the instance's dict holds the name and the class does not -/
theorem get_field {x C : Addr} {ox : Obj} {es : List DictEntry} {n : Nat} {name : Str} {expr : Bool} {v : Value} {Q : Value → Shared → Prop}
    (X : K.In s.heap) (I : PySem.W.InstAt s.heap x ox C (some (dictOf es n))) (hg : plainGet K C name = true) (hh : hasDictIn K C = true) (ha : findIn K (.ref C) name = some none)
    (hl : getL name es = some (some v)) (hv : handedIn v = true) (h : Q v { s with toks := s.toks + 1 }) : wpAny (model prog w) A (getAttr (.ref x) name expr) Q E s :=
  get_value X I (plainGet_of hg).1 (findObj_own hh ha rfl hl) hv h

/-- x.m(..): the method found in the class -/
theorem get_method {x C f : Addr} {ox : Obj} {es : List DictEntry} {n : Nat} {name : Str} {pl : Sem Bool} {Q : Value × List Value → Shared → Prop}
    (X : K.In s.heap) (I : PySem.W.InstAt s.heap x ox C (some (dictOf es n))) (hg : plainGet K C name = true) (hf : findIn K (.ref C) name = some (some (.ref f))) (ht : isFn K (.ref f) = true)
    (hl : getL name es = some none) (h : Q (.ref f, [.ref x]) s) : wpAny (model prog w) A (getMethod (.ref x) name pl) Q E s :=
  method_fn X I (plainGet_of hg).1 (plainGet_of hg).2 hf (beq_iff_eq.mp ht) (by show (lookIn name (dictOf es n)).map _ = _; rw [lookIn_dict, hl]; rfl) h

/-! the whole heap as the ledger: makes every rule that writes through a ledger a rule over any heap -/
def noObjs (h : Heap) : Heap := { h with objs := #[] }
theorem noObjs_get (h : Heap) (b : Addr) : (noObjs h).get? b = none := by
  cases e : (noObjs h).get? b with
  | none => rfl
  | some o => exact absurd (Heap.lt_size e) (Nat.not_lt_zero _)
def ledger (h : Heap) (L d : Addr) : List (Addr × Obj) := (List.range h.objs.size).filterMap fun a => if a = L ∨ a = d then none else (h.get? a).map fun o => (a, o)
theorem mem_ledger {h : Heap} {L d a : Addr} {o : Obj} : (a, o) ∈ ledger h L d ↔ a ≠ L ∧ a ≠ d ∧ h.get? a = some o := by
  unfold ledger
  rw [List.mem_filterMap]
  constructor
  · rintro ⟨b, _, e⟩
    split at e
    · cases e
    · rename_i hb
      obtain ⟨o', ho, e'⟩ := Option.map_eq_some_iff.mp e
      cases e'
      exact ⟨fun q => hb (.inl q), fun q => hb (.inr q), ho⟩
  · rintro ⟨n1, n2, ho⟩
    refine ⟨a, List.mem_range.mpr (Heap.lt_size ho), ?_⟩
    rw [if_neg (show ¬ (a = L ∨ a = d) from fun q => q.elim n1 n2), ho] <;> rfl
theorem news_ledger {h : Heap} {L d : Addr} {od : Obj} (hne : d ≠ L) (ho : h.get? d = some od) : News (noObjs h) L h ([] ++ (d, od) :: ledger h L d) := by
  rintro ⟨a, o⟩ hp
  rcases List.mem_cons.mp hp with e | hp
  · cases e
    exact ⟨ho, hne, noObjs_get _ _⟩
  · obtain ⟨n1, n2, e⟩ := mem_ledger.mp hp
    exact ⟨e, n1, noObjs_get _ _⟩
theorem fr_all {h : Heap} {L : Addr} {m : Str → Option Value} (n : h.Ns L m) : Fr (noObjs h) L h m :=
  ⟨n, fun b o e => (by rw [noObjs_get] at e; cases e), Nat.zero_le _⟩
/-- Upd of the head entry (for append_K, setItem_K ..) -/
theorem upd_ledger {h : Heap} {L d : Addr} {o o' : Obj} : Upd d o o' ((d, o) :: ledger h L d) ((d, o') :: ledger h L d) :=
  .head fun ⟨_, _⟩ hp => (mem_ledger.mp hp).2.1

/-- x.name = v over any heap: L is any namespace of the heap (the frame's, say): its map stays, its object is not told; all else but the dict stays -/
theorem set_field {x C dx L : Addr} {ox : Obj} {m : Str → Option Value} {es es' : List DictEntry} {n n' : Nat} {name : Str} {v : Value} {Q : Unit → Shared → Prop}
    (X : K.In s.heap) (I : PySem.W.InstAt s.heap x ox C (some (dictOf es n))) (hd : ox.dict = some dx) (hL : s.heap.Ns L m) (hne : dx ≠ L)
    (hs : findIn K (.ref C) "__setattr__" = some (some (.builtin "object.__setattr__"))) (hp : plainOver K C = true) (ht : takerIn K C name = some none) (hh : hasDictIn K C = true) (hl : (getL name es).isSome = true)
    (e : (putL name (PyData.keyHash w.params name) (.str name (s.toks + 1)) v es, putN name es n) = (es', n')) (hz : es'.length ≤ 1000)
    (h : ∀ h' : Heap, h'.Ns L m → h'.get? dx = some (dictOf es' n') → (∀ b o, b ≠ dx → b ≠ L → s.heap.get? b = some o → h'.get? b = some o) → Q () { s with heap := h', toks := s.toks + 2 }) :
    wpAny (model prog w) A (setAttr (.ref x) name v) Q E s := by
  obtain ⟨e1, e2⟩ := Prod.mk.inj e
  have hdx : s.heap.get? dx = some (dictOf es n) := by
    have := I.dict
    rw [hd] at this
    exact this
  refine set_plain X I hs (osa_dict (s := { s with toks := s.toks + 1 }) (h₀ := noObjs s.heap) (L := L) (m := m) (od := dictOf es n) (od' := dictOf es' n') (es := es') (n := n') (pre := []) (post := ledger s.heap L dx)
    (fr_all hL) (news_ledger hne hdx) X I hd hp ht hh hl (fun _ q => nomatch q) (fun ⟨_, _⟩ q => (mem_ledger.mp q).2.1) (by rw [putName_dict, e1, e2]) rfl hz fun h' F' N' => ?_)
  exact h h' F'.ns (N'.get (List.Mem.head _)) fun b o n1 n2 ho => N'.get (List.Mem.tail _ (mem_ledger.mpr ⟨n2, n1, ho⟩))
end
end Att

namespace L2
open PySem PySem.Spec PyProof.Rows

theorem vals_ints : ∀ {vs : List Value} {ns : List Int}, IntsAre vs ns → Vals (ns.map V.int) vs
  | _, _, .nil => .nil
  | _, _, .cons n t h => .cons ⟨t, rfl⟩ (vals_ints h)

/-- nothing is tracked but the script, known to the object (or it is an object of the module) -/
def Only (H : Hp) : Prop := ∀ b, H b = none ∨ ∃ o xs, H b = some (.frz o (.lst xs))

/-- THE HEAD: the law's promise, at the heap behind the top. F, the promise of the law's def, may use that base is part of the heap (so K.In base, base.Ns mainGlobals mg stand in Mod) -/
theorem law_call {P : Program} {w : World} {K : PySem.W.Frag} {mg mb : Str → Option Value} {CX : CXT} {k : Nat} {fa a : Addr} {fd : FuncData} {x : Str} {sp : Sp} {s₁ : Shared} {vs : List Value} {ns : List Int}
    (KX : K.In s₁.heap) (hns : s₁.heap.Ns mainGlobals mg) (hb : s₁.heap.Ns builtinsNs mb) (hbb : ∀ x : Str, x ≠ "__name__" → mb x = bootBuiltins x) (hlim : s₁.heap.NoLimit) (hg : s₁.gens = #[])
    (ha : s₁.heap.get? a = some { cls := .type "list", data := .seq vs.toArray }) (hi : IntsAre vs ns) (hl : ns.length ≤ sizeLine) (hr : Room k callerA)
    (F : ∀ base : Heap, K.In base → base.Ns mainGlobals mg → FnOk P w K mg base CX k fa fd [x] sp) (hbind : ∀ (s : Shared) (u : Value), BindsTo s fd ⟨[u], []⟩ [(x, u)])
    (hsp : ∀ H : Hp, Only H → SqL K H a (ns.map V.int) → sp [.ref a] H (fun v _ => v = .bl true) fun _ _ _ => False)
    (hCX : ∀ H e s', CX [] H s₁ (fun _ _ _ => False) e s' → False) :
    codeAny (model P w) callerA (.call (.ref fa) ⟨[.ref a], []⟩) (fun r s' => r = .ok (.ret (.bool true)) ∧ OldK s₁.heap s'.heap ∧ s'.os = s₁.os ∧ AllBare s'.gens) s₁ := by
  have rv := vals_ints hi
  have lenV := hi.length
  -- from an abstract heap in which nothing but the script may be tracked
  have core : ∀ H : Hp, Only H → SqL K H a (ns.map V.int) → HOk P w H s₁.heap → (∀ b, H b ≠ none → b = a) → (H a ≠ none → K.lookup a = none) →
      codeAny (model P w) callerA (.call (.ref fa) ⟨[.ref a], []⟩) (fun r s' => r = .ok (.ret (.bool true)) ∧ OldK s₁.heap s'.heap ∧ s'.os = s₁.os ∧ AllBare s'.gens) s₁ := by
    intro H hO hS hok hA hK
    have base_of : ∀ {b : Addr} {o : Obj}, s₁.heap.get? b = some o → H b = none → (hidT s₁.heap H).get? b = some o := fun e n => hidT_get e n
    have noA : ∀ {b : Addr} {o : Obj} {es : Array DictEntry} {ep : Nat}, s₁.heap.get? b = some o → o.data = .dict es ep → H b = none := fun {b o es ep} e d => by
      cases q : H b with
      | none => rfl
      | some u =>
        have e' : b = a := hA b (by rw [q]; simp)
        subst e'
        rw [ha] at e; cases e
        have d' : Data.seq vs.toArray _ = Data.dict es ep := d
        cases d'
    have nsK : ∀ {b : Addr} {m : Str → Option Value}, s₁.heap.Ns b m → (hidT s₁.heap H).Ns b m := fun {b m} ⟨o, es, ep, e, d, r⟩ => ⟨o, es, ep, base_of e (noA e d), d, r⟩
    have hKb : K.In (hidT s₁.heap H) := fun b o e => base_of (KX b o e) (by
      cases q : H b with
      | none => rfl
      | some u =>
        have e' : b = a := hA b (by rw [q]; simp)
        subst e'
        rw [hK (by rw [q]; simp)] at e; cases e)
    have hM : Mod K mg (hidT s₁.heap H) := ⟨hKb, nsK hns, ⟨mb, nsK hb, hbb⟩, let ⟨mc, h1, h2⟩ := hlim; ⟨mc, nsK h1, h2⟩⟩
    have e0 : Env0 P w K mg (hidT s₁.heap H) callerA [] s₁ H := ⟨rfl, hM, fun b o e => of_hidT e, Nat.le_of_eq (hidT_size _ _), trivial, fun b hb => absurd (show b ∈ ([] : List Addr) from hb) (by simp), hok, .of_eq hg⟩
    refine codeAny_mono ((F _ hKb (nsK hns)).run callerA [] s₁ H ⟨[.ref a], []⟩ [.ref a] [.ref a] _ _ hr e0 (hbind s₁ (.ref a)) (.cons rfl .nil) (hsp H hO hS)) fun r s' h => ?_
    cases r with
    | error e => exact (hCX H e s' h).elim
    | ok fl =>
      cases fl with
      | next => exact False.elim h
      | brk => exact False.elim h
      | cont => exact False.elim h
      | ret u =>
        obtain ⟨v, H', os, bare, un, hok', r', q⟩ := h
        have q' : v = .bl true := q
        subst q'
        obtain rfl : u = Value.bool true := r'
        refine ⟨rfl, OldK.of_keep fun b o e => ?_, os, bare⟩
        cases q : H b with
        | none => exact un.keep b o e q (by intro z; exact absurd (show b ∈ ([] : List Addr) from z) (by simp)) (by simp)
        | some u =>
          rcases hO b with z | ⟨ob, xs, z⟩
          · rw [q] at z; cases z
          · have z2 := un.frzs b ob _ z
            obtain ⟨e1, _⟩ := hok b _ z
            obtain ⟨e2, _⟩ := hok' b _ z2
            rw [e] at e1; cases e1
            exact e2
  cases hk : K.lookup a with
  | some o =>
    -- the script is one of the module's own objects
    have e := KX a o hk
    rw [ha] at e
    cases e
    refine core (fun _ => none) (fun _ => .inl rfl) (.inr ⟨_, vs.toArray, _, hk, rfl, rfl, rfl, by rw [List.size_toArray, lenV]; exact hl, by simpa using rv⟩) (fun b u z => by have z' : (none : Option HO) = some u := z; cases z') (fun b z => absurd rfl z) fun z => absurd rfl z
  | none =>
    refine core (fun b => if b = a then some (.frz { cls := .type "list", data := .seq vs.toArray } (.lst (ns.map V.int))) else none) (fun b => ?_) (.inl (.inr ⟨{ cls := .type "list", data := .seq vs.toArray }, if_pos rfl⟩)) (fun b u z => ?_) (fun b z => ?_) fun _ => hk
    · by_cases hb : b = a
      · exact .inr ⟨_, _, if_pos hb⟩
      · exact .inl (if_neg hb)
    · by_cases hb : b = a
      · have z' := (if_pos hb).symm.trans z
        cases z'
        subst hb
        exact ⟨ha, by rw [List.length_map]; exact hl, vs, _, rv, ha⟩
      · have z' := (if_neg hb).symm.trans z
        cases z'
    · by_cases hb : b = a
      · exact hb
      · exact absurd (if_neg hb) z
end L2

namespace L2
open PySem PySem.Spec PyProof.Rows

abbrev KOf {K : PySem.W.Frag} {h : Heap} (_ : K.In h) : PySem.W.Frag := K

/-- the goal that k_head leaves (case hc), from the law's promise. F gives the function object fd (K's own) once, then the promise over every base -/
theorem walk_of {l : PySem.W.OpenLaw} {n k : Nat} {q : Program} {loose : List Str} {XP : (Str → Option Value) → Heap → Prop} {YP : World → Heap → Prop} {d : DefRec} {K : Params → PySem.W.Frag} {CX : World → CXT} {sp : World → Sp} {x : Str}
    (hn : l.most = some n) (hn2 : n ≤ sizeLine) (hdf : d.params.defaults = []) (hr : Room k callerA)
    (hY : ∀ (w : World) (h : Heap), YP w h → (K w.params).In h)
    (F : ∀ (w : World) (mg : Str → Option Value) (fa : Addr) (h : Heap), (K w.params).In h → h.Ns mainGlobals mg → mg d.name = some (.ref fa) →
      ∃ fd : FuncData, (∀ (s : Shared) (u : Value), BindsTo s fd ⟨[u], []⟩ [(x, u)]) ∧
        ∀ base : Heap, (K w.params).In base → base.Ns mainGlobals mg → FnOk l.prog w (K w.params) mg base (CX w) k fa fd [x] (sp w))
    (hsp : ∀ (w : World) (H : Hp) (a : Addr) (ns : List Int), ns.length ≤ n → Only H → SqL (K w.params) H a (ns.map V.int) → sp w [.ref a] H (fun v _ => v = .bl true) fun _ _ _ => False)
    (hCX : ∀ (w : World) (H : Hp) (s : Shared) (e : Value) (s' : Shared), CX w [] H s (fun _ _ _ => False) e s' → False) :
    PySem.W.WalkO q loose XP YP l.row.toRowW d [] (fun f vs => PySem.call f vs) := by
  refine Att.attach_call hn hdf fun w s₀ s₁ mg mb fa o pm cd doc a vs ns G Y ho hd hcd hmg hobj hints hlen hg => ?_
  have KX := hY w _ Y
  obtain ⟨fd, hb, hF⟩ := F w mg fa _ KX G.T.g hmg
  exact law_call KX G.T.g G.T.b G.T.builtins G.T.nolimit hg hobj hints (Nat.le_trans hlen hn2) hr hF hb (fun H hO hS => hsp w H a ns hlen hO hS) fun H e s' => hCX w H s₁ e s'
/-- the same where the promise hangs on the written part alone: (sp := My.sp_law), no hole under a binder -/
theorem walk_ofK {l : PySem.W.OpenLaw} {n k : Nat} {q : Program} {loose : List Str} {XP : (Str → Option Value) → Heap → Prop} {YP : World → Heap → Prop} {d : DefRec} {K : Params → PySem.W.Frag} {CX : CXT} {sp : PySem.W.Frag → Sp} {x : Str}
    (hn : l.most = some n) (hn2 : n ≤ sizeLine) (hdf : d.params.defaults = []) (hr : Room k callerA)
    (hY : ∀ (w : World) (h : Heap), YP w h → (K w.params).In h)
    (F : ∀ (w : World) (mg : Str → Option Value) (fa : Addr) (h : Heap), (K w.params).In h → h.Ns mainGlobals mg → mg d.name = some (.ref fa) →
      ∃ fd : FuncData, (∀ (s : Shared) (u : Value), BindsTo s fd ⟨[u], []⟩ [(x, u)]) ∧
        ∀ base : Heap, (K w.params).In base → base.Ns mainGlobals mg → FnOk l.prog w (K w.params) mg base CX k fa fd [x] (sp (K w.params)))
    (hsp : ∀ (K : PySem.W.Frag) (H : Hp) (a : Addr) (ns : List Int), ns.length ≤ n → Only H → SqL K H a (ns.map V.int) → sp K [.ref a] H (fun v _ => v = .bl true) fun _ _ _ => False)
    (hCX : ∀ (H : Hp) (s : Shared) (e : Value) (s' : Shared), CX [] H s (fun _ _ _ => False) e s' → False) :
    PySem.W.WalkO q loose XP YP l.row.toRowW d [] (fun f vs => PySem.call f vs) :=
  walk_of (K := K) (CX := fun _ => CX) (sp := fun w => sp (K w.params)) hn hn2 hdf hr hY F (fun w H a ns h1 h2 h3 => hsp (K w.params) H a ns h1 h2 h3) fun _ H s e s' => hCX H s e s'
end L2

/- THE LAST THEOREM (shape; LID, My.* are yours):
   My.Adr: a structure of the addresses that your layer names (classes, functions); My.Txt K t: a structure (Prop) of the equations over K;
   My.txt_mk : {K} {implicit addresses ..} (e1 : nsIn K mainGlobals "law" = some (some (.ref f))) (e2 : K.lookup f = some ⟨oc, od, .func (fnOf "law" "law" params body scope dV kV doc pm an cdv ct), sl⟩) (e3 : codeIn K cdv "law" = true) .. : ∃ t, My.Txt K t

set_option maxRecDepth 100000 in
set_option maxHeartbeats 0 in
theorem PySem.Challenge.cw_LID_holds : PySem.Challenge.rw_LID.Holds := by
  w_on; o_law; k_head; (case hw => w_witness2)
  k_fill
  refine L2.walk_of (l := PySem.Challenge.rw_LID) (n := 63) (k := 40) (x := "script") (CX := fun w => ..) (sp := fun _ => My.sp_law) rfl (by decide) rfl ⟨rfl, by decide, by decide⟩ (fun w h Y => PySem.W.kIn_of Y) ?F ?S ?C
  case F =>
    intro w mg fa h KX G hmg
    have T : ∃ t, My.Txt (L2.KOf KX) t := by
      dsimp only [L2.KOf]                          -- K must stand as «<heap const> w.params» for k_is
      refine' My.txt_mk ?e1 ?e2 ?e3 ..
      (case e1 => PySem.W.k_is)                    -- in the order: a name -> its address -> its object -> its parts
      (case e2 => PySem.W.k_is)
      ..
    obtain ⟨t, T⟩ := T
    have e0 := hmg.symm.trans (PySem.W.mg_of KX G T.law)
    cases e0                                       -- fa is the law's own address
    exact ⟨_, fun s u => .of_eq rfl, fun base kb nb => My.law_fn T kb nb⟩     -- if «.of_eq rfl» comes too early: refine' ⟨_, ?b, fun base kb nb => My.law_fn T kb nb⟩; exact fun s u => .of_eq rfl
  case S => exact fun w H a ns hl hO hS => ..
  case C => exact ..
(the tactic k_is has no namespace: write k_is) -/

/-! SHORT WORDS over the layer: a def of the text, its body, what a loop and a test want. -/
namespace L2
open PySem PySem.Spec PyProof.Rows

/-! ### the text by places -/
/-- the j-th statement of a class's body -/
def inClass (s : Stmt) (j : Nat) : Stmt := match s with
  | .ClassDef _ _ _ body _ _ _ _ _ _ _ => body.getD j (.Pass ⟨0, 0, 0, 0⟩)
  | _ => .Pass ⟨0, 0, 0, 0⟩
def defArgs (s : Stmt) : Arguments := match s with
  | .FunctionDef _ a _ _ _ _ _ _ _ _ => a
  | _ => { posonlyargs := [], args := [], vararg := none, kwonlyargs := [], kw_defaults := [], kwarg := none, defaults := [] }
def defBody (s : Stmt) : List Stmt := match s with
  | .FunctionDef _ _ b _ _ _ _ _ _ _ => b
  | _ => []
def defScope (s : Stmt) : Scope := match s with
  | .FunctionDef _ _ _ _ _ _ sc _ _ _ => sc
  | _ => { kind := .function, names := [], isGenerator := false, isCoroutine := false }

/-! ### no exception leaves a def -/
abbrev CX0 : CXT := fun _ _ _ _ _ _ => False
abbrev E0 : XK := fun _ _ _ => False
theorem pass0 {X : Cx} : Passes CX0 X E0 := fun _ _ _ _ _ _ _ h => h.elim

/-! ### a def (or method) of the text as it stands behind the top -/
structure Fun (K : PySem.W.Frag) (x qual : Str) (st : Stmt) (f : Addr) (fd : FuncData) : Prop where
  ex : ∃ (oc : Value) (od : Option Addr) (kV doc pm : Value) (an : Option Addr) (cdv ct : Value) (osl : Array (Option Value)),
    fd = PySem.W.fnOf x qual (defArgs st) (defBody st) (defScope st) .none kV doc pm an cdv ct ∧ K.lookup f = some ⟨oc, od, .func fd, osl⟩ ∧ PySem.W.codeIn K cdv qual = true
  kp : PySem.W.keepIn K (.ref f) = true
section
variable {P : Program} {w : World} {K : PySem.W.Frag} {mg : Str → Option Value} {base : Heap}
/-- THE RULE for a def: its body as a term of rules, and the reading of that term -/
theorem Fun.ok {x qual : Str} {st : Stmt} {f : Addr} {fd : FuncData} {N ps : List Str} {k : Nat} {sp : Sp} (F : Fun K x qual st f fd) (S : FnScope N ps (defScope st)) (len : ∀ vs H Q E, sp vs H Q E → vs.length = ps.length)
    (hbody : ∀ (cdv : Value) (A : Around) (outer : List Env) (s : Shared) (H : Hp) (vs : List V) (Q : VK) (E : XK), Room k (A.deeper (envOfC qual (defScope st) s.heap.objs.size f cdv)) → sp vs H Q E →
      ∃ t, PSs (cxOf CX0 P w K mg base N qual (defScope st) f cdv A outer s H E).nox (defBody st) t ∧ t { nx := fun _ H' => Q .non H', rt := Q } (start N vs) H) : FnOk P w K mg base CX0 (k + 1) f fd ps sp := by
  obtain ⟨oc, od, kV, doc, pm, an, cdv, ct, osl, rfl, lk, hcd⟩ := F.ex
  refine fn_of lk hcd S len fun A outer s H vs Q E hr hsp => ?_
  obtain ⟨t, h, q⟩ := hbody cdv A outer s H vs Q E hr hsp
  exact ⟨t, h.nox, q⟩
/-- how its arguments bind (no defaults): h is «fun _ _ _ _ _ _ us hl => match us, hl with | [_, _], _ => rfl», one _ a parameter -/
theorem Fun.binds {x qual : Str} {st : Stmt} {f : Addr} {fd : FuncData} {ps : List Str} (F : Fun K x qual st f fd)
    (h : ∀ (kV doc pm : Value) (an : Option Addr) (cdv ct : Value) (us : List Value), us.length = ps.length → bindArgs (PySem.W.fnOf x qual (defArgs st) (defBody st) (defScope st) .none kV doc pm an cdv ct) ⟨us, []⟩ = pure (ps.zip us)) : Binds K fd ps [] := by
  obtain ⟨oc, od, kV, doc, pm, an, cdv, ct, osl, rfl, lk, hcd⟩ := F.ex
  exact .all (h kV doc pm an cdv ct)
theorem fun_mk {x qual : Str} {st : Stmt} {f : Addr} {oc : Value} {od an : Option Addr} {osl : Array (Option Value)} {kV doc pm cdv ct : Value} (l : K.lookup f = some ⟨oc, od, .func (PySem.W.fnOf x qual (defArgs st) (defBody st) (defScope st) .none kV doc pm an cdv ct), osl⟩)
    (c : PySem.W.codeIn K cdv qual = true) (k : PySem.W.keepIn K (.ref f) = true) : Fun K x qual st f (PySem.W.fnOf x qual (defArgs st) (defBody st) (defScope st) .none kV doc pm an cdv ct) := ⟨⟨oc, od, kV, doc, pm, an, cdv, ct, osl, rfl, l, c⟩, k⟩
end
theorem hu_of {A : Around} {k : Nat} (hr : Room k A) : A.units + 1 < cLine := Nat.lt_of_le_of_lt (Nat.add_le_add_left (by decide : 1 ≤ 64) _) hr.units
theorem small1000 {n : Nat} (h : n ≤ 1000) : n < sizeLine := Nat.lt_of_le_of_lt h (by decide)

/-! ### expressions in short: the name that stands in the i-th slot -/
section
variable {X : Cx}
theorem pv (i : Nat) {x : Str} {pos : Pos} (hN : X.N[i]? = some x := by rfl) (hv : Vis X.env.scope x := by first | exact Or.inl rfl | exact Or.inr (Or.inl rfl) | exact Or.inr (Or.inr rfl)) (hd : (x == ("__debug__" : Str)) = false := by decide)
    (hcd : (x == ("__classdict__" : Str)) = false := by decide) : PE X (.Name x pos) (tVar i) := pe_var hN hv hd hcd
end

/-! ### tests -/
theorem iteF {A B : Prop} (h : B) : if false = true then A else B := by
  rw [if_neg Bool.false_ne_true]
  exact h
theorem iteT {A B : Prop} (h : A) : if true = true then A else B := by
  rw [if_pos rfl]
  exact h
theorem ite2 {c A B : Prop} [Decidable c] (h1 : c → A) (h2 : ¬ c → B) : if c then A else B := by
  by_cases h : c
  · rw [if_pos h]
    exact h1 h
  · rw [if_neg h]
    exact h2 h
theorem iteNS {c A B : Prop} [Decidable c] (hc : c) (h : B) : if (!decide c) = true then A else B := by
  rw [decide_eq_true hc]
  exact iteF h

/-! ### heaps -/
/-- all that was tracked is as it was -/
def Same (H H' : Hp) : Prop := ∀ b o, H b = some o → H' b = some o
theorem Same.refl (H : Hp) : Same H H := fun _ _ h => h
theorem Same.trans {H H1 H2 : Hp} (a : Same H H1) (b : Same H1 H2) : Same H H2 := fun c o h => b c o (a c o h)
theorem Same.free {H H' : Hp} (e : Same H H') {l : Addr} (h : H' l = Option.none) : H l = Option.none := by
  cases q : H l with
  | none => rfl
  | some o =>
    rw [e l o q] at h
    cases h
theorem Same.seq {K : PySem.W.Frag} {H H' : Hp} {a : Addr} {xs : List V} (e : Same H H') (h : SqL K H a xs) : SqL K H' a xs := by
  rcases h with (h | ⟨o, h⟩) | h
  · exact .inl (.inl (e _ _ h))
  · exact .inl (.inr ⟨o, e _ _ h⟩)
  · exact .inr h

end L2


set_option Elab.async false
set_option linter.all false
set_option maxRecDepth 100000
set_option Elab.async false
set_option linter.all false
set_option maxRecDepth 100000
namespace L2
open PySem PySem.Spec PyProof.Rows

/-! ### lists of pairs as tables -/
section
variable {κ : Type} [DecidableEq κ]
def valV (kvs : List (κ × V)) (k : κ) : Option V := (kvs.find? fun kv => decide (kv.1 = k)).map (·.2)
/-- in its place, or at the end -/
def putK (kvs : List (κ × V)) (k : κ) (v : V) : List (κ × V) :=
  if (kvs.any fun kv => decide (kv.1 = k)) = true then kvs.map (fun kv => if kv.1 = k then (kv.1, v) else kv) else kvs ++ [(k, v)]
def dropK (kvs : List (κ × V)) (k : κ) : List (κ × V) := kvs.filter fun kv => decide (kv.1 ≠ k)

theorem valV_nil {k : κ} : valV ([] : List (κ × V)) k = none := rfl
theorem valV_pos {p : κ × V} {r : List (κ × V)} {k : κ} (e : p.1 = k) : valV (p :: r) k = some p.2 := by simp [valV, List.find?_cons, e]
theorem valV_neg {p : κ × V} {r : List (κ × V)} {k : κ} (e : ¬ p.1 = k) : valV (p :: r) k = valV r k := by simp [valV, List.find?_cons, e]
theorem valV_any (k : κ) : ∀ kvs : List (κ × V), (kvs.any fun kv => decide (kv.1 = k)) = (valV kvs k).isSome
  | [] => rfl
  | p :: r => by
    rw [List.any_cons]
    by_cases e : p.1 = k
    · simp only [valV_pos e, decide_eq_true e, Bool.true_or, Option.isSome_some]
    · rw [valV_neg e, decide_eq_false e, Bool.false_or]; exact valV_any k r
theorem valV_map (k j : κ) (y : V) : ∀ kvs : List (κ × V), valV (kvs.map fun kv => if kv.1 = k then (kv.1, y) else kv) j = (valV kvs j).map fun x => if j = k then y else x
  | [] => rfl
  | p :: r => by
    have ih := valV_map k j y r
    rw [List.map_cons]
    by_cases h : p.1 = k
    · rw [if_pos h]
      by_cases e : p.1 = j
      · rw [valV_pos (p := (p.1, y)) e, valV_pos e, Option.map_some, if_pos (e.symm.trans h)]
      · rw [valV_neg (p := (p.1, y)) e, valV_neg e, ih]
    · rw [if_neg h]
      by_cases e : p.1 = j
      · rw [valV_pos (p := p) e, valV_pos e, Option.map_some, if_neg (fun z => h (e.trans z))]
      · rw [valV_neg (p := p) e, valV_neg e, ih]
theorem valV_snoc (k j : κ) (y : V) : ∀ kvs : List (κ × V), valV kvs k = none → valV (kvs ++ [(k, y)]) j = if j = k then some y else valV kvs j
  | [], _ => by
    by_cases e : k = j
    · rw [if_pos e.symm]; exact valV_pos (p := (k, y)) e
    · rw [if_neg (fun z => e z.symm)]; exact valV_neg (p := (k, y)) e
  | p :: r, hn => by
    rw [List.cons_append]
    have hk : ¬ p.1 = k := fun z => by rw [valV_pos z] at hn; cases hn
    rw [valV_neg hk] at hn
    have ih := valV_snoc k j y r hn
    by_cases e : p.1 = j
    · rw [valV_pos e, valV_pos e, if_neg (fun z => hk (e.trans z))]
    · rw [valV_neg e, valV_neg e, ih]
theorem valV_put (kvs : List (κ × V)) (k j : κ) (y : V) : valV (putK kvs k y) j = if j = k then some y else valV kvs j := by
  unfold putK
  by_cases a : (kvs.any fun kv => decide (kv.1 = k)) = true
  · rw [if_pos a, valV_map]
    rw [valV_any] at a
    by_cases e : j = k
    · obtain ⟨x, hx⟩ := Option.isSome_iff_exists.mp a
      rw [if_pos e, e, hx, Option.map_some, if_pos rfl]
    · rw [if_neg e]
      cases valV kvs j with
      | none => rfl
      | some x => rw [Option.map_some, if_neg e]
  · rw [if_neg a]
    refine valV_snoc k j y kvs ?_
    rw [valV_any] at a
    cases q : valV kvs k with
    | none => rfl
    | some x => rw [q] at a; exact (a rfl).elim
theorem length_putK (kvs : List (κ × V)) (k : κ) (v : V) : (putK kvs k v).length ≤ kvs.length + 1 := by
  unfold putK
  split
  · rw [List.length_map]; omega
  · rw [List.length_append, List.length_cons, List.length_nil]; omega
theorem putK_new {kvs : List (κ × V)} {k : κ} (v : V) (h : valV kvs k = none) : putK kvs k v = kvs ++ [(k, v)] := by
  unfold putK
  rw [valV_any, h]
  exact if_neg (by decide)

theorem RelO.isSome_eq {o : Option V} {u : Option Value} (r : RelO o u) : o.isSome = u.isSome := by
  cases o with
  | none => cases u with
    | none => rfl
    | some _ => exact (show False from r).elim
  | some _ => cases u with
    | none => exact (show False from r).elim
    | some _ => rfl
theorem RelO.getD {o : Option V} {u : Option Value} {d : V} {d' : Value} (r : RelO o u) (rd : RelV d d') : RelV (o.getD d) (u.getD d') := by
  cases o with
  | none => cases u with
    | none => exact rd
    | some _ => exact (show False from r).elim
  | some _ => cases u with
    | none => exact (show False from r).elim
    | some _ => exact r

/-- raw tables of the same keys -/
theorem KV.val {kvs : List (κ × V)} {vs : List (κ × Value)} (r : KV kvs vs) (k : κ) : RelO (valV kvs k) (valueAt vs k) := by
  unfold KV at r
  induction r with
  | nil => exact True.intro
  | @cons p q ps qs h t ih =>
    obtain ⟨h1, h2⟩ := h
    by_cases e : p.1 = k
    · have e' : q.1 = k := h1.symm.trans e
      have b : valueAt (q :: qs) k = some q.2 := by simp [valueAt, List.find?_cons, e']
      rw [valV_pos e, b]; exact h2
    · have e' : ¬ q.1 = k := fun z => e (h1.trans z)
      have b : valueAt (q :: qs) k = valueAt qs k := by simp [valueAt, List.find?_cons, e']
      rw [valV_neg e, b]; exact ih
theorem KV.any {kvs : List (κ × V)} {vs : List (κ × Value)} (r : KV kvs vs) (k : κ) : (kvs.any fun kv => decide (kv.1 = k)) = vs.any fun kv => decide (kv.1 = k) := by
  unfold KV at r
  induction r with
  | nil => rfl
  | cons h t ih => rw [List.any_cons, List.any_cons, ih, h.1]
theorem KV.repl {kvs : List (κ × V)} {vs : List (κ × Value)} (r : KV kvs vs) (k : κ) {y : V} {u : Value} (ry : RelV y u) :
    KV (kvs.map fun kv => if kv.1 = k then (kv.1, y) else kv) (vs.map fun kv => if kv.1 = k then (kv.1, u) else kv) := by
  unfold KV at r ⊢
  induction r with
  | nil => exact .nil
  | @cons p q ps qs h t ih =>
    rw [List.map_cons, List.map_cons]
    refine .cons ?_ ih
    obtain ⟨h1, h2⟩ := h
    by_cases e : p.1 = k
    · rw [if_pos e, if_pos (h1.symm.trans e)]; exact ⟨h1, ry⟩
    · rw [if_neg e, if_neg (fun z => e (h1.trans z))]; exact ⟨h1, h2⟩
theorem KV.put {kvs : List (κ × V)} {vs : List (κ × Value)} (r : KV kvs vs) (k : κ) {y : V} {u : Value} (ry : RelV y u) : KV (putK kvs k y) (stored vs k u) := by
  unfold putK stored
  rw [r.any k]
  by_cases e : (vs.any fun kv => decide (kv.1 = k)) = true
  · rw [if_pos e, if_pos e]; exact r.repl k ry
  · rw [if_neg e, if_neg e]; exact Paired.snoc r ⟨rfl, ry⟩
theorem KV.drop {kvs : List (κ × V)} {vs : List (κ × Value)} (r : KV kvs vs) (k : κ) : KV (dropK kvs k) (without vs k) := by
  unfold KV at r ⊢
  unfold dropK without
  induction r with
  | nil => exact .nil
  | @cons p q ps qs h t ih =>
    obtain ⟨h1, h2⟩ := h
    rw [List.filter_cons, List.filter_cons]
    by_cases e : p.1 = k
    · have a : ¬ decide (p.1 ≠ k) = true := by simp [e]
      have b : ¬ decide (q.1 ≠ k) = true := by simp [h1.symm.trans e]
      rw [if_neg a, if_neg b]; exact ih
    · have e' : ¬ q.1 = k := fun z => e (h1.trans z)
      have a : decide (p.1 ≠ k) = true := by simp [e]
      have b : decide (q.1 ≠ k) = true := by simp [e']
      rw [if_pos a, if_pos b]; exact .cons ⟨h1, h2⟩ ih
theorem KV.keys {kvs : List (κ × V)} {vs : List (κ × Value)} (r : KV kvs vs) : kvs.map (·.1) = vs.map (·.1) := by
  unfold KV at r
  induction r with
  | nil => rfl
  | cons h t ih => rw [List.map_cons, List.map_cons, ih, h.1]
theorem KV.length {kvs : List (κ × V)} {vs : List (κ × Value)} (r : KV kvs vs) : kvs.length = vs.length := Paired.length r
theorem dropK_le (kvs : List (κ × V)) (k : κ) : (dropK kvs k).length ≤ kvs.length := List.length_filter_le _ _
end


/-! ### a tracked dict, its keys ints and texts or tuples of these -/
theorem kV_is {P : Program} {w : World} {k : Key} {u : Value} (r : RelV (kV k) u) : (mixKind P w).is k u = true := by
  cases k with
  | inl i => obtain ⟨t, e⟩ := (show ∃ t, u = Value.int i t from r); subst e; exact mixKind_int P w i t
  | inr x => obtain ⟨t, e⟩ := (show ∃ t, u = Value.str x t from r); subst e; exact mixKind_str P w x t
theorem kV_inj {a b : Key} (e : kV a = kV b) : a = b := by
  cases a with
  | inl i => cases b with
    | inl j => have e' : V.int i = V.int j := e; injection e' with e'; rw [e']
    | inr y => exact nomatch (show V.int i = V.str y from e)
  | inr x => cases b with
    | inl j => exact nomatch (show V.str x = V.int j from e)
    | inr y => have e' : V.str x = V.str y := e; injection e' with e'; rw [e']
theorem kVs_inj : ∀ {a b : List Key}, a.map kV = b.map kV → a = b
  | [], [], _ => rfl
  | [], _ :: _, e => by simp at e
  | _ :: _, [], e => by simp at e
  | x :: xs, y :: ys, e => by
    rw [List.map_cons, List.map_cons] at e
    injection e with e1 e2
    rw [kV_inj e1, kVs_inj e2]
theorem items_are {P : Program} {w : World} : ∀ {ks : List Key} {us : List Value}, Vals (ks.map kV) us → ItemsAre (mixKind P w) ks us
  | [], _, r => by rw [List.map_nil] at r; cases r; exact .nil
  | k :: ks, _, r => by
    rw [List.map_cons] at r
    cases r with
    | cons h t => exact .cons (kV_is h) (items_are t)

/-- raw entries of a dict with tuple keys -/
abbrev KT (H : Hp) : List (List Key × V) → List (List Key × Addr × Value) → Prop := Paired fun p q => p.1 = q.1 ∧ H q.2.1 = some (.tup (p.1.map kV)) ∧ RelV p.2 q.2.2
theorem KT.val {H : Hp} {kvs : List (List Key × V)} {xs : List (List Key × Addr × Value)} (r : KT H kvs xs) (k : List Key) : RelO (valV kvs k) ((atKey xs k).map (·.2)) := by
  induction r with
  | nil => exact True.intro
  | @cons p q ps qs h t ih =>
    obtain ⟨h1, _, h2⟩ := h
    by_cases e : p.1 = k
    · have e' : q.1 = k := h1.symm.trans e
      have b : atKey (q :: qs) k = some q.2 := by simp [atKey, List.find?_cons, e']
      rw [valV_pos e, b]; exact h2
    · have e' : ¬ q.1 = k := fun z => e (h1.trans z)
      have b : atKey (q :: qs) k = atKey qs k := by simp [atKey, List.find?_cons, e']
      rw [valV_neg e, b]; exact ih
theorem KT.repl {H : Hp} {kvs : List (List Key × V)} {xs : List (List Key × Addr × Value)} (r : KT H kvs xs) (k : List Key) {y : V} {u : Value} (ry : RelV y u) :
    KT H (kvs.map fun kv => if kv.1 = k then (kv.1, y) else kv) (xs.map (putAt k u)) := by
  induction r with
  | nil => exact .nil
  | @cons p q ps qs h t ih =>
    rw [List.map_cons, List.map_cons]
    refine .cons ?_ ih
    obtain ⟨h1, h2, h3⟩ := h
    unfold putAt
    by_cases e : p.1 = k
    · rw [if_pos e, if_pos (h1.symm.trans e)]; exact ⟨h1, h2, ry⟩
    · rw [if_neg e, if_neg (fun z => e (h1.trans z))]; exact ⟨h1, h2, h3⟩
theorem KT.put {H : Hp} {kvs : List (List Key × V)} {xs : List (List Key × Addr × Value)} (r : KT H kvs xs) (k : List Key) {b : Addr} {y : V} {u : Value} (hb : H b = some (.tup (k.map kV))) (ry : RelV y u) :
    KT H (putK kvs k y) (storedH xs k b u) := by
  have e : (kvs.any fun kv => decide (kv.1 = k)) = (atKey xs k).isSome := by
    rw [valV_any, (r.val k).isSome_eq, Option.isSome_map]
  unfold putK storedH
  rw [e]
  by_cases q : (atKey xs k).isSome = true
  · rw [if_pos q, if_pos q]; exact r.repl k ry
  · rw [if_neg q, if_neg q]; exact Paired.snoc r ⟨rfl, hb, ry⟩
theorem KT.keeps {H H' : Hp} {kvs : List (List Key × V)} {xs : List (List Key × Addr × Value)} (r : KT H kvs xs) (ht : ∀ b ys, H b = some (.tup ys) → H' b = some (.tup ys)) : KT H' kvs xs :=
  Paired.mapP r fun _ _ z => ⟨z.1, ht _ _ z.2.1, z.2.2⟩

section
variable {P : Program} {w : World} {H : Hp} {h : Heap} {a : Addr}
theorem rd_of {u : HO} (ok : HOk P w H h) (e : Rd H a u) : ObjOk P w H h a u := e.ok ok
theorem dk_rd {kvs : List (Key × V)} (ok : HOk P w H h) (e : Rd H a (.dK kvs)) : kvs.length ≤ sizeLine ∧ (a == sysModules) = false ∧ ∃ vs, KV kvs vs ∧ h.DictOf (mixKind P w) a vs :=
  show ObjOk P w H h a (.dK kvs) from rd_of ok e
theorem dk_of {kvs : List (Key × V)} (ok : HOk P w H h) (e : H a = some (.dK kvs)) : kvs.length ≤ sizeLine ∧ (a == sysModules) = false ∧ ∃ vs, KV kvs vs ∧ h.DictOf (mixKind P w) a vs := dk_rd ok (.inl e)
/-- a tracked tuple of ints and texts is a key -/
theorem key_of {ks : List Key} (ok : HOk P w H h) (e : H a = some (.tup (ks.map kV))) : (tupleKind (mixKind P w)).is h ks a := by
  obtain ⟨_, its, r, o, h1, h2, n, h3⟩ := (show ObjOk P w H h a (.tup (ks.map kV)) from ok a _ e)
  exact ⟨o, its.toArray, n, h1, h2, h3, by simpa using items_are r⟩
theorem dt_rd {kvs : List (List Key × V)} (ok : HOk P w H h) (e : Rd H a (.dT kvs)) : kvs.length ≤ sizeLine ∧ (a == sysModules) = false ∧
    ∃ xs, KT H kvs xs ∧ h.DictOfH (tupleKind (mixKind P w)) a xs := by
  obtain ⟨z, y, xs, r, o, es, ep, h1, h2, h3, h4, h5⟩ := (show ObjOk P w H h a (.dT kvs) from rd_of ok e)
  refine ⟨z, y, xs, r, o, es, ep, h1, h2, h3, h4, fun x hx => ?_, h5⟩
  have all : ∀ {l : List (List Key × V)} {m : List (List Key × Addr × Value)}, KT H l m → ∀ x ∈ m, (tupleKind (mixKind P w)).is h x.1 x.2.1 := by
    intro l m q
    induction q with
    | nil => intro x hx; exact nomatch hx
    | @cons p q ps qs hq t ih =>
      intro x hx
      rcases List.mem_cons.mp hx with e | hx
      · subst e
        exact key_of ok (by rw [← hq.1]; exact hq.2.1)
      · exact ih x hx
  exact all r x hx
theorem dt_of {kvs : List (List Key × V)} (ok : HOk P w H h) (e : H a = some (.dT kvs)) : kvs.length ≤ sizeLine ∧ (a == sysModules) = false ∧
    ∃ xs, KT H kvs xs ∧ h.DictOfH (tupleKind (mixKind P w)) a xs := dt_rd ok (.inl e)
end

/-- what the dict at a holds at the key y -/
def DGet (H : Hp) (a : Addr) (y : V) (r : Option V) : Prop :=
  (∃ kvs k, Rd H a (.dK kvs) ∧ y = kV k ∧ r = valV kvs k) ∨ ∃ kvs k b, Rd H a (.dT kvs) ∧ y = .ref b ∧ H b = some (.tup (k.map kV)) ∧ r = valV kvs k
/-- the heap behind a[y] = v -/
def DPut (H : Hp) (a : Addr) (y v : V) (H' : Hp) : Prop :=
  (∃ kvs k, H a = some (.dK kvs) ∧ y = kV k ∧ kvs.length < sizeLine ∧ H' = upd H a (.dK (putK kvs k v))) ∨
  ∃ kvs k b, H a = some (.dT kvs) ∧ y = .ref b ∧ H b = some (.tup (k.map kV)) ∧ kvs.length < sizeLine ∧ H' = upd H a (.dT (putK kvs k v))
theorem DGet.k {H : Hp} {a : Addr} {kvs : List (Key × V)} {k : Key} (e : H a = some (.dK kvs)) : DGet H a (kV k) (valV kvs k) := .inl ⟨kvs, k, .inl e, rfl, rfl⟩
theorem DGet.t {H : Hp} {a b : Addr} {kvs : List (List Key × V)} {k : List Key} (e : H a = some (.dT kvs)) (eb : H b = some (.tup (k.map kV))) : DGet H a (.ref b) (valV kvs k) := .inr ⟨kvs, k, b, .inl e, rfl, eb, rfl⟩
theorem DPut.k {H : Hp} {a : Addr} {kvs : List (Key × V)} {k : Key} {v : V} (e : H a = some (.dK kvs)) (hl : kvs.length < sizeLine) : DPut H a (kV k) v (upd H a (.dK (putK kvs k v))) := .inl ⟨kvs, k, e, rfl, hl, rfl⟩
theorem DPut.t {H : Hp} {a b : Addr} {kvs : List (List Key × V)} {k : List Key} {v : V} (e : H a = some (.dT kvs)) (eb : H b = some (.tup (k.map kV))) (hl : kvs.length < sizeLine) :
    DPut H a (.ref b) v (upd H a (.dT (putK kvs k v))) := .inr ⟨kvs, k, b, e, rfl, eb, hl, rfl⟩


section
variable {X : Cx} {pins : List (Addr × Obj)} {σ : St} {H : Hp} {s : Shared} {a : Addr} {y v : V} {u r : Value} {o : Option V} {A : Around} {E : Value → Shared → Prop}

theorem Inv.big (I : Inv X pins σ H s) : sysModules < s.heap.objs.size := by
  have h : mainGlobals < s.heap.objs.size := (I.mod.glob.keeps I.bk).lt
  exact Nat.lt_trans (by decide) h

/-- d[y], there -/
theorem d_getItem {Q : Value → Shared → Prop} (hu : A.units + 1 < cLine) (I : Inv X pins σ H s) (g : DGet H a y (some v)) (ry : RelV y u) (h : ∀ w' s', Inv X pins σ H s' → RelV v w' → Q w' s') :
    wpAny (model X.prog X.w) A (getItem (.ref a) u) Q E s := by
  rcases g with ⟨kvs, k, e, ey, l⟩ | ⟨kvs, k, b, e, ey, eb, l⟩
  · subst ey
    obtain ⟨z, hd, vs, rel, dd⟩ := dk_rd I.hok e
    obtain ⟨w', hw, rw'⟩ := RelO.some_of (v := v) (o := valueAt vs k) (by rw [l]; exact rel.val k)
    exact wpAny_getItem_of (kV_is ry) dd.mapOf hw (h w' _ (I.tok _) rw')
  · subst ey
    cases (show u = Value.ref b from ry)
    obtain ⟨z, hd, xs, rel, dd⟩ := dt_rd I.hok e
    obtain ⟨w', hw, rw'⟩ := RelO.some_of (v := v) (o := (atKey xs k).map (·.2)) (by rw [l]; exact rel.val k)
    obtain ⟨p, hp, hp2⟩ := Option.map_eq_some_iff.mp hw
    refine wpAny_getItem_heap (tupleKind_room_in1 hu) (key_of I.hok eb) dd hp ?_
    rw [hp2]
    exact h w' _ (I.tok _) rw'
/-- y in d -/
theorem d_in {Q : Value → Shared → Prop} (hu : A.units + 1 < cLine) (I : Inv X pins σ H s) (g : DGet H a y o) (ry : RelV y u) (h : ∀ s', Inv X pins σ H s' → Q (.bool o.isSome) s') :
    wpAny (model X.prog X.w) A (compareOp .In u (.ref a)) Q E s := by
  rcases g with ⟨kvs, k, e, ey, l⟩ | ⟨kvs, k, b, e, ey, eb, l⟩
  · subst ey
    obtain ⟨z, hd, vs, rel, dd⟩ := dk_rd I.hok e
    refine wpAny_in_of (kV_is ry) hd dd.mapOf ?_
    rw [← (rel.val k).isSome_eq, ← l]
    exact h _ (I.tok _)
  · subst ey
    cases (show u = Value.ref b from ry)
    obtain ⟨z, hd, xs, rel, dd⟩ := dt_rd I.hok e
    refine wpAny_in_heap (tupleKind_room_in1 hu) (key_of I.hok eb) hd dd ?_
    have q := (rel.val k).isSome_eq
    rw [Option.isSome_map] at q
    rw [← q, ← l]
    exact h _ (I.tok _)
theorem d_notIn {Q : Value → Shared → Prop} (hu : A.units + 1 < cLine) (I : Inv X pins σ H s) (g : DGet H a y o) (ry : RelV y u) (h : ∀ s', Inv X pins σ H s' → Q (.bool (!o.isSome)) s') :
    wpAny (model X.prog X.w) A (compareOp .NotIn u (.ref a)) Q E s := by
  rcases g with ⟨kvs, k, e, ey, l⟩ | ⟨kvs, k, b, e, ey, eb, l⟩
  · subst ey
    obtain ⟨z, hd, vs, rel, dd⟩ := dk_rd I.hok e
    refine wpAny_notIn_of (kV_is ry) hd dd.mapOf ?_
    rw [← (rel.val k).isSome_eq, ← l]
    exact h _ (I.tok _)
  · subst ey
    cases (show u = Value.ref b from ry)
    obtain ⟨z, hd, xs, rel, dd⟩ := dt_rd I.hok e
    refine wpAny_notIn_heap (tupleKind_room_in1 hu) (key_of I.hok eb) hd dd ?_
    have q := (rel.val k).isSome_eq
    rw [Option.isSome_map] at q
    rw [← q, ← l]
    exact h _ (I.tok _)
/-- a dict's object is replaced -/
theorem d_write {h' : Heap} {t' : Nat} {ob : HO} (I : Inv X pins σ H s) (mu : Mut (H a)) (hs : Heap.SameBut a s.heap h') (he : ∃ q, h'.get? a = some q) (new : ObjOk X.prog X.w (upd H a ob) h' a ob) :
    Inv X pins σ (upd H a ob) { s with heap := h', toks := t' } :=
  I.write (x := a) (e := a) mu (.inl rfl) (fun b q hb z => (hs.2 b hb).trans z) he new
theorem dk_new {P : Program} {w : World} {H' : Hp} {h' : Heap} {kvs : List (Key × V)} {vs : List (Key × Value)} (z : kvs.length ≤ sizeLine) (hd : (a == sysModules) = false) (rel : KV kvs vs) (dd : h'.DictOf (mixKind P w) a vs) :
    ObjOk P w H' h' a (.dK kvs) := ⟨z, hd, vs, rel, dd⟩
/-- d[y] = v -/
theorem d_setItem {H' : Hp} {Q : Unit → Shared → Prop} (hu : A.units + 1 < cLine) (I : Inv X pins σ H s) (g : DPut H a y v H') (ry : RelV y u) (rv : RelV v r) (h : ∀ s', Inv X pins σ H' s' → Q () s') :
    wpAny (model X.prog X.w) A (setItem (.ref a) u r) Q E s := by
  rcases g with ⟨kvs, k, e, ey, l, eH⟩ | ⟨kvs, k, b, e, ey, eb, l, eH⟩
  · subst ey eH
    obtain ⟨z, hd, vs, rel, dd⟩ := dk_of I.hok e
    have hz : vs.length ≤ sizeLine := by rw [← rel.length]; exact z
    have hl : (putK kvs k v).length ≤ sizeLine := by have := length_putK kvs k v; omega
    refine wpAny_setItem_pairs (hsz := hz) (kV_is ry) dd fun h' dd' hs => h _ ?_
    have he : ∃ q, h'.get? a = some q := let ⟨q, _, _, hq, _⟩ := dd'; ⟨q, hq⟩
    exact d_write I (by rw [e]; exact True.intro) hs he (dk_new hl hd (rel.put k rv) dd')
  · subst ey eH
    cases (show u = Value.ref b from ry)
    obtain ⟨z, hd, xs, rel, dd⟩ := dt_of I.hok e
    have hz : xs.length ≤ sizeLine := by rw [← Paired.length rel]; exact z
    have hl : (putK kvs k v).length ≤ sizeLine := by have := length_putK kvs k v; omega
    refine wpAny_setItem_heap (hsz := hz) (tupleKind_room_in1 hu) (key_of I.hok eb) dd fun h' dd' hs => h _ ?_
    obtain ⟨q, es, ep, hq, h2, h3, h4, _, h5⟩ := dd'
    refine d_write I (by rw [e]; exact True.intro) hs ⟨q, hq⟩ ⟨hl, hd, _, (rel.put k eb rv).keeps fun c ys ec => ?_, q, es, ep, hq, h2, h3, h4, h5⟩
    rw [upd_ne (ne_of ec e (fun z => nomatch z))]
    exact ec
end

section
variable {X : Cx} {pins : List (Addr × Obj)} {σ : St} {H : Hp} {s : Shared} {a : Addr} {kvs : List (Key × V)} {k : Key} {u : Value} {A : Around} {E : Value → Shared → Prop}
/-- del d[k] -/
theorem d_delItem {Q : Unit → Shared → Prop} (I : Inv X pins σ H s) (e : H a = some (.dK kvs)) (ry : RelV (kV k) u) (l : (valV kvs k).isSome = true) (h : ∀ s', Inv X pins σ (upd H a (.dK (dropK kvs k))) s' → Q () s') :
    wpAny (model X.prog X.w) A (delItem (.ref a) u) Q E s := by
  obtain ⟨z, hd, vs, rel, dd⟩ := dk_of I.hok e
  refine wpAny_delItem_slot dd.typeIs (by decide) PySem.F.slot_dict_delitem
    (call_meetsIn PySem.F.slot_dict_delitem dd.typeIs PySem.F.entry_dict_delitem (PySem.F.args_dict_delitem_2 _ _) (meets_dict_delitem_pairs (mixKind X.prog X.w) a (kV_is ry)) ⟨vs, dd, by rw [← rel.length]; exact z, by rw [← (rel.val k).isSome_eq]; exact l, fun h' dd' hs => h _ ?_⟩)
  have he : ∃ q, h'.get? a = some q := let ⟨q, _, _, hq, _⟩ := dd'; ⟨q, hq⟩
  exact d_write I (by rw [e]; exact True.intro) hs he (dk_new (Nat.le_trans (dropK_le kvs k) z) hd (rel.drop k) dd')
/-- d.pop(k[, x]), there -/
theorem d_pop {v : V} {more : List Value} {Q : Value → Shared → Prop} (I : Inv X pins σ H s) (e : H a = some (.dK kvs)) (ry : RelV (kV k) u) (l : valV kvs k = some v) (hm : more = [] ∨ ∃ x, more = [x])
    (h : ∀ w' s', Inv X pins σ (upd H a (.dK (dropK kvs k))) s' → RelV v w' → Q w' s') : wpAny (model X.prog X.w) A (call (.builtin "dict.pop") (.ref a :: u :: more)) Q E s := by
  obtain ⟨z, hd, vs, rel, dd⟩ := dk_of I.hok e
  obtain ⟨w', hw, rw'⟩ := RelO.some_of (v := v) (o := valueAt vs k) (by rw [← l]; exact rel.val k)
  have hp : (keyPart u).isSome = true := by
    cases k with
    | inl i => obtain ⟨t, q⟩ := (show ∃ t, u = Value.int i t from ry); subst q; rfl
    | inr x => obtain ⟨t, q⟩ := (show ∃ t, u = Value.str x t from ry); subst q; rfl
  have ha : argsOk "dict.pop" ⟨.ref a :: u :: more, []⟩ := by
    rcases hm with q | ⟨x, q⟩
    · subst q; exact PySem.F.args_dict_pop_2 _ _
    · subst q; exact PySem.F.args_dict_pop_3 _ _ _
  refine call_meetsIn PySem.F.slot_dict_pop dd.typeIs PySem.F.entry_dict_pop ha (meets_dict_pop_there (mixKind X.prog X.w) a (kV_is ry) more hm hp)
    ⟨vs, w', dd, by rw [← rel.length]; exact z, hw, fun h' dd' hs => h w' _ ?_ rw'⟩
  have he : ∃ q, h'.get? a = some q := let ⟨q, _, _, hq, _⟩ := dd'; ⟨q, hq⟩
  exact d_write I (by rw [e]; exact True.intro) hs he (dk_new (Nat.le_trans (dropK_le kvs k) z) hd (rel.drop k) dd')
/-- d.pop(k, x), not there -/
theorem d_popD {r : Value} {Q : Value → Shared → Prop} (I : Inv X pins σ H s) (e : H a = some (.dK kvs)) (ry : RelV (kV k) u) (l : valV kvs k = none) (h : ∀ s', Inv X pins σ H s' → Q r s') :
    wpAny (model X.prog X.w) A (call (.builtin "dict.pop") [.ref a, u, r]) Q E s := by
  obtain ⟨z, hd, vs, rel, dd⟩ := dk_of I.hok e
  have hn : valueAt vs k = none := RelO.none_of (by rw [← l]; exact rel.val k)
  have hp : (keyPart u).isSome = true := by
    cases k with
    | inl i => obtain ⟨t, q⟩ := (show ∃ t, u = Value.int i t from ry); subst q; rfl
    | inr x => obtain ⟨t, q⟩ := (show ∃ t, u = Value.str x t from ry); subst q; rfl
  exact call_meetsIn PySem.F.slot_dict_pop dd.typeIs PySem.F.entry_dict_pop (PySem.F.args_dict_pop_3 _ _ _) (meets_dict_pop_default (mixKind X.prog X.w) a (kV_is ry) hd hp r) ⟨vs, dd, hn, h _ (I.tok _)⟩
/-- d.clear() -/
theorem d_clear {Q : Value → Shared → Prop} (I : Inv X pins σ H s) (e : H a = some (.dK kvs)) (h : ∀ s', Inv X pins σ (upd H a (.dK [])) s' → Q .none s') : wpAny (model X.prog X.w) A (call (.builtin "dict.clear") [.ref a]) Q E s := by
  obtain ⟨z, hd, vs, rel, dd⟩ := dk_of I.hok e
  refine call_meetsIn PySem.F.slot_dict_clear dd.typeIs PySem.F.entry_dict_clear (PySem.F.args_dict_clear_1 _) (meets_dict_clear (mixKind X.prog X.w) a) ⟨vs, dd, by rw [← rel.length]; exact z, fun h' dd' hs => h _ ?_⟩
  have he : ∃ q, h'.get? a = some q := let ⟨q, _, _, hq, _⟩ := dd'; ⟨q, hq⟩
  exact d_write (t' := s.toks) I (by rw [e]; exact True.intro) hs he (dk_new (Nat.zero_le _) hd .nil dd')
/-- len(d) -/
theorem d_len {Q : Value → Shared → Prop} (I : Inv X pins σ H s) (e : Rd H a (.dK kvs)) (h : ∀ t s', Inv X pins σ H s' → Q (.int kvs.length t) s') : wpAny (model X.prog X.w) A (call (.builtin "len") [.ref a]) Q E s := by
  obtain ⟨z, hd, vs, rel, dd⟩ := dk_rd I.hok e
  refine call_len_dict hd dd (by rw [← rel.length]; rw [sizeLine_eq] at z; omega) ?_
  rw [← rel.length]
  exact h _ _ (I.tok _)
/-- if d -/
theorem d_truth {Q : Bool → Shared → Prop} (I : Inv X pins σ H s) (e : Rd H a (.dK kvs)) (h : ∀ s', Inv X pins σ H s' → Q (!kvs.isEmpty) s') : wpAny (model X.prog X.w) A (truthy (.ref a)) Q E s := by
  obtain ⟨z, hd, vs, rel, dd⟩ := dk_rd I.hok e
  refine wpAny_truthy_dict hd dd (by rw [← rel.length]; rw [sizeLine_eq] at z; omega) ?_
  have q : kvs.isEmpty = vs.isEmpty := by cases rel <;> rfl
  rw [← q]
  exact h _ (I.tok _)
end


/-! ### readings and rules -/
/-- the element of a subscription, not a slice -/
def NoSl (i : Expr) : Prop := ∀ ov iv, subscripted i false ov iv = operate [ov, iv] (getItem ov iv)
theorem subD_of {prog : Program} {w : World} {A : Around} {E : Value → Shared → Prop} {s : Shared} {env : Env} {value slice : Expr} {pos : Pos} {T id : String} {Q : Value → Shared → Prop}
    (hl : typeLookup (.type T) "__getitem__" = pure (some (.builtin id))) (hs : NoSl slice)
    (h : wpAny (model prog w) A (eval value env) (fun o s₁ => wpAny (model prog w) A (eval slice env) (fun i s₂ => s₂.TypeIs o T ∧ wpAny (model prog w) A (getItem o i) Q E s₂) E s₁) E s) :
    wpAny (model prog w) A (eval (.Subscript value slice pos) env) Q E s := by
  refine Subscript_ (wpAny_mono h (fun o s₁ h₁ => wpAny_mono h₁ (fun i s₂ h₂ => ?_) fun _ _ x => x) fun _ _ x => x)
  obtain ⟨hT, h₂⟩ := h₂
  unfold subscriptTail
  refine wpAny_bind ?_
  rw [getitemInPython_of_ne hT.not_modules]
  refine wpAny_bind (wpAny_specialOf hT hl ?_)
  have fin : wpAny (model prog w) A (subscripted slice false o i) (fun r s₃ => wpAny (model prog w) A (letTemporaryGo value o r >>= fun _ => pure r) Q E s₃) E s₂ := by
    rw [hs o i]
    exact wpAny_operating (wpAny_mono h₂ (fun r s₃ h₃ => wpAny_bind (wpAny_letTemporaryGo (wpAny_pure h₃))) fun _ _ x => x)
  first
    | exact wpAny_pure (wpAny_bind fin)
    | exact wpAny_bind (wpAny_pure (wpAny_bind fin))
    | exact wpAny_bind fin

theorem dict_typeIs {X : Cx} {pins : List (Addr × Obj)} {σ : St} {H : Hp} {s : Shared} {a : Addr} {y : V} {o : Option V} (I : Inv X pins σ H s) (g : DGet H a y o) : s.TypeIs (.ref a) "dict" := by
  rcases g with ⟨kvs, k, e, _, _⟩ | ⟨kvs, k, b, e, _, _, _⟩
  · obtain ⟨_, _, vs, _, dd⟩ := dk_rd I.hok e
    exact dd.typeIs
  · obtain ⟨_, _, xs, _, dd⟩ := dt_rd I.hok e
    exact dd.typeIs
theorem dict_noDict {X : Cx} {pins : List (Addr × Obj)} {σ : St} {H : Hp} {s : Shared} {a : Addr} {y : V} {o : Option V} (I : Inv X pins σ H s) (g : DGet H a y o) :
    ∀ b, Value.ref a = .ref b → ∃ ob, s.heap.get? b = some ob ∧ ob.dict = none := fun b q => by
  cases q
  rcases g with ⟨kvs, k, e, _, _⟩ | ⟨kvs, k, b, e, _, _, _⟩
  · obtain ⟨_, _, vs, _, ob, _, _, h1, h2, _⟩ := dk_rd I.hok e
    exact ⟨ob, h1, h2.2.1⟩
  · obtain ⟨_, _, xs, _, ob, _, _, h1, h2, _⟩ := dt_rd I.hok e
    exact ⟨ob, h1, h2.2.1⟩

/-- d[y] -/
def tDGet (td ty : TE) : TE := fun σ H Q => td σ H fun x H1 => ty σ H1 fun y H2 => ∃ a v, x = .ref a ∧ DGet H2 a y (some v) ∧ Q v H2
/-- y in d, y not in d -/
def tDIn (ty td : TE) : TE := fun σ H Q => ty σ H fun y H1 => td σ H1 fun x H2 => ∃ a o, x = .ref a ∧ DGet H2 a y o ∧ Q (.bl o.isSome) H2
def tDNotIn (ty td : TE) : TE := fun σ H Q => ty σ H fun y H1 => td σ H1 fun x H2 => ∃ a o, x = .ref a ∧ DGet H2 a y o ∧ Q (.bl (!o.isSome)) H2
/-- d[y] = v -/
def sDPut (td ty tv : TE) : TS := fun D σ H => tv σ H fun v H1 => td σ H1 fun x H2 => ty σ H2 fun y H3 => ∃ a H4, x = .ref a ∧ DPut H3 a y v H4 ∧ D.nx σ H4
/-- d[y] op= v -/
def sDAug (td ty tv : TE) (rd : V → V → Hp → VK → Prop) : TS := fun D σ H => td σ H fun x H1 => ty σ H1 fun y H2 => ∃ a v, x = .ref a ∧ DGet H2 a y (some v) ∧
  tv σ H2 fun y2 H3 => rd v y2 H3 fun z H4 => ∃ H5, DPut H4 a y z H5 ∧ D.nx σ H5
/-- del d[y] -/
def sDDel (td ty : TE) : TS := fun D σ H => td σ H fun x H1 => ty σ H1 fun y H2 => ∃ a kvs k, x = .ref a ∧ H2 a = some (.dK kvs) ∧ y = kV k ∧ (valV kvs k).isSome = true ∧ D.nx σ (upd H2 a (.dK (dropK kvs k)))

section
variable {X : Cx} {o i e value : Expr} {pos pos' tpos : Pos} {td ty tv : TE}
theorem pe_dget (hu : X.A.units + 1 < cLine) (ho : PE X o td) (hi : PE X i ty) (hs : NoSl i) : PE X (.Subscript o i pos) (tDGet td ty) := by
  intro pins s σ H Q I h
  refine subD_of PySem.F.slot_dict_getitem.lookup hs (thn (ho pins s σ H _ I h) fun u s1 ⟨x, H1, I1, rx, q1⟩ => thn (hi pins s1 σ H1 _ I1 q1) fun iv s2 ⟨y, H2, I2, ry, a, v, ex, g, q2⟩ => ?_)
  subst ex
  obtain rfl : u = Value.ref a := rx
  exact ⟨dict_typeIs I2 g, d_getItem hu I2 g ry fun w' s3 I3 rw' => ⟨v, H2, I3, rw', q2⟩⟩
theorem pc_din (hu : X.A.units + 1 < cLine) (hi : PE X i ty) (ho : PE X o td) : PC X .In i o (tDIn ty td) := by
  intro pins s σ H Q I h
  refine thn (hi pins s σ H _ I h) fun iv s1 ⟨y, H1, I1, ry, q1⟩ => thn (ho pins s1 σ H1 _ I1 q1) fun u s2 ⟨x, H2, I2, rx, a, ov, ex, g, q2⟩ => ?_
  subst ex
  obtain rfl : u = Value.ref a := rx
  exact d_in hu I2 g ry fun s3 I3 => ⟨.bl ov.isSome, H2, I3, rfl, q2⟩
theorem pc_dnotin (hu : X.A.units + 1 < cLine) (hi : PE X i ty) (ho : PE X o td) : PC X .NotIn i o (tDNotIn ty td) := by
  intro pins s σ H Q I h
  refine thn (hi pins s σ H _ I h) fun iv s1 ⟨y, H1, I1, ry, q1⟩ => thn (ho pins s1 σ H1 _ I1 q1) fun u s2 ⟨x, H2, I2, rx, a, ov, ex, g, q2⟩ => ?_
  subst ex
  obtain rfl : u = Value.ref a := rx
  exact d_notIn hu I2 g ry fun s3 I3 => ⟨.bl (!ov.isSome), H2, I3, rfl, q2⟩
theorem ps_dput (hu : X.A.units + 1 < cLine) (ho : PE X o td) (hi : PE X i ty) (hv : PE X value tv) (hs : swapsWith value (some (.Subscript o i pos')) pos.line X.env = pure false) :
    PS X (.Assign [.Subscript o i pos'] value pos) (sDPut td ty tv) := by
  intro pins s σ H D I h
  refine wpAny_Assign_Subscript (thn (hv pins s σ H _ I h) fun r s1 ⟨v, H1, I1, rv, q1⟩ => thn (ho pins s1 σ H1 _ I1 q1) fun u s2 ⟨x, H2, I2, rx, q2⟩ => thn (hi pins s2 σ H2 _ I2 q2) fun iv s3 ⟨y, H3, I3, ry, a, H4, ex, g, q3⟩ => ?_) hs
  subst ex
  obtain rfl : u = Value.ref a := rx
  exact d_setItem hu I3 g ry rv fun s4 I4 => ⟨σ, H4, I4, q3⟩
theorem ps_daug {op : Operator} {rd : V → V → Hp → VK → Prop} (hu : X.A.units + 1 < cLine) (ho : PE X o td) (hi : PE X i ty) (hv : PE X value tv) (hop : InOp X op rd)
    (ha : ∀ ov iv new, augStore i ov iv new = (do holding [new, ov, iv] (setItem ov iv new); release [new, ov, iv] []; pure .next)) : PS X (.AugAssign (.Subscript o i tpos) op value pos) (sDAug td ty tv rd) := by
  intro pins s σ H D I h
  refine wpAny_AugAssign_SubscriptAny (thn (ho pins s σ H _ I h) fun u s1 ⟨x, H1, I1, rx, q1⟩ => thn (hi pins s1 σ H1 _ I1 q1) fun iv s2 ⟨y, H2, I2, ry, a, v, ex, g, q2⟩ => ?_) ha
  subst ex
  obtain rfl : u = Value.ref a := rx
  refine d_getItem hu I2 g ry fun w' s3 I3 rw' => thn (hv pins s3 σ H2 _ I3 q2) fun w2 s4 ⟨y2, H3, I4, ry2, q3⟩ => thn (hop pins s4 σ H3 v y2 w' w2 _ I4 rw' ry2 q3) fun w3 s5 ⟨z, H4, I5, rz, H5, g5, q4⟩ => ?_
  exact d_setItem hu I5 g5 ry rz fun s6 I6 => ⟨σ, H5, I6, q4⟩
theorem ps_ddel (ho : PE X o td) (hi : PE X i ty) : PS X (.Delete [.Subscript o i tpos] pos) (sDDel td ty) := by
  intro pins s σ H D I h
  refine wpAny_Delete (wpAny_deleteEach_cons (wpAny_delete_Subscript (thn (ho pins s σ H _ I h) fun u s1 ⟨x, H1, I1, rx, q1⟩ => thn (hi pins s1 σ H1 _ I1 q1) fun iv s2 ⟨y, H2, I2, ry, a, kvs, k, ex, e, ey, l, q2⟩ => ?_)))
  subst ex ey
  obtain rfl : u = Value.ref a := rx
  exact d_delItem I2 e ry l fun s3 I3 => wpAny_deleteEach_nil ⟨σ, _, I3, q2⟩
end


/-! ### displays -/
theorem dk_empty {P : Program} {w : World} {H : Hp} (h : Heap) (hb : sysModules < h.objs.size) : ObjOk P w H (h.push { cls := .type "dict", data := .dict #[] }) h.objs.size (.dK []) :=
  ⟨Nat.zero_le _, beq_eq_false_iff_ne.mpr (Ne.symm (Nat.ne_of_lt hb)), [], .nil, Heap.DictOf.new h⟩
theorem dt_empty {P : Program} {w : World} {H : Hp} (h : Heap) (hb : sysModules < h.objs.size) : ObjOk P w H (h.push { cls := .type "dict", data := .dict #[] }) h.objs.size (.dT []) :=
  ⟨Nat.zero_le _, beq_eq_false_iff_ne.mpr (Ne.symm (Nat.ne_of_lt hb)), [], .nil, _, #[], 0, Heap.get?_push_size _ rfl, ⟨rfl, rfl, rfl⟩, rfl, rfl, List.nodup_nil⟩
/-- {}, to be a dict of the kind that is wanted -/
def tDNewK : TE := fun _ H Q => ∀ p, H p = none → Q (.ref p) (upd H p (.dK []))
def tDNewT : TE := fun _ H Q => ∀ p, H p = none → Q (.ref p) (upd H p (.dT []))
section
variable {X : Cx} {pos : Pos}
theorem pe_dnewK : PE X (.Dict [] [] pos) tDNewK := fun pins s σ H Q I h =>
  wpAny_Dict_empty ⟨.ref s.heap.objs.size, _, I.laid (a := s.heap.objs.size) (o := .dK []) (t' := s.toks) (fun _ _ q => Heap.get?_push_of_some _ q) (Nat.le_refl _) (dk_empty s.heap I.big), rfl, h _ (I.hok.fresh (Nat.le_refl _))⟩
theorem pe_dnewT : PE X (.Dict [] [] pos) tDNewT := fun pins s σ H Q I h =>
  wpAny_Dict_empty ⟨.ref s.heap.objs.size, _, I.laid (a := s.heap.objs.size) (o := .dT []) (t' := s.toks) (fun _ _ q => Heap.get?_push_of_some _ q) (Nat.le_refl _) (dt_empty s.heap I.big), rfl, h _ (I.hok.fresh (Nat.le_refl _))⟩
end

/-- the pairs of a display, from the left -/
def tPairs : List (TE × TE) → St → Hp → (List (V × V) → Hp → Prop) → Prop
  | [], _, H, Q => Q [] H
  | (tk, tv) :: r, σ, H, Q => tk σ H fun x H1 => tv σ H1 fun y H2 => tPairs r σ H2 fun ps H3 => Q ((x, y) :: ps) H3
abbrev VV : List (V × V) → List (Value × Value) → Prop := Paired fun p q => RelV p.1 q.1 ∧ RelV p.2 q.2
def PPs (X : Cx) (pos : Pos) (keys : List (Option Expr)) (values : List Expr) (trs : List (TE × TE)) : Prop :=
  ∀ (pins : List (Addr × Obj)) (s : Shared) (σ : St) (H : Hp) (Q : List (V × V) → Hp → Prop), Inv X pins σ H s → tPairs trs σ H Q →
    wpAny (model X.prog X.w) X.A (evalPairs (pairTrees keys values X.env pos)) (fun vs s' => ∃ ps H', Inv X pins σ H' s' ∧ VV ps vs ∧ Q ps H') X.xe s
theorem pps_nil {X : Cx} {pos : Pos} : PPs X pos [] [] [] := fun pins s σ H Q I h => pairTrees_nil_walk ⟨[], H, I, .nil, h⟩
theorem pps_cons {X : Cx} {pos : Pos} {k v : Expr} {ks : List (Option Expr)} {vs : List Expr} {tk tv : TE} {trs : List (TE × TE)} (hk : PE X k tk) (hv : PE X v tv) (hr : PPs X pos ks vs trs) :
    PPs X pos (some k :: ks) (v :: vs) ((tk, tv) :: trs) := fun pins s σ H Q I h =>
  pairTrees_cons_walk (thn (hk pins s σ H _ I h) fun u s1 ⟨x, H1, I1, rx, q1⟩ => thn (hv pins s1 σ H1 _ I1 q1) fun w2 s2 ⟨y, H2, I2, ry, q2⟩ =>
    thn (hr pins s2 σ H2 _ I2 q2) fun ws s3 ⟨ps, H3, I3, rel, q3⟩ => ⟨(x, y) :: ps, H3, I3, .cons ⟨rx, ry⟩ rel, q3⟩)

def mergeK (kvs more : List (Key × V)) : List (Key × V) := more.foldl (fun acc kv => putK acc kv.1 kv.2) kvs
theorem KV.merge : ∀ {more : List (Key × V)} {rs : List (Key × Value)} {kvs : List (Key × V)} {vs : List (Key × Value)}, KV more rs → KV kvs vs → KV (mergeK kvs more) (merged vs rs) := by
  intro more rs kvs vs r
  unfold KV at r
  induction r generalizing kvs vs with
  | nil => intro q; exact q
  | @cons p q ps qs h t ih =>
    intro r0
    have e : KV (putK kvs p.1 p.2) (stored vs q.1 q.2) := by
      have := r0.put p.1 h.2
      rw [← h.1]; exact this
    exact ih e
theorem length_mergeK : ∀ (more kvs : List (Key × V)), (mergeK kvs more).length ≤ kvs.length + more.length
  | [], kvs => by show kvs.length ≤ kvs.length + 0; omega
  | p :: r, kvs => by
    have h1 := length_mergeK r (putK kvs p.1 p.2)
    have h2 := length_putK kvs p.1 p.2
    show (mergeK (putK kvs p.1 p.2) r).length ≤ _
    rw [List.length_cons]; omega
theorem carries_of {P : Program} {w : World} : ∀ {kvs : List (Key × V)} {ws : List (Value × Value)}, VV (kvs.map fun kv => (kV kv.1, kv.2)) ws → ∃ rs, Carries (mixKind P w) ws rs ∧ KV kvs rs
  | [], _, r => by rw [List.map_nil] at r; cases r; exact ⟨[], True.intro, .nil⟩
  | p :: kvs, _, r => by
    rw [List.map_cons] at r
    cases r with
    | @cons a b as bs h t =>
      obtain ⟨rs, c, q⟩ := carries_of (P := P) (w := w) t
      obtain ⟨b1, b2⟩ := b
      exact ⟨(p.1, b2) :: rs, ⟨kV_is h.1, rfl, c⟩, .cons ⟨rfl, h.2⟩ q⟩
/-- {k: v, ..} with keys ints and texts; the new dict stands empty while the pairs are made -/
def tDisp (trs : List (TE × TE)) : TE := fun σ H Q => ∀ p, H p = none → tPairs trs σ (upd H p (.dK [])) fun ps H2 => H2 p = some (.dK []) ∧ ∃ kvs : List (Key × V), ps = kvs.map (fun kv => (kV kv.1, kv.2)) ∧ kvs.length ≤ 15 ∧ Q (.ref p) (upd H2 p (.dK (mergeK [] kvs)))
theorem pe_disp {X : Cx} {pos : Pos} {keys : List (Option Expr)} {values : List Expr} {trs : List (TE × TE)} (h : PPs X pos keys values trs) (hall : keys.all (·.isSome) = true) (hl : keys.length = values.length) (h0 : keys ≠ [])
    (h15 : keys.length ≤ 15) : PE X (.Dict keys values pos) (tDisp trs) := by
  intro pins s σ H Q I q
  have hn := I.hok.fresh (Nat.le_refl s.heap.objs.size)
  have I1 := I.laid (a := s.heap.objs.size) (o := .dK []) (h' := s.heap.push { cls := .type "dict", data := .dict #[] }) (t' := s.toks) (fun _ _ q => Heap.get?_push_of_some _ q) (Nat.le_refl _) (dk_empty s.heap I.big)
  refine wpAny_Dict_walk (knd := mixKind X.prog X.w) hall hl h0 h15 (thn (h pins _ σ _ _ I1 (q _ hn)) fun ws s2 ⟨ps, H2, I2, rel, e, kvs, ep, lk, q2⟩ => ?_)
  subst ep
  obtain ⟨rs, c, rk⟩ := carries_of (P := X.prog) (w := X.w) rel
  obtain ⟨z, hd, vs0, r0, dd⟩ := dk_of I2.hok e
  cases r0
  refine ⟨rs, c, dd, fun h' dd' hs => ⟨.ref s.heap.objs.size, _, ?_, rfl, q2⟩⟩
  have hz : (mergeK [] kvs).length ≤ sizeLine := by
    have h1 := length_mergeK kvs []
    rw [List.length_nil] at h1
    rw [sizeLine_eq]; omega
  have he : ∃ q, h'.get? s.heap.objs.size = some q := let ⟨q, _, _, hq, _⟩ := dd'; ⟨q, hq⟩
  exact d_write I2 (by rw [e]; exact True.intro) hs he (dk_new hz hd (rk.merge .nil) dd')


/-! ### methods -/
/-- a method call o.m(e) of a built-in, with one argument: what must be seen of the text -/
structure M1 (X : Cx) (o : Expr) (m : Str) (apos : Pos) (e : Expr) (cpos : Pos) : Prop where
  base : attributeBase o m X.env (eval o X.env) = eval o X.env
  few : ((backTo cpos (starEach [e] X.env)).all (fun x => !x.1) && (backToKw cpos (keywordEach [] X.env)).all (fun x => x.1.isSome)
    && decide (([e] : List Expr).length + ([] : List Keyword).length + (if ([] : List Keyword).isEmpty then 0 else 1) < 30)) = true
  line : (apos.endLine == cpos.line) = true
  trees : backTo cpos (starEach [e] X.env) = [(false, eval e X.env)]
structure M2 (X : Cx) (o : Expr) (m : Str) (apos : Pos) (e f : Expr) (cpos : Pos) : Prop where
  base : attributeBase o m X.env (eval o X.env) = eval o X.env
  few : ((backTo cpos (starEach [e, f] X.env)).all (fun x => !x.1) && (backToKw cpos (keywordEach [] X.env)).all (fun x => x.1.isSome)
    && decide (([e, f] : List Expr).length + ([] : List Keyword).length + (if ([] : List Keyword).isEmpty then 0 else 1) < 30)) = true
  line : (apos.endLine == cpos.line) = true
  trees : backTo cpos (starEach [e, f] X.env) = [(false, eval e X.env), (false, eval f X.env)]

/-- a is a dict, whatever its keys -/
def IsD (H : Hp) (a : Addr) : Prop := (∃ kvs, Rd H a (.dK kvs)) ∨ ∃ kvs, Rd H a (.dT kvs)
theorem isD_at {X : Cx} {pins : List (Addr × Obj)} {σ : St} {H : Hp} {s : Shared} {a : Addr} (I : Inv X pins σ H s) (d : IsD H a) :
    s.TypeIs (.ref a) "dict" ∧ (∀ b, Value.ref a = .ref b → ∃ ob, s.heap.get? b = some ob ∧ ob.dict = none) ∧ (a == sysModules) = false := by
  rcases d with ⟨kvs, e⟩ | ⟨kvs, e⟩
  · obtain ⟨_, hd, vs, _, dd⟩ := dk_rd I.hok e
    refine ⟨dd.typeIs, fun b q => ?_, hd⟩
    cases q
    obtain ⟨ob, _, _, h1, h2, _⟩ := dd
    exact ⟨ob, h1, h2.2.1⟩
  · obtain ⟨_, hd, xs, _, dd⟩ := dt_rd I.hok e
    refine ⟨dd.typeIs, fun b q => ?_, hd⟩
    cases q
    obtain ⟨ob, _, _, h1, h2, _⟩ := dd
    exact ⟨ob, h1, h2.2.1⟩

section
variable {X : Cx} {pins : List (Addr × Obj)} {σ : St} {H : Hp} {s : Shared} {a : Addr} {y d : V} {u r : Value} {o : Option V} {A : Around} {E : Value → Shared → Prop}
/-- d.get(y) -/
theorem d_get1 {Q : Value → Shared → Prop} (hu : A.units + 1 < cLine) (I : Inv X pins σ H s) (g : DGet H a y o) (ry : RelV y u) (h : ∀ w' s', Inv X pins σ H s' → RelV (o.getD .non) w' → Q w' s') :
    wpAny (model X.prog X.w) A (call (.builtin "dict.get") [.ref a, u]) Q E s := by
  rcases g with ⟨kvs, k, e, ey, l⟩ | ⟨kvs, k, b, e, ey, eb, l⟩
  · subst ey
    obtain ⟨z, hd, vs, rel, dd⟩ := dk_rd I.hok e
    refine call_meetsIn PySem.F.slot_dict_get dd.typeIs PySem.F.entry_dict_get (PySem.F.args_dict_get_2 _ _) (meets_dict_get (mixKind X.prog X.w) a (kV_is ry) hd) ⟨_, dd.mapOf, h _ _ (I.tok _) ?_⟩
    rw [l]
    exact (rel.val k).getD rfl
  · subst ey
    cases (show u = Value.ref b from ry)
    obtain ⟨z, hd, xs, rel, dd⟩ := dt_rd I.hok e
    refine call_meetsIn PySem.F.slot_dict_get dd.typeIs PySem.F.entry_dict_get (PySem.F.args_dict_get_2 _ _) (meetsH_dict_get (tupleKind (mixKind X.prog X.w)) a b hd) ⟨tupleKind_room_in1 hu, k, xs, key_of I.hok eb, dd, h _ _ (I.tok _) ?_⟩
    rw [l]
    exact (rel.val k).getD rfl
/-- d.get(y, x) -/
theorem d_get2 {Q : Value → Shared → Prop} (hu : A.units + 1 < cLine) (I : Inv X pins σ H s) (g : DGet H a y o) (ry : RelV y u) (rd : RelV d r) (h : ∀ w' s', Inv X pins σ H s' → RelV (o.getD d) w' → Q w' s') :
    wpAny (model X.prog X.w) A (call (.builtin "dict.get") [.ref a, u, r]) Q E s := by
  rcases g with ⟨kvs, k, e, ey, l⟩ | ⟨kvs, k, b, e, ey, eb, l⟩
  · subst ey
    obtain ⟨z, hd, vs, rel, dd⟩ := dk_rd I.hok e
    refine call_meetsIn PySem.F.slot_dict_get dd.typeIs PySem.F.entry_dict_get (PySem.F.args_dict_get_3 _ _ _) (meets_dict_get_default (mixKind X.prog X.w) a (kV_is ry) hd r) ⟨_, dd.mapOf, h _ _ (I.tok _) ?_⟩
    rw [l]
    exact (rel.val k).getD rd
  · subst ey
    cases (show u = Value.ref b from ry)
    obtain ⟨z, hd, xs, rel, dd⟩ := dt_rd I.hok e
    refine call_meetsIn PySem.F.slot_dict_get dd.typeIs PySem.F.entry_dict_get (PySem.F.args_dict_get_3 _ _ _) (meetsH_dict_get_default (tupleKind (mixKind X.prog X.w)) a b hd r) ⟨tupleKind_room_in1 hu, k, xs, key_of I.hok eb, dd, h _ _ (I.tok _) ?_⟩
    rw [l]
    exact (rel.val k).getD rd
end

def tDGet1 (td ty : TE) : TE := fun σ H Q => td σ H fun x H1 => ∃ a, x = .ref a ∧ IsD H1 a ∧ ty σ H1 fun y H2 => ∃ o, DGet H2 a y o ∧ Q (o.getD .non) H2
def tDGet2 (td ty tx : TE) : TE := fun σ H Q => td σ H fun x H1 => ∃ a, x = .ref a ∧ IsD H1 a ∧ ty σ H1 fun y H2 => tx σ H2 fun z H3 => ∃ o, DGet H3 a y o ∧ Q (o.getD z) H3
/-- d.pop(k): there; d.pop(k, x): there or not -/
def tDPop1 (td ty : TE) : TE := fun σ H Q => td σ H fun x H1 => ∃ a, x = .ref a ∧ IsD H1 a ∧ ty σ H1 fun y H2 => ∃ kvs k v, H2 a = some (.dK kvs) ∧ y = kV k ∧ valV kvs k = some v ∧ Q v (upd H2 a (.dK (dropK kvs k)))
def tDPop2 (td ty tx : TE) : TE := fun σ H Q => td σ H fun x H1 => ∃ a, x = .ref a ∧ IsD H1 a ∧ ty σ H1 fun y H2 => tx σ H2 fun z H3 => ∃ kvs k, H3 a = some (.dK kvs) ∧ y = kV k ∧
  (∀ v, valV kvs k = some v → Q v (upd H3 a (.dK (dropK kvs k)))) ∧ (valV kvs k = none → Q z H3)
section
variable {X : Cx} {o e f : Expr} {apos cpos : Pos} {td ty tx : TE}
theorem pe_dget1 (hu : X.A.units + 1 < cLine) (ho : PE X o td) (he : PE X e ty) (m : M1 X o "get" apos e cpos) : PE X (.Call (.Attribute o "get" apos) [e] [] cpos) (tDGet1 td ty) := by
  intro pins s σ H Q I h
  refine wpAny_Call_method m.base m.few m.line PySem.F.plainAttrs_dict PySem.F.slot_dict_get PySem.F.type_dict_get (thn (ho pins s σ H _ I h) fun u s1 ⟨x, H1, I1, rx, a, ex, d, q1⟩ => ?_)
  subst ex
  obtain rfl : u = Value.ref a := rx
  obtain ⟨t1, t2, _⟩ := isD_at I1 d
  refine ⟨t1, t2, ?_⟩
  rw [m.trees]
  refine Calls.callWith_builtin rfl (Calls.evalArgs_plain (Calls.spliced_cons (thn (he pins s1 σ H1 _ I1 q1) fun iv s2 ⟨y, H2, I2, ry, ov, g, q2⟩ => Calls.spliced_nil ?_)))
  exact d_get1 hu I2 g ry fun w' s3 I3 rw' => ⟨_, H2, I3, rw', q2⟩
theorem pe_dget2 (hu : X.A.units + 1 < cLine) (ho : PE X o td) (he : PE X e ty) (hf : PE X f tx) (m : M2 X o "get" apos e f cpos) : PE X (.Call (.Attribute o "get" apos) [e, f] [] cpos) (tDGet2 td ty tx) := by
  intro pins s σ H Q I h
  refine wpAny_Call_method m.base m.few m.line PySem.F.plainAttrs_dict PySem.F.slot_dict_get PySem.F.type_dict_get (thn (ho pins s σ H _ I h) fun u s1 ⟨x, H1, I1, rx, a, ex, d, q1⟩ => ?_)
  subst ex
  obtain rfl : u = Value.ref a := rx
  obtain ⟨t1, t2, _⟩ := isD_at I1 d
  refine ⟨t1, t2, ?_⟩
  rw [m.trees]
  refine Calls.callWith_builtin rfl (Calls.evalArgs_plain (Calls.spliced_cons (thn (he pins s1 σ H1 _ I1 q1) fun iv s2 ⟨y, H2, I2, ry, q2⟩ =>
    Calls.spliced_cons (thn (hf pins s2 σ H2 _ I2 q2) fun fv s3 ⟨z, H3, I3, rz, ov, g, q3⟩ => Calls.spliced_nil ?_))))
  exact d_get2 hu I3 g ry rz fun w' s4 I4 rw' => ⟨_, H3, I4, rw', q3⟩
theorem pe_dpop1 (ho : PE X o td) (he : PE X e ty) (m : M1 X o "pop" apos e cpos) : PE X (.Call (.Attribute o "pop" apos) [e] [] cpos) (tDPop1 td ty) := by
  intro pins s σ H Q I h
  refine wpAny_Call_method m.base m.few m.line PySem.F.plainAttrs_dict PySem.F.slot_dict_pop PySem.F.type_dict_pop (thn (ho pins s σ H _ I h) fun u s1 ⟨x, H1, I1, rx, a, ex, d, q1⟩ => ?_)
  subst ex
  obtain rfl : u = Value.ref a := rx
  obtain ⟨t1, t2, _⟩ := isD_at I1 d
  refine ⟨t1, t2, ?_⟩
  rw [m.trees]
  refine Calls.callWith_builtin rfl (Calls.evalArgs_plain (Calls.spliced_cons (thn (he pins s1 σ H1 _ I1 q1) fun iv s2 ⟨y, H2, I2, ry, kvs, k, v, ea, ey, l, q2⟩ => Calls.spliced_nil ?_)))
  subst ey
  exact d_pop I2 ea ry l (.inl rfl) fun w' s3 I3 rw' => ⟨v, _, I3, rw', q2⟩
theorem pe_dpop2 (ho : PE X o td) (he : PE X e ty) (hf : PE X f tx) (m : M2 X o "pop" apos e f cpos) : PE X (.Call (.Attribute o "pop" apos) [e, f] [] cpos) (tDPop2 td ty tx) := by
  intro pins s σ H Q I h
  refine wpAny_Call_method m.base m.few m.line PySem.F.plainAttrs_dict PySem.F.slot_dict_pop PySem.F.type_dict_pop (thn (ho pins s σ H _ I h) fun u s1 ⟨x, H1, I1, rx, a, ex, d, q1⟩ => ?_)
  subst ex
  obtain rfl : u = Value.ref a := rx
  obtain ⟨t1, t2, _⟩ := isD_at I1 d
  refine ⟨t1, t2, ?_⟩
  rw [m.trees]
  refine Calls.callWith_builtin rfl (Calls.evalArgs_plain (Calls.spliced_cons (thn (he pins s1 σ H1 _ I1 q1) fun iv s2 ⟨y, H2, I2, ry, q2⟩ =>
    Calls.spliced_cons (thn (hf pins s2 σ H2 _ I2 q2) fun fv s3 ⟨z, H3, I3, rz, kvs, k, ea, ey, q3, q4⟩ => Calls.spliced_nil ?_))))
  subst ey
  cases l : valV kvs k with
  | some v => exact d_pop I3 ea ry l (.inr ⟨fv, rfl⟩) fun w' s4 I4 rw' => ⟨v, _, I4, rw', q3 v l⟩
  | none => exact d_popD I3 ea ry l fun s4 I4 => ⟨z, H3, I4, rz, q4 l⟩
end

/-! ### dict(d): a copy -/
section
variable {X : Cx} {pins : List (Addr × Obj)} {σ : St} {H : Hp} {s : Shared} {a : Addr} {kvs : List (Key × V)} {A : Around} {E : Value → Shared → Prop}
theorem d_copyOf {Q : Value → Shared → Prop} (I : Inv X pins σ H s) (e : Rd H a (.dK kvs)) (h : ∀ p s', H p = none → Inv X pins σ (upd H p (.dK kvs)) s' → Q (.ref p) s') : wpAny (model X.prog X.w) A (call (.type "dict") [.ref a]) Q E s := by
  obtain ⟨z, hd, vs, rel, dd⟩ := dk_rd I.hok e
  refine kt_call_dict hd dd (by rw [← rel.length]; exact z) fun h' dd' hs => ?_
  refine h _ _ (I.hok.fresh (Nat.le_refl _)) (I.laid (a := s.heap.objs.size) (o := .dK kvs) (t' := s.toks) (fun b q hq => ?_) (Nat.le_refl _) (dk_new z (beq_eq_false_iff_ne.mpr (Ne.symm (Nat.ne_of_lt I.big))) rel dd'))
  exact (hs.2 b (Nat.ne_of_lt (Heap.lt_size hq))).trans (Heap.get?_push_of_some _ hq)
end


section
variable {X : Cx} {pins : List (Addr × Obj)} {σ : St} {H : Hp} {s : Shared} {a : Addr} {y : V} {u : Value} {A : Around} {E : Value → Shared → Prop}
/-- d[y], not there: a KeyError -/
theorem d_missing {Q : Value → Shared → Prop} (hu : A.units + 1 < cLine) (hh : A.handled = none) (I : Inv X pins σ H s) (g : DGet H a y none) (ry : RelV y u)
    (h : ∀ h' e t', Heap.NewExc s.heap h' e "KeyError" → E (.ref e) { s with heap := h', toks := t' }) : wpAny (model X.prog X.w) A (getItem (.ref a) u) Q E s := by
  rcases g with ⟨kvs, k, e, ey, l⟩ | ⟨kvs, k, b, e, ey, eb, l⟩
  · subst ey
    obtain ⟨z, hd, vs, rel, dd⟩ := dk_rd I.hok e
    have hn : valueAt vs k = none := RelO.none_of (by rw [l]; exact rel.val k)
    exact wpAny_getItem_missing_of (kV_is ry) hd hh dd.mapOf hn fun h' ex ne => h h' ex _ ne
  · subst ey
    cases (show u = Value.ref b from ry)
    obtain ⟨z, hd, xs, rel, dd⟩ := dt_rd I.hok e
    have hn : (atKey xs k).map (·.2) = none := RelO.none_of (by rw [l]; exact rel.val k)
    exact wpAny_getItem_missing_heap (tupleKind_room_in1 hu) (key_of I.hok eb) hd hh dd (Option.map_eq_none_iff.mp hn) fun h' ex ne => h h' ex _ ne
end
end L2
namespace L2
open PySem PySem.Spec PyProof.Rows
section
variable {X : Cx}
theorem call_lenD : CallR X (.builtin "len") (fun xs H Q => ∃ a kvs, xs = [V.ref a] ∧ H a = some (.dK kvs) ∧ Q (.int kvs.length) H) := by
  intro pins s σ H xs us Q I r h
  obtain ⟨a, kvs, rfl, ha, q⟩ := h
  obtain ⟨u, rfl, ru⟩ := vals1 r
  cases ru
  exact d_len I (.inl ha) fun t s' I' => ⟨.int kvs.length, H, I', ⟨t, rfl⟩, q⟩
end
/-! ### a dict's pairs: keys that differ -/
section
variable {κ : Type} [DecidableEq κ]
theorem valV_not {kvs : List (κ × V)} {k : κ} (h : valV kvs k = none) : ¬ k ∈ kvs.map (·.1) := by
  intro m
  obtain ⟨p, hp, e⟩ := List.mem_map.mp m
  have q : (kvs.any fun kv => decide (kv.1 = k)) = true := List.any_eq_true.mpr ⟨p, hp, decide_eq_true e⟩
  rw [valV_any, h] at q
  exact absurd q (by simp)
theorem valV_in {kvs : List (κ × V)} {k : κ} {v : V} (h : valV kvs k = some v) : k ∈ kvs.map (·.1) := by
  have q : (kvs.any fun kv => decide (kv.1 = k)) = true := by
    rw [valV_any, h]
    all_goals rfl
  obtain ⟨p, hp, e⟩ := List.any_eq_true.mp q
  exact List.mem_map.mpr ⟨p, hp, of_decide_eq_true e⟩
theorem nd_snoc : ∀ {l : List κ} {k : κ}, l.Nodup → ¬ k ∈ l → (l ++ [k]).Nodup
  | [], k, _, _ => by simp
  | a :: r, k, h, hk => by
    obtain ⟨h1, h2⟩ := List.nodup_cons.mp h
    show (a :: (r ++ [k])).Nodup
    refine List.nodup_cons.mpr ⟨fun m => ?_, nd_snoc h2 fun m => hk (List.mem_cons.mpr (Or.inr m))⟩
    rcases List.mem_append.mp m with q | q
    · exact h1 q
    · exact hk (List.mem_cons.mpr (Or.inl (List.mem_singleton.mp q).symm))
theorem nd_putK {kvs : List (κ × V)} {k : κ} (v : V) (hn : (kvs.map (·.1)).Nodup) (h : valV kvs k = none) : ((putK kvs k v).map (·.1)).Nodup := by
  rw [putK_new v h, List.map_append]
  exact nd_snoc hn (valV_not h)
theorem dropK_pos {p : κ × V} {r : List (κ × V)} {k : κ} (e : p.1 = k) : dropK (p :: r) k = dropK r k := by
  unfold dropK
  rw [List.filter_cons, if_neg (by simp [e])]
theorem dropK_neg {p : κ × V} {r : List (κ × V)} {k : κ} (e : ¬ p.1 = k) : dropK (p :: r) k = p :: dropK r k := by
  unfold dropK
  rw [List.filter_cons, if_pos (by simp [e])]
theorem dropK_no : ∀ {kvs : List (κ × V)} {k : κ}, ¬ k ∈ kvs.map (·.1) → dropK kvs k = kvs
  | [], _, _ => rfl
  | p :: r, k, h => by
    have h' : ¬ k ∈ r.map (·.1) := fun m => by
      obtain ⟨q, hq, e⟩ := List.mem_map.mp m
      exact h (List.mem_map.mpr ⟨q, List.mem_cons.mpr (Or.inr hq), e⟩)
    rw [dropK_neg fun e => h (List.mem_map.mpr ⟨p, List.mem_cons.mpr (Or.inl rfl), e⟩), dropK_no h']
theorem dropK_mem {kvs : List (κ × V)} {k : κ} {p : κ × V} (h : p ∈ dropK kvs k) : p ∈ kvs := (List.mem_filter.mp h).1
theorem nd_dropK : ∀ {kvs : List (κ × V)} {k : κ}, (kvs.map (·.1)).Nodup → ((dropK kvs k).map (·.1)).Nodup
  | [], _, _ => List.nodup_nil
  | p :: r, k, h => by
    have h : (p.1 :: r.map (·.1)).Nodup := h
    obtain ⟨h1, h2⟩ := List.nodup_cons.mp h
    by_cases e : p.1 = k
    · rw [dropK_pos e]
      exact nd_dropK h2
    · rw [dropK_neg e]
      show (p.1 :: (dropK r k).map (·.1)).Nodup
      refine List.nodup_cons.mpr ⟨fun m => h1 ?_, nd_dropK h2⟩
      obtain ⟨q, hq, eq⟩ := List.mem_map.mp m
      exact List.mem_map.mpr ⟨q, dropK_mem hq, eq⟩
theorem dropK_len : ∀ {kvs : List (κ × V)} {k : κ}, (kvs.map (·.1)).Nodup → k ∈ kvs.map (·.1) → (dropK kvs k).length + 1 = kvs.length
  | [], _, _, m => by simp at m
  | p :: r, k, h, m => by
    have h : (p.1 :: r.map (·.1)).Nodup := h
    have m : k = p.1 ∨ k ∈ r.map (·.1) := List.mem_cons.mp m
    obtain ⟨h1, h2⟩ := List.nodup_cons.mp h
    by_cases e : p.1 = k
    · subst e
      rw [dropK_pos rfl, dropK_no h1]
      all_goals rfl
    · have m' : k ∈ r.map (·.1) := m.resolve_left fun z => e z.symm
      have q := dropK_len h2 m'
      rw [dropK_neg e, List.length_cons, List.length_cons]
      omega
end
end L2


set_option Elab.async false
set_option linter.all false
set_option maxRecDepth 100000
namespace L2
open PySem PySem.Spec PyProof.Rows

/-! ### closures of comprehensions -/
def closL (cells : List (Str × Addr)) : List (Str × NameKind) → List (Str × Addr) → List (Str × Addr)
  | [], acc => acc
  | (n, k) :: r, acc => if k == .free then closL cells r ((n, (cells.lookup n).getD 0) :: acc) else closL cells r acc

theorem clos_forIn (env : Env) (f : Str × NameKind → List (Str × Addr) → Sem (ForInStep (List (Str × Addr))))
    (hf : ∀ n k cs, f (n, k) cs = if k == .free then (do let a ← cellOf env n; pure (.yield ((n, a) :: cs))) else pure (.yield cs)) :
    ∀ (names : List (Str × NameKind)) (acc : List (Str × Addr)), (∀ x ∈ names, x.2 = .free → ∃ c, env.cells.lookup x.1 = some c) → forIn names acc f = pure (closL env.cells names acc)
  | [], acc, _ => by rw [List.forIn_nil]; rfl
  | (n, k) :: r, acc, h => by
    have ih := clos_forIn env f hf r
    rw [List.forIn_cons, hf]
    unfold closL
    by_cases hk : (k == NameKind.free) = true
    · rw [if_pos hk, if_pos hk]
      obtain ⟨c, hc⟩ := h (n, k) List.mem_cons_self (by simpa using hk)
      have e : cellOf env n = pure c := by unfold cellOf; rw [hc]
      rw [e, hc]
      exact ih _ fun x hx => h x (List.mem_cons_of_mem _ hx)
    · rw [if_neg hk, if_neg hk]
      exact ih _ fun x hx => h x (List.mem_cons_of_mem _ hx)

theorem closureFor_eq {scope : Scope} {env : Env} (h : ∀ x ∈ scope.names, x.2 = .free → ∃ c, env.cells.lookup x.1 = some c) : closureFor scope env = pure (closL env.cells scope.names []) := by
  simp only [closureFor]
  rw [clos_forIn env _ (fun n k cs => by cases hk : k == NameKind.free <;> simp [hk]) scope.names [] h]
  rfl

theorem closL_mem {cells : List (Str × Addr)} : ∀ {names : List (Str × NameKind)} {acc : List (Str × Addr)} {x : Str} {c : Addr}, (x, c) ∈ closL cells names acc → (x, c) ∈ acc ∨ ((x, NameKind.free) ∈ names ∧ c = (cells.lookup x).getD 0)
  | [], acc, x, c, h => .inl h
  | (n, k) :: r, acc, x, c, h => by
    unfold closL at h
    by_cases hk : (k == NameKind.free) = true
    · rw [if_pos hk] at h
      rcases closL_mem h with q | ⟨q, e⟩
      · rcases List.mem_cons.mp q with z | z
        · cases z
          exact .inr ⟨by rw [show NameKind.free = k from (by simpa using hk : k = NameKind.free).symm]; exact List.mem_cons_self, rfl⟩
        · exact .inl z
      · exact .inr ⟨List.mem_cons_of_mem _ q, e⟩
    · rw [if_neg hk] at h
      rcases closL_mem h with q | ⟨q, e⟩
      · exact .inl q
      · exact .inr ⟨List.mem_cons_of_mem _ q, e⟩
theorem lookup_cons_some {α : Type} {x n : Str} {c : α} {l : List (Str × α)} (h : (l.lookup x).isSome = true) : (((n, c) :: l).lookup x).isSome = true := by
  rw [List.lookup_cons]
  cases x == n <;> simp [h]
theorem closL_some {cells : List (Str × Addr)} {x : Str} : ∀ {names : List (Str × NameKind)} {acc : List (Str × Addr)}, ((x, NameKind.free) ∈ names ∨ (acc.lookup x).isSome = true) → ((closL cells names acc).lookup x).isSome = true
  | [], acc, h => by
    rcases h with h | h
    · cases h
    · exact h
  | (n, k) :: r, acc, h => by
    unfold closL
    by_cases hk : (k == NameKind.free) = true
    · rw [if_pos hk]
      refine closL_some ?_
      rcases h with h | h
      · rcases List.mem_cons.mp h with z | z
        · cases z; exact .inr (by rw [List.lookup_cons]; simp)
        · exact .inl z
      · exact .inr (lookup_cons_some h)
    · rw [if_neg hk]
      refine closL_some ?_
      rcases h with h | h
      · rcases List.mem_cons.mp h with z | z
        · cases z; exact absurd rfl hk
        · exact .inl z
      · exact .inr h
theorem cellsFrom_mem : ∀ {names : List (Str × NameKind)} {n : Nat} {acc : List (Str × Addr)} {x : Str} {c : Addr}, (x, c) ∈ cellsFrom n names acc → (x, c) ∈ acc ∨ (x, NameKind.cell) ∈ names
  | [], _, _, _, _, h => .inl h
  | (y, k) :: r, n, acc, x, c, h => by
    unfold cellsFrom at h
    by_cases hk : (k == NameKind.cell) = true
    · rw [if_pos hk] at h
      rcases cellsFrom_mem h with q | q
      · rcases List.mem_cons.mp q with z | z
        · cases z
          exact .inr (by rw [show NameKind.cell = k from (by simpa using hk : k = NameKind.cell).symm]; exact List.mem_cons_self)
        · exact .inl z
      · exact .inr (List.mem_cons_of_mem _ q)
    · rw [if_neg hk] at h
      rcases cellsFrom_mem h with q | q
      · exact .inl q
      · exact .inr (List.mem_cons_of_mem _ q)
/-- the new cells stand at the heap's end, those handed in stay apart -/
structure CellsTwo (h : Heap) (lo : Nat) (acc cs : List (Str × Addr)) : Prop where
  part : ∀ x c, (x, c) ∈ cs → (x, c) ∈ acc ∨ (h.IsCell c none ∧ lo ≤ c)
  inj : ∀ x y c, lo ≤ c → (x, c) ∈ cs → (y, c) ∈ cs → x = y
theorem cellsFrom_two {acc0 : List (Str × Addr)} : ∀ (names : List (Str × NameKind)) (h : Heap) (lo : Nat) (acc : List (Str × Addr)), CellsTwo h lo acc0 acc → (∀ x c, (x, c) ∈ acc → c < h.objs.size) → lo ≤ h.objs.size →
    CellsTwo (pushCells h names) lo acc0 (cellsFrom h.objs.size names acc)
  | [], _, _, _, x, _, _ => x
  | (name, kind) :: r, h, lo, acc, x, hl, hlo => by
    unfold pushCells cellsFrom
    split
    · have := cellsFrom_two (acc0 := acc0) r (h.push { cls := .type "cell", data := .cell none }) lo ((name, h.objs.size) :: acc)
        ⟨fun n c hm => by
            rcases List.mem_cons.mp hm with e | hm
            · cases e; exact .inr ⟨⟨_, Heap.get?_push_size _ rfl, rfl⟩, hlo⟩
            · rcases x.part n c hm with q | q
              · exact .inl q
              · exact .inr ⟨q.1.keeps fun b o e => Heap.get?_push_of_some _ e, q.2⟩,
          fun a b c hc h1 h2 => by
            rcases List.mem_cons.mp h1 with e1 | h1 <;> rcases List.mem_cons.mp h2 with e2 | h2
            · cases e1; cases e2; rfl
            · cases e1; exact absurd (hl _ _ h2) (Nat.lt_irrefl _)
            · cases e2; exact absurd (hl _ _ h1) (Nat.lt_irrefl _)
            · exact x.inj a b c hc h1 h2⟩
        (fun n c hm => by
          rw [Heap.size_push]
          rcases List.mem_cons.mp hm with e | hm
          · cases e; exact Nat.lt_succ_self _
          · exact Nat.lt_succ_of_lt (hl n c hm)) (by rw [Heap.size_push]; omega)
      rwa [Heap.size_push] at this
    · exact cellsFrom_two r h lo acc x hl hlo

/-- the comprehension's own environment -/
def cenvOf (env : Env) (scope : Scope) (C : Addr) : Env :=
  { scope := relabel scope env, locals := C, globals := env.globals, cells := cellsFrom (C + 1) scope.names (closL env.cells scope.names []), qual := env.qual, func := none, code := env.code, frame := env.frame, builtins := env.builtins }

theorem wpAny_compEnv {M : Model} {A : Around} {E : Value → Shared → Prop} {s : Shared} {scope : Scope} {env : Env} {cl : List (Str × Addr)} {Q : Env → Shared → Prop}
    (hQ : Q { scope := scope, locals := s.heap.objs.size, globals := env.globals, cells := cellsFrom (s.heap.objs.size + 1) scope.names cl, qual := env.qual, func := none, code := env.code, frame := env.frame, builtins := env.builtins }
      { s with heap := pushCells (s.heap.push { cls := .type "dict", data := .dict #[] }) scope.names }) :
    wpAny M A (newFunctionEnv scope env.globals cl [] env.qual none .none (some env)) Q E s := by
  simp only [newFunctionEnv, Option.isSome_some, if_true]
  refine wpAny_bind (wpAny_alloc ?_)
  refine wpAny_bind (wpAny_layCells _ (fun name kind cells => by cases hkc : kind == NameKind.cell <;> simp [hkc]) _ _ _ _ ?_)
  rw [show ({ s with heap := s.heap.push { cls := .type "dict", data := .dict #[] } } : Shared).heap.objs.size = s.heap.objs.size + 1 from Heap.size_push ..]
  rw [List.forIn_nil]
  exact wpAny_bind (wpAny_pure (wpAny_pure hQ))

/-! ### one turn -/
theorem compLoop_any {prog : Program} {w : World} {A : Around} {R : Result → Shared → Prop} {s : Shared} {elt target iter : Expr} {ifs : List Expr} {scope : Scope} {pos : Pos} {it acc : Value} {env : Env} (I : Nat → Shared → Prop)
    (turn : ∀ n s, I n s → wpAny (model prog w) A (pyNext it) (fun r s₁ => match r with
      | none => R (.ok .next) s₁
      | some v => wpAny (model prog w) A (letOwnedTupleGo target it v) (fun _ s₁' => wpAny (model prog w) A (assign target env v) (fun _ s₂ =>
          wpAny (model prog w) A (forIn ifs true fun c r => if r = true then do let ok ← isTrue c env (eval c env); pure (ForInStep.yield ok) else pure (ForInStep.yield r)) (fun ok s₃ =>
            if ok = true then wpAny (model prog w) A (eval elt env) (fun x s₄ =>
              wpAny (model prog w) A (call (.builtin "list.append") [acc, x]) (fun _ s₅ => ∃ m, m < n ∧ I m s₅) (fun _ _ => False) s₄) (fun _ _ => False) s₃
            else ∃ m, m < n ∧ I m s₃) (fun _ _ => False) s₂) (fun _ _ => False) s₁') (fun _ _ => False) s₁) (fun _ _ => False) s)
    (n : Nat) (h : I n s) :
    codeAny (model prog w) A (.compLoop (.ListComp elt [⟨target, iter, ifs, 0⟩] scope pos) 0 it acc env) R s := by
  refine codeAny_loop rfl I (fun n s hI => ?_) n h
  show wpAny _ A ((compTurn (.ListComp elt [⟨target, iter, ifs, 0⟩] scope pos) 0 it acc env).onRaise (fun x => do noteFrame x env; theTreesLotGoes x)) _ _ s
  refine wpAny_noted ?_
  rw [compTurn_list]
  refine wpAny_bind (wpAny_standAt (wpAny_bind (wpAny_mono (turn n s hI) (fun r s₁ h₁ => ?_) fun _ _ h' => h'.elim)))
  cases r with
  | none => exact wpAny_pure h₁
  | some v =>
    refine wpAny_bind (wpAny_mono h₁ (fun _ s₁' h₁ => ?_) fun _ _ h' => h'.elim)
    refine wpAny_bind (wpAny_mono h₁ (fun _ s₂ h₂ => wpAny_bind (wpAny_mono h₂ (fun ok s₃ h₃ => ?_) fun _ _ h' => h'.elim)) fun _ _ h' => h'.elim)
    cases ok with
    | false => exact wpAny_pure ⟨rfl, h₃⟩
    | true =>
      exact wpAny_bind (wpAny_bind (wpAny_mono h₃ (fun x s₄ h₄ => wpAny_bind (wpAny_mono h₄ (fun _ s₅ h₅ => wpAny_pure (wpAny_pure ⟨rfl, h₅⟩)) fun _ _ h' => h'.elim)) fun _ _ h' => h'.elim))
end L2

set_option Elab.async false
set_option linter.all false
set_option maxRecDepth 100000
namespace L2
open PySem PySem.Spec PyProof.Rows

/-! ### the comprehension's context -/
def relab (scope sc : Scope) : Scope :=
  { scope with names := scope.names.map fun (n, k) => if (k == .free && sc.kind == .function && sc.names.lookup n == some .cell) then (n, .cell) else (n, k) }
theorem relabel_eq (scope : Scope) (env : Env) : relabel scope env = relab scope env.scope := rfl

def cmpOf (X : Cx) (scope : Scope) (N' : List Str) (C : Addr) (s : Shared) (H : Hp) (fp : List Addr) : Cx :=
  { X with N := N', s₀ := s, H₀ := H, env := cenvOf X.env scope C, outer := X.stack, stack := X.stack, ex := fp, fn := fun x => !(scope.names.lookup x == some .free), pn := [], xe := fun _ _ => False }

def subσ (sub : List (Option Nat)) (σ : St) : St := sub.map fun o => o.bind fun i => (σ[i]?).join

/-- what a comprehension's scope must be, beside the scope around it -/
def cmpOkB (N : List Str) (sc : Scope) (N' : List Str) (scope : Scope) (sub : List (Option Nat)) : Bool :=
  scope.kind == .function && decide ((scope.names.map (·.1)).Nodup) && decide N'.Nodup && sub.length == N'.length &&
  (scope.names.all fun x => !(x.2 == .free) || sc.names.lookup x.1 == some .cell || sc.names.lookup x.1 == some .free) &&
  ((sub.zip N').all fun p => match p.1 with
    | none => true
    | some i => N[i]? == some p.2 && scope.names.lookup p.2 == some .free)
structure CmpOk (N : List Str) (sc : Scope) (N' : List Str) (scope : Scope) (sub : List (Option Nat)) : Prop where
  kind : scope.kind = .function
  nd : (scope.names.map (·.1)).Nodup
  nd' : N'.Nodup
  len : sub.length = N'.length
  free : ∀ x ∈ scope.names, x.2 = .free → sc.names.lookup x.1 = some .cell ∨ sc.names.lookup x.1 = some .free
  sub : ∀ (j i : Nat) (x : Str), sub[j]? = some (some i) → N'[j]? = some x → N[i]? = some x ∧ scope.names.lookup x = some .free
theorem CmpOk.of {N : List Str} {sc : Scope} {N' : List Str} {scope : Scope} {sub : List (Option Nat)} (h : cmpOkB N sc N' scope sub = true) : CmpOk N sc N' scope sub := by
  unfold cmpOkB at h
  simp only [Bool.and_eq_true] at h
  obtain ⟨⟨⟨⟨⟨h1, h2⟩, h3⟩, h4⟩, h5⟩, h6⟩ := h
  refine ⟨by simpa using h1, of_decide_eq_true h2, of_decide_eq_true h3, by simpa using h4, fun x hx hf => ?_, fun j i x hj hx => ?_⟩
  · have q := List.all_eq_true.mp h5 x hx
    rw [hf] at q
    simp only [beq_self_eq_true, Bool.not_true, Bool.false_or, Bool.or_eq_true] at q
    rcases q with q | q
    · exact .inl (by simpa using q)
    · exact .inr (by simpa using q)
  · have q := List.all_eq_true.mp h6 (some i, x) (by
      refine List.mem_of_getElem? (i := j) ?_
      rw [List.getElem?_zip_eq_some]
      exact ⟨hj, hx⟩)
    simp only [Bool.and_eq_true] at q
    exact ⟨by simpa using q.1, by simpa using q.2⟩

theorem lookup_mem_nd {α : Type} : ∀ {l : List (Str × α)} {x : Str} {c : α}, (l.map (·.1)).Nodup → (x, c) ∈ l → l.lookup x = some c
  | (y, d) :: r, x, c, nd, h => by
    rw [List.lookup_cons]
    rcases List.mem_cons.mp h with e | h
    · cases e; simp
    · have ne : x ≠ y := fun e => by
        rw [List.map_cons] at nd
        exact (List.nodup_cons.mp nd).1 (by rw [← e]; exact List.mem_map.mpr ⟨(x, c), h, rfl⟩)
      rw [show (x == y) = false from by simpa using ne]
      exact lookup_mem_nd (List.nodup_cons.mp nd).2 h

theorem lookup_relab {sc : Scope} : ∀ {names : List (Str × NameKind)} {x : Str},
    ((names.map fun (n, k) => if (k == NameKind.free && sc.kind == .function && sc.names.lookup n == some .cell) then (n, NameKind.cell) else (n, k)).lookup x) =
      (names.lookup x).map fun k => if (k == NameKind.free && sc.kind == .function && sc.names.lookup x == some .cell) then NameKind.cell else k
  | [], x => rfl
  | (n, k) :: r, x => by
    have ih := @lookup_relab sc r x
    rw [List.map_cons]
    show List.lookup x ((if (k == NameKind.free && sc.kind == .function && sc.names.lookup n == some .cell) = true then (n, NameKind.cell) else (n, k)) :: _) = _
    by_cases hc : (k == NameKind.free && sc.kind == .function && sc.names.lookup n == some .cell) = true
    · rw [if_pos hc, List.lookup_cons, List.lookup_cons]
      by_cases hx : x = n
      · subst hx
        rw [show (x == x) = true from beq_self_eq_true x]
        show some NameKind.cell = Option.map _ (some k)
        rw [Option.map_some, if_pos hc]
      · rw [show (x == n) = false by simpa using hx]
        exact ih
    · rw [if_neg hc, List.lookup_cons, List.lookup_cons]
      by_cases hx : x = n
      · subst hx
        rw [show (x == x) = true from beq_self_eq_true x]
        show some k = Option.map _ (some k)
        rw [Option.map_some, if_neg hc]
      · rw [show (x == n) = false by simpa using hx]
        exact ih

section
variable {X : Cx} {pins : List (Addr × Obj)} {σ : St} {H H' : Hp} {s : Shared}
theorem frs_sub_of (I : Inv X pins σ H s) {b : Addr} (hb : b ∈ frs X.stack) (n1 : b ≠ X.env.locals) : b ∈ X.fs := (List.mem_cons.mp (I.stkSub b hb)).elim (fun e => absurd e n1) id

theorem cells_facts {N' : List Str} {scope : Scope} {sub : List (Option Nat)} {h3 : Heap} (I : Inv X pins σ H s) (O : CmpOk X.N X.env.scope N' scope sub)
    (hk : ∀ b o, s.heap.get? b = some o → h3.get? b = some o) :
    (∀ x c, (cellsFrom (h3.objs.size + 1) scope.names (closL X.env.cells scope.names [])).lookup x = some c →
      (((pushCells (h3.push { cls := .type "dict", data := .dict #[] }) scope.names).IsCell c none ∧ h3.objs.size + 1 ≤ c ∧ (x, NameKind.cell) ∈ scope.names) ∨ ((x, NameKind.free) ∈ scope.names ∧ X.env.cells.lookup x = some c))) ∧
    (∀ x y c, (cellsFrom (h3.objs.size + 1) scope.names (closL X.env.cells scope.names [])).lookup x = some c → (cellsFrom (h3.objs.size + 1) scope.names (closL X.env.cells scope.names [])).lookup y = some c → x = y) := by
  have hin : ∀ x c, (x, c) ∈ closL X.env.cells scope.names [] → (x, NameKind.free) ∈ scope.names ∧ X.env.cells.lookup x = some c := fun x c h => by
    rcases closL_mem h with q | ⟨q, e⟩
    · cases q
    · have hx : ∃ c, X.env.cells.lookup x = some c := by
        refine I.ok.has x ?_
        rcases O.free _ q rfl with z | z
        · exact .inl z
        · exact .inr z
      obtain ⟨c', hc'⟩ := hx
      rw [hc'] at e
      exact ⟨q, by rw [hc', e]; rfl⟩
  have hlt : ∀ x c, (x, c) ∈ closL X.env.cells scope.names [] → c < h3.objs.size := fun x c h => by
    obtain ⟨v, o, ho, _⟩ := I.cell x c (hin x c h).2
    exact Heap.lt_size (hk _ _ ho)
  have two := cellsFrom_two (acc0 := closL X.env.cells scope.names []) scope.names (h3.push { cls := .type "dict", data := .dict #[] }) (h3.objs.size + 1) (closL X.env.cells scope.names [])
    ⟨fun x c h => .inl h, fun x y c hc h1 _ => absurd (hlt x c h1) (Nat.not_lt.mpr (Nat.le_of_succ_le hc))⟩ (fun x c h => by rw [Heap.size_push]; exact Nat.lt_succ_of_lt (hlt x c h)) (by rw [Heap.size_push]; exact Nat.le_refl _)
  rw [Heap.size_push] at two
  refine ⟨fun x c h => ?_, fun x y c h1 h2 => ?_⟩
  · have m := PySem.mem_of_lookup h
    rcases two.part x c m with q | q
    · exact .inr (hin x c q)
    · refine .inl ⟨q.1, q.2, ?_⟩
      rcases cellsFrom_mem m with z | z
      · exact absurd (hlt x c z) (Nat.not_lt.mpr (Nat.le_of_succ_le q.2))
      · exact z
  · have m1 := PySem.mem_of_lookup h1
    have m2 := PySem.mem_of_lookup h2
    by_cases hc : h3.objs.size + 1 ≤ c
    · exact two.inj x y c hc m1 m2
    · rcases two.part x c m1 with q1 | q1
      · rcases two.part y c m2 with q2 | q2
        · exact I.ok.inj x y c (hin x c q1).2 (hin y c q2).2
        · exact absurd q2.2 hc
      · exact absurd q1.2 hc

/-- the block begins: the iterator's objects fp, the list acc that grows, pinned -/
theorem inv_comp {N' : List Str} {scope : Scope} {sub : List (Option Nat)} {fp : List Addr} (I : Inv X pins σ H s) (O : CmpOk X.N X.env.scope N' scope sub) (hf : ∀ b ∈ fp, FpOk X pins H b)
    (hfl : ∀ b ∈ fp, b < s.heap.objs.size) :
    Inv (cmpOf X scope N' (s.heap.objs.size + 1) s H fp) [(s.heap.objs.size, { cls := .type "list", data := .seq #[] })] (subσ sub σ) H
      { s with heap := pushCells ((s.heap.push { cls := .type "list", data := .seq #[] }).push { cls := .type "dict", data := .dict #[] }) scope.names } := by
  have hk3 : ∀ b o, s.heap.get? b = some o → (s.heap.push { cls := .type "list", data := .seq #[] }).get? b = some o := fun b o e => Heap.get?_push_of_some _ e
  have sz3 : (s.heap.push { cls := .type "list", data := .seq #[] }).objs.size = s.heap.objs.size + 1 := Heap.size_push ..
  have hk : ∀ b o, s.heap.get? b = some o → (pushCells ((s.heap.push { cls := .type "list", data := .seq #[] }).push { cls := .type "dict", data := .dict #[] }) scope.names).get? b = some o :=
    fun b o e => pushCells_keeps _ _ b o (Heap.get?_push_of_some _ (hk3 b o e))
  have cf := cells_facts (h3 := s.heap.push { cls := .type "list", data := .seq #[] }) I O hk3
  rw [sz3] at cf
  have hC : H (s.heap.objs.size + 1) = none := I.hok.fresh (Nat.le_succ _)
  have nsC : (pushCells ((s.heap.push { cls := .type "list", data := .seq #[] }).push { cls := .type "dict", data := .dict #[] }) scope.names).Ns (s.heap.objs.size + 1) (fun _ => none) := by
    rw [← sz3]
    exact (Heap.Ns.new _ _).keeps (pushCells_keeps _ _)
  have has : ∀ x, (scope.names.lookup x = some .cell ∨ scope.names.lookup x = some .free) → ∃ c, (cellsFrom (s.heap.objs.size + 1 + 1) scope.names (closL X.env.cells scope.names [])).lookup x = some c := fun x hx => by
    refine Option.isSome_iff_exists.mp (PySem.W.cellsFrom_some _ _ _ ?_)
    rcases hx with z | z
    · exact .inl z
    · exact .inr (closL_some (.inl (PySem.mem_of_lookup z)))
  have kindB : ∀ x, (cenvOf X.env scope (s.heap.objs.size + 1)).kindOf x = (scope.names.lookup x).map fun k => if (k == NameKind.free && X.env.scope.kind == .function && X.env.scope.names.lookup x == some .cell) then NameKind.cell else k := fun x => lookup_relab
  have cellOk : ∀ x c, (cenvOf X.env scope (s.heap.objs.size + 1)).cells.lookup x = some c → ∃ v, (pushCells ((s.heap.push { cls := .type "list", data := .seq #[] }).push { cls := .type "dict", data := .dict #[] }) scope.names).IsCell c v := fun x c h => by
    rcases cf.1 x c h with q | q
    · exact ⟨_, q.1⟩
    · obtain ⟨v, z⟩ := I.cell x c q.2
      exact ⟨v, z.keeps hk⟩
  refine ⟨⟨I.ok.mod, O.kind, I.ok.glob, I.ok.blt, Nat.le_succ _, fun x y c h1 h2 => cf.2 x y c h1 h2, fun x hx => ?_, fun x c hx h => ?_, I.ok.hd, I.ok.frames, .inl rfl, fun b hb => ?_, fun b o e => I.bs b o e, Nat.le_trans I.ok.bsz I.sz, fun b o e hb => ?_, fun b hb => ?_, I.stack, I.stkFree⟩,
    rfl, I.bare, Un.kept hk, ⟨fun _ => none, nsC, fun i x v h1 h2 h3 => ?_⟩, cellOk, hC, fun x c h => ?_, fun p hp => ?_, I.hok.kept hk, ?_⟩
  · -- has
    refine has x ?_
    have hx : (cenvOf X.env scope (s.heap.objs.size + 1)).kindOf x = some .cell ∨ (cenvOf X.env scope (s.heap.objs.size + 1)).kindOf x = some .free := hx
    rw [kindB] at hx
    cases e : scope.names.lookup x with
    | none => rw [e] at hx; rcases hx with z | z <;> cases z
    | some k =>
      rw [e] at hx
      cases k with
      | cell => exact .inl rfl
      | free => exact .inr rfl
      | _ => exfalso; rcases hx with z | z <;> simp at z
  · -- cab
    rcases cf.1 x c h with q | q
    · have := q.2.1
      show s.heap.objs.size ≤ c
      omega
    · exfalso
      have e := lookup_mem_nd O.nd q.1
      have hx' : (!(scope.names.lookup x == some NameKind.free)) = true := hx
      rw [e] at hx'
      exact absurd hx' (by decide)
  · -- exf
    obtain ⟨f0, f1, f2, f3, f4, f5⟩ := hf b hb
    have lt := hfl b hb
    refine ⟨fun e => ?_, fun x c h e => ?_⟩
    · have e' : b = s.heap.objs.size + 1 := e
      rw [e'] at lt
      exact absurd lt (Nat.not_lt.mpr (Nat.le_succ _))
    · rcases cf.1 x c h with q | q
      · have z := q.2.1
        rw [e] at z
        exact absurd lt (Nat.not_lt.mpr (Nat.le_trans (Nat.le_trans (Nat.le_succ _) (Nat.le_succ _)) z))
      · exact f4 x c q.2 e
  · -- noex
    obtain ⟨f0, f1, f2, f3, f4, f5⟩ := hf b hb
    rcases f3 with z | z
    · exact I.ok.noex b o e z
    · exact absurd (Nat.lt_of_lt_of_le (Heap.lt_size (I.ok.bs b o e).1) z) (Nat.lt_irrefl _)
  · -- exfs
    obtain ⟨f0, f1, f2, f3, f4, f5⟩ := hf b hb
    exact fun z => f2 (frs_sub_of I z f1)
  · -- loc
    have h1' : N'[i]? = some x := h1
    have hsub : ∃ k, sub[i]? = some (some k) ∧ (σ[k]?).join = some v := by
      unfold subσ at h2
      rw [List.getElem?_map] at h2
      cases e : sub[i]? with
      | none => rw [e] at h2; cases h2
      | some o =>
        rw [e] at h2
        cases o with
        | none => cases h2
        | some k => exact ⟨k, rfl, by simpa using h2⟩
    obtain ⟨k, hk1, hk2⟩ := hsub
    obtain ⟨nk, fx⟩ := O.sub i k x hk1 h1'
    have sk : σ[k]? = some (some v) := by
      cases e : σ[k]? with
      | none => rw [e] at hk2; cases hk2
      | some o => rw [e] at hk2; cases o with
        | none => cases hk2
        | some y => cases hk2; rfl
    have cx := O.free _ (PySem.mem_of_lookup fx) rfl
    obtain ⟨m, hn, hl⟩ := I.loc
    obtain ⟨u, ru, lk⟩ := hl k x v nk sk (by
      rcases cx with z | z
      · exact .inr (.inl z)
      · exact .inr (.inr z))
    refine ⟨u, ru, .inr ⟨?_, ?_⟩⟩
    · show (cenvOf X.env scope (s.heap.objs.size + 1)).kindOf x = some .cell ∨ (cenvOf X.env scope (s.heap.objs.size + 1)).kindOf x = some .free
      rw [kindB, fx]
      by_cases hc : (NameKind.free == NameKind.free && X.env.scope.kind == .function && X.env.scope.names.lookup x == some .cell) = true
      · exact .inl (by rw [Option.map_some, if_pos hc])
      · exact .inr (by rw [Option.map_some, if_neg hc])
    · rcases lk with ⟨kl, _⟩ | ⟨_, c, hc, hcell⟩
      · exfalso
        have kl' : X.env.scope.names.lookup x = some .local := kl
        rcases cx with z | z <;> rw [kl'] at z <;> cases z
      · obtain ⟨c', hc'⟩ := has x (.inr fx)
        refine ⟨c', hc', ?_⟩
        rcases cf.1 x c' hc' with q | q
        · exfalso
          have e := lookup_mem_nd O.nd q.2.2
          rw [fx] at e; cases e
        · rw [hc] at q
          have e : c = c' := Option.some.inj q.2
          subst e
          exact hcell.keeps hk
  · -- freeC
    rcases cf.1 x c h with q | q
    · exact I.hok.fresh (by have := q.2.1; omega)
    · exact I.freeC x c q.2
  · -- pin
    have hp' : p = (s.heap.objs.size, ({ cls := .type "list", data := .seq #[] } : Obj)) := by
      have : p ∈ ([] ++ [(s.heap.objs.size, ({ cls := .type "list", data := .seq #[] } : Obj))] : List (Addr × Obj)) := hp
      simpa using this
    subst hp'
    refine ⟨pushCells_keeps _ _ _ _ (Heap.get?_push_of_some _ (Heap.get?_push_size _ rfl)), I.hok.fresh (Nat.le_refl _), Nat.ne_of_lt (Nat.lt_succ_self _), fun z => ?_, fun v z => ?_⟩
    · rcases List.mem_cons.mp (I.stkSub _ z) with e | e
      · exact absurd I.lt (by rw [← e]; exact Nat.lt_irrefl _)
      · exact I.nofs (Nat.le_refl _) e
    · cases z
  · -- len
    show (subσ sub σ).length = N'.length
    unfold subσ
    rw [List.length_map, O.len]
end
end L2

set_option Elab.async false
set_option linter.all false
set_option maxRecDepth 100000
namespace L2
open PySem PySem.Spec PyProof.Rows

def Sle (σ σ2 : St) : Prop := σ2.length = σ.length ∧ ∀ (i : Nat) (v : V), σ[i]? = some (some v) → σ2[i]? = some (some v)
theorem Sle.refl (σ : St) : Sle σ σ := ⟨rfl, fun _ _ h => h⟩
theorem Sle.set {σ σ2 : St} {i : Nat} (v : V) (h : Sle σ σ2) (hi : ∀ u, σ[i]? ≠ some (some u)) : Sle σ (σ2.set i (some v)) := by
  refine ⟨by rw [List.length_set]; exact h.1, fun j u hj => ?_⟩
  have ne : i ≠ j := fun e => hi u (by rw [e]; exact hj)
  rw [List.getElem?_set_ne ne]
  exact h.2 j u hj

def PTs (X : Cx) (ifs : List Expr) (t : TT) : Prop :=
  ∀ (pins : List (Addr × Obj)) (s : Shared) (σ : St) (H : Hp) (Q : Bool → Hp → Prop), Inv X pins σ H s → t σ H Q →
    wpAny (model X.prog X.w) X.A (forIn ifs true fun c r => if r = true then do let ok ← isTrue c X.env (eval c X.env); pure (ForInStep.yield ok) else pure (ForInStep.yield r)) (TP X pins σ Q) X.xe s
def tNoTest : TT := fun _ H Q => Q true H
theorem pts_nil {X : Cx} : PTs X [] tNoTest := fun pins s σ H Q I h => wpAny_tests_nil ⟨H, I, h⟩
theorem pts_one {X : Cx} {c : Expr} {t : TT} (h : PT X c t) : PTs X [c] t := fun pins s σ H Q I hw => wpAny_tests_one (h pins s σ H Q I hw)

/-- the turns of a comprehension: W by the turn, a measure, what has come so far -/
def cTurns (J : It) (σ0 : St) (g : TG) (tt : TT) (te : TE) (Q : List V → Hp → Prop) (H1 : Hp) : Prop :=
  ∃ W : Nat → Nat → List V → Hp → Prop, (∃ m, W 0 m [] H1) ∧ ∀ i m ys H, W i m ys H →
    (J.stop i H ∧ Q ys H) ∨
    (J.go i H ∧ ∀ x H', J.yld i H x H' → g x σ0 H' fun σ2 H2 => Sle σ0 σ2 ∧ tt σ2 H2 fun b H3 =>
      if b = true then te σ2 H3 (fun v H4 => ys.length < sizeLine ∧ ∃ m', m' < m ∧ W (i + 1) m' (ys ++ [v]) H4) else ∃ m', m' < m ∧ W (i + 1) m' ys H3)

section
variable {X : Cx} {pins : List (Addr × Obj)} {σ : St} {H : Hp} {s : Shared}

theorem Inv.pinNe (I : Inv X pins σ H s) {p : Addr × Obj} (hp : p ∈ pins) : H p.1 = none ∧ s.heap.get? p.1 = some p.2 := ⟨(I.pin p (List.mem_append_right _ hp)).2.1, (I.pin p (List.mem_append_right _ hp)).1⟩

theorem comp_core {target iter elt : Expr} {ifs : List Expr} {scope : Scope} {pos : Pos} {N' : List Str} {sub : List (Option Nat)} {J : It} {fp : List Addr} {it : Addr} {tn : Nat → Heap → Prop} {g : TG} {tt : TT} {te : TE}
    {Qe : List V → Hp → Prop} {E : Value → Shared → Prop} {RR : Value → Addr → Result → Shared → Prop}
    (hc : X.calm = true) (I : Inv X pins σ H s) (O : CmpOk X.N X.env.scope N' scope sub) (T : Turn X.prog X.w X.K target J fp it tn) (st : tn 0 s.heap) (hf : ∀ b ∈ fp, FpOk X pins H b)
    (B : ∀ C s H fp, PG (cmpOf X scope N' C s H fp) target g ∧ PTs (cmpOf X scope N' C s H fp) ifs tt ∧ PE (cmpOf X scope N' C s H fp) elt te)
    (rd : cTurns J (subσ sub σ) g tt te Qe H)
    (hRR : ∀ (acc C : Addr) (ys : List V) (H' : Hp) (s' : Shared), Inv X pins σ (upd H' acc (.lst ys)) s' → FpOk X pins (upd H' acc (.lst ys)) C → (∃ m, s'.heap.Ns C m) → H' acc = none → Qe ys H' → RR (.ref acc) C (.ok .next) s') :
    wpAny (model X.prog X.w) X.A (newList []) (fun acc s₃ => wpAny (model X.prog X.w) X.A (newFunctionEnv scope X.env.globals (closL X.env.cells scope.names []) [] X.env.qual none .none (some X.env)) (fun cenv s₄ =>
      codeAny (model X.prog X.w) X.A (.compStart (.ListComp elt [⟨target, iter, ifs, 0⟩] scope pos) 0 (.ref it) acc { cenv with scope := relabel scope X.env }) (RR acc cenv.locals) s₄) E s₃) E s := by
  refine wpAny_newObj_type (wpAny_compEnv ?_)
  have hfl : ∀ b ∈ fp, b < s.heap.objs.size := fun b hb => by
    obtain ⟨o, e, _⟩ := T.obj _ _ st b hb
    exact Heap.lt_size e
  have I0 := inv_comp (sub := sub) I O hf hfl
  have sz3 : (s.heap.push { cls := .type "list", data := .seq #[] }).objs.size = s.heap.objs.size + 1 := Heap.size_push ..
  dsimp only
  show codeAny _ _ (.compStart _ 0 (.ref it) (.ref s.heap.objs.size) { scope := relabel scope X.env, locals := (s.heap.push { cls := .type "list", data := .seq #[] }).objs.size, globals := X.env.globals, cells := cellsFrom ((s.heap.push { cls := .type "list", data := .seq #[] }).objs.size + 1) scope.names (closL X.env.cells scope.names []), qual := X.env.qual, func := none, code := X.env.code, frame := X.env.frame, builtins := X.env.builtins })
    (RR (.ref s.heap.objs.size) (s.heap.push { cls := .type "list", data := .seq #[] }).objs.size) { s with heap := pushCells ((s.heap.push { cls := .type "list", data := .seq #[] }).push { cls := .type "dict", data := .dict #[] }) scope.names }
  rw [sz3]
  show codeAny _ _ (.compStart _ 0 (.ref it) (.ref s.heap.objs.size) (cenvOf X.env scope (s.heap.objs.size + 1))) (RR (.ref s.heap.objs.size) (s.heap.objs.size + 1)) _
  generalize hs0 : ({ s with heap := pushCells ((s.heap.push { cls := .type "list", data := .seq #[] }).push { cls := .type "dict", data := .dict #[] }) scope.names } : Shared) = s0 at I0 ⊢
  have hk0 : ∀ b o, s.heap.get? b = some o → s0.heap.get? b = some o := fun b o e => by
    rw [← hs0]
    exact pushCells_keeps _ _ b o (Heap.get?_push_of_some _ (Heap.get?_push_of_some _ e))
  have st0 : tn 0 s0.heap := T.keep _ _ _ st fun b hb o e => hk0 b o e
  clear hs0 sz3
  generalize hX : cmpOf X scope N' (s.heap.objs.size + 1) s H fp = X' at I0
  have xp : X'.prog = X.prog := by rw [← hX]; rfl
  have xw : X'.w = X.w := by rw [← hX]; rfl
  have xK : X'.K = X.K := by rw [← hX]; rfl
  have xA : X'.A = X.A := by rw [← hX]; rfl
  have xc : X'.calm = true := by rw [← hX]; exact hc
  have xe : X'.env = cenvOf X.env scope (s.heap.objs.size + 1) := by rw [← hX]; rfl
  have xx : X'.ex = fp := by rw [← hX]; rfl
  have xo : X'.outer = X.stack := by rw [← hX]; rfl
  have xf : X'.fs = frs X.stack := by rw [← hX]; rfl
  have xpn : X'.pn = [] := by rw [← hX]; rfl
  have x0 : X'.s₀ = s := by rw [← hX]; rfl
  have xh : X'.H₀ = H := by rw [← hX]; rfl
  have xxe : X'.xe = fun _ _ => False := by rw [← hX]; rfl
  obtain ⟨hg, ht, he⟩ := B (s.heap.objs.size + 1) s H fp
  rw [hX] at hg ht he
  clear hX
  -- the iterator's objects through the block
  have stat : ∀ {pl : List (Addr × Obj)} {H' : Hp}, (∀ p ∈ pl, p.1 = s.heap.objs.size) → (∀ b ∈ fp, H' b = none) → ∀ b ∈ fp, FpOk X' pl H' b := fun {pl H'} hp hn b hb => by
    obtain ⟨f0, f1, f2, f3, f4, f5⟩ := hf b hb
    refine ⟨hn b hb, (I0.ok.exf b (by rw [xx]; exact hb)).1, I0.ok.exfs b (by rw [xx]; exact hb), .inl (by rw [xx]; exact hb), (I0.ok.exf b (by rw [xx]; exact hb)).2, fun p hp' => ?_⟩
    rw [xpn, List.nil_append] at hp'
    rw [hp p hp']
    exact Nat.ne_of_gt (hfl b hb)
  obtain ⟨W, ⟨m0, w0⟩, turn⟩ := rd
  have loop : ∀ s3 : Shared, s3 = s0 → codeAny (model X.prog X.w) X.A (.compLoop (.ListComp elt [⟨target, iter, ifs, 0⟩] scope pos) 0 (.ref it) (.ref s.heap.objs.size) (cenvOf X.env scope (s.heap.objs.size + 1))) (RR (.ref s.heap.objs.size) (s.heap.objs.size + 1)) s3 := by
    intro s3 e3
    refine compLoop_any (fun n s' => ∃ (i : Nat) (ys : List V) (H' : Hp) (its : List Value) (k : Nat), Inv X' [(s.heap.objs.size, { cls := .type "list", data := .seq its.toArray k })] (subσ sub σ) H' s' ∧ Vals ys its ∧ ys.length ≤ sizeLine ∧ tn i s'.heap ∧ (∀ b ∈ fp, H' b = none) ∧ W i n ys H') ?_ m0
      ⟨0, [], H, [], 0, by rw [e3]; exact I0, .nil, Nat.zero_le _, by rw [e3]; exact st0, fun b hb => (hf b hb).1, w0⟩
    rintro n s4 ⟨i, ys, H4, its, k, I4, rv, hz, st4, fr4, w4⟩
    have pe : ∀ p ∈ ([(s.heap.objs.size, ({ cls := .type "list", data := .seq its.toArray k } : Obj))] : List (Addr × Obj)), p.1 = s.heap.objs.size := fun p hp => by
      rw [List.mem_singleton] at hp
      rw [hp]
    rcases turn i n ys H4 w4 with ⟨stop, q⟩ | ⟨go, step⟩
    · -- the end
      have td := T.done X' xp xw xK xc i _ s4 (subσ sub σ) H4 (fun _ _ => False) I4 (stat pe fr4) st4 stop
      rw [xA] at td
      refine thn td fun r s5 ⟨hr, I5⟩ => ?_
      subst hr
      have pa := I5.pin (s.heap.objs.size, { cls := .type "list", data := .seq its.toArray k }) (by rw [xpn]; simp)
      have nacc : H4 s.heap.objs.size = none := pa.2.1
      have nC : H4 (s.heap.objs.size + 1) = none := by have z := I5.free; rw [xe] at z; exact z
      have un : Un (frs X.stack) fp H H4 s.heap s5.heap := by have z := I5.base; rw [xf, xx, xh, x0] at z; exact z
      have un2 : Un (frs X.stack) fp H (upd H4 s.heap.objs.size (.lst ys)) s.heap s5.heap := by
        refine ⟨un.keep, un.slot, fun b o e n hx => ?_, un.there, fun b xs e => ?_, fun b o u e => ?_, fun b ps e => ?_⟩
        · rw [upd_ne (Nat.ne_of_lt (Heap.lt_size e))]
          exact un.free b o e n hx
        · have z := un.tups b xs e
          rw [upd_ne (ne_of_none z nacc)]; exact z
        · have z := un.frzs b o u e
          rw [upd_ne (ne_of_none z nacc)]; exact z
        · obtain ⟨more, z⟩ := un.tbls b ps e
          exact ⟨more, by rw [upd_ne (ne_of_none z nacc)]; exact z⟩
      have hok5 : HOk X.prog X.w H4 s5.heap := by have z := I5.hok; rw [xp, xw] at z; exact z
      have hok2 : HOk X.prog X.w (upd H4 s.heap.objs.size (.lst ys)) s5.heap := fun b u e => by
        by_cases hb : b = s.heap.objs.size
        · subst hb
          rw [upd_same] at e
          cases e
          exact ⟨hz, its, k, rv, pa.1⟩
        · rw [upd_ne hb] at e
          exact (hok5 b u e).stay (fun _ _ _ q => q) (fun c q => by rw [upd_ne (ne_of_none q nacc)]; exact q) fun c xs q => by rw [upd_ne (ne_of_none q nacc)]; exact q
      have os5 : s5.os = s.os := by have z := I5.os; rw [x0] at z; exact z
      have J5 : Inv X pins σ (upd H4 s.heap.objs.size (.lst ys)) s5 := I.call' os5 un2 hok2 I5.bare fun b hb => by
        obtain ⟨f0, f1, f2, f3, f4, f5⟩ := hf b hb
        exact ⟨f3, f1, f4, f5⟩
      refine hRR _ _ ys H4 s5 J5 (I.fpOk (Nat.le_succ _) ?_) ?_ nacc q
      · rw [upd_ne (Nat.succ_ne_self _)]; exact nC
      · obtain ⟨m, hn, _⟩ := I5.loc
        rw [xe] at hn
        exact ⟨m, hn⟩
    · -- one turn
      have ti := T.item X' xp xw xK xc i _ s4 (subσ sub σ) H4 (fun _ _ => False) I4 (stat pe fr4) st4 go
      rw [xA] at ti
      refine thn ti fun r s5 ⟨u, hr, h5⟩ => ?_
      subst hr
      refine thn h5 fun _ s6 ⟨x, H6, I6, r6, y6, st6, fr6⟩ => ?_
      have I6' := I6.pinned (stat pe fr6) (T.obj _ _ st6)
      have tg := hg _ s6 (subσ sub σ) H6 x u _ I6' r6 (step x H6 y6)
      rw [xp, xw, xA, xe, xxe] at tg
      refine thn tg fun _ s7 ⟨σ7, H7, I7, le7, q7⟩ => ?_
      have tts := ht _ s7 σ7 H7 _ I7 q7
      rw [xp, xw, xA, xe, xxe] at tts
      refine thn tts fun b s8 ⟨H8, I8, q8⟩ => ?_
      cases b with
      | false =>
        rw [if_neg Bool.false_ne_true] at q8 ⊢
        obtain ⟨m', hm', w8⟩ := q8
        have I9 : Inv X' ([(s.heap.objs.size, { cls := .type "list", data := .seq its.toArray k })] ++ pinsAt fp s6.heap) (subσ sub σ) H8 s8 := I8.weak le7.1.symm le7.2
        refine ⟨m', hm', i + 1, ys, H8, its, k, I9.unpinned, rv, hz, T.keep _ _ _ st6 fun b hb o e => (I9.pin (b, o) (List.mem_append_right _ (List.mem_append_right _ (mem_pinsAt hb e)))).1, fun b hb => ?_, w8⟩
        obtain ⟨o, e, d⟩ := T.obj _ _ st6 b hb
        exact (I9.pin (b, o) (List.mem_append_right _ (List.mem_append_right _ (mem_pinsAt hb e)))).2.1
      | true =>
        rw [if_pos rfl] at q8 ⊢
        have tee := he _ s8 σ7 H8 _ I8 q8
        rw [xp, xw, xA, xe, xxe] at tee
        refine thn tee fun vv s9 ⟨v, H9, I9, r9, lz, m', hm', w9⟩ => ?_
        have I10 : Inv X' ([(s.heap.objs.size, { cls := .type "list", data := .seq its.toArray k })] ++ pinsAt fp s6.heap) (subσ sub σ) H9 s9 := I9.weak le7.1.symm le7.2
        have pa := I10.pin (s.heap.objs.size, { cls := .type "list", data := .seq its.toArray k }) (by rw [xpn]; simp)
        have hlen := rv.length
        refine wpAny_list_append_plain (items := its.toArray) ⟨k, pa.1⟩ (fun h' pl sb => ?_) (by rw [List.size_toArray]; omega)
        obtain ⟨k', pl⟩ := pl
        have keepIt : ∀ b ∈ fp, ∀ o, s6.heap.get? b = some o → h'.get? b = some o := fun b hb o e => by
          have nb : b ≠ s.heap.objs.size := Nat.ne_of_lt (hfl b hb)
          exact (sb.2 b nb).trans (I10.pin (b, o) (List.mem_append_right _ (List.mem_append_right _ (mem_pinsAt hb e)))).1
        have I11 : Inv X' [] (subσ sub σ) H9 s9 := I10.pins_of fun p hp => absurd hp (by simp)
        have sacc : s.heap.objs.size ≠ X'.env.locals := pa.2.2.1
        have I12 : Inv X' [] (subσ sub σ) H9 { s9 with heap := h' } := I11.turned (t' := s9.toks) (it := s.heap.objs.size) (fun b o hb e => (sb.2 b hb).trans e) pa.2.1 sacc (.inr (by rw [x0]; exact Nat.le_refl _))
          (fun y c hy z => by
            obtain ⟨w', o', ho', hd'⟩ := I10.cell y c hy
            rw [z, pa.1] at ho'
            have z2 := Option.some.inj ho'
            rw [← z2] at hd'
            cases hd') (fun p hp => absurd hp (by rw [xpn]; simp))
        refine ⟨m', hm', i + 1, ys ++ [v], H9, its ++ [vv], k', I12.pins_of (fun p hp => ?_), rv.append (.cons r9 .nil), by rw [List.length_append, List.length_singleton]; omega, T.keep _ _ _ st6 keepIt, fun b hb => ?_, w9⟩
        · rw [List.mem_singleton] at hp
          subst hp
          refine ⟨?_, pa.2.1, sacc, pa.2.2.2.1, fun v z => by cases z⟩
          show h'.get? s.heap.objs.size = _
          rw [pl]
          simp
        · obtain ⟨o, e, d⟩ := T.obj _ _ st6 b hb
          exact (I10.pin (b, o) (List.mem_append_right _ (List.mem_append_right _ (mem_pinsAt hb e)))).2.1
  exact codeAny_compStart_list (loop _ rfl) (T.self _ 0 _ _ _ st0 (loop _ rfl))
end
end L2

set_option Elab.async false
set_option linter.all false
set_option maxRecDepth 100000
namespace L2
open PySem PySem.Spec PyProof.Rows
def tComp (sub : List (Option Nat)) (wi : TI) (g : TG) (tt : TT) (te : TE) : TE := fun σ H Q => wi σ H fun J H1 =>
  cTurns J (subσ sub σ) g tt te (fun ys H' => ∀ r, H' r = none → Q (.ref r) (upd H' r (.lst ys))) H1

section
variable {X : Cx} {target iter elt : Expr} {ifs : List Expr} {scope : Scope} {pos : Pos} {N' : List Str} {sub : List (Option Nat)} {wi : TI} {g : TG} {tt : TT} {te : TE}
theorem clos_of {pins : List (Addr × Obj)} {σ : St} {H : Hp} {s : Shared} (I : Inv X pins σ H s) (O : CmpOk X.N X.env.scope N' scope sub) : closureFor scope X.env = pure (closL X.env.cells scope.names []) :=
  closureFor_eq fun x hx hf => I.ok.has x.1 (by rcases O.free x hx hf with z | z; exact .inl z; exact .inr z)
theorem names_of (O : CmpOk X.N X.env.scope N' scope sub) : ∀ y ∈ scope.names, y.2 = .local → scope.names.lookup y.1 = some .local := fun y hy e => by
  obtain ⟨n, k⟩ := y
  cases e
  exact lookup_mem_nd O.nd hy
/-- [elt for target in iter if ..] -/
theorem pe_comp (hc : X.calm = true) (O : CmpOk X.N X.env.scope N' scope sub) (hi : PI X target iter wi)
    (B : ∀ C s H fp, PG (cmpOf X scope N' C s H fp) target g ∧ PTs (cmpOf X scope N' C s H fp) ifs tt ∧ PE (cmpOf X scope N' C s H fp) elt te)
    (hs : ∀ x, foldedSetIterable iter X.env x = pure x := by intro _; rfl) : PE X (.ListComp elt [⟨target, iter, ifs, 0⟩] scope pos) (tComp sub wi g tt te) := by
  intro pins s σ H Q I h
  rw [eval_ListComp]
  refine wpAny_comprehension_free (use := none) rfl hs (clos_of I O) O.kind (names_of O) (thn (hi pins s σ H _ I h) fun v s1 h1 => thn h1 fun itv s2 h2 => ?_)
  obtain ⟨it, fp, tn, J, H2, e, I2, T, st2, f2, rd⟩ := h2
  subst e
  refine comp_core (RR := fun acc C => compPost (model X.prog X.w) X.A X.xe none (EP X pins σ Q) acc C) hc I2 O T st2 f2 B rd fun acc C ys H' s' I' fC hn na q => ?_
  obtain ⟨m, hn⟩ := hn
  obtain ⟨f0, f1, f3, f4, f5, f6⟩ := fC
  refine ⟨m, hn, fun h' sb => ?_⟩
  exact ⟨.ref acc, upd H' acc (.lst ys), I'.turned (t' := s'.toks) (it := C) (fun b o hb e => (sb.2 b hb).trans e) f0 f1 f4 f5 f6, rfl, q acc na⟩
/-- name = [elt for target in iter if ..]: the store goes ahead of the variables' end -/
theorem ps_comp {i : Nat} {y : Str} {py spos : Pos} (hc : X.calm = true) (O : CmpOk X.N X.env.scope N' scope sub) (hi : PI X target iter wi)
    (B : ∀ C s H fp, PG (cmpOf X scope N' C s H fp) target g ∧ PTs (cmpOf X scope N' C s H fp) ifs tt ∧ PE (cmpOf X scope N' C s H fp) elt te)
    (hN : X.N.Nodup) (hy : X.N[i]? = some y) (hx : Loc X.env.scope y)
    (hsw : swapsWith (.ListComp elt [⟨target, iter, ifs, 0⟩] scope pos) (some (.Name y py)) spos.line X.env = pure true)
    (hs : ∀ x, foldedSetIterable iter X.env x = pure x := by intro _; rfl) (hf : X.fn y = true ∨ X.env.scope.names.lookup y = some .local := by first | exact .inl rfl | exact .inr rfl | assumption) :
    PS X (.Assign [.Name y py] (.ListComp elt [⟨target, iter, ifs, 0⟩] scope pos) spos) (tAsg (tComp sub wi g tt te) (gName i)) := by
  intro pins s σ H D I h
  rw [exec_Assign_Name_used _ _ _ _ hsw]
  refine wpAny_bind (wpAny_standAt (wpAny_bind ?_))
  show wpAny _ _ (do let _ ← comprehension (.ListComp elt [⟨target, iter, ifs, 0⟩] scope pos) scope X.env _ (newList []) false (eval iter X.env) (some (assign (.Name y py) X.env))) _ _ s
  refine wpAny_bind (wpAny_mono (wpAny_comprehension_free (use := some (assign (.Name y py) X.env)) (Q := fun _ s' => SP X pins D .next s') rfl hs (clos_of I O) O.kind (names_of O)
    (thn (hi pins s σ H _ I h) fun v s1 h1 => thn h1 fun itv s2 h2 => ?_)) (fun _ s' hq => wpAny_pure (wpAny_pure hq)) fun _ _ e => e)
  obtain ⟨it, fp, tn, J, H2, e, I2, T, st2, f2, rd⟩ := h2
  subst e
  refine comp_core (RR := fun acc C => compPost (model X.prog X.w) X.A X.xe (some (assign (.Name y py) X.env)) (fun _ s' => SP X pins D .next s') acc C) hc I2 O T st2 f2 B rd fun acc C ys H' s' I' fC hn na q => ?_
  obtain ⟨m, hn⟩ := hn
  obtain ⟨f0, f1, f3, f4, f5, f6⟩ := fC
  show wpAny _ _ (assign (.Name y py) X.env (.ref acc)) _ _ s'
  refine wpAny_assign_Name (store_ok2 (v := .ref acc) I' hN hy hx rfl (fun s'' I'' ⟨a, sb, ha⟩ => ?_) hf)
  have nCa : C ≠ a := by
    rcases ha with z | z
    · rw [z]; exact f1
    · exact fun e => f5 _ _ z e.symm
  refine ⟨m, hn.sameBut sb nCa, fun h' sb' => ?_⟩
  exact ⟨_, upd H' acc (.lst ys), I''.turned (t' := s''.toks) (it := C) (fun b o hb e => (sb'.2 b hb).trans e) f0 f1 f4 f5 f6, q acc na⟩
end

/-! ### the forms one uses: by a word over the turns; then heaps that stay -/
section
variable {σ0 : St} {g : TG} {tt : TT} {te : TE} {Q : List V → Hp → Prop} {H1 : Hp}
/-- the word holds at the next turn -/
def Nxt (n i : Nat) (Pv : Nat → List V → Hp → Prop) (ys : List V) (H : Hp) : Prop := ∃ m', m' < n - i ∧ m' = n - (i + 1) ∧ i + 1 ≤ n ∧ Pv (i + 1) ys H
theorem nxt {n i : Nat} {Pv : Nat → List V → Hp → Prop} {ys : List V} {H : Hp} (hi : i < n) (h : Pv (i + 1) ys H) : Nxt n i Pv ys H := ⟨_, by omega, rfl, hi, h⟩
theorem turns_list {K : PySem.W.Frag} {a : Addr} {xs : List V} (Pv : Nat → List V → Hp → Prop) (h0 : Pv 0 [] H1) (hl : ∀ i ys H, i ≤ xs.length → Pv i ys H → SqL K H a xs)
    (hs : ∀ i x ys H, xs[i]? = some x → Pv i ys H → g x σ0 H fun σ2 H2 => Sle σ0 σ2 ∧ tt σ2 H2 fun b H3 => if b = true then te σ2 H3 (fun v H4 => ys.length < sizeLine ∧ Nxt xs.length i Pv (ys ++ [v]) H4) else Nxt xs.length i Pv ys H3)
    (hd : ∀ ys H, Pv xs.length ys H → Q ys H) : cTurns (Itl K a) σ0 g tt te Q H1 := by
  refine ⟨fun i m ys H => m = xs.length - i ∧ i ≤ xs.length ∧ Pv i ys H, ⟨xs.length, by simp, Nat.zero_le _, h0⟩, ?_⟩
  rintro i m ys H ⟨rfl, hi, p⟩
  have q := hl i ys H hi p
  by_cases hlt : i < xs.length
  · refine .inr ⟨⟨xs, xs[i], q, by simp [hlt]⟩, fun x H' y => ?_⟩
    obtain ⟨e, y⟩ := y
    subst e
    exact hs i x ys _ (y xs q) p
  · have e : i = xs.length := by omega
    subst e
    exact .inl ⟨⟨xs, q, Nat.le_refl _⟩, hd ys H p⟩
theorem turns_range {lo : Int} {n : Nat} (Pv : Nat → List V → Hp → Prop) (h0 : Pv 0 [] H1)
    (hs : ∀ i ys H, i < n → Pv i ys H → g (.int (lo + i)) σ0 H fun σ2 H2 => Sle σ0 σ2 ∧ tt σ2 H2 fun b H3 => if b = true then te σ2 H3 (fun v H4 => ys.length < sizeLine ∧ Nxt n i Pv (ys ++ [v]) H4) else Nxt n i Pv ys H3)
    (hd : ∀ ys H, Pv n ys H → Q ys H) : cTurns (Itr lo n) σ0 g tt te Q H1 := by
  refine ⟨fun i m ys H => m = n - i ∧ i ≤ n ∧ Pv i ys H, ⟨n, by simp, Nat.zero_le _, h0⟩, ?_⟩
  rintro i m ys H ⟨rfl, hi, p⟩
  by_cases hlt : i < n
  · refine .inr ⟨hlt, fun x H' y => ?_⟩
    obtain ⟨e, y⟩ := y
    subst e y
    exact hs i ys _ hlt p
  · have e : i = n := by omega
    subst e
    exact .inl ⟨Nat.le_refl _, hd ys H p⟩
end
end L2

set_option Elab.async false
set_option linter.all false
set_option maxRecDepth 100000
namespace L2
open PySem PySem.Spec PyProof.Rows PySem.SeqAt
/-! ### data within data, compared -/
mutual
inductive DR (K : PySem.W.Frag) (H : Hp) : V → PyData → Prop
  | non : DR K H .non .none
  | bl (b : Bool) : DR K H (.bl b) (.bool b)
  | int (i : Int) : DR K H (.int i) (.int i)
  | str (x : Str) : DR K H (.str x) (.str x)
  | lst {a : Addr} {xs : List V} {ds : List PyData} : SqL K H a xs → DRs K H xs ds → DR K H (.ref a) (.list ds)
  | tup {a : Addr} {xs : List V} {ds : List PyData} : SqT K H a xs → DRs K H xs ds → DR K H (.ref a) (.tuple ds)
inductive DRs (K : PySem.W.Frag) (H : Hp) : List V → List PyData → Prop
  | nil : DRs K H [] []
  | cons {v : V} {d : PyData} {vs : List V} {ds : List PyData} : DR K H v d → DRs K H vs ds → DRs K H (v :: vs) (d :: ds)
end
section
variable {X : Cx} {pins : List (Addr × Obj)} {σ : St} {H : Hp} {s : Shared}
mutual
theorem DR.reads (I : Inv X pins σ H s) : ∀ {v : V} {d : PyData} {u : Value}, DR X.K H v d → RelV v u → ∃ as, Reads s.heap u d as
  | _, _, _, .non, r => by cases r; exact ⟨_, .none⟩
  | _, _, _, .bl b, r => by cases r; exact ⟨_, .bool b⟩
  | _, _, _, .int i, r => by obtain ⟨t, rfl⟩ := r; exact ⟨_, .int i t⟩
  | _, _, _, .str x, r => by obtain ⟨t, rfl⟩ := r; exact ⟨_, .str x t⟩
  | _, _, _, .lst hq hd, r => by
    cases r
    obtain ⟨its, rv, ⟨o, n, e, c, _, dt⟩, _⟩ := I.list hq
    obtain ⟨as, ra⟩ := DRs.reads I hd rv
    exact ⟨_, .list e c dt ra⟩
  | _, _, _, .tup hq hd, r => by
    cases r
    obtain ⟨its, rv, ⟨o, e, c, n, dt⟩, _⟩ := I.tuple hq
    obtain ⟨as, ra⟩ := DRs.reads I hd rv
    exact ⟨_, .tuple e c dt ra⟩
theorem DRs.reads (I : Inv X pins σ H s) : ∀ {vs : List V} {ds : List PyData} {us : List Value}, DRs X.K H vs ds → Vals vs us → ∃ as, ReadsAll s.heap us ds as
  | _, _, _, .nil, r => by cases r; exact ⟨_, .nil⟩
  | _, _, _, .cons h t, r => by
    cases r with
    | cons r rr =>
      obtain ⟨a1, q1⟩ := DR.reads I h r
      obtain ⟨a2, q2⟩ := DRs.reads I t rr
      exact ⟨_, .cons q1 q2⟩
end
end
def rEqD (K : PySem.W.Frag) (neg : Bool) : R2 := fun x y H Q => ∃ dx dy, DR K H x dx ∧ DR K H y dy ∧ shaped dx = true ∧ shaped dy = true ∧ Q (.bl (if neg then !PyData.eqv dx dy else PyData.eqv dx dy)) H
section
variable {X : Cx}
theorem op_eqD (hu : X.A.units + 64 < cLine) : OpR X (compareOp .Eq) (rEqD X.K false) := by
  intro pins s σ H x y v u Q I rx ry h
  obtain ⟨dx, dy, hx, hy, sx, sy, q⟩ := h
  obtain ⟨a1, r1⟩ := DR.reads I hx rx
  obtain ⟨a2, r2⟩ := DR.reads I hy ry
  exact eq_dataH r1 r2 sx sy hu ⟨.bl (PyData.eqv dx dy), H, I, rfl, q⟩
theorem op_neD (hu : X.A.units + 64 < cLine) : OpR X (compareOp .NotEq) (rEqD X.K true) := by
  intro pins s σ H x y v u Q I rx ry h
  obtain ⟨dx, dy, hx, hy, sx, sy, q⟩ := h
  obtain ⟨a1, r1⟩ := DR.reads I hx rx
  obtain ⟨a2, r2⟩ := DR.reads I hy ry
  exact ne_dataH r1 r2 sx sy hu ⟨.bl (!PyData.eqv dx dy), H, I, rfl, q⟩

theorem strsAre_of {ss : List Str} : ∀ {us : List Value}, Vals (ss.map V.str) us → StrsAre us ss := by
  induction ss with
  | nil => intro us r; cases r; exact .nil
  | cons a l ih =>
    intro us r
    cases r with
    | cons r rr =>
      obtain ⟨t, rfl⟩ := r
      exact .cons a t (ih rr)
theorem of_strsAre {ss : List Str} : ∀ {us : List Value}, StrsAre us ss → Vals (ss.map V.str) us := by
  induction ss with
  | nil => intro us r; cases r; exact .nil
  | cons a l ih =>
    intro us r
    cases r with
    | cons _ _ r => exact .cons ⟨_, rfl⟩ (ih r)
/-- sorted(texts) -/
theorem call_sortedS : CallR X (.builtin "sorted") (fun xs H Q => ∃ p ss, xs = [.ref p] ∧ SqL X.K H p (ss.map V.str) ∧ ss.length < 64 ∧ ∀ r ss', H r = none → ss'.Perm ss → sortedS ss' = true → Q (.ref r) (upd H r (.lst (ss'.map V.str)))) := by
  intro pins s σ H xs us Q I r h
  obtain ⟨p, ss, rfl, hq, h64, q⟩ := h
  obtain ⟨u, rfl, rx⟩ := vals1 r
  cases rx
  obtain ⟨its, rv, pl, hz⟩ := I.list hq
  have hl := rv.length
  rw [List.length_map] at hl
  refine sorted_strs pl.isList (strsAre_of rv) (by omega) fun out ss' h1 h2 h3 => ?_
  obtain ⟨e, he⟩ := sortedAll_at s.heap its out
  have nz : H (s.heap.objs.size + 1) = none := I.hok.fresh (Nat.le_succ _)
  refine ⟨.ref (s.heap.objs.size + 1), _, I.laid (t' := s.toks) (a := s.heap.objs.size + 1) (o := .lst (ss'.map V.str)) (fun b o eb => sortedAll_old eb) (Nat.le_succ _) ?_, rfl, q _ ss' nz h2 h3⟩
  refine ⟨?_, out.toList, e, of_strsAre h1, by simpa using he⟩
  rw [List.length_map, h2.length_eq]
  exact Nat.le_of_lt (small1000 (by omega))
end
end L2

set_option Elab.async false
set_option linter.all false
set_option maxRecDepth 100000
namespace L2
open PySem PySem.Spec PyProof.Rows
section
variable {X : Cx}
/-! ### slices and products of texts -/
theorem sl_str : SlR X (fun x lo hi H Q => ∃ z : Str, x = .str z ∧ z.length ≤ sizeLine ∧ Q (.str (Txt.slice z lo hi)) H) := by
  intro pins s σ H x v vl vu lo hi sl Q I rx hs pl pu h
  obtain ⟨z, rfl, hz, q⟩ := h
  obtain ⟨t, rfl⟩ := rx
  refine ⟨"str", _, F.slot_str_getitem.lookup, typeIs_str _ _ _, ?_⟩
  obtain ⟨o, ho, hc, hd⟩ := hs
  have fin : ∀ t' k, EP X pins σ Q (.str (Txt.slice z lo hi) t') { s with toks := k } := fun t' k => ⟨.str (Txt.slice z lo hi), H, I.tok k, ⟨t', rfl⟩, q⟩
  cases pl with
  | none =>
    cases pu with
    | none => exact wpAny_getItem_str_slice (l := none) (u := none) (st := none) ⟨o, ho, hc, hd⟩ rfl (post_val_or_str ⟨Nat.le_trans (Txt.slice_le z _ _) hz, fin⟩)
    | int j uj => exact wpAny_getItem_str_slice (l := none) (u := some (j, uj)) (st := none) ⟨o, ho, hc, hd⟩ rfl (post_val_or_str ⟨Nat.le_trans (Txt.slice_le z _ _) hz, fin⟩)
  | int i ui =>
    cases pu with
    | none => exact wpAny_getItem_str_slice (l := some (i, ui)) (u := none) (st := none) ⟨o, ho, hc, hd⟩ rfl (post_val_or_str ⟨Nat.le_trans (Txt.slice_le z _ _) hz, fin⟩)
    | int j uj => exact wpAny_getItem_str_slice (l := some (i, ui)) (u := some (j, uj)) (st := none) ⟨o, ho, hc, hd⟩ rfl (post_val_or_str ⟨Nat.le_trans (Txt.slice_le z _ _) hz, fin⟩)
theorem mulOk_small {x : Str} {n : Int} (h1 : x.length ≤ 100) (h2 : 0 ≤ n) (h3 : n ≤ 100) : PySem.MulOk x n := by
  refine ⟨?_, fun h _ => ?_, fun h _ => ?_⟩
  · rw [Bool.or_eq_false_iff]
    exact ⟨decide_eq_false (by omega), decide_eq_false (by omega)⟩
  · have e : ((2 ^ 63 - 1 : Int) / n) ≥ 100 := by
      apply Int.le_ediv_of_mul_le (by omega)
      omega
    omega
  · unfold Builtin.Str.tooLong
    have : x.length * n.toNat ≤ 100 * 100 := Nat.mul_le_mul h1 (by omega)
    exact decide_eq_false (by have : sizeLine > 10000 := by decide
                              omega)
theorem op_mul_str : OpR X (binaryOp .Mult) (fun x y H Q => ∃ (z : Str) (n : Int), x = .str z ∧ y = .int n ∧ z.length ≤ 100 ∧ 0 ≤ n ∧ n ≤ 100 ∧ Q (.str (Txt.mul z n)) H) := by
  intro pins s σ H x y v u Q I rx ry h
  obtain ⟨z, n, rfl, rfl, h1, h2, h3, q⟩ := h
  obtain ⟨t, rfl⟩ := rx
  obtain ⟨t', rfl⟩ := ry
  exact SB.mul (mulOk_small h1 h2 h3) fun t' k => ⟨.str (Txt.mul z n), H, I.tok k, ⟨t', rfl⟩, q⟩
/-! ### isinstance(x, T) -/
theorem call_isinst : CallR X (.builtin "isinstance") (fun xs H Q => ∃ x t c b, xs = [x, .ty c] ∧ TyOf X.K H x t ∧ PySem.W.kitOne X.K t (.type c) = some b ∧ Q (.bl b) H) := by
  intro pins s σ H xs us Q I r h
  obtain ⟨x, t, c, b, rfl, ty, e, q⟩ := h
  obtain ⟨u, w', rfl, rx, rc⟩ := vals2 r
  cases (show w' = Value.type c from rc)
  exact isinst_ok I rx ty e fun tk => ⟨.bl b, H, I.tok tk, rfl, q⟩
/-! ### for k in d -/
def Itk (kvs : List (Key × V)) (d : Addr) (o : Obj) : It :=
  ⟨fun i H => i < kvs.length ∧ H d = some (.frz o (.dK kvs)), fun i H x H' => H' = H ∧ ∃ p, kvs[i]? = some p ∧ x = kV p.1, fun i H => kvs.length ≤ i ∧ H d = some (.frz o (.dK kvs))⟩
theorem turn_dkeys {P : Program} {w : World} {K : PySem.W.Frag} {tg : Expr} (it d : Addr) (o : Obj) (kvs : List (Key × V)) (vs : List (Key × Value)) (es : Array DictEntry) (ep : Nat)
    (hne : d ≠ it) (kv : KV kvs vs) (hx : o.ExactDict) (hd : o.data = .dict es ep) (hk : KeysOf (mixKind P w) es) (hp : Pairs (mixKind P w) es.toList vs) (nd : (vs.map (·.1)).Nodup) :
    Turn P w K tg (Itk kvs d o) [it] it (fun i h => h.IsKeyIter it d i vs.length ep) where
  mem := by simp
  obj := fun i h st b hb => by
    have e : b = it := by simpa using hb
    subst e
    obtain ⟨o, e, c, d⟩ := st
    exact ⟨o, e, fun v z => by rw [d] at z; cases z⟩
  keep := fun i h h' st k => st.at fun o e => k it (by simp) o e
  item := by
    intro X hP hw hK hc i pins s σ H E I hf st hg
    subst hP hw hK
    obtain ⟨hi, hH⟩ := hg
    have ho : s.heap.get? d = some o := (I.hok d _ hH).1
    have da : s.heap.DictAt (mixKind X.prog X.w) d vs ep := ⟨o, es, ho, hx, hd, hk, hp, nd⟩
    obtain ⟨⟨k, xv⟩, hkx⟩ : ∃ p, kvs[i]? = some p := ⟨kvs[i], by simp [hi]⟩
    have hvl : i < vs.length := by have := kv.length; omega
    obtain ⟨⟨k', uv⟩, hkv⟩ : ∃ p, vs[i]? = some p := ⟨vs[i], by simp [hvl]⟩
    have ek : k = k' := by
      have e := congrArg (fun l => l[i]?) kv.keys
      simp only [List.getElem?_map, hkx, hkv] at e
      exact Option.some.inj e
    subst ek
    obtain ⟨f0, f1, f2, f3, f4, f5⟩ := hf it (by simp)
    refine wpAny_pyNext_dict_item st da hkv fun key h' hkey hit' hs' => ?_
    have I1 : Inv X pins σ H { s with heap := h' } := I.turned (t' := s.toks) (fun b o hb e => (hs'.2 b hb).trans e) f0 f1 f3 f4 f5
    obtain ⟨oo, e, c, dd⟩ := id hit'
    refine ⟨key, rfl, go_of (s := { s with heap := h' }) e c dd (by decide) ⟨kV k, H, I1, ?_, ⟨rfl, (k, xv), hkx, rfl⟩, hit', fun b hb => (hf b hb).1⟩⟩
    rcases keyIs_shape (show keyIs k key = true from hkey) with ⟨j, t, rfl, rfl⟩ | ⟨x, t, rfl, rfl⟩
    · exact ⟨t, rfl⟩
    · exact ⟨t, rfl⟩
  done := by
    intro X hP hw hK hc i pins s σ H E I hf st hg
    subst hP hw hK
    obtain ⟨hi, hH⟩ := hg
    have ho : s.heap.get? d = some o := (I.hok d _ hH).1
    have da : s.heap.DictAt (mixKind X.prog X.w) d vs ep := ⟨o, es, ho, hx, hd, hk, hp, nd⟩
    obtain ⟨f0, f1, f2, f3, f4, f5⟩ := hf it (by simp)
    have hl := kv.length
    exact wpAny_pyNext_dict_end (I.ok.hd hc) st da (by simp; omega) fun h' eb => ⟨rfl, I.turned (t' := s.toks) (fun b o hb e => eb b o hb e) f0 f1 f3 f4 f5⟩
  self := fun _ _ _ _ _ st h => wpAny_pyIter_keyiter st h
/-- the dict stands frozen from here on -/
def iKeys (td : TE) : TI := fun σ H R => td σ H fun x H1 => ∃ d kvs, x = .ref d ∧ H1 d = some (.dK kvs) ∧ ∀ o, R (Itk kvs d o) (upd H1 d (.frz o (.dK kvs)))
theorem pi_keys {e tg : Expr} {td : TE} (he : PE X e td) : PI X tg e (iKeys td) := by
  intro pins s σ H R I h
  refine thn (he pins s σ H _ I h) fun v s1 ⟨x, H1, I1, r1, q1⟩ => ?_
  obtain ⟨d, kvs, e, hH, q⟩ := q1
  subst e
  cases r1
  obtain ⟨hz, hsm, vs, kv, o, es, ep, ho, hx, hd, hk, hp, nd⟩ := dk_of I1.hok hH
  have I2 : Inv X pins σ (upd H1 d (.frz o (.dK kvs))) s1 := by
    refine I1.write (t' := s1.toks) (h' := s1.heap) (x := d) (e := d) (by rw [hH]; trivial) (.inl rfl) (fun _ _ _ q => q) ⟨o, ho⟩ ⟨ho, ?_⟩
    exact ⟨hz, hsm, vs, kv, o, es, ep, ho, hx, hd, hk, hp, nd⟩
  have da : s1.heap.DictAt (mixKind X.prog X.w) d vs ep := ⟨o, es, ho, hx, hd, hk, hp, nd⟩
  refine wpAny_pyIter_dict hsm da ?_
  have hne : d ≠ s1.heap.objs.size := Nat.ne_of_lt (Heap.lt_size ho)
  refine ⟨s1.heap.objs.size, [s1.heap.objs.size], _, _, _, rfl, I2.kept (t' := s1.toks) fun b o e => Heap.get?_push_of_some _ e, turn_dkeys s1.heap.objs.size d o kvs vs es ep hne kv hx hd hk hp nd, ⟨_, Heap.get?_push_size _ rfl, rfl, rfl⟩, fun b hb => ?_, q o⟩
  have e : b = s1.heap.objs.size := by simpa using hb
  subst e
  exact I2.fpOk (Nat.le_refl _) (by rw [upd_ne (Ne.symm hne)]; exact I1.hok.fresh (Nat.le_refl _))
theorem turns_keys {σ0 : St} {g : TG} {tt : TT} {te : TE} {Q : List V → Hp → Prop} {H1 : Hp} {kvs : List (Key × V)} {d : Addr} {o : Obj} (Pv : Nat → List V → Hp → Prop) (h0 : Pv 0 [] H1)
    (hl : ∀ i ys H, i ≤ kvs.length → Pv i ys H → H d = some (.frz o (.dK kvs)))
    (hs : ∀ i p ys H, kvs[i]? = some p → Pv i ys H → g (kV p.1) σ0 H fun σ2 H2 => Sle σ0 σ2 ∧ tt σ2 H2 fun b H3 => if b = true then te σ2 H3 (fun v H4 => ys.length < sizeLine ∧ Nxt kvs.length i Pv (ys ++ [v]) H4) else Nxt kvs.length i Pv ys H3)
    (hd : ∀ ys H, Pv kvs.length ys H → Q ys H) : cTurns (Itk kvs d o) σ0 g tt te Q H1 := by
  refine ⟨fun i m ys H => m = kvs.length - i ∧ i ≤ kvs.length ∧ Pv i ys H, ⟨kvs.length, by simp, Nat.zero_le _, h0⟩, ?_⟩
  rintro i m ys H ⟨rfl, hi, p⟩
  have q := hl i ys H hi p
  by_cases hlt : i < kvs.length
  · refine .inr ⟨⟨hlt, q⟩, fun x H' y => ?_⟩
    obtain ⟨e, pr, hpr, rfl⟩ := y
    subst e
    exact hs i pr ys _ hpr p
  · have e : i = kvs.length := by omega
    subst e
    exact .inl ⟨⟨Nat.le_refl _, q⟩, hd ys H p⟩
end
end L2

set_option Elab.async false
set_option linter.all false
set_option maxRecDepth 100000
namespace L2
open PySem PySem.Spec PyProof.Rows
section
variable {X : Cx}
theorem getD_all (bs : List Bool) (d : Bool) : (List.range bs.length).all (fun i => bs.getD i d) = bs.all id := by
  induction bs with
  | nil => rfl
  | cons b r ih =>
    rw [List.length_cons, List.range_succ_eq_map, List.all_cons, List.all_map, List.all_cons]
    have e : ((fun i => (b :: r).getD i d) ∘ Nat.succ) = fun i => r.getD i d := by
      funext i; simp
    rw [e, ih]
    simp
theorem getD_any (bs : List Bool) (d : Bool) : (List.range bs.length).any (fun i => bs.getD i d) = bs.any id := by
  induction bs with
  | nil => rfl
  | cons b r ih =>
    rw [List.length_cons, List.range_succ_eq_map, List.any_cons, List.any_map, List.any_cons]
    have e : ((fun i => (b :: r).getD i d) ∘ Nat.succ) = fun i => r.getD i d := by
      funext i; simp
    rw [e, ih]
    simp
theorem truths {P : Program} {w : World} {A : Around} {bs : List Bool} {its : List Value} (rv : Vals (bs.map V.bl) its) (d : Bool) : TruthOf P w A (fun i v => its.toArray[i]? = some v) (fun i => bs.getD i d) := by
  intro i v s Q E hv hQ
  have hv' : its[i]? = some v := by simpa using hv
  have hi : i < its.length := (List.getElem?_eq_some_iff.mp hv').1
  have hl := rv.length
  rw [List.length_map] at hl
  have hb : (bs.map V.bl)[i]? = some (V.bl bs[i]) := by rw [List.getElem?_map, List.getElem?_eq_getElem (by omega)]; rfl
  obtain ⟨u, hu, ru⟩ := rv.get hb
  rw [hv'] at hu
  have e : v = Value.bool bs[i] := (Option.some.inj hu).trans ru
  rw [e]
  have e2 : bs.getD i d = bs[i] := by rw [List.getD_eq_getElem?_getD, List.getElem?_eq_getElem (by omega)]; rfl
  have hQ : Q (bs.getD i d) s := hQ
  rw [e2] at hQ
  exact wpAny_truthy_bool hQ
/-- all(a list of truths), any(..) -/
theorem call_allB (hc : X.calm = true) : CallR X (.builtin "all") (fun xs H Q => ∃ (p : Addr) (bs : List Bool), xs = [.ref p] ∧ SqL X.K H p (bs.map V.bl) ∧ Q (.bl (bs.all id)) H) := by
  intro pins s σ H xs us Q I r h
  obtain ⟨p, bs, rfl, hq, q⟩ := h
  obtain ⟨u, rfl, rx⟩ := vals1 r
  cases rx
  obtain ⟨its, rv, pl, hz⟩ := I.list hq
  have hl := rv.length
  rw [List.length_map] at hl
  have hne : p ≠ s.heap.objs.size := by
    obtain ⟨o, n, e, _⟩ := pl
    exact Nat.ne_of_lt (Heap.lt_size e)
  have hh := I.ok.hd hc
  refine call_all_walk (wpAny_pyIter_list pl.isList ?_)
  refine ⟨s.heap.objs.size, _, _, _, _, _, fun i => bs.getD i true, rfl, Walks.list (by exact hh) _ p hne its.toArray, ⟨⟨_, Heap.get?_push_size _ rfl, rfl, rfl⟩, pl.isList.at fun o e => Heap.get?_push_of_some _ e⟩, truths rv true, fun h' tk hk => ?_⟩
  refine ⟨.bl (bs.all id), H, I.kept (t' := tk) fun b o e => hk b o ?_ (Heap.get?_push_of_some _ e), ?_, q⟩
  · intro z
    rw [List.mem_singleton] at z
    exact absurd (Heap.lt_size e) (by rw [z]; exact Nat.lt_irrefl _)
  · show Value.bool _ = Value.bool _
    rw [List.size_toArray, ← hl, getD_all]
theorem call_anyB (hc : X.calm = true) : CallR X (.builtin "any") (fun xs H Q => ∃ (p : Addr) (bs : List Bool), xs = [.ref p] ∧ SqL X.K H p (bs.map V.bl) ∧ Q (.bl (bs.any id)) H) := by
  intro pins s σ H xs us Q I r h
  obtain ⟨p, bs, rfl, hq, q⟩ := h
  obtain ⟨u, rfl, rx⟩ := vals1 r
  cases rx
  obtain ⟨its, rv, pl, hz⟩ := I.list hq
  have hl := rv.length
  rw [List.length_map] at hl
  have hne : p ≠ s.heap.objs.size := by
    obtain ⟨o, n, e, _⟩ := pl
    exact Nat.ne_of_lt (Heap.lt_size e)
  have hh := I.ok.hd hc
  refine call_any_walk (wpAny_pyIter_list pl.isList ?_)
  refine ⟨s.heap.objs.size, _, _, _, _, _, fun i => bs.getD i true, rfl, Walks.list (by exact hh) _ p hne its.toArray, ⟨⟨_, Heap.get?_push_size _ rfl, rfl, rfl⟩, pl.isList.at fun o e => Heap.get?_push_of_some _ e⟩, truths rv true, fun h' tk hk => ?_⟩
  refine ⟨.bl (bs.any id), H, I.kept (t' := tk) fun b o e => hk b o ?_ (Heap.get?_push_of_some _ e), ?_, q⟩
  · intro z
    rw [List.mem_singleton] at z
    exact absurd (Heap.lt_size e) (by rw [z]; exact Nat.lt_irrefl _)
  · show Value.bool _ = Value.bool _
    rw [List.size_toArray, ← hl, getD_any]
/-! ### a walk of the library's as a turn: values that hang on the place alone -/
def Itv (n : Nat) (xv : Nat → V) : It := ⟨fun i _ => i < n, fun i H x H' => H' = H ∧ x = xv i, fun i _ => n = i⟩
theorem turn_walk {P : Program} {w : World} {K : PySem.W.Frag} {tg : Expr} (it : Addr) (n : Nat) (xv : Nat → V) (Pv : Nat → Value → Prop) (St : Nat → Heap → Prop) (ty : String)
    (W : ∀ A : Around, A.handled = none → Walks P w A it [it] [it] n Pv St) (hv : ∀ i v, Pv i v → RelV (xv i) v)
    (ho : ∀ i h, St i h → ∃ o vs, h.get? it = some o ∧ o.cls = .type ty ∧ o.data = .fields vs)
    (hn : ["enumerate", "zip", "dict_itemiterator", "dict_reverseitemiterator", "odict_iterator", "itertools.zip_longest", "itertools.pairwise"].contains ty = false)
    (hself : ∀ (A : Around) (i : Nat) (s : Shared) (Q : Value → Shared → Prop) (E : Value → Shared → Prop), St i s.heap → Q (.ref it) s → wpAny (model P w) A (pyIter (.ref it)) Q E s) : Turn P w K tg (Itv n xv) [it] it St where
  mem := by simp
  obj := fun i h st b hb => by
    have e : b = it := by simpa using hb
    subst e
    obtain ⟨o, vs, e, c, d⟩ := ho i h st
    exact ⟨o, e, fun v z => by rw [d] at z; cases z⟩
  keep := fun i h h' st k => (W { handled := none } rfl).frame i h h' st k
  item := by
    intro X hP hw hK hc i pins s σ H E I hf st hg
    subst hP hw hK
    obtain ⟨f0, f1, f2, f3, f4, f5⟩ := hf it (by simp)
    refine (W X.A (I.ok.hd hc)).item i s _ _ hg st fun v h' tk pv st' kk => ?_
    have I1 : Inv X pins σ H { s with heap := h', toks := tk } := I.turned (fun b o hb e => kk b o (by simpa using hb) e) f0 f1 f3 f4 f5
    obtain ⟨o, vs, e, c, d⟩ := ho (i + 1) h' st'
    exact ⟨v, rfl, go_of (s := { s with heap := h', toks := tk }) e c d hn ⟨xv i, H, I1, hv i v pv, ⟨rfl, rfl⟩, st', fun b hb => (hf b hb).1⟩⟩
  done := by
    intro X hP hw hK hc i pins s σ H E I hf st hg
    subst hP hw hK
    obtain ⟨f0, f1, f2, f3, f4, f5⟩ := hf it (by simp)
    have hg' : n = i := hg
    subst hg'
    refine (W X.A (I.ok.hd hc)).done s _ _ st fun h' tk kk => ⟨rfl, ?_⟩
    exact I.turned (fun b o hb e => kk b o (by simpa using hb) e) f0 f1 f3 f4 f5
  self := hself
/-- for sign in text -/
def sgnV (x : Str) (i : Nat) : V := .str ⟨#[x.cps.toList.getD i 0]⟩
def iStr (t : TE) : TI := fun σ H R => t σ H fun v H1 => ∃ x : Str, v = .str x ∧ R (Itv x.cps.size (sgnV x)) H1
theorem sgn_rel {x : Str} {i : Nat} {v : Value} (h : SignAt x i v) : RelV (sgnV x i) v := by
  obtain ⟨c, u, hc, rfl⟩ := h
  refine ⟨u, ?_⟩
  have : x.cps.toList.getD i 0 = c := by
    rw [List.getD_eq_getElem?_getD, Array.getElem?_toList, hc]; rfl
  rw [this]
theorem pi_str {e tg : Expr} {t : TE} (he : PE X e t) : PI X tg e (iStr t) := by
  intro pins s σ H R I h
  refine thn (he pins s σ H _ I h) fun v s1 ⟨y, H1, I1, r1, q1⟩ => ?_
  obtain ⟨x, rfl, q⟩ := q1
  obtain ⟨tk, rfl⟩ := r1
  have fin : ∀ (o : Obj) (ty : String), o = { cls := .type ty, data := .fields #[.str x tk, .int 0 0] } → (["enumerate", "zip", "dict_itemiterator", "dict_reverseitemiterator", "odict_iterator", "itertools.zip_longest", "itertools.pairwise"].contains ty = false) →
      (∀ A : Around, A.handled = none → Walks X.prog X.w A s1.heap.objs.size [s1.heap.objs.size] [s1.heap.objs.size] x.cps.size (SignAt x) (fun i h => h.IsStrIter s1.heap.objs.size ty x tk i)) →
      (∀ (A : Around) (i : Nat) (s : Shared) (Q : Value → Shared → Prop) (E : Value → Shared → Prop), s.heap.IsStrIter s1.heap.objs.size ty x tk i → Q (.ref s1.heap.objs.size) s → wpAny (model X.prog X.w) A (pyIter (.ref s1.heap.objs.size)) Q E s) →
      PIE X pins σ tg R (.ref s1.heap.objs.size) { s1 with heap := s1.heap.push o } := by
    intro o ty eo hn W self
    subst eo
    refine ⟨s1.heap.objs.size, [s1.heap.objs.size], _, _, H1, rfl, I1.kept (t' := s1.toks) fun b o e => Heap.get?_push_of_some _ e, turn_walk s1.heap.objs.size x.cps.size (sgnV x) _ _ ty W (fun i v => sgn_rel) (fun i h st => ?_) hn self, ⟨_, Heap.get?_push_size _ rfl, rfl, rfl⟩, fun b hb => ?_, q⟩
    · obtain ⟨o, h1, h2, h3⟩ := st
      exact ⟨o, _, h1, h2, h3⟩
    · have e : b = s1.heap.objs.size := by simpa using hb
      subst e
      exact I1.fpOk (Nat.le_refl _) (I1.hok.fresh (Nat.le_refl _))
  cases ha : x.cps.all (· < 128)
  · exact wpAny_pyIter_wide ha (fin _ "str_iterator" rfl (by decide) (fun A hA => Walks.strWide hA _ x tk) (fun A i s Q E st hQ => wpAny_pyIter_striter_wide st hQ))
  · exact wpAny_pyIter_ascii ha (fin _ "str_ascii_iterator" rfl (by decide) (fun A hA => Walks.strAscii hA _ x tk) (fun A i s Q E st hQ => wpAny_pyIter_striter_ascii st hQ))
theorem turns_val {σ0 : St} {g : TG} {tt : TT} {te : TE} {Q : List V → Hp → Prop} {H1 : Hp} {n : Nat} {xv : Nat → V} (Pv : Nat → List V → Hp → Prop) (h0 : Pv 0 [] H1)
    (hs : ∀ i ys H, i < n → Pv i ys H → g (xv i) σ0 H fun σ2 H2 => Sle σ0 σ2 ∧ tt σ2 H2 fun b H3 => if b = true then te σ2 H3 (fun v H4 => ys.length < sizeLine ∧ Nxt n i Pv (ys ++ [v]) H4) else Nxt n i Pv ys H3)
    (hd : ∀ ys H, Pv n ys H → Q ys H) : cTurns (Itv n xv) σ0 g tt te Q H1 := by
  refine ⟨fun i m ys H => m = n - i ∧ i ≤ n ∧ Pv i ys H, ⟨n, by simp, Nat.zero_le _, h0⟩, ?_⟩
  rintro i m ys H ⟨rfl, hi, p⟩
  by_cases hlt : i < n
  · refine .inr ⟨hlt, fun x H' y => ?_⟩
    obtain ⟨e, y⟩ := y
    subst e y
    exact hs i ys _ hlt p
  · have e : i = n := by omega
    subst e
    exact .inl ⟨rfl, hd ys H p⟩
end
end L2

set_option Elab.async false
set_option linter.all false
set_option maxRecDepth 100000
namespace L2
open PySem PySem.Spec PyProof.Rows
/-! ### a set of texts: its table, one text more -/
theorem orstand_led (t : SetTable) (n : Nat) : (t.orStandIn n).led = t.led := by
  unfold SetTable.orStandIn
  split <;> rfl
theorem laynew_led (t : SetTable) (es : Array (Int × Value)) (h : Int) (x : Value) : (layNew t es h x).2.1.led = t.led := by
  unfold layNew
  split
  · exact orstand_led _ _
  · rfl
theorem relay_led (t : SetTable) (es : Array (Int × Value)) (k : Nat) : (relayAll t es k).2.1.led = t.led := by
  unfold relayAll
  split
  · rename_i u order e
    have eu : u.led = t.led := by
      unfold SetTable.relaid SetTable.laid at e
      cases hc : SetTable.layClean (SetTable.sizeAbove k - 1) (es.map (·.1)) with
      | none => rw [hc] at e; cases e
      | some o =>
        rw [hc] at e
        injection e with e
        injection e with e1 e2
        rw [← e1]
    dsimp only
    split
    · exact eu
    · rfl
  · rfl
theorem relay_plain (t : SetTable) (es : Array (Int × Value)) (k : Nat) (hp : t.plain = false) : (relayAll t es k).2.1.plain = false := by
  unfold relayAll
  split
  · rename_i u order e
    have eu : u.plain = t.plain := by
      unfold SetTable.relaid SetTable.laid at e
      cases hc : SetTable.layClean (SetTable.sizeAbove k - 1) (es.map (·.1)) with
      | none => rw [hc] at e; cases e
      | some o =>
        rw [hc] at e
        injection e with e
        injection e with e1 e2
        rw [← e1]
    dsimp only
    split
    · exact eu.trans hp
    · rfl
  · rfl
/-- the set at a holds these texts, in its table's order -/
def StrSet (P : Program) (w : World) (h : Heap) (a : Addr) (ss : List Str) : Prop :=
  ∃ (es : Array (Int × Value)) (ep : Nat) (t : SetTable), h.get? a = some { cls := .type "set", dict := none, data := .set es ep t, slots := #[] } ∧ ElemsOf (PySem.strKind P w) es.toList ∧
    StrsAre (es.toList.map (·.2)) ss ∧ es.size < scanBound ∧ t.fits es.size = true ∧ t.led = !w.params.followText "set-order" ∧ (es.size ≠ 0 → t.plain = false)
theorem strs_mem {x : Str} : ∀ {vs : List Value} {ss : List Str}, StrsAre vs ss → ((∃ v ∈ vs, Value.isStrOf x v = true) ↔ x ∈ ss)
  | _, _, .nil => by simp
  | _, _, .cons y t r => by
    have ih := strs_mem (x := x) r
    have hy : Value.isStrOf x (.str y t) = true ↔ x = y := by
      constructor
      · intro h
        obtain ⟨u, e⟩ := Value.isStrOf_shape h
        cases e; rfl
      · rintro rfl; simp [Value.isStrOf]
    constructor
    · rintro ⟨v, hv, hp⟩
      rcases List.mem_cons.mp hv with rfl | hv
      · rw [hy.mp hp]; exact List.mem_cons_self
      · exact List.mem_cons_of_mem _ (ih.mp ⟨v, hv, hp⟩)
    · intro h
      rcases List.mem_cons.mp h with h | h
      · exact ⟨_, List.mem_cons_self, hy.mpr h⟩
      · obtain ⟨v, hv, hp⟩ := ih.mpr h
        exact ⟨v, List.mem_cons_of_mem _ hv, hp⟩
theorem strs_perm {es es1 : List (Int × Value)} {ss : List Str} {k : Int} {x : Str} {t : Tok} (hS : StrsAre (es.map (·.2)) ss) (p : es1.Perm (es ++ [(k, .str x t)])) : ∃ ss1, StrsAre (es1.map (·.2)) ss1 ∧ ss1.Perm (ss ++ [x]) := by
  have hall : ∀ v, v ∈ es1.map (·.2) → ∃ y u, v = .str y u := by
    intro v hv
    obtain ⟨e, he, rfl⟩ := List.mem_map.mp hv
    rcases List.mem_append.mp (p.mem_iff.mp he) with z | z
    · exact hS.all _ (List.mem_map_of_mem z)
    · rw [List.mem_singleton] at z; subst z; exact ⟨x, t, rfl⟩
  refine ⟨_, strsAre_map _ hall, ?_⟩
  have q := (p.map (·.2)).map strOf
  rw [List.map_append, List.map_append, hS.strs] at q
  exact q
theorem strs_perm' {es es1 : List (Int × Value)} {ss : List Str} (hS : StrsAre (es.map (·.2)) ss) (p : es1.Perm es) : ∃ ss1, StrsAre (es1.map (·.2)) ss1 ∧ ss1.Perm ss := by
  have hall : ∀ v, v ∈ es1.map (·.2) → ∃ y u, v = .str y u := by
    intro v hv
    obtain ⟨e, he, rfl⟩ := List.mem_map.mp hv
    exact hS.all _ (List.mem_map_of_mem (p.mem_iff.mp he))
  refine ⟨_, strsAre_map _ hall, ?_⟩
  have q := (p.map (·.2)).map strOf
  rw [hS.strs] at q
  exact q
section
variable {P : Program} {w : World} {A : Around} {E : Value → Shared → Prop} {s : Shared} {a : Addr} {ss : List Str}
theorem tset_store {es es' : Array (Int × Value)} {ep : Nat} {t t' : SetTable} (ho : s.heap.get? a = some { cls := .type "set", dict := none, data := .set es ep t, slots := #[] }) :
    (s.heap.update a (Obj.putSet es' t')).get? a = some { cls := .type "set", dict := none, data := .set es' (ep + 1) t', slots := #[] } := by
  have q := Heap.get?_update_self (Obj.putSet es' t') ho (by rw [putSet_of es' t' rfl]; rfl)
  rw [putSet_of es' t' rfl] at q
  exact q
theorem tset_tail {g : Bool → Sem Unit} (hg : ∀ (b : Bool) (s1 : Shared) (Q' : Unit → Shared → Prop), Q' () s1 → wpAny (model P w) A (g b) Q' E s1) {es es1 : Array (Int × Value)} {ep : Nat} {t t2 : SetTable} {ss1 : List Str}
    (ho : s.heap.get? a = some { cls := .type "set", dict := none, data := .set es ep t, slots := #[] }) (e1 : ElemsOf (PySem.strKind P w) es1.toList) (e2 : StrsAre (es1.toList.map (·.2)) ss1) (e3 : es1.size < scanBound) (e4 : t2.fits es1.size = true)
    (e5 : t2.led = !w.params.followText "set-order") (e6 : t2.plain = false) {wasD : Bool} {R : Option Bool → Shared → Prop} (h : ∀ h' ss', Heap.SameBut a s.heap h' → StrSet P w h' a ss' → ss'.Perm ss1 → R (some true) { s with heap := h' }) :
    wpAny (model P w) A (do
        storeSet a es1 t2
        if (!wasD && t2.tooFull) = true then do
            g (relayAll t2 es1 (SetTable.grown es1.size)).2.2
            storeSet a (relayAll t2 es1 (SetTable.grown es1.size)).1 (relayAll t2 es1 (SetTable.grown es1.size)).2.1
            pure (some true)
          else pure (some true)) R E s := by
  refine wpAny_bind (wpAny_storeSet_of ho rfl ?_ (fits_of_scanBound e3))
  have o1 : (s.heap.update a (Obj.putSet es1 t2)).get? a = _ := tset_store (s := s) ho
  have b1 := Heap.SameBut.update s.heap a (Obj.putSet es1 t2)
  split
  · have p := relayAll_perm t2 es1 (SetTable.grown es1.size)
    have f := relayAll_fits t2 es1 (SetTable.grown es1.size)
    have l := relay_led t2 es1 (SetTable.grown es1.size)
    have pl := relay_plain t2 es1 (SetTable.grown es1.size) e6
    generalize relayAll t2 es1 (SetTable.grown es1.size) = Rl at p f l pl ⊢
    obtain ⟨es2, t3, gv⟩ := Rl
    dsimp only at p f l pl ⊢
    have z2 : es2.size = es1.size := by rw [← Array.length_toList, p.length_eq, Array.length_toList]
    obtain ⟨ss2, q1, q2⟩ := strs_perm' e2 p
    refine wpAny_bind (hg _ _ _ (wpAny_bind (wpAny_storeSet_of o1 rfl ?_ (fits_of_scanBound (by rw [z2]; exact e3)))))
    have o2 : ((s.heap.update a (Obj.putSet es1 t2)).update a (Obj.putSet es2 t3)).get? a = _ := tset_store (s := { s with heap := s.heap.update a (Obj.putSet es1 t2) }) o1
    exact wpAny_pure (h _ ss2 (b1.trans (Heap.SameBut.update _ a _)) ⟨es2, _, t3, o2, e1.perm p, q1, by rw [z2]; exact e3, f, l.trans e5, fun _ => pl⟩ q2)
  · exact wpAny_pure (h _ ss1 b1 ⟨es1, _, t2, o1, e1, e2, e3, e4, e5, fun _ => e6⟩ (List.Perm.refl _))
theorem tset_add {x : Str} {tk : Tok} {Q : Bool → Shared → Prop} (hS : StrSet P w s.heap a ss) (room : ss.length + 1 < scanBound)
    (h : ∀ h' ss', Heap.SameBut a s.heap h' → StrSet P w h' a ss' → (if x ∈ ss then ss' = ss else ss'.Perm (ss ++ [x])) → Q (!decide (x ∈ ss)) { s with heap := h' }) :
    wpAny (model P w) A (setAddHashed a (.str x tk) ((PySem.strKind P w).hash x)) Q E s := by
  obtain ⟨es, ep, t, ho, e1, e2, e3, e4, e5, e6⟩ := hS
  have hk : (PySem.strKind P w).is x (.str x tk) = true := strKind_is P w x tk
  have hsc : Value.scannable (.str x tk) = true := rfl
  have hz : ss.length = es.size := by rw [← e2.strs, List.length_map, List.length_map, Array.length_toList]
  unfold setAddHashed setAddHashedIn
  refine wpAny_holding (wpAny_bind (wpAny_setState_of ho rfl e4 ?_))
  dsimp only
  rw [byScan_of hsc e3 e1, if_pos rfl]
  unfold setAddByScan
  refine wpAny_bind (wpAny_bind (wpAny_rule (wpAny_bind (wpAny_setScan_of hk ho rfl e4 e1 ?_))))
  cases hr : List.findIdx? (fun e => (PySem.strKind P w).is x e.2) es.toList with
  | some j =>
    dsimp only
    obtain ⟨hj, hp, _⟩ := List.findIdx?_eq_some_iff_getElem.mp hr
    have hm : x ∈ ss := (strs_mem e2).mp ⟨_, List.mem_map_of_mem (List.getElem_mem hj), hp⟩
    have q := h s.heap ss (Heap.SameBut.refl a _) ⟨es, ep, t, ho, e1, e2, e3, e4, e5, e6⟩ (by rw [if_pos hm])
    rw [decide_eq_true hm] at q
    exact wpAny_pure (wpAny_pure q)
  | none =>
    dsimp only
    have hm : ¬ x ∈ ss := fun z => by
      obtain ⟨v, hv, hp⟩ := (strs_mem e2).mpr z
      obtain ⟨e, he, rfl⟩ := List.mem_map.mp hv
      have q := List.findIdx?_eq_none_iff.mp hr e he
      rw [show (PySem.strKind P w).is x e.2 = true from hp] at q
      cases q
    have gw : ∀ (b : Bool) (s1 : Shared) (Q' : Unit → Shared → Prop), Q' () s1 → wpAny (model P w) A (match b with | true => rule "set.scan.the-table-gave-way" | false => pure ()) Q' E s1 := fun b s1 Q' hq => by
      cases b
      · exact wpAny_pure hq
      · exact wpAny_rule hq
    have p := layNew_perm t es ((PySem.strKind P w).hash x) (.str x tk)
    have f := layNew_fits t es ((PySem.strKind P w).hash x) (.str x tk)
    have l := laynew_led t es ((PySem.strKind P w).hash x) (.str x tk)
    generalize layNew t es ((PySem.strKind P w).hash x) (.str x tk) = L at p f l ⊢
    obtain ⟨es1, t1, wasD, gv⟩ := L
    dsimp only at p f l ⊢
    rw [Array.toList_push] at p
    have d1 : ElemsOf (PySem.strKind P w) es1.toList := (e1.push hk hsc).perm p
    obtain ⟨ss1, d2, d3⟩ := strs_perm e2 p
    have z1 : es1.size = es.size + 1 := by rw [← Array.length_toList, p.length_eq, List.length_append, Array.length_toList]; rfl
    have d4 : es1.size < scanBound := by rw [z1, ← hz]; exact room
    have fin : ∀ h' ss', Heap.SameBut a s.heap h' → StrSet P w h' a ss' → ss'.Perm ss1 → Q true { s with heap := h' } := fun h' ss' b1 b2 b3 => by
      have q := h h' ss' b1 b2 (by rw [if_neg hm]; exact b3.trans d3)
      rw [decide_eq_false hm] at q
      exact q
    refine wpAny_bind (gw _ _ _ ?_)
    split
    · rename_i hpl
      refine wpAny_bind ?_
      rw [hashByValue_scannable 8 hsc]
      refine wpAny_pure ?_
      refine tset_tail gw ho d1 d2 d4 (SetTable.fits_plain_off f) (l.trans e5) rfl fun h' ss' b1 b2 b3 => ?_
      exact wpAny_pure (fin h' ss' b1 b2 b3)
    · rename_i hpl
      refine wpAny_bind (wpAny_pure ?_)
      rw [if_pos rfl]
      refine tset_tail gw ho d1 d2 d4 f (l.trans e5) (by simpa using hpl) fun h' ss' b1 b2 b3 => ?_
      exact wpAny_pure (fin h' ss' b1 b2 b3)
end
end L2

set_option Elab.async false
set_option linter.all false
set_option maxRecDepth 100000
namespace L2
open PySem PySem.Spec PyProof.Rows
/-! ### set(a list of texts) -/
theorem StrSet.at {P : Program} {w : World} {h h' : Heap} {a : Addr} {ss : List Str} (x : StrSet P w h a ss) (k : ∀ o, h.get? a = some o → h'.get? a = some o) : StrSet P w h' a ss := by
  obtain ⟨es, ep, t, ho, r⟩ := x
  exact ⟨es, ep, t, k _ ho, r⟩
/-- the first i values, each once -/
def Once (val : Nat → Str) (i : Nat) (ss : List Str) : Prop := ss.Nodup ∧ ss.length ≤ i ∧ ∀ x, x ∈ ss ↔ ∃ j, j < i ∧ val j = x
theorem Once.zero (val : Nat → Str) : Once val 0 [] := ⟨List.nodup_nil, Nat.le_refl _, fun x => by simp⟩
theorem Once.next {val : Nat → Str} {i : Nat} {ss ss' : List Str} (h : Once val i ss) (e : if val i ∈ ss then ss' = ss else ss'.Perm (ss ++ [val i])) : Once val (i + 1) ss' := by
  obtain ⟨h1, h2, h3⟩ := h
  by_cases hm : val i ∈ ss
  · rw [if_pos hm] at e
    subst e
    refine ⟨h1, by omega, fun x => (h3 x).trans ⟨fun ⟨j, a, b⟩ => ⟨j, by omega, b⟩, fun ⟨j, a, b⟩ => ?_⟩⟩
    by_cases hj : j < i
    · exact ⟨j, hj, b⟩
    · have : j = i := by omega
      subst this
      subst b
      exact (h3 _).mp hm
  · rw [if_neg hm] at e
    refine ⟨e.nodup_iff.mpr ?_, ?_, fun x => ?_⟩
    · rw [List.nodup_append]
      exact ⟨h1, by simp, fun y hy z hz => by rw [List.mem_singleton] at hz; subst hz; rintro rfl; exact hm hy⟩
    · rw [e.length_eq, List.length_append]
      simpa using h2
    · rw [e.mem_iff, List.mem_append, h3 x, List.mem_singleton]
      constructor
      · rintro (⟨j, a, b⟩ | rfl)
        · exact ⟨j, by omega, b⟩
        · exact ⟨i, by omega, rfl⟩
      · rintro ⟨j, a, b⟩
        by_cases hj : j < i
        · exact .inl ⟨j, hj, b⟩
        · have : j = i := by omega
          subst this
          exact .inr b.symm
section
variable {P : Program} {w : World} {A : Around} {R : Result → Shared → Prop} {I : Addr} {fp wr : List Addr} {G : Array GenState → Array GenState → Prop} {n : Nat} {Pv : Nat → Value → Prop} {St : Nat → Shared → Prop}
theorem tset_loop (W : WalksS P w A.in1 I fp wr G n Pv St) (S : Addr) (nS : S ∉ fp) (val : Nat → Str) (hv : ∀ i v, Pv i v → ∃ t, v = .str (val i) t) (nb : n + 1 < scanBound) : ∀ (k i : Nat) (s : Shared) (ss : List Str), n - i = k → i ≤ n → St i s → StrSet P w s.heap S ss → Once val i ss →
    (∀ s' ss', Moved (S :: wr) G s s' → StrSet P w s'.heap S ss' → Once val n ss' → R (.ok (.ret .none)) s') → codeAny (model P w) A (.builtin "set.update.loop" ⟨[.ref S, .ref I], []⟩) R s := by
  have nw : S ∉ wr := fun z => nS (W.sub _ z)
  have sub : ∀ b ∈ wr, b ∈ S :: wr := fun b z => List.mem_cons_of_mem _ z
  intro k
  induction k with
  | zero =>
    intro i s ss hk hi st hS ho r
    have e : i = n := by omega
    subst e
    refine codeAny_builtin PyProof.Rows.F.entry_set_update_loop ?_
    rw [Around.under_plainId PyProof.Rows.F.plain_set_update_loop _]
    show wpAny _ A.in1 (pyNext (.ref I) >>= _) _ _ _
    refine wpAny_bind (W.done s _ _ st fun s1 m1 => wpAny_pure (r s1 ss (m1.mono sub) (hS.at fun o z => m1.heap S o nw z) ho))
  | succ k ih =>
    intro i s ss hk hi st hS ho r
    have lt : i < n := by omega
    refine codeAny_builtin PyProof.Rows.F.entry_set_update_loop ?_
    rw [Around.under_plainId PyProof.Rows.F.plain_set_update_loop _]
    show wpAny _ A.in1 (pyNext (.ref I) >>= _) _ _ _
    refine wpAny_bind (W.item i s _ _ lt st fun v s1 pv st1 m1 => ?_)
    obtain ⟨t, rfl⟩ := hv i v pv
    have hS1 : StrSet P w s1.heap S ss := hS.at fun o z => m1.heap S o nw z
    show wpAny _ A.in1 (holding [Value.str (val i) t] (setAdd S (.str (val i) t)) >>= _) _ _ s1
    refine wpAny_bind (wpAny_holding ?_)
    unfold setAdd
    refine wpAny_holding (wpAny_bind ((PySem.strKind P w).pyHash (strKind_is P w _ _) ?_))
    refine tset_add (s := { s1 with toks := s1.toks + 1 }) hS1 (by have := ho.2.1; omega) fun h2 ss2 sb2 hS2 q2 => ?_
    refine wpAny_pure ⟨plainId_quiet PyProof.Rows.F.plain_set_update_loop _, ih (i + 1) _ ss2 (by omega) lt (W.frame _ s1 _ _ st1 (Nat.le_succ _) fun b hb o e => ?_) hS2 (ho.next q2) fun s3 ss3 m3 hS3 o3 => ?_⟩
    · rw [sb2.2 b (fun z : b = S => nS (by rw [← z]; exact hb))]; exact e
    · refine r s3 ss3 (Moved.trans W.gtrans ((m1.mono sub).then_heap (Nat.le_succ _) fun b o hb e => ?_) m3) hS3 o3
      rw [sb2.2 b (fun z : b = S => hb (by rw [z]; exact List.mem_cons_self))]; exact e
end
section
variable {P : Program} {w : World} {A : Around} {E : Value → Shared → Prop} {s : Shared}
/-- a new set's object -/
abbrev setO (w : World) : Obj := { cls := .type "set", dict := none, data := .set #[] 0 (.fresh 0 0 (!w.params.followText "set-order")), slots := #[] }
theorem setO_ok (P : Program) (w : World) {h : Heap} {a : Addr} (e : h.get? a = some (setO w)) : StrSet P w h a [] := ⟨#[], 0, _, e, fun e he => by simp at he, .nil, by show 0 < scanBound; decide, by rfl, rfl, fun z => absurd rfl z⟩
theorem code_setT (v : Value) {Q1 : Value → Shared → Prop} (h : Q1 (.ref s.heap.objs.size) { s with heap := s.heap.push (setO w) }) : codeAny (model P w) A (.call (.builtin "set.__new__") ⟨[.type "set", v], []⟩) (wants Q1 E) s := by
  refine codeAny_of_tree ?_
  show wpAny _ A.in1 (do checkBuiltinCall "set.__new__" ⟨[.type "set", v], []⟩; again (.builtin "set.__new__" ⟨[.type "set", v], []⟩)) _ _ s
  refine wpAny_bind (wpAny_of_eq (PySem.F.newCall_set_1 v) (wpAny_pure ⟨plainId_quiet PySem.F.plain_set_new _, codeAny_builtin PySem.F.entry_set_new ?_⟩))
  rw [Around.under_plainId PySem.F.plain_set_new _]
  unfold Builtin.«set.__new__» Builtin.Frozenset.newClass
  have hsub := sub_set_self
  obtain ⟨hp, g, d, tk, os⟩ := s
  dsimp only
  wp_walk
  refine wpAny_askSetting (wpAny_pure ?_)
  dsimp only
  simp only [newObj]
  exact wpAny_bind (wpAny_alloc (wpAny_pure (wpAny_pure h)))
set_option maxHeartbeats 3200000 in
theorem call_setT {l : Addr} {items : Array Value} {ss0 : List Str} {Q : Value → Shared → Prop} (hh : A.handled = none) (hl : s.heap.IsList l items) (hi : StrsAre items.toList ss0) (hb : items.size + 1 < scanBound)
    (h : ∀ (h' : Heap) (tk : Nat) (ss : List Str), StrSet P w h' s.heap.objs.size ss → Once (fun i => ss0.getD i default) items.size ss → (∀ b o, b < s.heap.objs.size → s.heap.get? b = some o → h'.get? b = some o) → Q (.ref s.heap.objs.size) { s with heap := h', toks := tk }) :
    wpAny (model P w) A (call (.type "set") [.ref l]) Q E s := by
  obtain ⟨c, tl, hmro⟩ := PySem.F.called_set.mro
  have hmade := PySem.F.called_set.made
  have hsub := PySem.F.called_set.sub
  refine wpAny_call (codeAny_of_tree ?_)
  show wpAny _ _ (callAny (.type "set") _) _ _ _
  refine wpAny_pure ⟨Code.quiet_builtin _ (by decide +kernel), codeAny_builtin PySem.F.entry_type_call ?_⟩
  rw [Around.under_plain (weight_type_call_type "set" [.ref l] []) rfl]
  have h1 := PySem.F.called_set.notType
  have h2 := PySem.F.called_set.canCreate
  have hct := PySem.F.typeCall_set_1 (.ref l)
  repeat (any_goals (first | assumption | wp_step))
  refine codeAny_mono (code_setT (.ref l) (E := E) (Q1 := fun obj s1 => obj = .ref s.heap.objs.size ∧ s1 = { s with heap := s.heap.push (setO w) }) ⟨rfl, rfl⟩) fun r s1 hr => ?_
  cases r with
  | error e => exact hr
  | ok fl =>
    cases fl with
    | ret obj =>
      obtain ⟨rfl, rfl⟩ := hr
      have hS : (s.heap.push (setO w)).get? s.heap.objs.size = some (setO w) := Heap.get?_push_size _ rfl
      have hT : Shared.TypeIs { s with heap := s.heap.push (setO w) } (.ref s.heap.objs.size) "set" := ⟨_, hS, rfl⟩
      have hli := PySem.F.called_set.init.lookup
      have hbi := PySem.F.called_set.init.bind (.ref s.heap.objs.size)
      repeat (any_goals (first | assumption | wp_step))
      refine codeAny_mono (codeAny_call_builtin (R := wants (fun r s2 => r = .none ∧ ∃ h' tk ss, s2 = { s with heap := h', toks := tk } ∧ StrSet P w h' s.heap.objs.size ss ∧ Once (fun i => ss0.getD i default) items.size ss ∧
          (∀ b o, b < s.heap.objs.size → s.heap.get? b = some o → h'.get? b = some o)) E) PySem.F.called_set.init.plain PySem.F.entry_set_init (check_set_init_1 hT ?_)) fun r2 s2 hr2 => ?_
      · obtain ⟨ol, hol, hcl, nl, hdl⟩ := hl
        obtain ⟨ocls, odict, odata, oslots⟩ := ol
        simp only at hcl hdl
        subst hcl; subst hdl
        have hol' : (s.heap.push (setO w)).get? l = some { cls := .type "list", dict := odict, data := .seq items nl, slots := oslots } := Heap.get?_push_of_some _ hol
        have hsls := PySem.F.sub_list_set
        have hslf := PySem.F.sub_list_frozenset
        have hne : (Value.type "list" == Value.type "dict") = false := by decide
        have hl1 : (s.heap.push (setO w)).IsList l items := ⟨_, hol', rfl, nl, rfl⟩
        unfold Builtin.«set.__init__» noKeywords Builtin.Frozenset.updateFrom
        generalize hPI : pyIter = PI
        wp_walk
        subst hPI
        refine wpAny_pyIter_list hl1 (wpAny_bind (wpAny_runValue ?_))
        have lS : l < s.heap.objs.size := Heap.lt_size hol
        have h3 : A.in1.in1.in1.handled = none := by simp [hh]
        have nI : l ≠ (s.heap.push (setO w)).objs.size := by
          rw [Heap.size_push]; exact Nat.ne_of_lt (Nat.lt_succ_of_lt lS)
        have nF : s.heap.objs.size ∉ [(s.heap.push (setO w)).objs.size, l] := by
          rw [Heap.size_push]; simp only [List.mem_cons, List.mem_singleton, List.not_mem_nil, or_false, not_or]
          exact ⟨Nat.ne_of_lt (Nat.lt_succ_self _), Nat.ne_of_gt lS⟩
        have hval : ∀ (i : Nat) (v : Value), items[i]? = some v → ∃ t, v = .str ((fun i => ss0.getD i default) i) t := fun i v hv => by
          have hv' : items.toList[i]? = some v := by rw [Array.getElem?_toList]; exact hv
          obtain ⟨x, t, rfl⟩ := hi.all v (List.mem_of_getElem? hv')
          refine ⟨t, ?_⟩
          have e := congrArg (fun z => z[i]?) hi.strs
          simp only [List.getElem?_map, hv'] at e
          show Value.str x t = Value.str (ss0.getD i default) t
          rw [List.getD_eq_getElem?_getD, ← e]
          rfl
        refine tset_loop ((Walks.list h3 _ l nI items).toS) s.heap.objs.size nF (fun i => ss0.getD i default) hval hb (items.size - 0) 0 _ [] (by omega) (Nat.zero_le _) ⟨⟨_, Heap.get?_push_size _ rfl, rfl, rfl⟩, (hl1.push _)⟩ (setO_ok P w (Heap.get?_push_of_some _ hS)) (Once.zero _) fun s' ss' hm hS' hO => ?_
        obtain ⟨h', g', d', tk', os'⟩ := s'
        cases (show g' = s.gens from hm.gens)
        cases (show d' = s.drawn from hm.drawn)
        cases (show os' = s.os from hm.os)
        show wpAny _ _ _ _ _ _
        refine wpAny_pure ?_
        show wpAny _ _ (ret Value.none) _ _ _
        refine wpAny_pure ⟨rfl, h', tk', ss', rfl, hS', hO, fun b o hb e => ?_⟩
        have b1 : b ≠ s.heap.objs.size := Nat.ne_of_lt hb
        have b2 : b ≠ (s.heap.push (setO w)).objs.size := by
          rw [Heap.size_push]; exact Nat.ne_of_lt (Nat.lt_succ_of_lt hb)
        exact hm.heap b o (by simp only [List.mem_cons, List.mem_singleton, List.not_mem_nil, or_false, not_or]; exact ⟨b1, b2⟩) (Heap.get?_push_of_some _ (Heap.get?_push_of_some _ e))
      · cases r2 with
        | error e => exact hr2
        | ok fl2 =>
          cases fl2 with
          | ret r =>
            obtain ⟨rfl, h', tk, ss, rfl, hS', hO, hk'⟩ := hr2
            repeat (any_goals (first | assumption | wp_step))
            exact h _ _ _ hS' hO hk'
          | _ => exact hr2.elim
    | _ => exact hr.elim
end
end L2

set_option Elab.async false
set_option linter.all false
set_option maxRecDepth 100000
namespace L2
open PySem PySem.Spec PyProof.Rows
/-! ### a set of texts walked -/
namespace FS
theorem entry_set_iter' : entryFor table "set.__iter__" = some Builtin.«frozenset.__iter__» := entryFor_alias (id' := "frozenset.__iter__") (by kernel_rfl) rfl (by decide +kernel) (by kernel_rfl)
theorem slot_sin : Slot "set_iterator" "__next__" "set_iterator.__next__" := .of (owner := "set_iterator") (n := "__next__") (by rw [typeLookup_type, builtinLookup_eq_fast]; kernel_rfl) (by decide +kernel) (by decide +kernel) (by decide +kernel) (by first | exact .inl (by decide +kernel) | exact .inr (by decide +kernel)) (by rw [isSubtype_type]; kernel_rfl)
theorem entry_sin : entryFor table "set_iterator.__next__" = some Builtin.«set_iterator.__next__» := entryFor_of_tree (by kernel_rfl)
theorem owner_si : Manifest.owners.lookup (String.ofList ['r', 'o', 't', 'a', 'r', 'e', 't', 'i', '_', 't', 'e', 's'].reverse) = some Manifest.sig_set_iterator := by kernel_rfl
theorem args_sin (a : Value) : argsOk "set_iterator.__next__" ⟨[a], []⟩ := by
  unfold argsOk; rw [signature?_of (id := "set_iterator.__next__") (n := ['_', '_', 't', 'x', 'e', 'n', '_', '_']) (o := ['r', 'o', 't', 'a', 'r', 'e', 't', 'i', '_', 't', 'e', 's']) (by kernel_rfl) owner_si]; kernel_rfl
theorem slot_sii : Slot "set_iterator" "__iter__" "set_iterator.__iter__" := .of (owner := "set_iterator") (n := "__iter__") (by rw [typeLookup_type, builtinLookup_eq_fast]; kernel_rfl) (by decide +kernel) (by decide +kernel) (by decide +kernel) (by first | exact .inl (by decide +kernel) | exact .inr (by decide +kernel)) (by rw [isSubtype_type]; kernel_rfl)
theorem entry_sii : entryFor table "set_iterator.__iter__" = some Builtin.«dict_keyiterator.__iter__» := entryFor_alias (id' := "dict_keyiterator.__iter__") (by kernel_rfl) (by first | rfl | decide +kernel | (unfold String.splitOn; simp +decide [String.splitOnAux])) (by decide +kernel) (by kernel_rfl)
theorem args_sii (a : Value) : argsOk "set_iterator.__iter__" ⟨[a], []⟩ := by
  unfold argsOk; rw [signature?_of (id := "set_iterator.__iter__") (n := ['_', '_', 'r', 'e', 't', 'i', '_', '_']) (o := ['r', 'o', 't', 'a', 'r', 'e', 't', 'i', '_', 't', 'e', 's']) (by kernel_rfl) owner_si]; kernel_rfl
end FS
theorem erase_perm {α : Type} : ∀ (l : List α) (i : Nat) (x : α), l[i]? = some x → (x :: l.eraseIdx i).Perm l
  | [], i, x, h => by simp at h
  | y :: l, 0, x, h => by simp at h; subst h; exact List.Perm.refl _
  | y :: l, i + 1, x, h => by
    have q := erase_perm l i x (by simpa using h)
    rw [List.eraseIdx_cons_succ]
    exact (List.Perm.swap y x _).trans (q.cons y)
section
variable {M : Model} {A : Around} {E : Value → Shared → Prop} {s : Shared}
theorem wp_choose {src : Source} {n : Nat} {Q : Nat → Shared → Prop} (hn : n ≠ 0) (h : ∀ i d, i < n → Q i { s with drawn := d }) : wpAny M A (choose src n) Q E s := fun Γ p _ => ⟨hn, h _ _ (Nat.mod_lt _ (Nat.pos_of_ne_zero hn))⟩
theorem wp_drawOrder {α : Type} : ∀ (n : Nat) (xs : List α) (s : Shared) (Q : List α → Shared → Prop), xs.length = n → (∀ ys d, ys.Perm xs → Q ys { s with drawn := d }) → wpAny M A (drawOrder n xs) Q E s
  | 0, xs, s, Q, hl, h => by
    have e : xs = [] := List.length_eq_zero_iff.mp hl
    subst e
    exact wpAny_pure (h [] s.drawn (List.Perm.refl _))
  | n + 1, [], s, Q, hl, h => by simp at hl
  | n + 1, y :: ys, s, Q, hl, h => by
    show wpAny M A (choose .order (y :: ys).length >>= _) Q E s
    refine wpAny_bind (wp_choose (by simp) fun i d hi => ?_)
    have e : (y :: ys)[i]? = some (y :: ys)[i] := List.getElem?_eq_getElem hi
    rw [e]
    dsimp only
    have p := erase_perm (y :: ys) i _ e
    refine wpAny_bind (wp_drawOrder n ((y :: ys).eraseIdx i) _ _ ?_ fun zs d2 pz => wpAny_pure (h _ d2 ((pz.cons _).trans p)))
    have := p.length_eq
    simp only [List.length_cons] at this hl ⊢
    omega
end
theorem pick_go {α : Type} (next : Nat → Nat) : ∀ (n k : Nat) (left : List α) (out : Array α), left.length = n → (pickOrder.go next n k left out).toList.Perm (out.toList ++ left)
  | 0, k, left, out, hl => by
    have e : left = [] := List.length_eq_zero_iff.mp hl
    subst e
    rw [pickOrder.go, List.append_nil]
  | n + 1, k, left, out, hl => by
    rw [pickOrder.go]
    have hi : next k % left.length < left.length := Nat.mod_lt _ (by omega)
    have e : left[next k % left.length]? = some left[next k % left.length] := List.getElem?_eq_getElem hi
    rw [e]
    dsimp only
    have p := erase_perm left _ _ e
    have l := p.length_eq
    simp only [List.length_cons] at l
    refine (pick_go next n (k + 1) _ _ (by omega)).trans ?_
    rw [Array.toList_push, List.append_assoc]
    exact List.Perm.append_left _ p
theorem pick_perm {α : Type} (next : Nat → Nat) (xs : Array α) : (pickOrder next xs).toList.Perm xs.toList := by
  have q := pick_go next xs.size 0 xs.toList #[] (by simp)
  simpa [pickOrder] using q
section
variable {P : Program} {w : World} {A : Around} {E : Value → Shared → Prop} {s : Shared} {a : Addr} {es : Array (Int × Value)} {ep : Nat} {t : SetTable}
theorem wp_setDrawn {Q : Bool → Shared → Prop} (ho : s.heap.get? a = some { cls := .type "set", dict := none, data := .set es ep t, slots := #[] }) (hf : t.fits es.size = true) (h : Q (!w.params.followText "set-order" && (!t.plain && decide (es.size > 1))) s) : wpAny (model P w) A (setDrawn a) Q E s := by
  unfold setDrawn
  refine wpAny_bind (wpAny_setState_of ho rfl hf ?_)
  unfold setsByText
  exact wpAny_bind (wpAny_bind (wpAny_askSetting (wpAny_pure (wpAny_pure h))))
/-- the walk by places: what is told and where one stands behind it -/
theorem wp_setNextT {slot i : Nat} {Q : Option (Value × Nat) → Shared → Prop} (ho : s.heap.get? a = some { cls := .type "set", dict := none, data := .set es ep t, slots := #[] }) (hf : t.fits es.size = true) (hb : w.params.followText "set-order" = true)
    (h : Q (((pickOrder (w.params.setOrder a ep) es)[i]?).map fun e => (e.2, slot)) s) : wpAny (model P w) A (setNext a slot i ep) Q E s := by
  unfold setNext
  refine wpAny_bind (wpAny_setState_of ho rfl hf ?_)
  unfold setsByText
  refine wpAny_bind (wpAny_bind (wpAny_askSetting (wpAny_pure ?_)))
  show wpAny _ _ (if (w.params.followText "set-order") = true then _ else _) _ _ _
  rw [if_pos hb]
  rw [if_neg (by simp)]
  unfold setWalk
  refine wpAny_bind (wpAny_bind (wpAny_setState_of ho rfl hf ?_))
  unfold setsByText
  refine wpAny_bind (wpAny_bind (wpAny_askSetting (wpAny_pure ?_)))
  show wpAny _ _ (if (w.params.followText "set-order") = true then _ else _) _ _ _
  rw [if_pos hb]
  exact wpAny_bind (wpAny_askSetting (wpAny_pure (wpAny_pure h)))
theorem wp_setNext1 {slot i : Nat} {Q : Option (Value × Nat) → Shared → Prop} (ho : s.heap.get? a = some { cls := .type "set", dict := none, data := .set es ep t, slots := #[] }) (hf : t.fits es.size = true) (hb : w.params.followText "set-order" = false) (h1 : es.size ≤ 1) (hl : t.led = true)
    (h : Q (match es[SetTable.below t.place slot]?, t.place[SetTable.below t.place slot]? with | some (_, x), some j => some (x, j + 1) | _, _ => none) s) : wpAny (model P w) A (setNext a slot i ep) Q E s := by
  unfold setNext
  refine wpAny_bind (wpAny_setState_of ho rfl hf ?_)
  unfold setsByText
  refine wpAny_bind (wpAny_bind (wpAny_askSetting (wpAny_pure ?_)))
  show wpAny _ _ (if (w.params.followText "set-order") = true then _ else _) _ _ _
  rw [if_neg (by rw [hb]; exact Bool.false_ne_true)]
  show wpAny _ _ (if (!t.plain && decide (es.size > 1)) = true then _ else _) _ _ _
  rw [if_neg (by rw [Bool.and_eq_true]; rintro ⟨_, z⟩; have := of_decide_eq_true z; omega)]
  refine wpAny_bind ?_
  show wpAny _ _ (if (!t.led && !es.isEmpty) = true then _ else _) _ _ _
  rw [if_neg (by rw [hl]; simp)]
  exact wpAny_pure (wpAny_pure h)
end
end L2

set_option Elab.async false
set_option linter.all false
set_option maxRecDepth 100000
namespace L2
open PySem PySem.Spec PyProof.Rows
abbrev sIt (a : Addr) (f0 : Value) (i n ep : Nat) : Obj := { cls := .type "set_iterator", dict := none, data := .fields #[f0, rawInt i, .ref a, rawInt n, rawInt ep], slots := #[] }
abbrev sOb (es : Array (Int × Value)) (ep : Nat) (t : SetTable) : Obj := { cls := .type "set", dict := none, data := .set es ep t, slots := #[] }
section
variable {P : Program} {w : World} {A : Around} {E : Value → Shared → Prop} {s : Shared} {a I : Addr} {es : Array (Int × Value)} {ep : Nat} {t : SetTable}
theorem sit_stop {T : Obj} {Q : Fin → Shared → Prop} {f0 : Value} {i n : Nat} {pre : Sem Unit} (hh : A.handled = none) (hI : s.heap.get? I = some (sIt a f0 i n ep))
    (hp : ∀ {Q' : Unit → Shared → Prop}, (∀ h1, Heap.SameBut I s.heap h1 → (∃ g0, h1.get? I = some (sIt a g0 i n ep)) → Q' () { s with heap := h1 }) → wpAny (model P w) A pre Q' E s)
    (hE : ∀ h' e, Heap.ExtBut I s.heap h' → (∃ o, h'.get? e = some o ∧ o.cls = .type "StopIteration") → E (.ref e) { s with heap := h' }) :
    wpAny (model P w) A (do pre; setField (.ref I) 2 .none; raiseNew (← newExc (.type "StopIteration") [])) Q E s := by
  refine wpAny_bind (hp fun h1 b1 hg => ?_)
  obtain ⟨g0, hI1⟩ := hg
  refine wpAny_bind (wpAny_setField_rec hI1 (by simp) fun h2 hI2 b2 => ?_)
  show wpAny _ _ (newExc (.type "StopIteration") [] >>= fun e => raiseNew e) _ _ _
  refine wpAny_bind ?_
  simp only [newExc, newTuple]
  refine wpAny_bind (wpAny_newObj_type ?_ (by size_fits))
  refine wpAny_bind (m := firstArgMember _ _) (wpAny_of_eq (a := Value.none) (by first | rfl | (simp only [firstArgMember]; rfl)) ?_)
  refine wpAny_newObj_type ?_ (by size_fits)
  simp only [raiseNew]
  refine wpAny_bind (wpAny_handled ?_)
  rw [hh]
  exact wpAny_bind (wpAny_pure (wpAny_throw (hE _ _ (((b1.trans b2).extBut.push _).push _) ⟨_, Heap.get?_push_size _ rfl, rfl⟩)))
end
section
variable {P : Program} {w : World} {a I : Addr} {es : Array (Int × Value)} {ep : Nat} {t : SetTable}
theorem walk_setI (hne : a ≠ I) (hf : t.fits es.size = true) (order : List Value) (sl : Nat → Nat)
    (nx : ∀ (A : Around) (E : Value → Shared → Prop) (s : Shared) (Q : Option (Value × Nat) → Shared → Prop) (i : Nat), i ≤ order.length → s.heap.get? a = some (sOb es ep t) → Q ((order[i]?).map fun x => (x, sl (i + 1))) s → wpAny (model P w) A (setNext a (sl i) i ep) Q E s) :
    ∀ A : Around, A.handled = none → Walks P w A I [I, a] [I] order.length (fun i v => order[i]? = some v) (fun i h => h.get? I = some (sIt a (rawInt (sl i)) i es.size ep) ∧ h.get? a = some (sOb es ep t)) := fun A hh => {
  sub := fun b hb => by simp at hb ⊢; exact .inl hb
  frame := fun i h h' st k => ⟨k I (by simp) _ st.1, k a (by simp) _ st.2⟩
  item := fun i s Q E hi st hQ => by
    obtain ⟨hI, ho⟩ := st
    have hT : s.TypeIs (.ref I) "set_iterator" := ⟨_, hI, rfl⟩
    unfold pyNext
    refine wpAny_bind (wpAny_attempt (wpAny_callSpecial?_slot (name := Str.ofString "__next__") hT FS.slot_sin (wpAny_call_entry FS.slot_sin hT FS.entry_sin ?_ (FS.args_sin _))))
    unfold Builtin.«set_iterator.__next__»
    refine wpAny_bind (wpAny_pure (wpAny_bind (wpAny_fieldsOf hI rfl ?_)))
    show wpAny _ _ (setEntries a >>= _) _ _ _
    refine wpAny_bind (wpAny_setEntries_of ho rfl hf ?_)
    rw [if_neg (by simp)]
    show wpAny _ _ (setNext a (sl i) i ep >>= _) _ _ _
    refine wpAny_bind (nx _ _ s _ i (Nat.le_of_lt hi) ho ?_)
    rw [List.getElem?_eq_getElem hi]
    show wpAny _ _ (setField (.ref I) 0 (rawInt (sl (i + 1))) >>= _) _ _ _
    refine wpAny_bind (wpAny_setField_rec hI (by simp) fun h1 hI1 b1 => wpAny_bind (wpAny_setField_rec hI1 (by simp) fun h2 hI2 b2 => ?_))
    refine wpAny_pure ⟨_, rfl, wpAny_pure (hQ _ h2 s.toks (List.getElem?_eq_getElem hi) ⟨hI2, ?_⟩ fun b o hb e => ?_)⟩
    · exact b2.extBut _ _ hne (b1.extBut _ _ hne ho)
    · have nb : b ≠ I := by simpa using hb
      exact b2.extBut _ _ nb (b1.extBut _ _ nb e)
  done := fun s Q E st hQ => by
    obtain ⟨hI, ho⟩ := st
    have hT : s.TypeIs (.ref I) "set_iterator" := ⟨_, hI, rfl⟩
    unfold pyNext
    refine wpAny_bind (wpAny_attempt (wpAny_callSpecial?_slot (name := Str.ofString "__next__") hT FS.slot_sin (wpAny_call_entry FS.slot_sin hT FS.entry_sin ?_ (FS.args_sin _))))
    unfold Builtin.«set_iterator.__next__»
    refine wpAny_bind (wpAny_pure (wpAny_bind (wpAny_fieldsOf hI rfl ?_)))
    show wpAny _ _ (setEntries a >>= _) _ _ _
    refine wpAny_bind (wpAny_setEntries_of ho rfl hf ?_)
    rw [if_neg (by simp)]
    show wpAny _ _ (setNext a (sl order.length) order.length ep >>= _) _ _ _
    refine wpAny_bind (nx _ _ s _ order.length (Nat.le_refl _) ho ?_)
    rw [List.getElem?_eq_none (Nat.le_refl _)]
    refine sit_stop (pre := pure ()) (T := sOb es ep t) (by exact hh) hI (fun q => wpAny_pure (q _ (Heap.SameBut.refl ..) ⟨_, hI⟩)) fun h' e k he => ?_
    obtain ⟨oe, h1, h2⟩ := he
    refine wpAny_bind (wpAny_isInstance (T := "StopIteration") (b := true) ⟨oe, h1, h2⟩ isSubtype_stop (wpAny_pure (hQ _ s.toks fun b o hb e => k _ _ (by simpa using hb) e)))
  self := fun i s Q E st hQ => by
    have hT : s.TypeIs (.ref I) "set_iterator" := ⟨_, st.1, rfl⟩
    refine wpAny_pyIter_slot hT FS.slot_sii (wpAny_call_entry FS.slot_sii hT FS.entry_sii ?_ (FS.args_sii _))
    exact wpAny_pure ⟨_, rfl, "set_iterator", _, hT, FS.slot_sin.lookup, hQ⟩ }
end
end L2

set_option Elab.async false
set_option linter.all false
set_option maxRecDepth 100000
namespace L2
open PySem PySem.Spec PyProof.Rows
abbrev tOb (xs : Array Value) : Obj := { cls := .type "tuple", data := .seq xs }
section
variable {P : Program} {w : World} {a I T : Addr} {es : Array (Int × Value)} {ep : Nat} {t : SetTable}
theorem walk_setD (hne : a ≠ I) (hT0 : T ≠ I) (hf : t.fits es.size = true) (ps : List Nat) (order : List Value) (hl : order.length = ps.length) (hp : ∀ (i p : Nat), ps[i]? = some p → ∃ k x, es[p]? = some (k, x) ∧ order[i]? = some x) :
    ∀ A : Around, A.handled = none → Walks P w A I [I, a, T] [I] order.length (fun i v => order[i]? = some v) (fun i h => h.get? I = some (sIt a (.ref T) i es.size ep) ∧ h.get? a = some (sOb es ep t) ∧ h.get? T = some (tOb (ps.map fun (p : Nat) => rawInt p).toArray)) := fun A hh => {
  sub := fun b hb => by simp at hb ⊢; exact .inl hb
  frame := fun i h h' st k => ⟨k I (by simp) _ st.1, k a (by simp) _ st.2.1, k T (by simp) _ st.2.2⟩
  item := fun i s Q E hi st hQ => by
    obtain ⟨hI, ho, hTt⟩ := st
    have hT : s.TypeIs (.ref I) "set_iterator" := ⟨_, hI, rfl⟩
    unfold pyNext
    refine wpAny_bind (wpAny_attempt (wpAny_callSpecial?_slot (name := Str.ofString "__next__") hT FS.slot_sin (wpAny_call_entry FS.slot_sin hT FS.entry_sin ?_ (FS.args_sin _))))
    unfold Builtin.«set_iterator.__next__»
    refine wpAny_bind (wpAny_pure (wpAny_bind (wpAny_fieldsOf hI rfl ?_)))
    show wpAny _ _ (setEntries a >>= _) _ _ _
    refine wpAny_bind (wpAny_setEntries_of ho rfl hf ?_)
    rw [if_neg (by simp)]
    show wpAny _ _ (seqItems? (.ref T) >>= _) _ _ _
    refine wpAny_bind (wpAny_seqItems hTt rfl ?_)
    have hip : i < ps.length := by rw [← hl]; exact hi
    obtain ⟨k, x, h1, h2⟩ := hp i _ (List.getElem?_eq_getElem hip)
    have e1 : ((ps.map fun (p : Nat) => rawInt p).toArray)[i]? = some (rawInt ((ps[i] : Nat) : Int)) := by simp [hip]
    show wpAny _ _ (match ((ps.map fun (p : Nat) => rawInt p).toArray)[((i : Int)).toNat]? with | some (.int place _) => _ | some _ => _ | none => _) _ _ _
    rw [Int.toNat_natCast, e1]
    show wpAny _ _ (setNextDrawn a ps[i] ep >>= _) _ _ _
    unfold setNextDrawn
    refine wpAny_bind (wpAny_bind (wpAny_setState_of ho rfl hf ?_))
    dsimp only
    rw [if_neg (by simp), h1]
    refine wpAny_pure (wpAny_bind (wpAny_setField_rec hI (by simp) fun h3 hI3 b3 => ?_))
    refine wpAny_pure ⟨_, rfl, wpAny_pure (hQ _ h3 s.toks h2 ⟨hI3, b3.extBut _ _ hne ho, b3.extBut _ _ hT0 hTt⟩ fun b o hb e => b3.extBut _ _ (by simpa using hb) e)⟩
  done := fun s Q E st hQ => by
    obtain ⟨hI, ho, hTt⟩ := st
    have hT : s.TypeIs (.ref I) "set_iterator" := ⟨_, hI, rfl⟩
    unfold pyNext
    refine wpAny_bind (wpAny_attempt (wpAny_callSpecial?_slot (name := Str.ofString "__next__") hT FS.slot_sin (wpAny_call_entry FS.slot_sin hT FS.entry_sin ?_ (FS.args_sin _))))
    unfold Builtin.«set_iterator.__next__»
    refine wpAny_bind (wpAny_pure (wpAny_bind (wpAny_fieldsOf hI rfl ?_)))
    show wpAny _ _ (setEntries a >>= _) _ _ _
    refine wpAny_bind (wpAny_setEntries_of ho rfl hf ?_)
    rw [if_neg (by simp)]
    show wpAny _ _ (seqItems? (.ref T) >>= _) _ _ _
    refine wpAny_bind (wpAny_seqItems hTt rfl ?_)
    have e1 : ((ps.map fun (p : Nat) => rawInt p).toArray)[order.length]? = none := by simp [hl]
    show wpAny _ _ (match ((ps.map fun (p : Nat) => rawInt p).toArray)[((order.length : Int)).toNat]? with | some (.int place _) => _ | some _ => _ | none => _) _ _ _
    rw [Int.toNat_natCast, e1]
    refine sit_stop (pre := setField (.ref I) 0 (rawInt 0)) (T := sOb es ep t) (by exact hh) hI (fun q => wpAny_setField_rec hI (by simp) fun h1 hI1 b1 => q _ b1 ⟨_, hI1⟩) fun h' e k he => ?_
    obtain ⟨oe, h1, h2⟩ := he
    refine wpAny_bind (wpAny_isInstance (T := "StopIteration") (b := true) ⟨oe, h1, h2⟩ isSubtype_stop (wpAny_pure (hQ _ s.toks fun b o hb e => k _ _ (by simpa using hb) e)))
  self := fun i s Q E st hQ => by
    have hT : s.TypeIs (.ref I) "set_iterator" := ⟨_, st.1, rfl⟩
    refine wpAny_pyIter_slot hT FS.slot_sii (wpAny_call_entry FS.slot_sii hT FS.entry_sii ?_ (FS.args_sii _))
    exact wpAny_pure ⟨_, rfl, "set_iterator", _, hT, FS.slot_sin.lookup, hQ⟩ }
end
theorem below_lt {p j : Nat} (h : j ≤ p) : SetTable.below #[p] j = 0 := by
  unfold SetTable.below
  show SetTable.below.go #[p] j 1 0 1 = 0
  unfold SetTable.below.go
  have e : ¬ (#[p] : Array Nat).getD ((0 + 1) / 2) j < j := by show ¬ p < j; omega
  rw [if_pos (by decide)]
  dsimp only
  rw [if_neg e]
  rfl
theorem below_ge {p j : Nat} (h : p < j) : SetTable.below #[p] j = 1 := by
  unfold SetTable.below
  show SetTable.below.go #[p] j 1 0 1 = 1
  unfold SetTable.below.go
  have e : (#[p] : Array Nat).getD ((0 + 1) / 2) j < j := by show p < j; omega
  rw [if_pos (by decide)]
  dsimp only
  rw [if_pos e]
  rfl
theorem below_nil (j : Nat) : SetTable.below #[] j = 0 := rfl
section
variable {P : Program} {w : World} {A : Around} {E : Value → Shared → Prop} {s : Shared} {a : Addr} {ss : List Str}
/-- iter(a set of texts): they are walked in some order -/
theorem iter_setT {Q : Value → Shared → Prop} (hS : StrSet P w s.heap a ss)
    (h : ∀ (I : Addr) (fp : List Addr) (vs : List Value) (ss1 : List Str) (St : Nat → Heap → Prop) (h1 : Heap) (d : Drawn), StrsAre vs ss1 → ss1.Perm ss → (∀ b o, s.heap.get? b = some o → h1.get? b = some o) → (∀ A : Around, A.handled = none → Walks P w A I fp [I] vs.length (fun i v => vs[i]? = some v) St) →
      St 0 h1 → I ∈ fp → (∀ b ∈ fp, b < h1.objs.size ∧ (b = a ∨ s.heap.objs.size ≤ b)) → s.heap.objs.size ≤ I → s.heap.objs.size ≤ h1.objs.size → Q (.ref I) { s with heap := h1, drawn := d }) : wpAny (model P w) A (pyIter (.ref a)) Q E s := by
  obtain ⟨es, ep, t, ho, e1, e2, e3, e4, e5, e6⟩ := hS
  have hT : s.TypeIs (.ref a) "set" := ⟨_, ho, rfl⟩
  have ha : a < s.heap.objs.size := Heap.lt_size ho
  have hp4 : t.place.size = es.size := by
    unfold SetTable.fits at e4
    rw [Bool.and_eq_true] at e4
    exact eq_of_beq e4.1
  refine wpAny_pyIter_slot hT PySem.F.slot_set_iter (wpAny_call_entry PySem.F.slot_set_iter hT FS.entry_set_iter' ?_ (PySem.F.args_set_iter_1 _))
  unfold Builtin.«frozenset.__iter__» Builtin.Frozenset.slot0
  refine wpAny_bind (wpAny_bind (wpAny_pure (wpAny_pure ?_)))
  unfold Builtin.Frozenset.sizeOf
  refine wpAny_bind (wpAny_bind (wpAny_setEntries_of ho rfl e4 (wpAny_pure ?_)))
  refine wpAny_bind (wp_setDrawn ho e4 ?_)
  dsimp only
  cases hb : w.params.followText "set-order" with
  | true =>
    rw [if_neg (by simp)]
    refine wpAny_bind (wpAny_pure (wpAny_bind (wpAny_setEpoch_of ho rfl e4 ?_)))
    show wpAny _ _ (newFields "set_iterator" _ >>= _) _ _ _
    refine wpAny_bind (wpAny_newObj_type (wpAny_pure ⟨_, rfl, "set_iterator", _, ⟨_, Heap.get?_push_size _ rfl, rfl⟩, FS.slot_sin.lookup, ?_⟩) (by show 5 ≤ _; decide))
    have p := pick_perm (w.params.setOrder a ep) es
    obtain ⟨ss1, q1, q2⟩ := strs_perm' e2 p
    refine h s.heap.objs.size [s.heap.objs.size, a] _ ss1 _ _ s.drawn q1 q2 (fun b o e => Heap.get?_push_of_some _ e) (walk_setI (ep := ep) (es := es) (t := t) (Nat.ne_of_lt ha) e4 _ (fun _ => 0) ?_) ⟨Heap.get?_push_size _ rfl, Heap.get?_push_of_some _ ho⟩ (by simp) ?_ (Nat.le_refl _) (by rw [Heap.size_push]; exact Nat.le_succ _)
    · intro A' E' s' Q' i hi ho' hq
      refine wp_setNextT ho' e4 hb ?_
      rw [List.getElem?_map, Array.getElem?_toList, Option.map_map] at hq
      exact hq
    · intro b hbm
      rw [Heap.size_push]
      simp at hbm
      rcases hbm with rfl | rfl
      · exact ⟨Nat.lt_succ_self _, .inr (Nat.le_refl _)⟩
      · exact ⟨Nat.lt_succ_of_lt ha, .inl rfl⟩
  | false =>
    have led : t.led = true := by rw [e5, hb]; rfl
    by_cases hz : es.size > 1
    · have pl : t.plain = false := e6 (by omega)
      rw [if_pos (by rw [pl, decide_eq_true hz]; rfl)]
      refine wpAny_bind (wp_drawOrder es.size (List.range es.size) s _ (by simp) fun ps d pp => ?_)
      refine wpAny_bind (wpAny_newTuple (s := { s with drawn := d }) ?_ (by rw [List.length_map, pp.length_eq, List.length_range]; exact fits_of_scanBound e3))
      have ho1 : (s.heap.push (tOb (ps.map fun (p : Nat) => rawInt p).toArray)).get? a = some (sOb es ep t) := Heap.get?_push_of_some _ ho
      refine wpAny_bind (wpAny_setEpoch_of (s := { s with heap := s.heap.push (tOb (ps.map fun (p : Nat) => rawInt p).toArray), drawn := d }) ho1 rfl e4 ?_)
      show wpAny _ _ (newFields "set_iterator" _ >>= _) _ _ _
      refine wpAny_bind (wpAny_newObj_type (wpAny_pure ⟨_, rfl, "set_iterator", _, ⟨_, Heap.get?_push_size _ rfl, rfl⟩, FS.slot_sin.lookup, ?_⟩) (by show 5 ≤ _; decide))
      have hlt : ∀ p ∈ ps, p < es.size := fun p hm => List.mem_range.mp (pp.mem_iff.mp hm)
      have ep1 : (ps.filterMap fun p => es[p]?).Perm es.toList := by
        have q := pp.filterMap fun p => es[p]?
        rw [filterMap_getElem?_range] at q
        exact q
      have hfm : ∀ l : List Nat, (∀ p ∈ l, p < es.size) → (l.filterMap fun p => es[p]?).length = l.length ∧ ∀ (i p : Nat), l[i]? = some p → ∃ k x, es[p]? = some (k, x) ∧ ((l.filterMap fun p => es[p]?).map (·.2))[i]? = some x := by
        intro l
        induction l with
        | nil => intro _; exact ⟨rfl, fun i p z => by simp at z⟩
        | cons c l ih =>
          intro hm
          obtain ⟨i1, i2⟩ := ih fun p hp => hm p (List.mem_cons_of_mem _ hp)
          have hcl : c < es.size := hm c List.mem_cons_self
          have hc : es[c]? = some es[c] := Array.getElem?_eq_getElem hcl
          rw [List.filterMap_cons, hc]
          refine ⟨by simp [i1], fun i p z => ?_⟩
          cases i with
          | zero =>
            have e : c = p := by simpa using z
            subst e
            exact ⟨_, _, hc, by simp⟩
          | succ i =>
            obtain ⟨k, x, a1, a2⟩ := i2 i p (by simpa using z)
            exact ⟨k, x, a1, by simpa using a2⟩
      obtain ⟨f1, f2⟩ := hfm ps hlt
      obtain ⟨ss1, q1, q2⟩ := strs_perm' e2 ep1
      have sz1 : (s.heap.push (tOb (ps.map fun (p : Nat) => rawInt p).toArray)).objs.size = s.heap.objs.size + 1 := Heap.size_push ..
      refine h (s.heap.push (tOb (ps.map fun (p : Nat) => rawInt p).toArray)).objs.size [(s.heap.push (tOb (ps.map fun (p : Nat) => rawInt p).toArray)).objs.size, a, s.heap.objs.size] _ ss1 _ _ d q1 q2 (fun b o e => Heap.get?_push_of_some _ (Heap.get?_push_of_some _ e))
        (walk_setD (ep := ep) (es := es) (t := t) (T := s.heap.objs.size) ?_ ?_ e4 ps _ (by rw [List.length_map, f1]) f2) ⟨Heap.get?_push_size _ rfl, Heap.get?_push_of_some _ ho1, Heap.get?_push_of_some _ (Heap.get?_push_size _ rfl)⟩ (by simp) ?_ ?_ ?_
      · rw [sz1]; exact Nat.ne_of_lt (Nat.lt_succ_of_lt ha)
      · rw [sz1]; exact Nat.ne_of_lt (Nat.lt_succ_self _)
      · intro b hbm
        rw [Heap.size_push, sz1]
        rw [sz1] at hbm
        simp at hbm
        rcases hbm with rfl | rfl | rfl
        · exact ⟨Nat.lt_succ_self _, .inr (Nat.le_succ _)⟩
        · exact ⟨Nat.lt_succ_of_lt (Nat.lt_succ_of_lt ha), .inl rfl⟩
        · exact ⟨Nat.lt_succ_of_lt (Nat.lt_succ_self _), .inr (Nat.le_refl _)⟩
      · rw [sz1]; exact Nat.le_succ _
      · rw [Heap.size_push, sz1]; exact Nat.le_succ_of_le (Nat.le_succ _)
    · rw [if_neg (by rw [decide_eq_false hz]; simp)]
      refine wpAny_bind (wpAny_pure (wpAny_bind (wpAny_setEpoch_of ho rfl e4 ?_)))
      show wpAny _ _ (newFields "set_iterator" _ >>= _) _ _ _
      refine wpAny_bind (wpAny_newObj_type (wpAny_pure ⟨_, rfl, "set_iterator", _, ⟨_, Heap.get?_push_size _ rfl, rfl⟩, FS.slot_sin.lookup, ?_⟩) (by show 5 ≤ _; decide))
      refine h s.heap.objs.size [s.heap.objs.size, a] _ ss _ _ s.drawn e2 (List.Perm.refl _) (fun b o e => Heap.get?_push_of_some _ e) (walk_setI (ep := ep) (es := es) (t := t) (Nat.ne_of_lt ha) e4 _ (fun i => if i = 0 then 0 else t.place.getD 0 0 + 1) ?_) ⟨Heap.get?_push_size _ rfl, Heap.get?_push_of_some _ ho⟩ (by simp) ?_ (Nat.le_refl _) (by rw [Heap.size_push]; exact Nat.le_succ _)
      · intro A' E' s' Q' i hi ho' hq
        refine wp_setNext1 ho' e4 hb (by omega) led ?_
        rw [List.length_map, Array.length_toList] at hi
        rcases Nat.lt_or_ge es.size 1 with z0 | z1
        · have e0 : es = #[] := Array.eq_empty_of_size_eq_zero (by omega)
          have p0 : t.place = #[] := Array.eq_empty_of_size_eq_zero (by omega)
          subst e0
          rw [p0] at hq ⊢
          rw [below_nil]
          simpa using hq
        · have z : es.size = 1 := by omega
          obtain ⟨x, e0⟩ : ∃ x, es = #[x] := by
            have := Array.size_eq_one_iff.mp z
            exact this
          obtain ⟨p, p0⟩ : ∃ p, t.place = #[p] := Array.size_eq_one_iff.mp (by omega)
          subst e0
          rw [p0] at hq ⊢
          obtain ⟨k, x⟩ := x
          by_cases i0 : i = 0
          · subst i0
            rw [if_pos rfl, below_lt (Nat.zero_le _)]
            simpa using hq
          · have i1 : i = 1 := by simp at hi; omega
            subst i1
            rw [if_neg (by decide)]
            show Q' (match (#[(k, x)] : Array (Int × Value))[SetTable.below #[p] (p + 1)]?, (#[p] : Array Nat)[SetTable.below #[p] (p + 1)]? with | some (_, x), some j => some (x, j + 1) | _, _ => none) s'
            rw [below_ge (Nat.lt_succ_self _)]
            simpa using hq
      · intro b hbm
        rw [Heap.size_push]
        simp at hbm
        rcases hbm with rfl | rfl
        · exact ⟨Nat.lt_succ_self _, .inr (Nat.le_refl _)⟩
        · exact ⟨Nat.lt_succ_of_lt ha, .inl rfl⟩
end
end L2

set_option Elab.async false
set_option linter.all false
set_option maxRecDepth 100000
namespace L2
open PySem PySem.Spec PyProof.Rows
section
variable {X : Cx} {pins : List (Addr × Obj)} {σ : St} {H : Hp} {s : Shared} {h' : Heap}
/-- records of ours have turned, a new thing is laid and tracked, draws were made -/
theorem Inv.turnedT {t' : Nat} {d' : Drawn} {ch : List Addr} {a : Addr} {o : HO} (I : Inv X pins σ H s) (k : ∀ b u, b ∉ ch → s.heap.get? b = some u → h'.get? b = some u) (f : ∀ b ∈ ch, FpOk X pins H b) (hp : s.heap.objs.size ≤ a) (new : ObjOk X.prog X.w (upd H a o) h' a o) :
    Inv X pins σ (upd H a o) { s with heap := h', toks := t', drawn := d' } := by
  have nit : ∀ b u, H b = some u → b ∉ ch := fun b u e z => by rw [(f b z).1] at e; cases e
  have hn : H a = none := I.hok.fresh hp
  refine I.step (g' := s.gens) (d' := d') (ch := ch) (fun b hb => ?_) (fun b u _ _ hc e _ => k b u hc e) (fun b u _ _ hc e _ => ⟨u.slots, k b u hc e⟩) (fun b u _ e n => ?_) (fun b u hc e => ⟨u, k b u hc e⟩) (fun b xs q => by rw [upd_ne (ne_of_none q hn)]; exact q) (fun b u v q => by rw [upd_ne (ne_of_none q hn)]; exact q)
    (fun b ps q => ⟨#[], by rw [upd_ne (ne_of_none q hn), q]; simp⟩) (fun m hm => ?_) (fun b u e => ?_) I.bare
  · obtain ⟨_, f1, _, f3, f4, f5⟩ := f b hb
    exact ⟨f3, f1, f4, f5⟩
  · rw [upd_ne (Nat.ne_of_lt (Nat.lt_of_lt_of_le (Heap.lt_size e) hp))]; exact n
  · obtain ⟨ob, es, ep, ho, r⟩ := hm
    exact ⟨ob, es, ep, k _ ob (fun z => (f _ z).2.1 rfl) ho, r⟩
  · by_cases hb : b = a
    · subst hb; rw [upd_same] at e; cases e; exact new
    · rw [upd_ne hb] at e
      refine (I.hok b u e).stay (fun c v hc q => k c v ?_ q) (fun c q => by rw [upd_ne (ne_of_none q hn)]; exact q) fun c xs q => by rw [upd_ne (ne_of_none q hn)]; exact q
      rcases hc with z | z
      · rw [z]; exact nit b u e
      · exact nit c _ z
end
section
variable {P : Program} {w : World} {A : Around} {E : Value → Shared → Prop} {s : Shared} {a : Addr} {ss : List Str}
theorem collect_setT {Q : List Value → Shared → Prop} (hh : A.handled = none) (hS : StrSet P w s.heap a ss)
    (h : ∀ (vs : List Value) (ss1 : List Str) (h1 : Heap) (tk : Nat) (d : Drawn), StrsAre vs ss1 → ss1.Perm ss → (∀ b o, s.heap.get? b = some o → h1.get? b = some o) → s.heap.objs.size ≤ h1.objs.size → Q vs { s with heap := h1, toks := tk, drawn := d }) : wpAny (model P w) A (collect (.ref a)) Q E s := by
  unfold collect
  refine wpAny_bind (wpAny_runValue (codeAny_builtin PySem.F.entry_proto_collect ?_))
  rw [Around.under_plainId PySem.F.plain_proto_collect _]
  show wpAny _ A.in1 (newList [] >>= fun l => again (.builtin "list.__iadd__" ⟨[l, .ref a], []⟩)) _ _ _
  refine wpAny_bind (wpAny_newObj_type ?_)
  refine wpAny_pure ⟨plainId_quiet PySem.F.plain_list_iadd _, codeAny_builtin PySem.F.entry_list_iadd ?_⟩
  rw [Around.under_plainId PySem.F.plain_list_iadd _]
  have hS1 : StrSet P w (s.heap.push (seqObj "list" #[] 0)) a ss := hS.at fun o e => Heap.get?_push_of_some _ e
  have hL1 : (s.heap.push (seqObj "list" #[] 0)).get? s.heap.objs.size = some (seqObj "list" #[] 0) := Heap.get?_push_size _ rfl
  have hT : ∀ s' : Shared, StrSet P w s'.heap a ss → s'.TypeIs (.ref a) "set" := fun s' z => by
    obtain ⟨es, ep, t, ho, _⟩ := z
    exact ⟨_, ho, rfl⟩
  have ha : a < s.heap.objs.size := by
    obtain ⟨es, ep, t, ho, _⟩ := hS
    exact Heap.lt_size ho
  have hz : ss.length < scanBound := by
    obtain ⟨es, ep, t, _, _, e2, e3, _⟩ := hS
    rw [← e2.strs, List.length_map, List.length_map, Array.length_toList]
    exact e3
  have hne : Builtin.List.listSameRef (.ref s.heap.objs.size) (.ref a) = false := by
    show (s.heap.objs.size == a) = false
    exact beq_eq_false_iff_ne.mpr (Nat.ne_of_gt ha)
  show wpAny _ A.in1 (Builtin.List.listExtendWith (.ref s.heap.objs.size) (.ref a) (.ref s.heap.objs.size)) _ _ { s with heap := s.heap.push (seqObj "list" #[] 0) }
  unfold Builtin.List.listExtendWith
  refine wpAny_bind (wpAny_typeOf (hT _ hS1) ?_)
  rw [if_neg (by rw [hne]; decide)]
  refine wpAny_bind (iter_setT hS1 fun I fp vs ss1 St h1 d q1 q2 q3 W st hI hfp hge hsz => ?_)
  have hS2 : StrSet P w h1 a ss := hS1.at fun o e => q3 _ _ e
  have hL2 : h1.get? s.heap.objs.size = some (seqObj "list" #[] 0) := q3 _ _ hL1
  refine wpAny_bind (wpAny_holding ?_)
  unfold Builtin.List.listLengthHint
  refine wpAny_bind (wpAny_specialOf (hT { s with heap := h1, drawn := d } hS2) PySem.F.slot_set_len.lookup ?_)
  dsimp only
  rw [show splitId "set.__len__" = some ("set", "__len__") from by decide +kernel]
  dsimp only
  refine wpAny_bind (wpAny_isInstance (b := true) (hT { s with heap := h1, drawn := d } hS2) sub_set_self ?_)
  rw [if_neg (by decide), if_pos (by decide +kernel)]
  refine wpAny_bind (wpAny_typeOf (hT { s with heap := h1, drawn := d } hS2) (wpAny_pure ?_))
  rw [if_pos (by decide +kernel)]
  refine wpAny_bind (wpAny_rule ?_)
  unfold Builtin.List.listTouch
  have hL3 := get?_update_seq hL2 (·.push .none)
  have hL4 := get?_update_seq hL3 (·.pop)
  refine wpAny_bind (wpAny_bind (listUpdate_at (s := { s with heap := h1, drawn := d }) hL2 rfl (listUpdate_at (s := { s with heap := h1.update s.heap.objs.size (Obj.mapSeq (·.push .none)), drawn := d }) hL3 rfl ?_)))
  have nS : s.heap.objs.size ∉ fp := fun z => by
    rcases (hfp _ z).2 with e | e
    · exact absurd e (Nat.ne_of_gt ha)
    · rw [size_push'] at e
      exact absurd e (Nat.not_succ_le_self _)
  have upd2 : ∀ b o, b ≠ s.heap.objs.size → h1.get? b = some o → ((h1.update s.heap.objs.size (Obj.mapSeq (·.push .none))).update s.heap.objs.size (Obj.mapSeq (·.pop))).get? b = some o := fun b o hb e => by
    rw [Heap.get?_update_ne _ _ _ _ hb, Heap.get?_update_ne _ _ _ _ hb]; exact e
  have hv : vs.length ≤ sizeLine := by
    have e1 := q2.length_eq
    have e2 : vs.length = ss1.length := by rw [← q1.strs, List.length_map]
    rw [e2, e1]
    exact fits_of_scanBound hz
  have st3 := (W A.in1.in1.in1 (by exact hh)).frame 0 _ ((h1.update s.heap.objs.size (Obj.mapSeq (·.push .none))).update s.heap.objs.size (Obj.mapSeq (·.pop))) st fun b hb o e => upd2 b o (fun z => nS (z ▸ hb)) e
  refine wpAny_pure ⟨plainId_quiet PySem.F.plain_extend_loop _, codeAny_extend_loopS ((W _ (by exact hh)).toS) hv _ nS _ vs.length 0 _ _ _ rfl (Nat.zero_le _) st3 hL4 (ItemsOf.nil _) fun s' acc' c' hm hS' hacc => ?_⟩
  show wpAny _ A (load s.heap.objs.size >>= _) _ _ s'
  refine wpAny_bind (wpAny_load hS' ?_)
  have eacc : acc'.toList = vs := by
    refine List.ext_getElem? fun i => ?_
    by_cases hi : i < vs.length
    · have hi' : i < acc'.size := by rw [hacc.1]; exact hi
      rw [Array.getElem?_toList, Array.getElem?_eq_getElem hi']
      exact (hacc.2 i _ (Array.getElem?_eq_getElem hi')).symm
    · rw [Array.getElem?_toList, Array.getElem?_eq_none (by rw [hacc.1]; omega), List.getElem?_eq_none (by omega)]
  show wpAny _ A (pure acc'.toList) _ _ s'
  rw [eacc]
  obtain ⟨h5, g5, d5, tk5, os5⟩ := s'
  cases (show g5 = s.gens from hm.gens)
  cases (show d5 = d from hm.drawn)
  cases (show os5 = s.os from hm.os)
  have keep : ∀ b o, h1.get? b = some o → b ≠ s.heap.objs.size → b ≠ I → h5.get? b = some o := fun b o e n1 n2 => hm.heap b o (by simp only [List.mem_cons, List.not_mem_nil, or_false, not_or]; exact ⟨n1, n2⟩) (upd2 b o n1 e)
  refine wpAny_pure (h vs ss1 h5 tk5 d q1 q2 (fun b o e => ?_) ?_)
  · have lt := Heap.lt_size e
    refine keep b o (q3 b o (Heap.get?_push_of_some _ e)) (Nat.ne_of_lt lt) (Nat.ne_of_lt (Nat.lt_of_lt_of_le lt ?_))
    rw [size_push'] at hge
    exact Nat.le_of_succ_le hge
  · exact Nat.le_of_lt (Heap.lt_size hS')
end
/-- a set of texts, tracked -/
def SetS (P : Program) (w : World) (a : Addr) (ss : List Str) : HO := .ext fun h => StrSet P w h a ss
section
variable {X : Cx}
/-- set(a list of texts) -/
theorem call_setS (hc : X.calm = true) : CallR X (.type "set") (fun xs H Q => ∃ (p : Addr) (ss0 : List Str), xs = [.ref p] ∧ SqL X.K H p (ss0.map V.str) ∧ ss0.length < 1000 ∧ ∀ (r : Addr) (ss : List Str), H r = none → ss.Nodup → ss.length ≤ ss0.length → (∀ x, x ∈ ss ↔ x ∈ ss0) → Q (.ref r) (upd H r (SetS X.prog X.w r ss))) := by
  intro pins s σ H xs us Q I r h
  obtain ⟨p, ss0, rfl, hq, hl, q⟩ := h
  obtain ⟨u, rfl, rx⟩ := vals1 r
  cases rx
  obtain ⟨its, rv, pl, hz⟩ := I.list hq
  have hlen := rv.length
  rw [List.length_map] at hlen
  refine call_setT (I.ok.hd hc) pl.isList (by simpa using strsAre_of rv) (by have : scanBound = 4096 := rfl; simp; omega) fun h' tk ss hS hO hk => ?_
  obtain ⟨o1, o2, o3⟩ := hO
  rw [List.size_toArray, ← hlen] at o2 o3
  refine ⟨.ref s.heap.objs.size, _, I.laid (t' := tk) (a := s.heap.objs.size) (o := SetS X.prog X.w s.heap.objs.size ss) (fun b o e => hk b o (Heap.lt_size e) e) (Nat.le_refl _) ⟨hS, ?_, fun h1 h2 z k => z.at k⟩, rfl, q _ ss (I.hok.fresh (Nat.le_refl _)) o1 o2 fun x => ?_⟩
  · obtain ⟨es, ep, t, ho, _⟩ := hS
    exact ⟨_, ho⟩
  · rw [o3 x, List.mem_iff_getElem?]
    constructor
    · rintro ⟨j, hj, rfl⟩
      exact ⟨j, by show ss0[j]? = some (ss0.getD j default); rw [List.getD_eq_getElem?_getD, List.getElem?_eq_getElem hj]; rfl⟩
    · rintro ⟨j, hj⟩
      exact ⟨j, (List.getElem?_eq_some_iff.mp hj).1, by show ss0.getD j default = x; rw [List.getD_eq_getElem?_getD, hj]; rfl⟩
/-- sorted(a set of texts) -/
theorem call_sortedSet (hc : X.calm = true) : CallR X (.builtin "sorted") (fun xs H Q => ∃ (p : Addr) (ss : List Str), xs = [.ref p] ∧ H p = some (SetS X.prog X.w p ss) ∧ ss.length < 64 ∧ ∀ (r : Addr) (ss' : List Str), H r = none → ss'.Perm ss → sortedS ss' = true → Q (.ref r) (upd H r (.lst (ss'.map V.str)))) := by
  intro pins s σ H xs us Q I r h
  obtain ⟨p, ss, rfl, hp, h64, q⟩ := h
  obtain ⟨u, rfl, rx⟩ := vals1 r
  cases rx
  have hS : StrSet X.prog X.w s.heap p ss := (I.hok p _ hp).1
  refine Calls.call_function_entry kind_sorted plain_sorted entry_sorted (args_sorted1 _) ?_
  unfold Builtin.«sorted»
  refine wpAny_bind (m := checkCount "sorted" 1 1 _) (wpAny_pure (wpAny_bind (collect_setT (I.ok.hd hc) hS fun vs ss1 h1 tk d a1 a2 a3 a4 => ?_)))
  have hvl : vs.length = ss1.length := by rw [← a1.strs, List.length_map]
  have hl64 : vs.length < 64 := by rw [hvl, a2.length_eq]; exact h64
  refine wpAny_bind (wpAny_newList ?_ (by have : sizeLine > 64 := by decide
                                          omega))
  have hoL : (h1.push (seqObj "list" vs.toArray 0)).get? h1.objs.size = some (seqObj "list" vs.toArray 0) := Heap.get?_push_size _ rfl
  refine wpAny_bind (wpAny_holding (wpAny_call_entry slot_list_sort ⟨_, hoL, rfl⟩ entry_list_sort (list_sort_treeK strKind_oneLt hoL a1.keysOf (fun v1 v2 rest e => keyKind_strs (by rw [← e]; exact a1)) hl64 fun st' b1 b2 => ⟨_, rfl, ?_⟩) (args_list_sort _)))
  obtain ⟨ss', c1, c2, c3⟩ := sorted_out_str a1 b1 b2
  refine wpAny_pure ⟨_, rfl, ?_⟩
  have nz : H h1.objs.size = none := I.hok.fresh a4
  obtain ⟨e, he⟩ := sortedHeap_at (out := (arrOf st').map (·.2)) hoL
  refine ⟨.ref h1.objs.size, _, I.turnedT (t' := tk) (d' := d) (ch := []) (a := h1.objs.size) (o := .lst (ss'.map V.str)) (fun b o _ eb => ?_) (fun b z => nomatch z) a4 ?_, rfl, q _ ss' nz (c2.trans a2) c3⟩
  · have e1 := a3 b o eb
    have lt := Heap.lt_size e1
    rw [sortedHeap_old (Nat.ne_of_lt lt) (by rw [size_push']; exact Nat.lt_succ_of_lt lt)]
    exact Heap.get?_push_of_some _ e1
  · refine ⟨?_, ((arrOf st').map (·.2)).toList, e, of_strsAre c1, he⟩
    rw [List.length_map, c2.length_eq, a2.length_eq]
    exact Nat.le_of_lt (small1000 (by omega))
end
end L2

set_option Elab.async false
set_option linter.all false
set_option maxRecDepth 100000
namespace L2
open PySem PySem.Spec PyProof.Rows
/-! ### pairs walked (zip): each turn hands a new tuple out -/
section
variable {X : Cx} {pins : List (Addr × Obj)} {σ : St} {H : Hp} {s : Shared} {h' : Heap}
theorem Inv.turnedL {t' : Nat} {ch : List Addr} (I : Inv X pins σ H s) (k : ∀ b u, b ∉ ch → s.heap.get? b = some u → h'.get? b = some u) (f : ∀ b ∈ ch, FpOk X pins H b) : Inv X pins σ H { s with heap := h', toks := t' } := by
  have nit : ∀ b u, H b = some u → b ∉ ch := fun b u e z => by rw [(f b z).1] at e; cases e
  refine I.step (g' := s.gens) (d' := s.drawn) (ch := ch) (fun b hb => ?_) (fun b u _ _ hc e _ => k b u hc e) (fun b u _ _ hc e _ => ⟨u.slots, k b u hc e⟩) (fun b u _ e n => n) (fun b u hc e => ⟨u, k b u hc e⟩) (fun b xs q => q) (fun b u v q => q) (fun b ps q => ⟨#[], by rw [q]; simp⟩) (fun m hm => ?_) (fun b u e => ?_) I.bare
  · obtain ⟨_, f1, _, f3, f4, f5⟩ := f b hb
    exact ⟨f3, f1, f4, f5⟩
  · obtain ⟨ob, es, ep, ho, r⟩ := hm
    exact ⟨ob, es, ep, k _ ob (fun z => (f _ z).2.1 rfl) ho, r⟩
  · refine (I.hok b u e).stay (fun c v hc q => k c v ?_ q) (fun c q => q) fun c xs q => q
    rcases hc with z | z
    · rw [z]; exact nit b u e
    · exact nit c _ z
end
/-- n turns; the lists that are walked stay as they are; the i-th tuple's things -/
def Itp (n : Nat) (Ls : Hp → Prop) (xv : Nat → List V) : It := ⟨fun i H => Ls H ∧ i < n, fun i H x H' => ∃ T, H T = none ∧ H' = upd H T (.tup (xv i)) ∧ x = .ref T, fun i H => Ls H ∧ i = n⟩
theorem turn_walkT {P : Program} {w : World} {K : PySem.W.Frag} {elts : List Expr} {ct : Nat} {pos : Pos} (it : Addr) (fp fpW wr : List Addr) (n : Nat) (Ls : Hp → Prop) (xv : Nat → List V) (tn : Nat → Heap → Prop)
    (hit : it ∈ fp) (hwr : ∀ b ∈ wr, b ∈ fp) (hobj : ∀ i h, tn i h → ∀ b ∈ fp, ∃ o, h.get? b = some o ∧ ∀ v, o.data ≠ .cell v) (hkeep : ∀ i h h', tn i h → (∀ b ∈ fp, ∀ o, h.get? b = some o → h'.get? b = some o) → tn i h')
    (hx : ∀ i, (xv i).length ≤ sizeLine)
    (W : ∀ (X : Cx), X.prog = P → X.w = w → X.K = K → X.calm = true → ∀ (pins : List (Addr × Obj)) (s : Shared) (σ : L2.St) (H : Hp), Inv X pins σ H s → Ls H → ∃ (Pt : Nat → Array Value → Prop) (St : Nat → Heap → Prop) (Mid : Nat → Addr → Heap → Prop), WalksT P w X.A it fpW wr n Pt St Mid ∧ (∀ i, tn i s.heap → St i s.heap) ∧ (∀ i h, St i h → tn i h) ∧
      (∀ i vals, Pt i vals → Vals (xv i) vals.toList))
    (hself : ∀ (A : Around) (i : Nat) (s : Shared) (Q : Value → Shared → Prop) (E : Value → Shared → Prop), tn i s.heap → Q (.ref it) s → wpAny (model P w) A (pyIter (.ref it)) Q E s) : Turn P w K (.Tuple elts ct pos) (Itp n Ls xv) fp it tn where
  mem := hit
  obj := hobj
  keep := hkeep
  item := by
    intro X hP hw hK hc i pins s σ H E I hf st hg
    obtain ⟨hL, hi⟩ := hg
    obtain ⟨Pt, St, Mid, Wt, w1, w2, w3⟩ := W X hP hw hK hc pins s σ H I hL
    subst hP hw hK
    refine Wt.item i s _ _ hi (w1 i st) fun T vals h1 tk pv hT ht mid k1 => ?_
    have hTw : T ∉ wr := Wt.apart i T h1 mid
    refine ⟨_, rfl, Wt.go elts ct pos i T _ _ _ mid fun h2 st2 k2 => ?_⟩
    have ht2 : IsTup h2 T (vals.toList).toArray := by
      obtain ⟨o, a1, a2, nn, a3⟩ := ht
      exact ⟨o, k2 _ _ hTw a1, a2, nn, by simpa using a3⟩
    refine ⟨.ref T, upd H T (.tup (xv i)), I.turnedT (t' := tk) (d' := s.drawn) (ch := wr) (fun b u hb e => k2 b u hb (k1 b u hb e)) (fun b hb => hf b (hwr b hb)) hT ⟨hx i, vals.toList, w3 i vals pv, ht2⟩, rfl, ⟨T, I.hok.fresh hT, rfl, rfl⟩, w2 _ _ st2, fun b hb => ?_⟩
    have e : b ≠ T := by
      obtain ⟨o, ho, _⟩ := hobj i _ st b hb
      exact Nat.ne_of_lt (Nat.lt_of_lt_of_le (Heap.lt_size ho) hT)
    rw [upd_ne e]
    exact (hf b hb).1
  done := by
    intro X hP hw hK hc i pins s σ H E I hf st hg
    obtain ⟨hL, hi⟩ := hg
    obtain ⟨Pt, St, Mid, Wt, w1, w2, w3⟩ := W X hP hw hK hc pins s σ H I hL
    subst hP hw hK hi
    exact Wt.done s _ _ (w1 _ st) fun h1 tk k1 => ⟨rfl, I.turnedL (ch := wr) (fun b u hb e => k1 b u hb e) fun b hb => hf b (hwr b hb)⟩
  self := hself
theorem zip_apart (n a b : Nat) (h1 : a < n) (h2 : b < n) : ZipApart (n + 4) (n + 2) (n + 3) n (n + 1) a b := by
  constructor <;> (show @Ne Nat _ _; omega)
section
variable {X : Cx}
def iZip (K : PySem.W.Frag) (ta : TA) : TI := fun σ H R => ta σ H fun vs H1 => ∃ (a b : Addr) (xs ys : List V), vs = [.ref a, .ref b] ∧ SqL K H1 a xs ∧ SqL K H1 b ys ∧ R (Itp (min xs.length ys.length) (fun H => SqL K H a xs ∧ SqL K H b ys) (fun i => [xs.getD i .non, ys.getD i .non])) H1
theorem boot_zip : bootBuiltins "zip" = some (.type "zip") := by decide +kernel
theorem pi_zip {a b : Expr} {ta : TA} {p pos tpos : Pos} {elts : List Expr} {ct : Nat} (hg : Gl X "zip") (hm : X.mg "zip" = none) (ha : PA X [a, b] ta) (hs : starEach [a, b] X.env = [(false, eval a X.env), (false, eval b X.env)] := by rfl) (hs2 : starEach [b] X.env = [(false, eval b X.env)] := by rfl) :
    PI X (.Tuple elts ct tpos) (.Call (.Name "zip" p) [a, b] [] pos) (iZip X.K ta) := by
  intro pins s σ H R I h
  refine Call_ (ld_blt I hg hm boot_zip (PyProof.Rows.callWith_type1 (thn (ha pos pins s σ H _ I h) fun us s1 ⟨vs, H1, I1, r1, q1⟩ => ?_) (by rw [hs, hs2]) (by rw [hs2]; rfl)))
  obtain ⟨l1, l2, xs, ys, e, hx, hy, q⟩ := q1
  subst e
  obtain ⟨u1, u2, rfl, r1, r2⟩ := vals2 r1
  cases r1
  cases r2
  obtain ⟨it1, rv1, pl1, hz1⟩ := I1.list hx
  obtain ⟨it2, rv2, pl2, hz2⟩ := I1.list hy
  have n1 := rv1.length
  have n2 := rv2.length
  have b1 : l1 < s1.heap.objs.size := by obtain ⟨o, n, e, _⟩ := pl1; exact Heap.lt_size e
  have b2 : l2 < s1.heap.objs.size := by obtain ⟨o, n, e, _⟩ := pl2; exact Heap.lt_size e
  refine call_zip_2 pl1.isList pl2.isList fun h1 z1 z2 z3 z4 z5 z6 z7 => ?_
  refine wpAny_pyIter_zip z1 ?_
  have D := zip_apart s1.heap.objs.size l1 l2 b1 b2
  have hfp : ∀ b ∈ [s1.heap.objs.size + 4, s1.heap.objs.size + 2, s1.heap.objs.size + 3, s1.heap.objs.size, s1.heap.objs.size + 1], s1.heap.objs.size ≤ b := fun b hb => by
    simp only [List.mem_cons, List.not_mem_nil, or_false] at hb
    rcases hb with rfl | rfl | rfl | rfl | rfl
    · exact Nat.le_add_right _ _
    · exact Nat.le_add_right _ _
    · exact Nat.le_add_right _ _
    · exact Nat.le_refl _
    · exact Nat.le_add_right _ _
  refine ⟨s1.heap.objs.size + 4, [s1.heap.objs.size + 4, s1.heap.objs.size + 2, s1.heap.objs.size + 3, s1.heap.objs.size, s1.heap.objs.size + 1],
    fun i h => IsZip h (s1.heap.objs.size + 4) (s1.heap.objs.size + 2) (s1.heap.objs.size + 3) .none ∧ IsPair h (s1.heap.objs.size + 2) (.ref s1.heap.objs.size) (.ref (s1.heap.objs.size + 1)) ∧ (∃ a b, IsPair h (s1.heap.objs.size + 3) a b) ∧ h.IsListIter s1.heap.objs.size l1 i ∧ h.IsListIter (s1.heap.objs.size + 1) l2 i,
    _, H1, rfl, I1.kept (t' := s1.toks) z7,
    turn_walkT (s1.heap.objs.size + 4) _ [s1.heap.objs.size + 4, s1.heap.objs.size + 2, s1.heap.objs.size + 3, s1.heap.objs.size, s1.heap.objs.size + 1, l1, l2] [s1.heap.objs.size + 4, s1.heap.objs.size + 3, s1.heap.objs.size, s1.heap.objs.size + 1] _ _ _ _ (by simp) (fun b hb => ?_) (fun i h st b hb => ?_) (fun i h h' st k => ?_) (fun i => by show 2 ≤ sizeLine; decide) ?_ (fun A i s' Q E st hQ => wpAny_pyIter_zip st.1 hQ),
    ⟨z1, z2, ⟨_, _, z3⟩, z4, z5⟩, fun b hb => I1.fpOk (hfp b hb) (I1.hok.fresh (hfp b hb)), q⟩
  · simp only [List.mem_cons, List.not_mem_nil, or_false] at hb ⊢
    rcases hb with h | h | h | h
    · exact .inl h
    · exact .inr (.inr (.inl h))
    · exact .inr (.inr (.inr (.inl h)))
    · exact .inr (.inr (.inr (.inr h)))
  · obtain ⟨a1, a2, ⟨c, d, a3⟩, ⟨o4, a4, c4, d4⟩, ⟨o5, a5, c5, d5⟩⟩ := st
    simp only [List.mem_cons, List.not_mem_nil, or_false] at hb
    rcases hb with rfl | rfl | rfl | rfl | rfl
    · exact ⟨_, a1, fun v z => by cases z⟩
    · exact ⟨_, a2, fun v z => by cases z⟩
    · exact ⟨_, a3, fun v z => by cases z⟩
    · exact ⟨_, a4, fun v z => by rw [d4] at z; cases z⟩
    · exact ⟨_, a5, fun v z => by rw [d5] at z; cases z⟩
  · obtain ⟨a1, a2, ⟨c, d, a3⟩, a4, a5⟩ := st
    exact ⟨k _ (by simp) _ a1, k _ (by simp) _ a2, ⟨c, d, k _ (by simp) _ a3⟩, a4.at fun o e => k _ (by simp) o e, a5.at fun o e => k _ (by simp) o e⟩
  · intro X' hP hw hK hc pins' s' σ' H' I' hL
    obtain ⟨hx', hy'⟩ := hL
    rw [← hK] at hx' hy'
    obtain ⟨jt1, sv1, ql1, _⟩ := I'.list hx'
    obtain ⟨jt2, sv2, ql2, _⟩ := I'.list hy'
    have m1 := sv1.length
    have m2 := sv2.length
    have Wz := WalksT.zip2 (prog := X.prog) (w := X.w) (I'.ok.hd hc) _ _ _ _ _ l1 l2 D jt1.toArray jt2.toArray
    rw [show min jt1.toArray.size jt2.toArray.size = min xs.length ys.length by show min jt1.length jt2.length = _; rw [m1, m2]] at Wz
    refine ⟨_, _, _, Wz, fun i st => ?_, fun i h st => ?_, fun i vals pv => ?_⟩
    · obtain ⟨a1, a2, a3, a4, a5⟩ := st
      exact ⟨a1, a2, a3, a4, a5, ql1.isList, ql2.isList⟩
    · obtain ⟨a1, a2, a3, a4, a5, _⟩ := st
      exact ⟨a1, a2, a3, a4, a5⟩
    · obtain ⟨x, y, e1, e2, rfl⟩ := pv
      have e1 : jt1[i]? = some x := by simpa using e1
      have e2 : jt2[i]? = some y := by simpa using e2
      have c1 : i < xs.length := by rw [m1]; exact (List.getElem?_eq_some_iff.mp e1).1
      have c2 : i < ys.length := by rw [m2]; exact (List.getElem?_eq_some_iff.mp e2).1
      obtain ⟨u, d1, d2⟩ := sv1.get (List.getElem?_eq_getElem c1)
      obtain ⟨v, f1, f2⟩ := sv2.get (List.getElem?_eq_getElem c2)
      rw [e1] at d1
      rw [e2] at f1
      cases d1
      cases f1
      show Vals [xs.getD i .non, ys.getD i .non] [x, y]
      rw [List.getD_eq_getElem?_getD, List.getElem?_eq_getElem c1, List.getD_eq_getElem?_getD, List.getElem?_eq_getElem c2]
      exact .cons d2 (.cons f2 .nil)
end
section
variable {σ0 : St} {g : TG} {tt : TT} {te : TE} {Q : List V → Hp → Prop} {H1 : Hp}
theorem turns_tup {n : Nat} {Ls : Hp → Prop} {xv : Nat → List V} (Pv : Nat → List V → Hp → Prop) (h0 : Pv 0 [] H1) (hl : ∀ i ys H, i ≤ n → Pv i ys H → Ls H)
    (hs : ∀ i ys H T, i < n → Pv i ys H → H T = none → g (.ref T) σ0 (upd H T (.tup (xv i))) fun σ2 H2 => Sle σ0 σ2 ∧ tt σ2 H2 fun b H3 => if b = true then te σ2 H3 (fun v H4 => ys.length < sizeLine ∧ Nxt n i Pv (ys ++ [v]) H4) else Nxt n i Pv ys H3)
    (hd : ∀ ys H, Pv n ys H → Q ys H) : cTurns (Itp n Ls xv) σ0 g tt te Q H1 := by
  refine ⟨fun i m ys H => m = n - i ∧ i ≤ n ∧ Pv i ys H, ⟨n, by simp, Nat.zero_le _, h0⟩, ?_⟩
  rintro i m ys H ⟨rfl, hi, p⟩
  have q := hl i ys H hi p
  by_cases hlt : i < n
  · refine .inr ⟨⟨q, hlt⟩, fun x H' y => ?_⟩
    obtain ⟨T, e1, e2, e3⟩ := y
    subst e2 e3
    exact hs i ys H T hlt p e1
  · have e : i = n := by omega
    subst e
    exact .inl ⟨⟨q, rfl⟩, hd ys H p⟩
end
end L2

set_option Elab.async false
set_option linter.all false
set_option maxRecDepth 100000
namespace L2
open PySem PySem.Spec PyProof.Rows
/-! ### comprehensions at large: whatever is gathered, however many clauses -/
section
variable {X : Cx} {pins : List (Addr × Obj)} {σ : St} {H H' : Hp} {s : Shared}
theorem inv_compO {o0 : Obj} {N' : List Str} {scope : Scope} {sub : List (Option Nat)} {fp : List Addr} (I : Inv X pins σ H s) (O : CmpOk X.N X.env.scope N' scope sub) (hf : ∀ b ∈ fp, FpOk X pins H b)
    (hfl : ∀ b ∈ fp, b < s.heap.objs.size) (nf : o0.isFreed = false) (nc : ∀ v, o0.data ≠ .cell v) :
    Inv (cmpOf X scope N' (s.heap.objs.size + 1) s H fp) [(s.heap.objs.size, o0)] (subσ sub σ) H
      { s with heap := pushCells ((s.heap.push o0).push { cls := .type "dict", data := .dict #[] }) scope.names } := by
  have hk3 : ∀ b o, s.heap.get? b = some o → (s.heap.push o0).get? b = some o := fun b o e => Heap.get?_push_of_some _ e
  have sz3 : (s.heap.push o0).objs.size = s.heap.objs.size + 1 := Heap.size_push ..
  have hk : ∀ b o, s.heap.get? b = some o → (pushCells ((s.heap.push o0).push { cls := .type "dict", data := .dict #[] }) scope.names).get? b = some o :=
    fun b o e => pushCells_keeps _ _ b o (Heap.get?_push_of_some _ (hk3 b o e))
  have cf := cells_facts (h3 := s.heap.push o0) I O hk3
  rw [sz3] at cf
  have hC : H (s.heap.objs.size + 1) = none := I.hok.fresh (Nat.le_succ _)
  have nsC : (pushCells ((s.heap.push o0).push { cls := .type "dict", data := .dict #[] }) scope.names).Ns (s.heap.objs.size + 1) (fun _ => none) := by
    rw [← sz3]
    exact (Heap.Ns.new _ _).keeps (pushCells_keeps _ _)
  have has : ∀ x, (scope.names.lookup x = some .cell ∨ scope.names.lookup x = some .free) → ∃ c, (cellsFrom (s.heap.objs.size + 1 + 1) scope.names (closL X.env.cells scope.names [])).lookup x = some c := fun x hx => by
    refine Option.isSome_iff_exists.mp (PySem.W.cellsFrom_some _ _ _ ?_)
    rcases hx with z | z
    · exact .inl z
    · exact .inr (closL_some (.inl (PySem.mem_of_lookup z)))
  have kindB : ∀ x, (cenvOf X.env scope (s.heap.objs.size + 1)).kindOf x = (scope.names.lookup x).map fun k => if (k == NameKind.free && X.env.scope.kind == .function && X.env.scope.names.lookup x == some .cell) then NameKind.cell else k := fun x => lookup_relab
  have cellOk : ∀ x c, (cenvOf X.env scope (s.heap.objs.size + 1)).cells.lookup x = some c → ∃ v, (pushCells ((s.heap.push o0).push { cls := .type "dict", data := .dict #[] }) scope.names).IsCell c v := fun x c h => by
    rcases cf.1 x c h with q | q
    · exact ⟨_, q.1⟩
    · obtain ⟨v, z⟩ := I.cell x c q.2
      exact ⟨v, z.keeps hk⟩
  refine ⟨⟨I.ok.mod, O.kind, I.ok.glob, I.ok.blt, Nat.le_succ _, fun x y c h1 h2 => cf.2 x y c h1 h2, fun x hx => ?_, fun x c hx h => ?_, I.ok.hd, I.ok.frames, .inl rfl, fun b hb => ?_, fun b o e => I.bs b o e, Nat.le_trans I.ok.bsz I.sz, fun b o e hb => ?_, fun b hb => ?_, I.stack, I.stkFree⟩,
    rfl, I.bare, Un.kept hk, ⟨fun _ => none, nsC, fun i x v h1 h2 h3 => ?_⟩, cellOk, hC, fun x c h => ?_, fun p hp => ?_, I.hok.kept hk, ?_⟩
  · -- has
    refine has x ?_
    have hx : (cenvOf X.env scope (s.heap.objs.size + 1)).kindOf x = some .cell ∨ (cenvOf X.env scope (s.heap.objs.size + 1)).kindOf x = some .free := hx
    rw [kindB] at hx
    cases e : scope.names.lookup x with
    | none => rw [e] at hx; rcases hx with z | z <;> cases z
    | some k =>
      rw [e] at hx
      cases k with
      | cell => exact .inl rfl
      | free => exact .inr rfl
      | _ => exfalso; rcases hx with z | z <;> simp at z
  · -- cab
    rcases cf.1 x c h with q | q
    · have := q.2.1
      show s.heap.objs.size ≤ c
      omega
    · exfalso
      have e := lookup_mem_nd O.nd q.1
      have hx' : (!(scope.names.lookup x == some NameKind.free)) = true := hx
      rw [e] at hx'
      exact absurd hx' (by decide)
  · -- exf
    obtain ⟨f0, f1, f2, f3, f4, f5⟩ := hf b hb
    have lt := hfl b hb
    refine ⟨fun e => ?_, fun x c h e => ?_⟩
    · have e' : b = s.heap.objs.size + 1 := e
      rw [e'] at lt
      exact absurd lt (Nat.not_lt.mpr (Nat.le_succ _))
    · rcases cf.1 x c h with q | q
      · have z := q.2.1
        rw [e] at z
        exact absurd lt (Nat.not_lt.mpr (Nat.le_trans (Nat.le_trans (Nat.le_succ _) (Nat.le_succ _)) z))
      · exact f4 x c q.2 e
  · -- noex
    obtain ⟨f0, f1, f2, f3, f4, f5⟩ := hf b hb
    rcases f3 with z | z
    · exact I.ok.noex b o e z
    · exact absurd (Nat.lt_of_lt_of_le (Heap.lt_size (I.ok.bs b o e).1) z) (Nat.lt_irrefl _)
  · -- exfs
    obtain ⟨f0, f1, f2, f3, f4, f5⟩ := hf b hb
    exact fun z => f2 (frs_sub_of I z f1)
  · -- loc
    have h1' : N'[i]? = some x := h1
    have hsub : ∃ k, sub[i]? = some (some k) ∧ (σ[k]?).join = some v := by
      unfold subσ at h2
      rw [List.getElem?_map] at h2
      cases e : sub[i]? with
      | none => rw [e] at h2; cases h2
      | some o =>
        rw [e] at h2
        cases o with
        | none => cases h2
        | some k => exact ⟨k, rfl, by simpa using h2⟩
    obtain ⟨k, hk1, hk2⟩ := hsub
    obtain ⟨nk, fx⟩ := O.sub i k x hk1 h1'
    have sk : σ[k]? = some (some v) := by
      cases e : σ[k]? with
      | none => rw [e] at hk2; cases hk2
      | some o => rw [e] at hk2; cases o with
        | none => cases hk2
        | some y => cases hk2; rfl
    have cx := O.free _ (PySem.mem_of_lookup fx) rfl
    obtain ⟨m, hn, hl⟩ := I.loc
    obtain ⟨u, ru, lk⟩ := hl k x v nk sk (by
      rcases cx with z | z
      · exact .inr (.inl z)
      · exact .inr (.inr z))
    refine ⟨u, ru, .inr ⟨?_, ?_⟩⟩
    · show (cenvOf X.env scope (s.heap.objs.size + 1)).kindOf x = some .cell ∨ (cenvOf X.env scope (s.heap.objs.size + 1)).kindOf x = some .free
      rw [kindB, fx]
      by_cases hc : (NameKind.free == NameKind.free && X.env.scope.kind == .function && X.env.scope.names.lookup x == some .cell) = true
      · exact .inl (by rw [Option.map_some, if_pos hc])
      · exact .inr (by rw [Option.map_some, if_neg hc])
    · rcases lk with ⟨kl, _⟩ | ⟨_, c, hc, hcell⟩
      · exfalso
        have kl' : X.env.scope.names.lookup x = some .local := kl
        rcases cx with z | z <;> rw [kl'] at z <;> cases z
      · obtain ⟨c', hc'⟩ := has x (.inr fx)
        refine ⟨c', hc', ?_⟩
        rcases cf.1 x c' hc' with q | q
        · exfalso
          have e := lookup_mem_nd O.nd q.2.2
          rw [fx] at e; cases e
        · rw [hc] at q
          have e : c = c' := Option.some.inj q.2
          subst e
          exact hcell.keeps hk
  · -- freeC
    rcases cf.1 x c h with q | q
    · exact I.hok.fresh (by have := q.2.1; omega)
    · exact I.freeC x c q.2
  · -- pin
    have hp' : p = (s.heap.objs.size, o0) := by
      have : p ∈ ([] ++ [(s.heap.objs.size, o0)] : List (Addr × Obj)) := hp
      simpa using this
    subst hp'
    refine ⟨pushCells_keeps _ _ _ _ (Heap.get?_push_of_some _ (Heap.get?_push_size _ nf)), I.hok.fresh (Nat.le_refl _), Nat.ne_of_lt (Nat.lt_succ_self _), fun z => ?_, fun v z => ?_⟩
    · rcases List.mem_cons.mp (I.stkSub _ z) with e | e
      · exact absurd I.lt (by rw [← e]; exact Nat.lt_irrefl _)
      · exact I.nofs (Nat.le_refl _) e
    · exact nc v z
  · -- len
    show (subσ sub σ).length = N'.length
    unfold subσ
    rw [List.length_map, O.len]

/-- a pinned object of ours has changed -/
theorem Inv.repin {acc : Addr} {o o' : Obj} {h' : Heap} {t' : Nat} (I : Inv X ((acc, o) :: pins) σ H s) (k : ∀ b u, b ≠ acc → s.heap.get? b = some u → h'.get? b = some u) (e : h'.get? acc = some o') (nc : ∀ v, o'.data ≠ .cell v) (hx : acc ∈ X.ex ∨ X.s₀.heap.objs.size ≤ acc) (np : ∀ p ∈ X.pn ++ pins, p.1 ≠ acc) :
    Inv X ((acc, o') :: pins) σ H { s with heap := h', toks := t' } := by
  have pa := I.pin (acc, o) (List.mem_append_right _ List.mem_cons_self)
  have I1 : Inv X pins σ H s := I.pins_of fun p hp => I.pin p (List.mem_append_right _ (List.mem_cons_of_mem _ hp))
  have I2 : Inv X pins σ H { s with heap := h', toks := t' } := I1.turned (t' := t') (it := acc) k pa.2.1 pa.2.2.1 hx
    (fun y c hy z => by
      obtain ⟨w', o2, ho2, hd2⟩ := I.cell y c hy
      rw [z, pa.1] at ho2
      exact pa.2.2.2.2 _ (by cases ho2; exact hd2)) np
  refine I2.pins_of fun p hp => ?_
  rcases List.mem_cons.mp hp with z | z
  · subst z
    exact ⟨e, pa.2.1, pa.2.2.1, pa.2.2.2.1, nc⟩
  · exact I2.pin p (List.mem_append_right _ z)
end
/-- one turn of a clause -/
def compShape (tpos : Pos) (it : Value) (target : Expr) (env : Env) (ifs : List Expr) (body : Sem Unit) (k : Sem Fin) : Sem Fin := do
  standAt tpos
  match ← pyNext it with
  | none => pure (.done .next)
  | some v =>
    letOwnedTupleGo target it v
    assign target env v
    let mut ok := true
    for c in ifs do
      if ok then ok ← isTrue c env (eval c env)
    if ok then
      body
    k
theorem compLoop_gen {prog : Program} {w : World} {A : Around} {R : Result → Shared → Prop} {s : Shared} {e target : Expr} {d : Nat} {tpos : Pos} {ifs : List Expr} {it acc : Value} {env : Env} {body : Sem Unit} (hsh : compTurn e d it acc env = compShape tpos it target env ifs body (again (.compLoop e d it acc env))) (hdn : ∀ (A : Around) (Q : PySem.Fin → Shared → Prop) (E : Value → Shared → Prop) (s : Shared), wpAny (model prog w) A ((compTurn e d it acc env).onRaise (fun x => do noteFrame x env; theTreesLotGoes x)) Q E s → wpAny (model prog w) (A.under (.compLoop e d it acc env)) ((model prog w).den (.compLoop e d it acc env)) Q E s) (I : Nat → Shared → Prop)
    (turn : ∀ n s, I n s → wpAny (model prog w) A (pyNext it) (fun r s₁ => match r with
      | none => R (.ok .next) s₁
      | some v => wpAny (model prog w) A (letOwnedTupleGo target it v) (fun _ s₁' => wpAny (model prog w) A (assign target env v) (fun _ s₂ =>
          wpAny (model prog w) A (forIn ifs true fun c r => if r = true then do let ok ← isTrue c env (eval c env); pure (ForInStep.yield ok) else pure (ForInStep.yield r)) (fun ok s₃ =>
            if ok = true then wpAny (model prog w) A body (fun _ s₅ => ∃ m, m < n ∧ I m s₅) (fun _ _ => False) s₃
            else ∃ m, m < n ∧ I m s₃) (fun _ _ => False) s₂) (fun _ _ => False) s₁') (fun _ _ => False) s₁) (fun _ _ => False) s)
    (n : Nat) (h : I n s) : codeAny (model prog w) A (.compLoop e d it acc env) R s := by
  refine codeAny_loop rfl I (fun n s hI => ?_) n h
  refine hdn _ _ _ _ (wpAny_noted ?_)
  rw [hsh]
  unfold compShape
  refine wpAny_bind (wpAny_standAt (wpAny_bind (wpAny_mono (turn n s hI) (fun r s₁ h₁ => ?_) fun _ _ h' => h'.elim)))
  cases r with
  | none => exact wpAny_pure h₁
  | some v =>
    refine wpAny_bind (wpAny_mono h₁ (fun _ s₁' h₁ => ?_) fun _ _ h' => h'.elim)
    refine wpAny_bind (wpAny_mono h₁ (fun _ s₂ h₂ => wpAny_bind (wpAny_mono h₂ (fun ok s₃ h₃ => ?_) fun _ _ h' => h'.elim)) fun _ _ h' => h'.elim)
    cases ok with
    | false => exact wpAny_pure ⟨rfl, h₃⟩
    | true => exact wpAny_bind (wpAny_mono h₃ (fun _ s₅ h₅ => wpAny_pure ⟨rfl, h₅⟩) fun _ _ h' => h'.elim)
/-! what is gathered: AS its states, AO the object of a state -/
section
variable {AS : Type}
abbrev TB (AS : Type) := AS → St → Hp → (AS → St → Hp → Prop) → Prop
/-- a clause's body: what it does to what is gathered at acc -/
def PBd (X : Cx) (AO : AS → Obj → Prop) (acc : Addr) (body : Sem Unit) (tb : TB AS) : Prop :=
  ∀ (pins : List (Addr × Obj)) (s : Shared) (σ : St) (H : Hp) (a : AS) (o : Obj) (Q : AS → St → Hp → Prop), Inv X ((acc, o) :: pins) σ H s → (∀ p ∈ X.pn ++ pins, p.1 ≠ acc) → (acc ∈ X.ex ∨ X.s₀.heap.objs.size ≤ acc) → AO a o → tb a σ H Q →
    wpAny (model X.prog X.w) X.A body (fun _ s' => ∃ (a' : AS) (o' : Obj) (σ' : St) (H' : Hp), Inv X ((acc, o') :: pins) σ' H' s' ∧ AO a' o' ∧ Q a' σ' H') (fun _ _ => False) s
/-- the turns of a clause -/
def gTurns (J : It) (g : TG) (tt : TT) (tb : TB AS) (Q : AS → St → Hp → Prop) (a0 : AS) (σ0 : St) (H0 : Hp) : Prop :=
  ∃ W : Nat → Nat → AS → St → Hp → Prop, (∃ m, W 0 m a0 σ0 H0) ∧ ∀ i m a σ H, W i m a σ H →
    (J.stop i H ∧ Q a σ H) ∨
    (J.go i H ∧ ∀ x H', J.yld i H x H' → g x σ H' fun σ2 H2 => tt σ2 H2 fun b H3 =>
      if b = true then tb a σ2 H3 (fun a' σ' H' => ∃ m', m' < m ∧ W (i + 1) m' a' σ' H') else ∃ m', m' < m ∧ W (i + 1) m' a σ2 H3)
theorem gloop {X : Cx} {AO : AS → Obj → Prop} {e target : Expr} {d : Nat} {tpos : Pos} {ifs : List Expr} {J : It} {fp : List Addr} {it acc : Addr} {tn : Nat → Heap → Prop} {body : Sem Unit} {g : TG} {tt : TT} {tb : TB AS} {Q : AS → St → Hp → Prop} {R : Result → Shared → Prop}
    {pins : List (Addr × Obj)} {s : Shared} {σ : St} {H : Hp} {a : AS} {o : Obj}
    (hc : X.calm = true) (xxe : X.xe = fun _ _ => False) (hsh : compTurn e d (.ref it) (.ref acc) X.env = compShape tpos (.ref it) target X.env ifs body (again (.compLoop e d (.ref it) (.ref acc) X.env))) (hdn : ∀ (A : Around) (Q : PySem.Fin → Shared → Prop) (E : Value → Shared → Prop) (s : Shared), wpAny (model X.prog X.w) A ((compTurn e d (.ref it) (.ref acc) X.env).onRaise (fun x => do noteFrame x X.env; theTreesLotGoes x)) Q E s → wpAny (model X.prog X.w) (A.under (.compLoop e d (.ref it) (.ref acc) X.env)) ((model X.prog X.w).den (.compLoop e d (.ref it) (.ref acc) X.env)) Q E s)
    (T : Turn X.prog X.w X.K target J fp it tn) (st : tn 0 s.heap) (hf : ∀ b ∈ fp, FpOk X ((acc, o) :: pins) H b) (hg : PG X target g) (ht : PTs X ifs tt) (hb : PBd X AO acc body tb)
    (I : Inv X ((acc, o) :: pins) σ H s) (np : ∀ p ∈ X.pn ++ pins, p.1 ≠ acc) (hx : acc ∈ X.ex ∨ X.s₀.heap.objs.size ≤ acc) (ha : AO a o) (rd : gTurns J g tt tb Q a σ H)
    (hR : ∀ (s' : Shared) (a' : AS) (o' : Obj) (σ' : St) (H' : Hp), Inv X ((acc, o') :: pins) σ' H' s' → AO a' o' → Q a' σ' H' → (∀ b ∈ fp, H' b = none) → R (.ok .next) s') :
    codeAny (model X.prog X.w) X.A (.compLoop e d (.ref it) (.ref acc) X.env) R s := by
  obtain ⟨W, ⟨m0, w0⟩, turn⟩ := rd
  -- the iterator's objects
  have stat : ∀ {o' : Obj} {H' : Hp}, (∀ b ∈ fp, H' b = none) → ∀ b ∈ fp, FpOk X ((acc, o') :: pins) H' b := fun {o' H'} hn b hb => by
    obtain ⟨f0, f1, f2, f3, f4, f5⟩ := hf b hb
    refine ⟨hn b hb, f1, f2, f3, f4, fun p hp => ?_⟩
    rcases List.mem_append.mp hp with z | z
    · exact f5 p (List.mem_append_left _ z)
    · rcases List.mem_cons.mp z with z | z
      · rw [z]; exact f5 (acc, o) (List.mem_append_right _ List.mem_cons_self)
      · exact f5 p (List.mem_append_right _ (List.mem_cons_of_mem _ z))
  refine compLoop_gen hsh hdn (fun n s' => ∃ (i : Nat) (a' : AS) (o' : Obj) (σ' : St) (H' : Hp), Inv X ((acc, o') :: pins) σ' H' s' ∧ AO a' o' ∧ tn i s'.heap ∧ (∀ b ∈ fp, H' b = none) ∧ W i n a' σ' H') ?_ m0 ⟨0, a, o, σ, H, I, ha, st, fun b hb => (hf b hb).1, w0⟩
  rintro n s4 ⟨i, a4, o4, σ4, H4, I4, ha4, st4, fr4, w4⟩
  rcases turn i n a4 σ4 H4 w4 with ⟨stop, q⟩ | ⟨go, step⟩
  · refine thn (T.done X rfl rfl rfl hc i _ s4 σ4 H4 (fun _ _ => False) I4 (stat fr4) st4 stop) fun r s5 ⟨hr, I5⟩ => ?_
    subst hr
    exact hR s5 a4 o4 σ4 H4 I5 ha4 q fr4
  · refine thn (T.item X rfl rfl rfl hc i _ s4 σ4 H4 (fun _ _ => False) I4 (stat fr4) st4 go) fun r s5 ⟨u, hr, h5⟩ => ?_
    subst hr
    refine thn h5 fun _ s6 ⟨x, H6, I6, r6, y6, st6, fr6⟩ => ?_
    have I6' := I6.pinned (stat fr6) (T.obj _ _ st6)
    have back : ∀ {o' : Obj} {σ' : St} {H' : Hp} {s' : Shared}, Inv X ((acc, o') :: (pins ++ pinsAt fp s6.heap)) σ' H' s' → Inv X ((acc, o') :: pins) σ' H' s' ∧ tn (i + 1) s'.heap ∧ ∀ b ∈ fp, H' b = none := fun {o' σ' H' s'} I' => by
      refine ⟨Inv.unpinned (pl := pinsAt fp s6.heap) I', T.keep _ _ _ st6 fun b hb o e => ?_, fun b hb => ?_⟩
      · exact (I'.pin (b, o) (List.mem_append_right _ (List.mem_cons_of_mem _ (List.mem_append_right _ (mem_pinsAt hb e))))).1
      · obtain ⟨o, e, d⟩ := T.obj _ _ st6 b hb
        exact (I'.pin (b, o) (List.mem_append_right _ (List.mem_cons_of_mem _ (List.mem_append_right _ (mem_pinsAt hb e))))).2.1
    have np' : ∀ p ∈ X.pn ++ (pins ++ pinsAt fp s6.heap), p.1 ≠ acc := fun p hp => by
      rcases List.mem_append.mp hp with z | z
      · exact np p (List.mem_append_left _ z)
      · rcases List.mem_append.mp z with z | z
        · exact np p (List.mem_append_right _ z)
        · obtain ⟨hb, _⟩ := of_pinsAt z
          exact Ne.symm ((stat (o' := o4) fr6 p.1 hb).2.2.2.2.2 (acc, o4) (List.mem_append_right _ List.mem_cons_self))
    have tg := hg _ s6 σ4 H6 x u _ I6' r6 (step x H6 y6)
    rw [xxe] at tg
    refine thn tg fun _ s7 ⟨σ7, H7, I7, q7⟩ => ?_
    have tts := ht _ s7 σ7 H7 _ I7 q7
    rw [xxe] at tts
    refine thn tts fun b s8 ⟨H8, I8, q8⟩ => ?_
    cases b with
    | false =>
      rw [if_neg Bool.false_ne_true] at q8 ⊢
      obtain ⟨m', hm', w8⟩ := q8
      obtain ⟨b1, b2, b3⟩ := back I8
      exact ⟨m', hm', i + 1, a4, o4, σ7, H8, b1, ha4, b2, b3, w8⟩
    | true =>
      rw [if_pos rfl] at q8 ⊢
      refine thn (hb _ s8 σ7 H8 a4 o4 _ I8 np' hx ha4 q8) fun _ s9 ⟨a9, o9, σ9, H9, I9, ha9, m', hm', w9⟩ => ?_
      obtain ⟨b1, b2, b3⟩ := back I9
      exact ⟨m', hm', i + 1, a9, o9, σ9, H9, b1, ha9, b2, b3, w9⟩
end
end L2

set_option Elab.async false
set_option linter.all false
set_option maxRecDepth 100000
namespace L2
open PySem PySem.Spec PyProof.Rows
theorem compStart_gen {prog : Program} {w : World} {A : Around} {R : Result → Shared → Prop} {s : Shared} {e : Expr} {d : Nat} {g : Comprehension} {it acc : Value} {env : Env} (hcl : (clausesOf e)[d]? = some g) (hga : g.is_async = 0)
    (hdn : ∀ (A : Around) (Q : PySem.Fin → Shared → Prop) (E : Value → Shared → Prop) (s : Shared), wpAny (model prog w) A ((compStart e d it acc env).onRaise (fun x => do noteFrame x env; standAt theWindowsPlace)) Q E s → wpAny (model prog w) (A.under (.compStart e d it acc env)) ((model prog w).den (.compStart e d it acc env)) Q E s)
    (hq : ∀ it', (Code.compLoop e d it' acc env).quiet = true)
    (h0 : codeAny (model prog w) A (.compLoop e d it acc env) R s)
    (h : wpAny (model prog w) A (pyIter it) (fun it' s' => codeAny (model prog w) A (.compLoop e d it' acc env) R s') (fun _ _ => False) s) : codeAny (model prog w) A (.compStart e d it acc env) R s := by
  refine codeAny_of_tree (hdn _ _ _ _ (wpAny_notedAt ?_))
  unfold compStart
  rw [hcl]
  show wpAny _ _ (if (g.is_async != 0) = true then _ else _) _ _ s
  rw [if_neg (by rw [hga]; decide)]
  refine wpAny_bind (wpAny_askSetting (wpAny_ite ?_))
  split
  · first
      | exact wpAny_bind (wpAny_pure (wpAny_pure (And.intro (hq _) h0)))
      | exact wpAny_pure (And.intro (hq _) h0)
  · exact wpAny_bind (wpAny_rule (wpAny_bind (wpAny_standAt (wpAny_bind (wpAny_mono h (fun it' s' h' => wpAny_pure (And.intro (hq _) h')) fun _ _ x => x.elim)))))
section
variable {X : Cx} {pins : List (Addr × Obj)} {σ : St} {H : Hp} {s : Shared} {AS : Type}
theorem gcore {e target : Expr} {gcl : Comprehension} {tpos : Pos} {ifs : List Expr} {scope : Scope} {N' : List Str} {sub : List (Option Nat)} {J : It} {fp : List Addr} {it : Addr} {tn : Nat → Heap → Prop} {g : TG} {tt : TT} {tb : TB AS} {o0 : Obj} {a0 : AS} {AO : AS → Obj → Prop} {HOf : Addr → AS → HO} {newAcc : Sem Value} {body : Addr → Env → Sem Unit}
    {Qe : AS → Hp → Prop} {E : Value → Shared → Prop} {RR : Value → Addr → Result → Shared → Prop}
    (hnew : ∀ (A : Around) (s : Shared) (Q : Value → Shared → Prop) (E : Value → Shared → Prop), Q (.ref s.heap.objs.size) { s with heap := s.heap.push o0 } → wpAny (model X.prog X.w) A newAcc Q E s) (nf : o0.isFreed = false) (nc : ∀ a o, AO a o → ∀ v, o.data ≠ .cell v) (hA0 : AO a0 o0)
    (hHO : ∀ (H' : Hp) (h : Heap) (acc : Addr) (a : AS) (o : Obj), sysModules < acc → AO a o → h.get? acc = some o → ObjOk X.prog X.w H' h acc (HOf acc a))
    (hcl : (clausesOf e)[0]? = some gcl) (hga : gcl.is_async = 0)
    (hdnS : ∀ (it acc : Value) (env : Env) (A : Around) (Q : PySem.Fin → Shared → Prop) (E : Value → Shared → Prop) (s : Shared), wpAny (model X.prog X.w) A ((compStart e 0 it acc env).onRaise (fun x => do noteFrame x env; standAt theWindowsPlace)) Q E s → wpAny (model X.prog X.w) (A.under (.compStart e 0 it acc env)) ((model X.prog X.w).den (.compStart e 0 it acc env)) Q E s)
    (hdnL : ∀ (it acc : Value) (env : Env) (A : Around) (Q : PySem.Fin → Shared → Prop) (E : Value → Shared → Prop) (s : Shared), wpAny (model X.prog X.w) A ((compTurn e 0 it acc env).onRaise (fun x => do noteFrame x env; theTreesLotGoes x)) Q E s → wpAny (model X.prog X.w) (A.under (.compLoop e 0 it acc env)) ((model X.prog X.w).den (.compLoop e 0 it acc env)) Q E s)
    (hq : ∀ it acc env, (Code.compLoop e 0 it acc env).quiet = true)
    (hsh : ∀ (it acc : Addr) (env : Env), compTurn e 0 (.ref it) (.ref acc) env = compShape tpos (.ref it) target env ifs (body acc env) (again (.compLoop e 0 (.ref it) (.ref acc) env)))
    (hc : X.calm = true) (I : Inv X pins σ H s) (O : CmpOk X.N X.env.scope N' scope sub) (T : Turn X.prog X.w X.K target J fp it tn) (st : tn 0 s.heap) (hf : ∀ b ∈ fp, FpOk X pins H b)
    (B : ∀ C s H fp, PG (cmpOf X scope N' C s H fp) target g ∧ PTs (cmpOf X scope N' C s H fp) ifs tt ∧ ∀ acc, PBd (cmpOf X scope N' C s H fp) AO acc (body acc (cmpOf X scope N' C s H fp).env) tb)
    (rd : gTurns J g tt tb (fun a _ H' => Qe a H') a0 (subσ sub σ) H)
    (hRR : ∀ (acc C : Addr) (a : AS) (H' : Hp) (s' : Shared), Inv X pins σ (upd H' acc (HOf acc a)) s' → FpOk X pins (upd H' acc (HOf acc a)) C → (∃ m, s'.heap.Ns C m) → H' acc = none → Qe a H' → RR (.ref acc) C (.ok .next) s') :
    wpAny (model X.prog X.w) X.A newAcc (fun acc s₃ => wpAny (model X.prog X.w) X.A (newFunctionEnv scope X.env.globals (closL X.env.cells scope.names []) [] X.env.qual none .none (some X.env)) (fun cenv s₄ =>
      codeAny (model X.prog X.w) X.A (.compStart e 0 (.ref it) acc { cenv with scope := relabel scope X.env }) (RR acc cenv.locals) s₄) E s₃) E s := by
  refine hnew _ _ _ _ (wpAny_compEnv ?_)
  have hfl : ∀ b ∈ fp, b < s.heap.objs.size := fun b hb => by
    obtain ⟨o, e, _⟩ := T.obj _ _ st b hb
    exact Heap.lt_size e
  have I0 := inv_compO (o0 := o0) (sub := sub) I O hf hfl nf (nc a0 o0 hA0)
  have sz3 : (s.heap.push o0).objs.size = s.heap.objs.size + 1 := Heap.size_push ..
  dsimp only
  show codeAny _ _ (.compStart _ 0 (.ref it) (.ref s.heap.objs.size) { scope := relabel scope X.env, locals := (s.heap.push o0).objs.size, globals := X.env.globals, cells := cellsFrom ((s.heap.push o0).objs.size + 1) scope.names (closL X.env.cells scope.names []), qual := X.env.qual, func := none, code := X.env.code, frame := X.env.frame, builtins := X.env.builtins })
    (RR (.ref s.heap.objs.size) (s.heap.push o0).objs.size) { s with heap := pushCells ((s.heap.push o0).push { cls := .type "dict", data := .dict #[] }) scope.names }
  rw [sz3]
  show codeAny _ _ (.compStart _ 0 (.ref it) (.ref s.heap.objs.size) (cenvOf X.env scope (s.heap.objs.size + 1))) (RR (.ref s.heap.objs.size) (s.heap.objs.size + 1)) _
  generalize hs0 : ({ s with heap := pushCells ((s.heap.push o0).push { cls := .type "dict", data := .dict #[] }) scope.names } : Shared) = s0 at I0 ⊢
  have hk0 : ∀ b o, s.heap.get? b = some o → s0.heap.get? b = some o := fun b o e => by
    rw [← hs0]
    exact pushCells_keeps _ _ b o (Heap.get?_push_of_some _ (Heap.get?_push_of_some _ e))
  have st0 : tn 0 s0.heap := T.keep _ _ _ st fun b hb o e => hk0 b o e
  clear hs0 sz3
  generalize hX : cmpOf X scope N' (s.heap.objs.size + 1) s H fp = X' at I0
  have xp : X'.prog = X.prog := by rw [← hX]; rfl
  have xw : X'.w = X.w := by rw [← hX]; rfl
  have xK : X'.K = X.K := by rw [← hX]; rfl
  have xA : X'.A = X.A := by rw [← hX]; rfl
  have xc : X'.calm = true := by rw [← hX]; exact hc
  have xe : X'.env = cenvOf X.env scope (s.heap.objs.size + 1) := by rw [← hX]; rfl
  have xx : X'.ex = fp := by rw [← hX]; rfl
  have xf : X'.fs = frs X.stack := by rw [← hX]; rfl
  have xpn : X'.pn = [] := by rw [← hX]; rfl
  have x0 : X'.s₀ = s := by rw [← hX]; rfl
  have xh : X'.H₀ = H := by rw [← hX]; rfl
  have xxe : X'.xe = fun _ _ => False := by rw [← hX]; rfl
  obtain ⟨hg, ht, hbd⟩ := B (s.heap.objs.size + 1) s H fp
  rw [hX] at hg ht hbd
  clear hX
  have f0' : ∀ b ∈ fp, FpOk X' [(s.heap.objs.size, o0)] H b := fun b hb => by
    obtain ⟨f0, f1, f2, f3, f4, f5⟩ := hf b hb
    refine ⟨f0, (I0.ok.exf b (by rw [xx]; exact hb)).1, I0.ok.exfs b (by rw [xx]; exact hb), .inl (by rw [xx]; exact hb), (I0.ok.exf b (by rw [xx]; exact hb)).2, fun p hp' => ?_⟩
    rw [xpn, List.nil_append, List.mem_singleton] at hp'
    rw [hp']
    exact Nat.ne_of_gt (hfl b hb)
  have loop : codeAny (model X.prog X.w) X.A (.compLoop e 0 (.ref it) (.ref s.heap.objs.size) (cenvOf X.env scope (s.heap.objs.size + 1))) (RR (.ref s.heap.objs.size) (s.heap.objs.size + 1)) s0 := by
    have T' : Turn X'.prog X'.w X'.K target J fp it tn := by rw [xp, xw, xK]; exact T
    have hb0 := hbd s.heap.objs.size
    have key := gloop (X := X') (AO := AO) (e := e) (d := 0) (tpos := tpos) (R := RR (.ref s.heap.objs.size) (s.heap.objs.size + 1)) (pins := []) (a := a0) (o := o0) (acc := s.heap.objs.size) xc xxe (hsh it s.heap.objs.size X'.env) (by rw [xp, xw]; exact hdnL _ _ _) T' st0 f0' hg ht hb0 I0 (by rw [xpn]; exact fun p hp => absurd hp (by simp)) (.inr (by rw [x0]; exact Nat.le_refl _)) hA0 rd ?_
    · rw [xp, xw, xA, xe] at key
      exact key
    intro s5 a5 o5 σ5 H4 I5 ha5 q fr5
    have pa := I5.pin (s.heap.objs.size, o5) (by rw [xpn]; simp)
    have nacc : H4 s.heap.objs.size = none := pa.2.1
    have nC : H4 (s.heap.objs.size + 1) = none := by have z := I5.free; rw [xe] at z; exact z
    have un : Un (frs X.stack) fp H H4 s.heap s5.heap := by have z := I5.base; rw [xf, xx, xh, x0] at z; exact z
    have un2 : Un (frs X.stack) fp H (upd H4 s.heap.objs.size (HOf s.heap.objs.size a5)) s.heap s5.heap := by
      refine ⟨un.keep, un.slot, fun b o e n hx => ?_, un.there, fun b xs e => ?_, fun b o u e => ?_, fun b ps e => ?_⟩
      · rw [upd_ne (Nat.ne_of_lt (Heap.lt_size e))]
        exact un.free b o e n hx
      · have z := un.tups b xs e
        rw [upd_ne (ne_of_none z nacc)]; exact z
      · have z := un.frzs b o u e
        rw [upd_ne (ne_of_none z nacc)]; exact z
      · obtain ⟨more, z⟩ := un.tbls b ps e
        exact ⟨more, by rw [upd_ne (ne_of_none z nacc)]; exact z⟩
    have hok5 : HOk X.prog X.w H4 s5.heap := by have z := I5.hok; rw [xp, xw] at z; exact z
    have hok2 : HOk X.prog X.w (upd H4 s.heap.objs.size (HOf s.heap.objs.size a5)) s5.heap := fun b u e => by
      by_cases hb : b = s.heap.objs.size
      · subst hb
        rw [upd_same] at e
        cases e
        exact hHO _ _ _ _ _ I.big ha5 pa.1
      · rw [upd_ne hb] at e
        exact (hok5 b u e).stay (fun _ _ _ q => q) (fun c q => by rw [upd_ne (ne_of_none q nacc)]; exact q) fun c xs q => by rw [upd_ne (ne_of_none q nacc)]; exact q
    have os5 : s5.os = s.os := by have z := I5.os; rw [x0] at z; exact z
    have J5 : Inv X pins σ (upd H4 s.heap.objs.size (HOf s.heap.objs.size a5)) s5 := I.call' os5 un2 hok2 I5.bare fun b hb => by
      obtain ⟨f0, f1, f2, f3, f4, f5⟩ := hf b hb
      exact ⟨f3, f1, f4, f5⟩
    refine hRR _ _ a5 H4 s5 J5 (I.fpOk (Nat.le_succ _) ?_) ?_ nacc q
    · rw [upd_ne (Nat.succ_ne_self _)]; exact nC
    · obtain ⟨m, hn, _⟩ := I5.loc
      rw [xe] at hn
      exact ⟨m, hn⟩
  exact compStart_gen hcl hga (hdnS _ _ _) (fun it' => hq _ _ _) loop (T.self _ 0 _ _ _ st0 loop)
end
end L2

set_option Elab.async false
set_option linter.all false
set_option maxRecDepth 100000
namespace L2
open PySem PySem.Spec PyProof.Rows
/-! ### a second clause -/
def nestBody (e iter2 : Expr) (acc : Addr) (env : Env) : Sem Unit := do
  let x ← eval iter2 env
  standAt iter2.pos
  let x ← foldedSetIterable iter2 env x
  let _ ← runOwn (.compStart e 1 (← holding [x] (pyIter x)) (.ref acc) env) env
def tNest {AS : Type} (wi : TI) (g : TG) (tt : TT) (tb : TB AS) : TB AS := fun a σ H Q => wi σ H fun J H1 => gTurns J g tt tb Q a σ H1
theorem pbd_nest {X : Cx} {AS : Type} {AO : AS → Obj → Prop} {acc : Addr} {e iter2 target2 : Expr} {ifs2 : List Expr} {tpos2 : Pos} {gcl : Comprehension} {body : Sem Unit} {wi : TI} {g : TG} {tt : TT} {tb : TB AS} (hc : X.calm = true) (xxe : X.xe = fun _ _ => False)
    (hi : PI X target2 iter2 wi) (hg : PG X target2 g) (ht : PTs X ifs2 tt) (hb : PBd X AO acc body tb) (hfold : ∀ x, foldedSetIterable iter2 X.env x = pure x)
    (hcl : (clausesOf e)[1]? = some gcl) (hga : gcl.is_async = 0)
    (hsh : ∀ it : Addr, compTurn e 1 (.ref it) (.ref acc) X.env = compShape tpos2 (.ref it) target2 X.env ifs2 body (again (.compLoop e 1 (.ref it) (.ref acc) X.env)))
    (hdnS : ∀ (it : Value) (A : Around) (Q : PySem.Fin → Shared → Prop) (E : Value → Shared → Prop) (s : Shared), wpAny (model X.prog X.w) A ((compStart e 1 it (.ref acc) X.env).onRaise (fun x => do noteFrame x X.env; standAt theWindowsPlace)) Q E s → wpAny (model X.prog X.w) (A.under (.compStart e 1 it (.ref acc) X.env)) ((model X.prog X.w).den (.compStart e 1 it (.ref acc) X.env)) Q E s)
    (hdnL : ∀ (it : Value) (A : Around) (Q : PySem.Fin → Shared → Prop) (E : Value → Shared → Prop) (s : Shared), wpAny (model X.prog X.w) A ((compTurn e 1 it (.ref acc) X.env).onRaise (fun x => do noteFrame x X.env; theTreesLotGoes x)) Q E s → wpAny (model X.prog X.w) (A.under (.compLoop e 1 it (.ref acc) X.env)) ((model X.prog X.w).den (.compLoop e 1 it (.ref acc) X.env)) Q E s)
    (hq : ∀ it, (Code.compLoop e 1 it (.ref acc) X.env).quiet = true) : PBd X AO acc (nestBody e iter2 acc X.env) (tNest wi g tt tb) := by
  intro pins s σ H a o Q I np hx ha h
  have h0 := hi _ s σ H _ I h
  rw [xxe] at h0
  unfold nestBody
  refine wpAny_bind (thn h0 fun v s1 h1 => wpAny_bind (wpAny_standAt (wpAny_bind (wpAny_of_eq (hfold v) (wpAny_bind (wpAny_holding (thn h1 fun itv s2 h2 => ?_)))))))
  obtain ⟨it, fp, tn, J, H2, e2, I2, T, st2, f2, rd⟩ := h2
  subst e2
  refine wpAny_bind (wpAny_runOwn ?_)
  have loop := gloop (X := X) (AO := AO) (e := e) (d := 1) (tpos := tpos2) (R := fun r s' => match r with
      | .ok f => wpAny (model X.prog X.w) X.A (pure () : Sem Unit) (fun _ s' => ∃ (a' : AS) (o' : Obj) (σ' : St) (H' : Hp), Inv X ((acc, o') :: pins) σ' H' s' ∧ AO a' o' ∧ Q a' σ' H') (fun _ _ => False) s'
      | .error e => cameBackBy (model X.prog X.w) X.A X.env (fun _ _ => False) e s') hc xxe (hsh it) (hdnL _) T st2 f2 hg ht hb I2 np hx ha rd
    (fun s' a' o' σ' H' I' ha' q' _ => wpAny_pure ⟨a', o', σ', H', I', ha', q'⟩)
  exact compStart_gen hcl hga (hdnS _) hq loop (T.self _ 0 _ _ _ st2 loop)
/-! ### sets of texts gathered -/
def StrObj (P : Program) (w : World) (ss : List Str) (o : Obj) : Prop :=
  ∃ (es : Array (Int × Value)) (ep : Nat) (t : SetTable), o = sOb es ep t ∧ ElemsOf (PySem.strKind P w) es.toList ∧ StrsAre (es.toList.map (·.2)) ss ∧ es.size < scanBound ∧ t.fits es.size = true ∧ t.led = !w.params.followText "set-order" ∧ (es.size ≠ 0 → t.plain = false)
theorem StrObj.set {P : Program} {w : World} {ss : List Str} {o : Obj} {h : Heap} {a : Addr} (x : StrObj P w ss o) (e : h.get? a = some o) : StrSet P w h a ss := by
  obtain ⟨es, ep, t, rfl, r⟩ := x
  exact ⟨es, ep, t, e, r⟩
theorem StrSet.obj {P : Program} {w : World} {ss : List Str} {h : Heap} {a : Addr} (x : StrSet P w h a ss) : ∃ o, h.get? a = some o ∧ StrObj P w ss o := by
  obtain ⟨es, ep, t, e, r⟩ := x
  exact ⟨_, e, es, ep, t, rfl, r⟩
theorem StrObj.nocell {P : Program} {w : World} {ss : List Str} {o : Obj} (x : StrObj P w ss o) : ∀ v, o.data ≠ .cell v := by
  obtain ⟨es, ep, t, rfl, _⟩ := x
  intro v z; cases z
def setBody (elt : Expr) (acc : Addr) (env : Env) : Sem Unit := do
  let v ← eval elt env
  standAt elt.pos
  let _ ← call (.builtin "set.add") [.ref acc, v]
/-- the text x is put in -/
def tPut (te : TE) : TB (List Str) := fun ss σ H Q => te σ H fun v H' => ∃ x : Str, v = .str x ∧ ss.length < 1000 ∧ ∀ ss', (if x ∈ ss then ss' = ss else ss'.Perm (ss ++ [x])) → Q ss' σ H'
theorem pbd_set {X : Cx} {acc : Addr} {elt : Expr} {te : TE} (xxe : X.xe = fun _ _ => False) (he : PE X elt te) : PBd X (StrObj X.prog X.w) acc (setBody elt acc X.env) (tPut te) := by
  intro pins s σ H a o Q I np hx ha h
  have h0 := he _ s σ H _ I h
  rw [xxe] at h0
  unfold setBody
  refine wpAny_bind (thn h0 fun v s1 ⟨y, H1, I1, r1, x, ex, hl, q⟩ => wpAny_bind (wpAny_standAt (wpAny_bind ?_)))
  subst ex
  obtain ⟨tk, rfl⟩ := r1
  have pa := I1.pin (acc, o) (List.mem_append_right _ List.mem_cons_self)
  have hS : StrSet X.prog X.w s1.heap acc a := ha.set pa.1
  have hT : s1.TypeIs (.ref acc) "set" := by
    obtain ⟨es, ep, t, ho, _⟩ := hS
    exact ⟨_, ho, rfl⟩
  refine wpAny_call_entry PySem.F.slot_set_add hT PySem.F.entry_set_add ?_ (PySem.F.args_set_add_2 _ _)
  unfold Builtin.«set.add» Builtin.Frozenset.oneOther
  simp only [List.isEmpty_nil, bind_assoc]
  unfold Builtin.Frozenset.addrOf setAdd
  refine wpAny_bind (wpAny_pure ?_)
  try dsimp only
  refine wpAny_bind (wpAny_pure ?_)
  try dsimp only
  refine wpAny_bind (wpAny_holding (wpAny_bind ((PySem.strKind X.prog X.w).pyHash (strKind_is X.prog X.w x tk) ?_)))
  refine tset_add (s := { s1 with toks := s1.toks + 1 }) hS (by have : scanBound = 4096 := rfl; omega) fun h2 ss2 sb2 hS2 q2 => ?_
  show wpAny _ _ (ret Value.none) _ _ _
  refine wpAny_pure ⟨_, rfl, wpAny_pure ?_⟩
  obtain ⟨o2, e2, ho2⟩ := hS2.obj
  exact ⟨ss2, o2, σ, H1, I1.repin (t' := s1.toks + 1) (fun b u hb e => (sb2.2 b hb).trans e) e2 ho2.nocell hx np, ho2, q ss2 q2⟩
end L2

set_option Elab.async false
set_option linter.all false
set_option maxRecDepth 100000
namespace L2
open PySem PySem.Spec PyProof.Rows
/-- what a comprehension's form must give -/
structure GC (P : Program) (w : World) {AS : Type} (e target iter : Expr) (ifs : List Expr) (scope : Scope) (tpos : Pos) (newAcc : Sem Value) (body : Addr → Env → Sem Unit) (o0 : Obj) (a0 : AS) (AO : AS → Obj → Prop) (HOf : Addr → AS → HO) : Prop where
  new : ∀ (A : Around) (s : Shared) (Q : Value → Shared → Prop) (E : Value → Shared → Prop), Q (.ref s.heap.objs.size) { s with heap := s.heap.push o0 } → wpAny (model P w) A newAcc Q E s
  nf : o0.isFreed = false
  nc : ∀ a o, AO a o → ∀ v, o.data ≠ .cell v
  hA0 : AO a0 o0
  hHO : ∀ (H' : Hp) (h : Heap) (acc : Addr) (a : AS) (o : Obj), sysModules < acc → AO a o → h.get? acc = some o → ObjOk P w H' h acc (HOf acc a)
  cl : ∃ gs, clausesOf e = ⟨target, iter, ifs, 0⟩ :: gs
  dnS : ∀ (it acc : Value) (env : Env) (A : Around) (Q : PySem.Fin → Shared → Prop) (E : Value → Shared → Prop) (s : Shared), wpAny (model P w) A ((compStart e 0 it acc env).onRaise (fun x => do noteFrame x env; standAt theWindowsPlace)) Q E s → wpAny (model P w) (A.under (.compStart e 0 it acc env)) ((model P w).den (.compStart e 0 it acc env)) Q E s
  dnL : ∀ (it acc : Value) (env : Env) (A : Around) (Q : PySem.Fin → Shared → Prop) (E : Value → Shared → Prop) (s : Shared), wpAny (model P w) A ((compTurn e 0 it acc env).onRaise (fun x => do noteFrame x env; theTreesLotGoes x)) Q E s → wpAny (model P w) (A.under (.compLoop e 0 it acc env)) ((model P w).den (.compLoop e 0 it acc env)) Q E s
  q : ∀ it acc env, (Code.compLoop e 0 it acc env).quiet = true
  sh : ∀ (it acc : Addr) (env : Env), compTurn e 0 (.ref it) (.ref acc) env = compShape tpos (.ref it) target env ifs (body acc env) (again (.compLoop e 0 (.ref it) (.ref acc) env))
def tGath {AS : Type} (sub : List (Option Nat)) (wi : TI) (g : TG) (tt : TT) (tb : TB AS) (a0 : AS) (HOf : Addr → AS → HO) : TE := fun σ H Q => wi σ H fun J H1 =>
  gTurns J g tt tb (fun a _ H' => ∀ r, H' r = none → Q (.ref r) (upd H' r (HOf r a))) a0 (subσ sub σ) H1
section
variable {X : Cx} {AS : Type} {e target iter : Expr} {ifs : List Expr} {scope sc : Scope} {pos tpos cpos : Pos} {N N' : List Str} {sub : List (Option Nat)} {wi : TI} {g : TG} {tt : TT} {tb : TB AS} {newAcc : Sem Value} {body : Addr → Env → Sem Unit} {o0 : Obj} {a0 : AS} {AO : AS → Obj → Prop} {HOf : Addr → AS → HO}
theorem pe_g (GG : GC X.prog X.w e target iter ifs scope tpos newAcc body o0 a0 AO HOf) (hev : eval e X.env = comprehension e scope X.env cpos newAcc false (eval iter X.env)) (hN : X.N = N) (hsc : X.env.scope = sc) (O : CmpOk N sc N' scope sub) (hc : X.calm = true) (hi : PI X target iter wi)
    (B : ∀ C s H fp, PG (cmpOf X scope N' C s H fp) target g ∧ PTs (cmpOf X scope N' C s H fp) ifs tt ∧ ∀ acc, PBd (cmpOf X scope N' C s H fp) AO acc (body acc (cmpOf X scope N' C s H fp).env) tb)
    (hs : ∀ x, foldedSetIterable iter X.env x = pure x := by intro _; rfl) : PE X e (tGath sub wi g tt tb a0 HOf) := by
  subst hN hsc
  intro pins s σ H Q I h
  rw [hev]
  obtain ⟨gs, hcl⟩ := GG.cl
  refine wpAny_comprehension_free (use := none) hcl hs (clos_of I O) O.kind (names_of O) (thn (hi pins s σ H _ I h) fun v s1 h1 => thn h1 fun itv s2 h2 => ?_)
  obtain ⟨it, fp, tn, J, H2, e, I2, T, st2, f2, rd⟩ := h2
  subst e
  refine gcore (RR := fun acc C => compPost (model X.prog X.w) X.A X.xe none (EP X pins σ Q) acc C) GG.new GG.nf GG.nc GG.hA0 GG.hHO (by rw [hcl]; rfl) rfl GG.dnS GG.dnL GG.q GG.sh hc I2 O T st2 f2 B rd fun acc C a H' s' I' fC hn na q => ?_
  obtain ⟨m, hn⟩ := hn
  obtain ⟨f0, f1, f3, f4, f5, f6⟩ := fC
  refine ⟨m, hn, fun h' sb => ?_⟩
  exact ⟨.ref acc, upd H' acc (HOf acc a), I'.turned (t' := s'.toks) (it := C) (fun b o hb e => (sb.2 b hb).trans e) f0 f1 f4 f5 f6, rfl, q acc na⟩
theorem ps_g {i : Nat} {y : Str} {py spos : Pos} (GG : GC X.prog X.w e target iter ifs scope tpos newAcc body o0 a0 AO HOf)
    (hev : ∀ use, evalThenUse e X.env use = (do let _ ← comprehension e scope X.env cpos newAcc false (eval iter X.env) (some use))) (hN : X.N = N) (hsc : X.env.scope = sc) (O : CmpOk N sc N' scope sub) (hc : X.calm = true) (hi : PI X target iter wi)
    (B : ∀ C s H fp, PG (cmpOf X scope N' C s H fp) target g ∧ PTs (cmpOf X scope N' C s H fp) ifs tt ∧ ∀ acc, PBd (cmpOf X scope N' C s H fp) AO acc (body acc (cmpOf X scope N' C s H fp).env) tb)
    (nd : X.N.Nodup) (hy : X.N[i]? = some y) (hx : Loc X.env.scope y) (hsw : swapsWith e (some (.Name y py)) spos.line X.env = pure true := by rfl)
    (hs : ∀ x, foldedSetIterable iter X.env x = pure x := by intro _; rfl) (hf : X.fn y = true ∨ X.env.scope.names.lookup y = some .local := by first | exact .inl rfl | exact .inr rfl | assumption) : PS X (.Assign [.Name y py] e spos) (tAsg (tGath sub wi g tt tb a0 HOf) (gName i)) := by
  subst hN hsc
  intro pins s σ H D I h
  rw [exec_Assign_Name_used _ _ _ _ hsw, hev]
  obtain ⟨gs, hcl⟩ := GG.cl
  refine wpAny_bind (wpAny_standAt (wpAny_bind ?_))
  refine wpAny_bind (wpAny_mono (wpAny_comprehension_free (use := some (assign (.Name y py) X.env)) (Q := fun _ s' => SP X pins D .next s') hcl hs (clos_of I O) O.kind (names_of O) (thn (hi pins s σ H _ I h) fun v s1 h1 => thn h1 fun itv s2 h2 => ?_)) (fun _ s' hq => wpAny_pure (wpAny_pure hq)) fun _ _ e => e)
  obtain ⟨it, fp, tn, J, H2, e, I2, T, st2, f2, rd⟩ := h2
  subst e
  refine gcore (RR := fun acc C => compPost (model X.prog X.w) X.A X.xe (some (assign (.Name y py) X.env)) (fun _ s' => SP X pins D .next s') acc C) GG.new GG.nf GG.nc GG.hA0 GG.hHO (by rw [hcl]; rfl) rfl GG.dnS GG.dnL GG.q GG.sh hc I2 O T st2 f2 B rd fun acc C a H' s' I' fC hn na q => ?_
  obtain ⟨m, hn⟩ := hn
  obtain ⟨f0, f1, f3, f4, f5, f6⟩ := fC
  show wpAny _ _ (assign (.Name y py) X.env (.ref acc)) _ _ s'
  refine wpAny_assign_Name (store_ok2 (v := .ref acc) I' nd hy hx rfl (fun s'' I'' ⟨b, sb, ha⟩ => ?_) hf)
  have nCa : C ≠ b := by
    rcases ha with z | z
    · rw [z]; exact f1
    · exact fun e => f5 _ _ z e.symm
  refine ⟨m, hn.sameBut sb nCa, fun h' sb' => ?_⟩
  exact ⟨_, upd H' acc (HOf acc a), I''.turned (t' := s''.toks) (it := C) (fun b o hb e => (sb'.2 b hb).trans e) f0 f1 f4 f5 f6, q acc na⟩
end
/-! ### the forms: a set of texts by two clauses; a dict by one; a list by two -/
section
variable {P : Program} {w : World} {target iter target2 iter2 elt kx vx : Expr} {ifs ifs2 : List Expr} {scope : Scope} {pos : Pos}
theorem gc_set2 : GC P w (.SetComp elt [⟨target, iter, ifs, 0⟩, ⟨target2, iter2, ifs2, 0⟩] scope pos) target iter ifs scope iter.pos (newSet (.type "set")) (nestBody (.SetComp elt [⟨target, iter, ifs, 0⟩, ⟨target2, iter2, ifs2, 0⟩] scope pos) iter2) (setO w) ([] : List Str) (StrObj P w) (SetS P w) where
  new := fun A s Q E h => by
    unfold newSet setsByText
    refine wpAny_bind (wpAny_bind (wpAny_askSetting (wpAny_pure ?_)))
    dsimp only
    simp only [newObj]
    exact wpAny_bind (wpAny_alloc (wpAny_pure h))
  nf := rfl
  nc := fun a o h => h.nocell
  hA0 := by
    obtain ⟨o, e, r⟩ := (setO_ok P w (h := (({} : Heap).push (setO w))) (a := ({} : Heap).objs.size) (Heap.get?_push_size _ rfl)).obj
    rw [Heap.get?_push_size _ rfl] at e
    cases e
    exact r
  hHO := fun H' h acc a o _ x e => ⟨x.set e, ⟨o, e⟩, fun h1 h2 z k => z.at k⟩
  cl := ⟨_, rfl⟩
  dnS := fun _ _ _ _ _ _ _ h => h
  dnL := fun _ _ _ _ _ _ _ h => h
  q := fun _ _ _ => rfl
  sh := fun it acc env => by
    unfold compShape nestBody
    simp only [bind_assoc]
    rfl
end
end L2

set_option Elab.async false
set_option linter.all false
set_option maxRecDepth 100000
namespace L2
open PySem PySem.Spec PyProof.Rows
/-! ### dicts gathered -/
def DOb (P : Program) (w : World) (kvs : List (Key × V)) (o : Obj) : Prop :=
  kvs.length ≤ sizeLine ∧ ∃ (vs : List (Key × Value)) (es : Array DictEntry) (ep : Nat), KV kvs vs ∧ o.ExactDict ∧ o.data = .dict es ep ∧ KeysOf (mixKind P w) es ∧ Pairs (mixKind P w) es.toList vs ∧ (vs.map (·.1)).Nodup
def dictBody (kx vx : Expr) (acc : Addr) (env : Env) : Sem Unit := do
  let kv ← eval kx env
  let vv ← holding [kv] (eval vx env)
  standAt { kx.pos with endLine := vx.pos.endLine, endCol := vx.pos.endCol }
  holding [kv, vv] (dictSet acc kv vv)
def tPutD (tk tv : TE) : TB (List (Key × V)) := fun kvs σ H Q => tk σ H fun x H1 => tv σ H1 fun y H2 => ∃ k : Key, x = kV k ∧ kvs.length < sizeLine ∧ Q (putK kvs k y) σ H2
theorem pbd_dict {X : Cx} {acc : Addr} {kx vx : Expr} {tk tv : TE} (xxe : X.xe = fun _ _ => False) (hk : PE X kx tk) (hv : PE X vx tv) : PBd X (DOb X.prog X.w) acc (dictBody kx vx acc X.env) (tPutD tk tv) := by
  intro pins s σ H a o Q I np hx ha h
  have h0 := hk _ s σ H _ I h
  rw [xxe] at h0
  unfold dictBody
  refine wpAny_bind (thn h0 fun u s1 ⟨x, H1, I1, r1, q1⟩ => wpAny_bind (wpAny_holding ?_))
  have h2 := hv _ s1 σ H1 _ I1 q1
  rw [xxe] at h2
  refine thn h2 fun r s2 ⟨y, H2, I2, r2, k, ex, hl, q⟩ => wpAny_bind (wpAny_standAt (wpAny_holding ?_))
  subst ex
  obtain ⟨hz, vs, es, ep, kv, d1, d2, d3, d4, d5⟩ := ha
  have pa := I2.pin (acc, o) (List.mem_append_right _ List.mem_cons_self)
  have hlen := kv.length
  refine wpAny_dictSet_pairs (hsz := by omega) (kV_is r1) (show s2.heap.DictOf (mixKind X.prog X.w) acc vs from ⟨o, es, ep, pa.1, d1, d2, d3, d4, d5⟩) fun h3 dd sb => ?_
  obtain ⟨o3, es3, ep3, e1, e2, e3, e4, e5, e6⟩ := dd
  have hl3 := length_putK a k y
  exact ⟨putK a k y, o3, σ, H2, I2.repin (t' := s2.toks + 1) (fun b u hb e => (sb.2 b hb).trans e) e1 (fun v z => by rw [e3] at z; cases z) hx np, ⟨by omega, _, es3, ep3, kv.put k r2, e2, e3, e4, e5, e6⟩, q⟩
theorem gc_dict {P : Program} {w : World} {target iter kx vx : Expr} {ifs : List Expr} {scope : Scope} {pos : Pos} :
    GC P w (.DictComp kx vx [⟨target, iter, ifs, 0⟩] scope pos) target iter ifs scope iter.pos (newDict) (dictBody kx vx) { cls := .type "dict", data := .dict #[] } ([] : List (Key × V)) (DOb P w) (fun _ kvs => .dK kvs) where
  new := fun A s Q E h => wpAny_newObj_type h (by size_fits)
  nf := rfl
  nc := fun a o h v z => by
    obtain ⟨_, vs, es, ep, _, _, e, _⟩ := h
    rw [e] at z; cases z
  hA0 := ⟨Nat.zero_le _, [], #[], 0, .nil, ⟨rfl, rfl, rfl⟩, rfl, fun e he => by simp at he, .nil, List.nodup_nil⟩
  hHO := fun H' h acc a o hb x e => by
    obtain ⟨hz, vs, es, ep, kv, d1, d2, d3, d4, d5⟩ := x
    exact dk_new hz (beq_eq_false_iff_ne.mpr (Nat.ne_of_gt hb)) kv ⟨o, es, ep, e, d1, d2, d3, d4, d5⟩
  cl := ⟨_, rfl⟩
  dnS := fun _ _ _ _ _ _ _ h => h
  dnL := fun _ _ _ _ _ _ _ h => h
  q := fun _ _ _ => rfl
  sh := fun _ _ _ => rfl
end L2

set_option Elab.async false
set_option linter.all false
set_option maxRecDepth 100000
namespace L2
open PySem PySem.Spec PyProof.Rows
/-! ### for k, v in d.items() -/
theorem FS.entry_dii : entryFor table "dict_itemiterator.__iter__" = some Builtin.«dict_keyiterator.__iter__» := entryFor_alias (id' := "dict_keyiterator.__iter__") (by kernel_rfl) (by first | rfl | decide +kernel | (unfold String.splitOn; simp +decide [String.splitOnAux])) (by decide +kernel) (by kernel_rfl)
def itV (kvs : List (Key × V)) (i : Nat) : List V := match kvs[i]? with
  | some p => [kV p.1, p.2]
  | none => []
theorem turn_items {P : Program} {w : World} {K : PySem.W.Frag} {elts : List Expr} {ct : Nat} {pos : Pos} (it d : Addr) (o : Obj) (kvs : List (Key × V)) (vs : List (Key × Value)) (es : Array DictEntry) (ep : Nat)
    (hne : d ≠ it) (kv : KV kvs vs) (hx : o.ExactDict) (hd : o.data = .dict es ep) (hk : KeysOf (mixKind P w) es) (hp : Pairs (mixKind P w) es.toList vs) (nd : (vs.map (·.1)).Nodup) :
    Turn P w K (.Tuple elts ct pos) (Itp kvs.length (fun H => H d = some (.frz o (.dK kvs))) (itV kvs)) [it] it (fun i h => ∃ ok ov, IsItemIter h it d i vs.length ep ok ov) where
  mem := by simp
  obj := fun i h st b hb => by
    have e : b = it := by simpa using hb
    subst e
    obtain ⟨ok, ov, e⟩ := st
    exact ⟨_, e, fun v z => by cases z⟩
  keep := fun i h h' st k => by
    obtain ⟨ok, ov, e⟩ := st
    exact ⟨ok, ov, k it (by simp) _ e⟩
  item := by
    intro X hP hw hK hc i pins s σ H E I hf st hg
    subst hP hw hK
    obtain ⟨hH, hi⟩ := hg
    obtain ⟨ok, ov, hit⟩ := st
    have ho : s.heap.get? d = some o := (I.hok d _ hH).1
    have da : s.heap.DictAt (mixKind X.prog X.w) d vs ep := ⟨o, es, ho, hx, hd, hk, hp, nd⟩
    obtain ⟨⟨k, xv⟩, hkx⟩ : ∃ p, kvs[i]? = some p := ⟨kvs[i], by simp [hi]⟩
    have hvl : i < vs.length := by have := kv.length; omega
    obtain ⟨⟨k', uv⟩, hkv⟩ : ∃ p, vs[i]? = some p := ⟨vs[i], by simp [hvl]⟩
    have pr : (k = k' ∧ RelV xv uv) := by
      have : ∀ {a : List (Key × V)} {b : List (Key × Value)} {i : Nat} {p : Key × V} {q : Key × Value}, KV a b → a[i]? = some p → b[i]? = some q → p.1 = q.1 ∧ RelV p.2 q.2 := by
        intro a b i p q r
        induction r generalizing i with
        | nil => intro h; simp at h
        | cons h t ih =>
          cases i with
          | zero => intro e1 e2; simp at e1 e2; subst e1 e2; exact h
          | succ i => intro e1 e2; exact ih (by simpa using e1) (by simpa using e2)
      exact this kv hkx hkv
    obtain ⟨rfl, rv⟩ := pr
    refine wpAny_pyNext_items_item hit da hkv fun key h1 hkey ho1 ht hs1 k1 => ?_
    refine ⟨_, rfl, wpAny_letOwnedTupleGo_items ho1 fun h2 hi2 sb2 => ?_⟩
    have hTit : s.heap.objs.size ≠ it := Nat.ne_of_gt (Heap.lt_size hit)
    have ht2 : h2.get? s.heap.objs.size = some { cls := .type "tuple", data := .seq #[key, uv] } := sb2.extBut _ _ hTit ht
    have rk : RelV (kV k) key := by
      rcases keyIs_shape (show keyIs k key = true from hkey) with ⟨j, t, rfl, rfl⟩ | ⟨x, t, rfl, rfl⟩
      · exact ⟨t, rfl⟩
      · exact ⟨t, rfl⟩
    have ei : itV kvs i = [kV k, xv] := by unfold itV; rw [hkx]
    refine ⟨.ref s.heap.objs.size, upd H s.heap.objs.size (.tup (itV kvs i)), I.turnedT (t' := s.toks) (d' := s.drawn) (ch := [it]) (fun b u hb e => ?_) hf (Nat.le_refl _) ⟨?_, [key, uv], ?_, ⟨_, ht2, rfl, _, rfl⟩⟩, rfl, ⟨_, I.hok.fresh (Nat.le_refl _), rfl, rfl⟩, ⟨_, _, hi2⟩, fun b hb => ?_⟩
    · have nb : b ≠ it := by simpa using hb
      exact sb2.extBut _ _ nb (k1 b u nb e)
    · rw [ei]; show 2 ≤ sizeLine; decide
    · rw [ei]; exact .cons rk (.cons rv .nil)
    · have e : b = it := by simpa using hb
      subst e
      rw [upd_ne (Ne.symm hTit)]
      exact (hf b (by simp)).1
  done := by
    intro X hP hw hK hc i pins s σ H E I hf st hg
    subst hP hw hK
    obtain ⟨hH, rfl⟩ := hg
    obtain ⟨ok, ov, hit⟩ := st
    have ho : s.heap.get? d = some o := (I.hok d _ hH).1
    have da : s.heap.DictAt (mixKind X.prog X.w) d vs ep := ⟨o, es, ho, hx, hd, hk, hp, nd⟩
    obtain ⟨f0, f1, f2, f3, f4, f5⟩ := hf it (by simp)
    have hl := kv.length
    exact wpAny_pyNext_items_end (I.ok.hd hc) hit da (by simp; omega) fun h' eb => ⟨rfl, I.turned (t' := s.toks) (fun b o hb e => eb b o hb e) f0 f1 f3 f4 f5⟩
  self := fun A i s Q E st h => by
    obtain ⟨ok, ov, hit⟩ := st
    have hT : s.TypeIs (.ref it) "dict_itemiterator" := ⟨_, hit, rfl⟩
    refine wpAny_pyIter_slot hT PySem.F.slot_dict_itemiterator_iter (wpAny_call_entry PySem.F.slot_dict_itemiterator_iter hT FS.entry_dii ?_ (PySem.F.args_dict_itemiterator_iter_1 _))
    exact wpAny_pure ⟨_, rfl, "dict_itemiterator", _, hT, PySem.F.slot_dict_itemiterator_next.lookup, h⟩
/-- the dict stands frozen from here on -/
def iItems (td : TE) : TI := fun σ H R => td σ H fun x H1 => ∃ d kvs, x = .ref d ∧ H1 d = some (.dK kvs) ∧ ∀ o, R (Itp kvs.length (fun H => H d = some (.frz o (.dK kvs))) (itV kvs)) (upd H1 d (.frz o (.dK kvs)))
theorem pi_items {X : Cx} {oe : Expr} {td : TE} {apos cpos tpos : Pos} {elts : List Expr} {ct : Nat} (he : PE X oe td) (hbase : attributeBase oe "items" X.env (eval oe X.env) = eval oe X.env := by rfl) (hline : (apos.endLine == cpos.line) = true := by rfl) :
    PI X (.Tuple elts ct tpos) (.Call (.Attribute oe "items" apos) [] [] cpos) (iItems td) := by
  intro pins s σ H R I h
  refine wpAny_Call_method0_late hbase hline (thn (he pins s σ H _ I h) fun v s1 ⟨x, H1, I1, r1, q1⟩ => ?_)
  obtain ⟨d, kvs, e, hH, q⟩ := q1
  subst e
  cases r1
  obtain ⟨h1, h2⟩ := tyV_is I1 (x := .ref d) (v := .ref d) (T := "dict") rfl (.inr (.inr (.inl ⟨rfl, .inl ⟨kvs, hH⟩⟩)))
  obtain ⟨hz, hsm, vs, kv, o, es, ep, ho, hx, hd, hk, hp, nd⟩ := dk_of I1.hok hH
  refine ⟨"dict", "dict.items", PySem.F.plainAttrs_dict, PySem.F.slot_dict_items, PySem.F.type_dict_items, h1, h2, Calls.callWith_builtin rfl (PySem.evalArgs_none ?_)⟩
  refine wpAny_call_entry PySem.F.slot_dict_items h1 PySem.F.entry_dict_items ?_ (PySem.F.args_dict_items_1 _)
  unfold Builtin.«dict.items» Builtin.Dict.noArgs
  refine wpAny_bind (wpAny_bind (wpAny_notOrdered_dict h1 ?_))
  refine wpAny_pure ?_
  show wpAny _ _ (Builtin.Dict.showsAll d >>= _) _ _ _
  unfold Builtin.Dict.showsAll
  rw [if_neg (by rw [hsm]; exact Bool.false_ne_true)]
  refine wpAny_bind (wpAny_pure (wpAny_bind (wpAny_newObj_type (wpAny_pure ⟨_, rfl, ?_⟩))))
  have I2 : Inv X pins σ (upd H1 d (.frz o (.dK kvs))) s1 := by
    refine I1.write (t' := s1.toks) (h' := s1.heap) (x := d) (e := d) (by rw [hH]; trivial) (.inl rfl) (fun _ _ _ q => q) ⟨o, ho⟩ ⟨ho, ?_⟩
    exact ⟨hz, hsm, vs, kv, o, es, ep, ho, hx, hd, hk, hp, nd⟩
  have I3 : Inv X pins σ (upd H1 d (.frz o (.dK kvs))) { s1 with heap := s1.heap.push { cls := .type "dict_items", data := .fields #[.ref d] } } := I2.kept (t' := s1.toks) fun b o e => Heap.get?_push_of_some _ e
  have da : (s1.heap.push { cls := .type "dict_items", data := .fields #[.ref d] }).DictAt (mixKind X.prog X.w) d vs ep := ⟨o, es, Heap.get?_push_of_some _ ho, hx, hd, hk, hp, nd⟩
  refine wpAny_pyIter_items (s := { s1 with heap := s1.heap.push { cls := .type "dict_items", data := .fields #[.ref d] } }) ⟨_, Heap.get?_push_size _ rfl, rfl, rfl⟩ da ?_
  have hd1 : d < s1.heap.objs.size := Heap.lt_size ho
  have hne : d ≠ (s1.heap.push { cls := .type "dict_items", data := .fields #[.ref d] }).objs.size := by rw [Heap.size_push]; exact Nat.ne_of_lt (Nat.lt_succ_of_lt hd1)
  refine ⟨_, [(s1.heap.push { cls := .type "dict_items", data := .fields #[.ref d] }).objs.size], _, _, _, rfl, I3.kept (t' := s1.toks) fun b o e => Heap.get?_push_of_some _ e, turn_items _ d o kvs vs es ep hne kv hx hd hk hp nd, ⟨_, _, Heap.get?_push_size _ rfl⟩, fun b hb => ?_, q o⟩
  have e : b = (s1.heap.push { cls := .type "dict_items", data := .fields #[.ref d] }).objs.size := by simpa using hb
  subst e
  exact I3.fpOk (Nat.le_refl _) (I3.hok.fresh (Nat.le_refl _))
end L2

set_option Elab.async false
set_option linter.all false
set_option maxRecDepth 100000
namespace L2
open PySem PySem.Spec PyProof.Rows
/-! ### list(d.values()) -/
def VwS (v d : Addr) : HO := .ext fun h => h.IsValuesView v d
def rVals : V → List V → Hp → VK → Prop := fun x xs H Q => ∃ d kvs, x = .ref d ∧ xs = [] ∧ H d = some (.dK kvs) ∧ ∀ v, H v = none → Q (.ref v) (upd H v (VwS v d))
section
variable {X : Cx}
theorem mt_values : MtR X "dict.values" rVals := by
  intro pins s σ H x xs v us Q I rx r h
  obtain ⟨d, kvs, rfl, rfl, hH, q⟩ := h
  cases rx
  cases r
  obtain ⟨hz, hsm, vs, kv, o, es, ep, ho, hx, hd, hk, hp, nd⟩ := dk_of I.hok hH
  have h1 : s.TypeIs (.ref d) "dict" := ⟨o, ho, hx.1⟩
  refine wpAny_call_entry PySem.F.slot_dict_values h1 PySem.F.entry_dict_values ?_ (PySem.F.args_dict_values_1 _)
  refine wpAny_bind ?_
  unfold Builtin.Dict.noArgs
  refine wpAny_bind (wpAny_notOrdered_dict h1 (wpAny_pure ?_))
  show wpAny _ _ (Builtin.Dict.showsAll d >>= _) _ _ _
  unfold Builtin.Dict.showsAll
  rw [if_neg (by rw [hsm]; exact Bool.false_ne_true)]
  refine wpAny_bind (wpAny_pure (wpAny_bind (wpAny_newObj_type (wpAny_pure ⟨_, rfl, ?_⟩))))
  refine ⟨.ref s.heap.objs.size, _, I.laid (t' := s.toks) (a := s.heap.objs.size) (o := VwS s.heap.objs.size d) (fun b o e => Heap.get?_push_of_some _ e) (Nat.le_refl _) ⟨⟨_, Heap.get?_push_size _ rfl, rfl, rfl⟩, ⟨_, Heap.get?_push_size _ rfl⟩, fun h1 h2 z k => ?_⟩, rfl, q _ (I.hok.fresh (Nat.le_refl _))⟩
  obtain ⟨o', e', r'⟩ := z
  exact ⟨o', k _ e', r'⟩
theorem kv_get : ∀ {a : List (Key × V)} {b : List (Key × Value)} {i : Nat} {p : Key × V} {q : Key × Value}, KV a b → a[i]? = some p → b[i]? = some q → p.1 = q.1 ∧ RelV p.2 q.2 := by
  intro a b i p q r
  induction r generalizing i with
  | nil => intro h; simp at h
  | cons h t ih =>
    cases i with
    | zero => intro e1 e2; simp at e1 e2; subst e1 e2; exact h
    | succ i => intro e1 e2; exact ih (by simpa using e1) (by simpa using e2)
theorem kv_vals : ∀ {a : List (Key × V)} {b : List (Key × Value)}, KV a b → Vals (a.map (·.2)) (b.map (·.2)) := by
  intro a b r
  induction r with
  | nil => exact .nil
  | cons h t ih => exact .cons h.2 ih
theorem call_list_vals (hc : X.calm = true) : CallR X (.type "list") (fun xs H Q => ∃ v d kvs, xs = [.ref v] ∧ H v = some (VwS v d) ∧ H d = some (.dK kvs) ∧ ∀ l, H l = none → Q (.ref l) (upd H l (.lst (kvs.map (·.2))))) := by
  intro pins s σ H xs us Q I r h
  obtain ⟨v, d, kvs, rfl, hv, hH, q⟩ := h
  obtain ⟨u, rfl, rx⟩ := vals1 r
  cases rx
  obtain ⟨hz, hsm, vs, kv, o, es, ep, ho, hx, hd, hk, hp, nd⟩ := dk_of I.hok hH
  have vw : s.heap.IsValuesView v d := (I.hok v _ hv).1
  have hlen := kv.length
  refine PySem.W.kdl_call (PySem.W.kdl_values (knd := mixKind X.prog X.w) (kvs := vs) (ep := ep)) (I.ok.hd hc) ⟨vw, ⟨o, es, ho, hx, hd, hk, hp, nd⟩⟩ (by omega) fun h' tk acc' c' hk' hS' hacc => ?_
  have eacc : acc'.toList = vs.map (·.2) := by
    refine List.ext_getElem? fun i => ?_
    by_cases hi : i < vs.length
    · have hi' : i < acc'.size := by rw [hacc.1]; exact hi
      obtain ⟨k, e⟩ := hacc.2 i _ (Array.getElem?_eq_getElem hi')
      rw [Array.getElem?_toList, Array.getElem?_eq_getElem hi', List.getElem?_map, e]
      rfl
    · rw [Array.getElem?_toList, Array.getElem?_eq_none (by rw [hacc.1]; omega), List.getElem?_eq_none (by rw [List.length_map]; omega)]
  refine ⟨.ref s.heap.objs.size, _, I.laid (t' := tk) (a := s.heap.objs.size) (o := .lst (kvs.map (·.2))) (fun b o e => hk' b o e) (Nat.le_refl _) ⟨by rw [List.length_map]; exact hz, vs.map (·.2), c', kv_vals kv, ?_⟩, rfl, q _ (I.hok.fresh (Nat.le_refl _))⟩
  rw [← eacc, Array.toArray_toList]
  exact hS'
end
end L2

set_option Elab.async false
set_option linter.all false
set_option maxRecDepth 100000
namespace L2
open PySem PySem.Spec PyProof.Rows PySem.W
/-! ### a sort whatever is answered: the places are only changed about -/
abbrev Rng (n : Nat) : Array Nat := List.toArray (List.range n)
def Gd (n : Nat) (p : Array Nat) : Prop := p.Perm (Rng n)
theorem Gd.lt {n : Nat} {p : Array Nat} (h : Gd n p) (h0 : 0 < n) (i : Nat) : p.getD i 0 < n := by
  by_cases hi : i < p.size
  · have e : p.getD i 0 = p[i] := by simp [Array.getD, hi]
    rw [e]
    have m : p[i] ∈ p.toList := by simp
    have m2 := (Array.perm_iff_toList_perm.mp h).mem_iff.mp m
    simpa using m2
  · have e : p.getD i 0 = 0 := by simp [Array.getD, hi]
    rw [e]; exact h0
theorem Gd.rev {n : Nat} {p : Array Nat} (h : Gd n p) (i j : Nat) : Gd n (kas_rev p i j) := (mirror_perm _ _ _ _).trans h
theorem Gd.bub {n : Nat} {p : Array Nat} (h : Gd n p) (i j : Nat) : Gd n (bubble p i j) := (bubble_perm _ _ _).trans h
section
variable {n : Nat} {cmp : Nat → Nat → (Bool → Shared → Prop) → Shared → Prop} {s : Shared} (hask : ∀ i j C, i < n → j < n → (∀ b, C b s) → cmp i j C s) (h0 : 0 < n)
include hask h0
theorem ks_asc {p : Array Nat} (g : Gd n p) {Q : Nat → Shared → Prop} (hq : ∀ m, Q m s) : ∀ f m, (kas_asc p f m).kasWp cmp Q s
  | 0, m => hq m
  | f + 1, m => by
    refine hask _ _ _ (g.lt h0 _) (g.lt h0 _) fun b => ?_
    dsimp only
    split
    · exact hq m
    · exact ks_asc g hq f (m + 1)
theorem ks_desc {Q : Array Nat × Nat × Nat → Shared → Prop} (hq : ∀ p m q, Gd n p → Q (p, m, q) s) : ∀ f p m q, Gd n p → (kas_desc f p m q).kasWp cmp Q s
  | 0, p, m, q, g => hq p m q g
  | f + 1, p, m, q, g => by
    refine hask _ _ _ (g.lt h0 _) (g.lt h0 _) fun b => ?_
    dsimp only
    split
    · split
      · exact ks_desc hq f _ _ _ (g.rev _ _)
      · exact ks_desc hq f _ _ _ g
    · refine hask _ _ _ (g.lt h0 _) (g.lt h0 _) fun d => ?_
      dsimp only
      split
      · exact hq p m q g
      · exact ks_desc hq f _ _ _ g
theorem ks_tail3 {p : Array Nat} (g : Gd n p) {Q : Nat × Array Nat → Shared → Prop} (hq : ∀ m p, Gd n p → Q (m, p) s) (a b : Nat) : (kas_tail3 a b p).kasWp cmp Q s := by
  unfold kas_tail3
  rw [KasT.kasWp_bind]
  exact ks_asc hask h0 (g.rev _ _) (fun m => hq m _ (g.rev _ _)) _ _
theorem ks_descPart {p : Array Nat} (g : Gd n p) {Q : Nat × Array Nat → Shared → Prop} (hq : ∀ m p, Gd n p → Q (m, p) s) (a b : Nat) : (kas_descPart a b p).kasWp cmp Q s := by
  unfold kas_descPart
  rw [KasT.kasWp_bind]
  refine ks_desc hask h0 (fun p' m q g' => ?_) _ _ _ _ g
  dsimp only
  split
  · exact ks_tail3 hask h0 (g'.rev _ _) hq _ _
  · exact ks_tail3 hask h0 g' hq _ _
theorem ks_count {p : Array Nat} (g : Gd n p) {Q : Nat × Array Nat → Shared → Prop} (hq : ∀ m p, Gd n p → Q (m, p) s) (b : Nat) : (kas_count b p).kasWp cmp Q s := by
  unfold kas_count
  rw [KasT.kasWp_bind]
  refine ks_asc hask h0 g (fun m => ?_) _ _
  split
  · exact hq _ _ g
  · split
    · refine hask _ _ _ (g.lt h0 _) (g.lt h0 _) fun c => ?_
      dsimp only
      split
      · exact hq _ _ g
      · exact ks_descPart hask h0 (g.rev _ _) hq _ _
    · exact ks_descPart hask h0 g hq _ _
theorem ks_place {p : Array Nat} (g : Gd n p) {Q : Nat → Shared → Prop} (hq : ∀ m, Q m s) (k : Nat) : ∀ f l r, (kas_place p k f l r).kasWp cmp Q s
  | 0, l, r => hq l
  | f + 1, l, r => by
    unfold kas_place
    split
    · exact hq l
    · refine hask _ _ _ (g.lt h0 _) (g.lt h0 _) fun c => ?_
      dsimp only
      split
      · exact ks_place g hq k f _ _
      · exact ks_place g hq k f _ _
theorem ks_bin {Q : Array Nat → Shared → Prop} (hq : ∀ p, Gd n p → Q p s) : ∀ f p k, Gd n p → (kas_bin f p k).kasWp cmp Q s
  | 0, p, k, g => hq p g
  | f + 1, p, k, g => by
    unfold kas_bin
    rw [KasT.kasWp_bind]
    exact ks_place hask h0 g (fun m => ks_bin hq f _ _ (g.bub _ _)) k _ _ _
theorem ks_sort {Q : Array Nat → Shared → Prop} (hq : ∀ p, Gd n p → Q p s) : (kas_sort n).kasWp cmp Q s := by
  unfold kas_sort
  rw [KasT.kasWp_bind]
  refine ks_count hask h0 (Array.Perm.refl _) (fun m p g => ?_) _
  dsimp only
  split
  · exact ks_bin hask h0 hq _ _ _ g
  · exact hq _ g
end
/-! ### tuples of texts -/
/-- the tuple at v: these texts, one at least -/
def TupS (h : Heap) (v : Value) (t : List Str) : Prop := ∃ a its, v = .ref a ∧ IsTup h a its ∧ StrsAre its.toList t ∧ t ≠ []
theorem katlex_strs {P : Program} {w : World} {A : Around} {s : Shared} {b fin : Bool} {Q : Bool → Shared → Prop} (hQ : ∀ c, Q c s) : ∀ {vs us : List Value} {x y : List Str} (i : Nat), StrsAre vs x → StrsAre us y → KatLex P w A b fin Q (vs.zip us) i s
  | _, _, _, _, i, .nil, _ => hQ fin
  | _, _, _, _, i, .cons _ _ _, .nil => hQ fin
  | _, _, _, _, i, .cons p t r, .cons q u r' => by
    refine kat_cons (wpAny_eqBool_str (kat_go (fun _ => kat_yes (katlex_strs hQ (i + 1) r r')) fun _ => kat_no ?_))
    cases hb : (b && i == 0) with
    | true => exact strKind_oneLt P w A _ s _ _ _ _ rfl rfl (hQ _)
    | false => exact kat_one _ _ (lt_str (hQ _))
section
variable {P : Program} {w : World} {A : Around} {E : Value → Shared → Prop} {s : Shared}
theorem tups_firsts {h h' : Heap} {a : Addr} (k : ∀ b o, b ≠ a → h.get? b = some o → h'.get? b = some o) : ∀ {vs : List Value} {ts : List (List Str)}, Paired (TupS h) vs ts → (∀ v ∈ vs, v ≠ .ref a) → ∃ fs : List Value, KatTups h' vs fs ∧ fs.length = vs.length ∧ ∀ f ∈ fs, ∃ x t, f = Value.str x t
  | _, _, .nil, _ => ⟨[], trivial, rfl, fun f hf => by cases hf⟩
  | _, _, @Paired.cons _ _ _ v t l1 l2 hh tt, hn => by
    obtain ⟨fs, q1, q2, q3⟩ := tups_firsts k tt fun u hu => hn u (List.mem_cons_of_mem _ hu)
    obtain ⟨b, its, rfl, ⟨o, g, c, n, d⟩, st, ne⟩ := hh
    have nb : b ≠ a := fun z => hn _ List.mem_cons_self (by rw [z])
    cases t with
    | nil => exact absurd rfl ne
    | cons x r =>
      have e := st.strs
      cases hi : its.toList with
      | nil => rw [hi] at e; cases e
      | cons f fr =>
        have hf : its[0]? = some f := by rw [← Array.getElem?_toList, hi]; rfl
        refine ⟨f :: fs, .cons (k b o nb g) c d hf q1, by simp [q2], fun g' hg' => ?_⟩
        rcases List.mem_cons.mp hg' with z | z
        · subst z
          exact st.all _ (by rw [hi]; exact List.mem_cons_self)
        · exact q3 g' z
theorem tups_at {h h' : Heap} {a : Addr} (k : ∀ b o, b ≠ a → h.get? b = some o → h'.get? b = some o) : ∀ {vs : List Value} {ts : List (List Str)} {i : Nat}, Paired (TupS h) vs ts → (∀ v ∈ vs, v ≠ .ref a) → i < vs.length → ∃ (t : List Str) (b : Addr) (its : Array Value), IsTup h' b its ∧ vs.getD i Value.none = .ref b ∧ StrsAre its.toList t
  | _, _, i, .nil, _, hi => absurd hi (Nat.not_lt_zero _)
  | _, _, 0, @Paired.cons _ _ _ v t l1 l2 hh tt, hn, _ => by
    obtain ⟨b, its, rfl, ⟨o, g, c, n, d⟩, st, ne⟩ := hh
    have nb : b ≠ a := fun z => hn _ List.mem_cons_self (by rw [z])
    exact ⟨t, b, its, ⟨o, k b o nb g, c, n, d⟩, rfl, st⟩
  | _, _, i + 1, @Paired.cons _ _ _ v t l1 l2 hh tt, hn, hi => tups_at (i := i) k tt (fun u hu => hn u (List.mem_cons_of_mem _ hu)) (by simpa using hi)
theorem sort_tups {a : Addr} {vs : List Value} {ts : List (List Str)} {n : Nat} {R : PySem.Fin → Shared → Prop} (ho : s.heap.get? a = some (seqObj "list" vs.toArray n)) (ht : Paired (TupS s.heap) vs ts) (h64 : vs.length < 64) (hna : ∀ v ∈ vs, v ≠ .ref a)
    (h : ∀ out : List Value, out.Perm vs → R (.done (.ret .none)) { s with heap := sortedHeap s.heap a vs out.toArray }) : wpAny (model P w) A (Builtin.«list.sort» ⟨[.ref a], []⟩) R E s := by
  rw [list_sort_plain]
  have ha : a < s.heap.objs.size := Heap.lt_size ho
  refine wpAny_bind (listItems_at ho rfl (wpAny_bind (listUpdate_at ho rfl ?_ (by rw [List.size_toArray, sizeLine_eq]; omega) (Nat.zero_le _))))
  obtain ⟨e1, ho1⟩ : ∃ e1, (s.heap.update a (Obj.mapSeq fun _ => #[])).get? a = some (seqObj "list" #[] e1) := ⟨_, get?_update_seq ho (fun _ => #[])⟩
  refine wpAny_bind (seqEpoch_at ho1 rfl (wpAny_bind (wpAny_newTuple ?_ (by show vs.length ≤ _; rw [sizeLine_eq]; omega))))
  refine wpAny_bind (wpAny_newList ?_ (Nat.zero_le _))
  refine wpAny_holding ?_
  have ho6 : (((s.heap.update a (Obj.mapSeq fun _ => #[])).push (seqObj "tuple" vs.toArray 0)).push (seqObj "list" #[] 0)).get? a = some (seqObj "list" #[] e1) := Heap.get?_push_of_some _ (Heap.get?_push_of_some _ ho1)
  have keep : ∀ b o, b ≠ a → s.heap.get? b = some o → (((s.heap.update a (Obj.mapSeq fun _ => #[])).push (seqObj "tuple" vs.toArray 0)).push (seqObj "list" #[] 0)).get? b = some o := fun b o hb e => by
    refine Heap.get?_push_of_some _ (Heap.get?_push_of_some _ ?_)
    rw [Heap.get?_update_ne _ _ _ _ hb]; exact e
  show wpAny (model P w) A _ R E { s with heap := ((s.heap.update a (Obj.mapSeq fun _ => #[])).push (seqObj "tuple" vs.toArray 0)).push (seqObj "list" #[] 0) }
  dsimp only
  have fin : ∀ (st' : SortSt) (out : List Value), (arrOf st').map (·.2) = out.toArray → failedOf st' = none → out.Perm vs → wpAny (model P w) A (do
      let touched := (← seqEpoch a) != e1
      Builtin.List.listUpdate (.ref a) fun _ => (arrOf st').map (·.2)
      if let some e := failedOf st' then rule "list.sort.comparison-raised"; throw e
      if touched then rule "list.sort.modified"; raiseError "ValueError" "list modified during sort"
      ret .none) R E { s with heap := ((s.heap.update a (Obj.mapSeq fun _ => #[])).push (seqObj "tuple" vs.toArray 0)).push (seqObj "list" #[] 0) } := by
    intro st' out e hf hp
    refine wpAny_bind (seqEpoch_at ho6 rfl ?_)
    refine wpAny_bind (listUpdate_at ho6 rfl ?_ (Nat.zero_le _) (by rw [e, List.size_toArray, hp.length_eq, sizeLine_eq]; omega))
    rw [hf]
    simp only [bne_self_eq_false, Bool.false_eq_true, if_false]
    rw [e]
    exact wpAny_pure (h out hp)
  by_cases h2 : vs.toArray.size < 2
  · rw [if_pos h2, if_pos h2]
    refine wpAny_bind (wpAny_pure ?_)
    rw [StateT.run_pure]
    refine wpAny_bind (wpAny_pure (fin _ vs ?_ rfl (List.Perm.refl _)))
    show (vs.toArray.zip vs.toArray).map (·.2) = vs.toArray
    apply Array.toList_inj.mp
    rw [Array.toList_map, Array.toList_zip]
    exact List.map_snd_zip (Nat.le_refl _)
  · rw [if_neg h2, if_neg h2]
    have hl2 : 2 ≤ vs.length := by rw [List.size_toArray] at h2; omega
    obtain ⟨fs, kt, fl, fa⟩ := tups_firsts (a := a) keep ht hna
    refine wpAny_bind (kat_kind (T := .type "str") kt (by omega) (fun v hv => ?_) (by decide) ?_)
    · obtain ⟨x, t, rfl⟩ := fa v hv
      exact .now
    refine wpAny_bind (wpAny_mono (kat_run (ks := vs) (Q := fun st' s' => s' = { s with heap := ((s.heap.update a (Obj.mapSeq fun _ => #[])).push (seqObj "tuple" vs.toArray 0)).push (seqObj "list" #[] 0) } ∧ ∃ out : List Value, (arrOf st').map (·.2) = out.toArray ∧ failedOf st' = none ∧ out.Perm vs) (G := fun p s' => s' = { s with heap := ((s.heap.update a (Obj.mapSeq fun _ => #[])).push (seqObj "tuple" vs.toArray 0)).push (seqObj "list" #[] 0) } ∧ Gd vs.length p) rfl hl2 h64 (fun p st' s' a1 a2 a3 a4 => ?_) ?_) ?_ fun _ _ e => e)
    · obtain ⟨rfl, g⟩ := a4
      refine ⟨rfl, _, kat_snds rfl a2, a3, ?_⟩
      have q := (Array.perm_iff_toList_perm.mp g).map fun i => vs.getD i Value.none
      refine q.trans (List.Perm.of_eq ?_)
      show (List.range vs.length).map (fun i => vs.getD i Value.none) = vs
      refine List.ext_getElem? fun i => ?_
      by_cases hi : i < vs.length
      · rw [List.getElem?_map, List.getElem?_range hi, List.getElem?_eq_getElem hi]
        show some (vs.getD i Value.none) = _
        rw [List.getD_eq_getElem?_getD, List.getElem?_eq_getElem hi]; rfl
      · rw [List.getElem?_eq_none (by simp; omega), List.getElem?_eq_none (by omega)]
    · refine ks_sort (fun i j C hi hj hC => ?_) (by omega) fun p g => ⟨rfl, g⟩
      obtain ⟨ti, x1, y1, z1, v1, w1⟩ := tups_at keep ht hna hi
      obtain ⟨tj, x2, y2, z2, v2, w2⟩ := tups_at keep ht hna hj
      show wpAny _ _ (keyLt' _ (vs.getD i Value.none) (vs.getD j Value.none)) C _ _
      rw [v1, v2]
      obtain ⟨o1, g1, c1, n1, d1⟩ := z1
      obtain ⟨o2, g2, c2, n2, d2⟩ := z2
      exact kat_lt g1 d1 g2 d2 (katlex_strs hC 0 w1 w2)
    · rintro ⟨⟨⟩, st'⟩ s' ⟨rfl, out, q1, q2, q3⟩
      exact fin st' out q1 q2 q3
end
end L2

set_option Elab.async false
set_option linter.all false
set_option maxRecDepth 100000
namespace L2
open PySem PySem.Spec PyProof.Rows PySem.W
section
variable {X : Cx}
theorem refs_of : ∀ {as : List Addr} {us : List Value}, Vals (as.map V.ref) us → us = as.map Value.ref
  | [], _, r => by cases r; rfl
  | a :: as, _, r => by
    cases r with
    | cons h t => cases h; rw [refs_of t]; rfl
theorem vals_refs : ∀ as : List Addr, Vals (as.map V.ref) (as.map Value.ref)
  | [] => .nil
  | a :: as => .cons rfl (vals_refs as)
theorem tups_mk {pins : List (Addr × Obj)} {s : Shared} {σ : St} {H : Hp} {h' : Heap} (I : Inv X pins σ H s) (k : ∀ b o, s.heap.get? b = some o → h'.get? b = some o) : ∀ {as : List Addr} {ts : List (List Str)}, Paired (fun a t => SqT X.K H a (t.map V.str) ∧ t ≠ []) as ts → Paired (TupS h') (as.map Value.ref) ts
  | _, _, .nil => .nil
  | _, _, .cons h t => by
    obtain ⟨h1, h2⟩ := h
    obtain ⟨its, rv, ⟨o, g, c, n, d⟩, _⟩ := I.tuple h1
    exact .cons ⟨_, its.toArray, rfl, ⟨o, k _ _ g, c, n, d⟩, by simpa using strsAre_of rv, h2⟩ (tups_mk I k t)
theorem tups_lt {pins : List (Addr × Obj)} {s : Shared} {σ : St} {H : Hp} (I : Inv X pins σ H s) : ∀ {as : List Addr} {ts : List (List Str)}, Paired (fun a t => SqT X.K H a (t.map V.str) ∧ t ≠ []) as ts → ∀ b ∈ as, b < s.heap.objs.size
  | _, _, .nil, b, hb => by cases hb
  | _, _, .cons h t, b, hb => by
    rcases List.mem_cons.mp hb with z | z
    · subst z
      obtain ⟨its, rv, ⟨o, g, _⟩, _⟩ := I.tuple h.1
      exact Heap.lt_size g
    · exact tups_lt I t b z
/-- sorted(a list of tuples of texts): they stand in some order -/
theorem call_sortedT : CallR X (.builtin "sorted") (fun xs H Q => ∃ (p : Addr) (as : List Addr) (ts : List (List Str)), xs = [.ref p] ∧ SqL X.K H p (as.map V.ref) ∧ Paired (fun a t => SqT X.K H a (t.map V.str) ∧ t ≠ []) as ts ∧ as.length < 64 ∧ ∀ (r : Addr) (as' : List Addr), H r = none → as'.Perm as → Q (.ref r) (upd H r (.lst (as'.map V.ref)))) := by
  intro pins s σ H xs us Q I r h
  obtain ⟨p, as, ts, rfl, hq, ht, h64, q⟩ := h
  obtain ⟨u, rfl, rx⟩ := vals1 r
  cases rx
  obtain ⟨its, rv, pl, hz⟩ := I.list hq
  have ei := refs_of rv
  subst ei
  refine Calls.call_function_entry kind_sorted plain_sorted entry_sorted (args_sorted1 _) ?_
  unfold Builtin.«sorted»
  refine wpAny_bind (m := checkCount "sorted" 1 1 _) (wpAny_pure (wpAny_bind (collect_list pl.isList ?_ (by rw [List.length_map, sizeLine_eq]; omega))))
  refine wpAny_bind (wpAny_newList ?_ (by rw [List.length_map, sizeLine_eq]; omega))
  have hsz : ((s.heap.push (seqObj "list" #[] 0)).update s.heap.objs.size (Obj.mapSeq (· ++ (as.map Value.ref).toArray))).objs.size = s.heap.objs.size + 1 := by rw [Heap.size_update, size_push']
  have hoL : (((s.heap.push (seqObj "list" #[] 0)).update s.heap.objs.size (Obj.mapSeq (· ++ (as.map Value.ref).toArray))).push (seqObj "list" (as.map Value.ref).toArray 0)).get? (s.heap.objs.size + 1) = some (seqObj "list" (as.map Value.ref).toArray 0) := by
    rw [← hsz]; exact Heap.get?_push_size _ rfl
  have keep : ∀ b o, s.heap.get? b = some o → (((s.heap.push (seqObj "list" #[] 0)).update s.heap.objs.size (Obj.mapSeq (· ++ (as.map Value.ref).toArray))).push (seqObj "list" (as.map Value.ref).toArray 0)).get? b = some o := fun b o e => by
    have hlt : b < s.heap.objs.size := Heap.lt_size e
    rw [Heap.get?_push_ne _ _ _ (by rw [hsz]; exact Nat.ne_of_lt (Nat.lt_succ_of_lt hlt)), Heap.get?_update_ne _ _ _ _ (Nat.ne_of_lt hlt), Heap.get?_push_ne _ _ _ (Nat.ne_of_lt hlt)]
    exact e
  show wpAny _ _ _ _ _ { s with heap := ((s.heap.push (seqObj "list" #[] 0)).update s.heap.objs.size (Obj.mapSeq (· ++ (as.map Value.ref).toArray))).push (seqObj "list" (as.map Value.ref).toArray 0) }
  rw [hsz]
  have tp := tups_mk (h' := ((s.heap.push (seqObj "list" #[] 0)).update s.heap.objs.size (Obj.mapSeq (· ++ (as.map Value.ref).toArray))).push (seqObj "list" (as.map Value.ref).toArray 0)) I keep ht
  refine wpAny_bind (wpAny_holding (wpAny_call_entry slot_list_sort ⟨_, hoL, rfl⟩ entry_list_sort (sort_tups hoL tp (by rw [List.length_map]; exact h64) (fun v hv z => ?_) fun out hp => ⟨_, rfl, ?_⟩) (args_list_sort _)))
  · obtain ⟨b, hb, e⟩ := List.mem_map.mp hv
    rw [← e] at z
    injection z with z
    have lt := tups_lt I ht b hb
    exact absurd lt (by rw [z]; exact Nat.not_lt_of_le (Nat.le_succ _))
  obtain ⟨as', rfl, pa⟩ : ∃ as' : List Addr, out = as'.map Value.ref ∧ as'.Perm as := by
    have : ∀ v ∈ out, ∃ b, v = Value.ref b := fun v hv => by
      obtain ⟨b, _, e⟩ := List.mem_map.mp (hp.mem_iff.mp hv)
      exact ⟨b, e.symm⟩
    have mk : ∀ l : List Value, (∀ v ∈ l, ∃ b, v = Value.ref b) → ∃ as' : List Addr, l = as'.map Value.ref := by
      intro l
      induction l with
      | nil => intro _; exact ⟨[], rfl⟩
      | cons v l ih =>
        intro hv
        obtain ⟨b, rfl⟩ := hv v List.mem_cons_self
        obtain ⟨as', rfl⟩ := ih fun u hu => hv u (List.mem_cons_of_mem _ hu)
        exact ⟨b :: as', rfl⟩
    obtain ⟨as', rfl⟩ := mk out this
    refine ⟨as', rfl, ?_⟩
    have q := hp.map fun v => match v with | Value.ref b => b | _ => (0 : Addr)
    rw [List.map_map, List.map_map] at q
    have eid : ∀ l : List Addr, l.map ((fun v => match v with | Value.ref b => b | _ => (0 : Addr)) ∘ Value.ref) = l := fun l => by
      induction l with
      | nil => rfl
      | cons b l ih => rw [List.map_cons, ih]; rfl
    rw [eid, eid] at q
    exact q
  have nz : H (s.heap.objs.size + 1) = none := I.hok.fresh (Nat.le_succ _)
  obtain ⟨e, he⟩ := sortedAll_at s.heap (as.map Value.ref) (as'.map Value.ref).toArray
  refine wpAny_pure ⟨_, rfl, .ref (s.heap.objs.size + 1), _, I.laid (t' := s.toks) (a := s.heap.objs.size + 1) (o := .lst (as'.map V.ref)) (h' := sortedAll s.heap (as.map Value.ref) (as'.map Value.ref).toArray) (fun b o eb => sortedAll_old eb) (Nat.le_succ _) ⟨?_, as'.map Value.ref, e, vals_refs as', he⟩, rfl, q _ as' nz pa⟩
  rw [List.length_map, pa.length_eq]
  exact Nat.le_of_lt (small1000 (by omega))
end
end L2

set_option Elab.async false
set_option linter.all false
set_option maxRecDepth 100000
namespace L2
open PySem PySem.Spec PyProof.Rows PySem.W
/-! ### the turns of a clause, by a word -/
section
variable {AS : Type} {g : TG} {tt : TT} {tb : TB AS} {Q : AS → St → Hp → Prop} {a0 : AS} {σ0 : St} {H0 : Hp}
def NxG (n i : Nat) (Pv : Nat → AS → St → Hp → Prop) (a : AS) (σ : St) (H : Hp) : Prop := ∃ m', m' < n - i ∧ m' = n - (i + 1) ∧ i + 1 ≤ n ∧ Pv (i + 1) a σ H
theorem nxg {n i : Nat} {Pv : Nat → AS → St → Hp → Prop} {a : AS} {σ : St} {H : Hp} (hi : i < n) (h : Pv (i + 1) a σ H) : NxG n i Pv a σ H := ⟨_, by omega, rfl, hi, h⟩
theorem g_list {K : PySem.W.Frag} {p : Addr} {xs : List V} (Pv : Nat → AS → St → Hp → Prop) (h0 : Pv 0 a0 σ0 H0) (hl : ∀ i a σ H, i ≤ xs.length → Pv i a σ H → SqL K H p xs)
    (hs : ∀ i x a σ H, xs[i]? = some x → Pv i a σ H → g x σ H fun σ2 H2 => tt σ2 H2 fun b H3 => if b = true then tb a σ2 H3 (NxG xs.length i Pv) else NxG xs.length i Pv a σ2 H3)
    (hd : ∀ a σ H, Pv xs.length a σ H → Q a σ H) : gTurns (Itl K p) g tt tb Q a0 σ0 H0 := by
  refine ⟨fun i m a σ H => m = xs.length - i ∧ i ≤ xs.length ∧ Pv i a σ H, ⟨xs.length, by simp, Nat.zero_le _, h0⟩, ?_⟩
  rintro i m a σ H ⟨rfl, hi, pv⟩
  have q := hl i a σ H hi pv
  by_cases hlt : i < xs.length
  · refine .inr ⟨⟨xs, xs[i], q, by simp [hlt]⟩, fun x H' y => ?_⟩
    obtain ⟨e, y⟩ := y
    subst e
    exact hs i x a σ _ (y xs q) pv
  · have e : i = xs.length := by omega
    subst e
    exact .inl ⟨⟨xs, q, Nat.le_refl _⟩, hd a σ H pv⟩
theorem g_tuple {K : PySem.W.Frag} {p : Addr} {xs : List V} (Pv : Nat → AS → St → Hp → Prop) (h0 : Pv 0 a0 σ0 H0) (hl : ∀ i a σ H, i ≤ xs.length → Pv i a σ H → SqT K H p xs)
    (hs : ∀ i x a σ H, xs[i]? = some x → Pv i a σ H → g x σ H fun σ2 H2 => tt σ2 H2 fun b H3 => if b = true then tb a σ2 H3 (NxG xs.length i Pv) else NxG xs.length i Pv a σ2 H3)
    (hd : ∀ a σ H, Pv xs.length a σ H → Q a σ H) : gTurns (Itt K p) g tt tb Q a0 σ0 H0 := by
  refine ⟨fun i m a σ H => m = xs.length - i ∧ i ≤ xs.length ∧ Pv i a σ H, ⟨xs.length, by simp, Nat.zero_le _, h0⟩, ?_⟩
  rintro i m a σ H ⟨rfl, hi, pv⟩
  have q := hl i a σ H hi pv
  by_cases hlt : i < xs.length
  · refine .inr ⟨⟨xs, xs[i], q, by simp [hlt]⟩, fun x H' y => ?_⟩
    obtain ⟨e, y⟩ := y
    subst e
    exact hs i x a σ _ (y xs q) pv
  · have e : i = xs.length := by omega
    subst e
    exact .inl ⟨⟨xs, q, Nat.le_refl _⟩, hd a σ H pv⟩
theorem g_pairs {n : Nat} {Ls : Hp → Prop} {xv : Nat → List V} (Pv : Nat → AS → St → Hp → Prop) (h0 : Pv 0 a0 σ0 H0) (hl : ∀ i a σ H, i ≤ n → Pv i a σ H → Ls H)
    (hs : ∀ i a σ H T, i < n → Pv i a σ H → H T = none → g (.ref T) σ (upd H T (.tup (xv i))) fun σ2 H2 => tt σ2 H2 fun b H3 => if b = true then tb a σ2 H3 (NxG n i Pv) else NxG n i Pv a σ2 H3)
    (hd : ∀ a σ H, Pv n a σ H → Q a σ H) : gTurns (Itp n Ls xv) g tt tb Q a0 σ0 H0 := by
  refine ⟨fun i m a σ H => m = n - i ∧ i ≤ n ∧ Pv i a σ H, ⟨n, by simp, Nat.zero_le _, h0⟩, ?_⟩
  rintro i m a σ H ⟨rfl, hi, pv⟩
  have q := hl i a σ H hi pv
  by_cases hlt : i < n
  · refine .inr ⟨⟨q, hlt⟩, fun x H' y => ?_⟩
    obtain ⟨T, e1, e2, e3⟩ := y
    subst e2 e3
    exact hs i a σ H T hlt pv e1
  · have e : i = n := by omega
    subst e
    exact .inl ⟨⟨q, rfl⟩, hd a σ H pv⟩
end
/-! ### list(range(n)) -/
section
variable {X : Cx}
theorem call_range1' : CallR X (.type "range") (fun xs H Q => ∃ j : Int, xs = [.int j] ∧ 0 ≤ j ∧ j ≤ 1000 ∧ ∀ r, H r = none → Q (.ref r) (upd H r (.rng 0 j))) := by
  intro pins s σ H xs us Q I r h
  obtain ⟨j, rfl, h0, h1, q⟩ := h
  obtain ⟨u, rfl, t, rfl⟩ := vals1 r
  refine call_range_1 ?_
  exact ⟨.ref s.heap.objs.size, _, I.laid (a := s.heap.objs.size) (o := .rng 0 j) (fun b o e => Heap.get?_push_of_some _ e) (Nat.le_refl _) ⟨_, _, _, Heap.get?_push_size _ rfl⟩, rfl, q _ (I.hok.fresh (Nat.le_refl _))⟩
theorem ints_vals : ∀ {its : List Value} {n : Nat} (k : Nat), its.length = n → (∀ i v, its[i]? = some v → ∃ t, v = Value.int ((k + i : Nat) : Int) t) → Vals ((List.range' k n).map fun (i : Nat) => V.int (i : Int)) its
  | [], n, k, hl, _ => by
    have e : n = 0 := hl.symm
    subst e; exact .nil
  | v :: r, n, k, hl, h => by
    obtain ⟨m, rfl⟩ : ∃ m, n = m + 1 := ⟨n - 1, by simp at hl; omega⟩
    rw [List.range'_succ, List.map_cons]
    refine .cons ?_ (ints_vals (k + 1) (by simpa using hl) fun i v hv => ?_)
    · obtain ⟨t, e⟩ := h 0 v rfl
      exact ⟨t, by rw [e, Nat.add_zero]⟩
    · obtain ⟨t, e⟩ := h (i + 1) v (by simpa using hv)
      exact ⟨t, by rw [e, show k + (i + 1) = k + 1 + i by omega]⟩
theorem call_list_rng (hc : X.calm = true) : CallR X (.type "list") (fun xs H Q => ∃ (r : Addr) (j : Int), xs = [.ref r] ∧ H r = some (.rng 0 j) ∧ 0 ≤ j ∧ j ≤ 1000 ∧ ∀ l, H l = none → Q (.ref l) (upd H l (.lst ((List.range j.toNat).map fun (i : Nat) => V.int (i : Int))))) := by
  intro pins s σ H xs us Q I r h
  obtain ⟨p, j, rfl, hp, h0, h1, q⟩ := h
  obtain ⟨u, rfl, rx⟩ := vals1 r
  cases rx
  obtain ⟨t, u, v, e⟩ := I.hok p _ hp
  refine call_list_range (n := j.toNat) (a := 0) (b := j) (c := 1) (I.ok.hd hc) e (small_one (by decide) (by decide) (by omega) (by omega)) (by rw [rangeSize_one]; split <;> omega) (by omega) fun h' tk acc' c' hk hS hacc => ?_
  refine ⟨.ref s.heap.objs.size, _, I.laid (t' := tk) (a := s.heap.objs.size) (o := .lst ((List.range j.toNat).map fun (i : Nat) => V.int (i : Int))) (fun b o e => hk b o e) (Nat.le_refl _) ⟨?_, acc'.toList, c', ?_, by rw [Array.toArray_toList]; exact hS⟩, rfl, q _ (I.hok.fresh (Nat.le_refl _))⟩
  · rw [List.length_map, List.length_range]
    exact Nat.le_of_lt (small1000 (by omega))
  · rw [List.range_eq_range']
    refine ints_vals 0 (by rw [Array.length_toList]; exact hacc.1) fun i v hv => ?_
    obtain ⟨t, e⟩ := hacc.2 i v (by rw [← Array.getElem?_toList]; exact hv)
    exact ⟨t, by rw [e]; congr 1; omega⟩
end
end L2

set_option Elab.async false
set_option linter.all false
set_option maxRecDepth 100000
namespace L2
open PySem PySem.Spec PyProof.Rows PySem.W
/-! ### a sort by an order: the places come out sorted -/
structure Ordr (lt : Nat → Nat → Bool) : Prop where
  asym : ∀ a b, lt a b = true → lt b a = false
  tr : ∀ a b c, lt b a = false → lt c b = false → lt c a = false
theorem Ordr.irr {lt : Nat → Nat → Bool} (o : Ordr lt) (a : Nat) : lt a a = false := by
  cases h : lt a a with
  | false => rfl
  | true => exact (o.asym a a h).symm.trans h ▸ rfl
def SPk (lt : Nat → Nat → Bool) (p : Array Nat) (k : Nat) : Prop := ∀ i j, i < j → j < k → lt (p.getD j 0) (p.getD i 0) = false
def DPk (lt : Nat → Nat → Bool) (p : Array Nat) (k : Nat) : Prop := ∀ i j, i < j → j < k → lt (p.getD i 0) (p.getD j 0) = false
def ERk (lt : Nat → Nat → Bool) (p : Array Nat) (a b : Nat) : Prop := ∀ i j, a ≤ i → i < b → a ≤ j → j < b → lt (p.getD i 0) (p.getD j 0) = false
theorem Gd.size {n : Nat} {p : Array Nat} (h : Gd n p) : p.size = n := by
  have := Array.Perm.size_eq h
  simpa using this
theorem rev_at {p : Array Nat} {i j : Nat} (hj : j ≤ p.size) (k : Nat) : (kas_rev p i j).getD k 0 = if i ≤ k ∧ k < j then p.getD (i + j - 1 - k) 0 else p.getD k 0 := by
  unfold kas_rev
  rw [Array.getD_eq_getD_getElem?, getElem?_mirror_all hj]
  split <;> rw [← Array.getD_eq_getD_getElem?]
theorem bub_at {p : Array Nat} {k l : Nat} (hk : k < p.size) (hl : l ≤ k) (i : Nat) : (bubble p k (k - l)).getD i 0 = if i = l then p.getD k 0 else if l < i ∧ i ≤ k then p.getD (i - 1) 0 else p.getD i 0 := by
  rw [Array.getD_eq_getD_getElem?, getElem?_bubble hk _ (by omega)]
  have e : k - (k - l) = l := by omega
  rw [e]
  by_cases e1 : i = l
  · rw [if_pos e1, if_pos e1, ← Array.getD_eq_getD_getElem?]
  · rw [if_neg e1, if_neg e1]
    by_cases e2 : l < i ∧ i ≤ k
    · rw [if_pos e2, if_pos e2, ← Array.getD_eq_getD_getElem?]
    · rw [if_neg e2, if_neg e2, ← Array.getD_eq_getD_getElem?]
section
variable {lt : Nat → Nat → Bool} (o : Ordr lt)
include o
theorem SPk.snoc {p : Array Nat} {k : Nat} (h : SPk lt p k) (h1 : 1 ≤ k) (hk : lt (p.getD k 0) (p.getD (k - 1) 0) = false) : SPk lt p (k + 1) := fun i j hij hj => by
  by_cases e : j = k
  · subst e
    by_cases e2 : i = j - 1
    · subst e2; exact hk
    · exact o.tr _ _ _ (h i (j - 1) (by omega) (by omega)) hk
  · exact h i j hij (by omega)
theorem DPk.snoc {p : Array Nat} {k : Nat} (h : DPk lt p k) (h1 : 1 ≤ k) (hk : lt (p.getD (k - 1) 0) (p.getD k 0) = false) : DPk lt p (k + 1) := fun i j hij hj => by
  by_cases e : j = k
  · subst e
    by_cases e2 : i = j - 1
    · subst e2; exact hk
    · exact o.tr _ _ _ hk (h i (j - 1) (by omega) (by omega))
  · exact h i j hij (by omega)
omit o in
theorem DPk.rev {p : Array Nat} {a b k : Nat} (h : DPk lt p k) (hb : b ≤ p.size) (hbk : b ≤ k) (e : ERk lt p a b) : DPk lt (kas_rev p a b) k := fun i j hij hj => by
  rw [rev_at hb, rev_at hb]
  split
  · split
    · exact e _ _ (by omega) (by omega) (by omega) (by omega)
    · exact h _ _ (by omega) (by omega)
  · split
    · exact h _ _ (by omega) (by omega)
    · exact h _ _ (by omega) (by omega)
omit o in
theorem DPk.turn {p : Array Nat} {k : Nat} (h : DPk lt p k) (hk : k ≤ p.size) : SPk lt (kas_rev p 0 k) k := fun i j hij hj => by
  rw [rev_at hk, rev_at hk, if_pos (by omega), if_pos (by omega)]
  exact h _ _ (by omega) (by omega)
variable {n : Nat} {cmp : Nat → Nat → (Bool → Shared → Prop) → Shared → Prop} {s : Shared} (hask : ∀ i j C, i < n → j < n → C (lt i j) s → cmp i j C s) (h0 : 0 < n)
include hask h0
theorem sk_asc {p : Array Nat} (g : Gd n p) {Q : Nat → Shared → Prop} (N : Nat) (hq : ∀ m, SPk lt p m → 1 ≤ m → m ≤ N → (m < N → lt (p.getD m 0) (p.getD (m - 1) 0) = true) → Q m s) : ∀ f m, 1 ≤ m → m + f = N → SPk lt p m → (kas_asc p f m).kasWp cmp Q s
  | 0, m, h1, hN, sp => hq m sp h1 (by omega) (fun z => by omega)
  | f + 1, m, h1, hN, sp => by
    refine hask _ _ _ (g.lt h0 _) (g.lt h0 _) ?_
    dsimp only
    split
    · rename_i c
      exact hq m sp h1 (by omega) fun _ => c
    · rename_i c
      exact sk_asc g N hq f (m + 1) (by omega) (by omega) (sp.snoc o h1 (by simpa using c))
theorem sk_desc {Q : Array Nat × Nat × Nat → Shared → Prop} (N : Nat) (hN : N ≤ n) (hq : ∀ p m q, Gd n p → 1 ≤ m → q + 1 ≤ m → m ≤ N → DPk lt p m → ERk lt p (m - (q + 1)) m → Q (p, m, q) s) : ∀ f p m q, Gd n p → 1 ≤ m → q + 1 ≤ m → m + f = N → DPk lt p m → ERk lt p (m - (q + 1)) m → (kas_desc f p m q).kasWp cmp Q s
  | 0, p, m, q, g, h1, h2, h3, dp, er => hq p m q g h1 h2 (by omega) dp er
  | f + 1, p, m, q, g, h1, h2, h3, dp, er => by
    have sz := g.size
    refine hask _ _ _ (g.lt h0 _) (g.lt h0 _) ?_
    dsimp only
    split
    · rename_i c
      have dp' := dp.snoc o h1 (o.asym _ _ c)
      have one : ∀ p' : Array Nat, ERk lt p' (m + 1 - (0 + 1)) (m + 1) := fun p' i j hi hi' hj hj' => by
        have e1 : i = m := by omega
        have e2 : j = m := by omega
        subst e1 e2
        exact o.irr _
      split
      · exact sk_desc N hN hq f _ (m + 1) 0 (g.rev _ _) (by omega) (by omega) (by omega) (dp'.rev (by omega) (by omega) er) (one _)
      · exact sk_desc N hN hq f p (m + 1) 0 g (by omega) (by omega) (by omega) dp' (one _)
    · rename_i c
      refine hask _ _ _ (g.lt h0 _) (g.lt h0 _) ?_
      dsimp only
      split
      · exact hq p m q g h1 h2 (by omega) dp er
      · rename_i d
        have c' : lt (p.getD m 0) (p.getD (m - 1) 0) = false := by simpa using c
        have d' : lt (p.getD (m - 1) 0) (p.getD m 0) = false := by simpa using d
        refine sk_desc N hN hq f p (m + 1) (q + 1) g (by omega) (by omega) (by omega) (dp.snoc o h1 d') fun i j hi hi' hj hj' => ?_
        by_cases ei : i = m
        · subst ei
          by_cases ej : j = i
          · subst ej; exact o.irr _
          · exact o.tr _ _ _ (er (i - 1) j (by omega) (by omega) (by omega) (by omega)) c'
        · by_cases ej : j = m
          · subst ej
            exact o.tr _ _ _ d' (er i (j - 1) (by omega) (by omega) (by omega) (by omega))
          · exact er i j (by omega) (by omega) (by omega) (by omega)
theorem sk_tail3 {p : Array Nat} (g : Gd n p) {Q : Nat × Array Nat → Shared → Prop} (N : Nat) (hN : N ≤ n) (hq : ∀ m p, Gd n p → SPk lt p m → 1 ≤ m → m ≤ N → Q (m, p) s) (m : Nat) (h1 : 1 ≤ m) (h2 : m ≤ N) (dp : DPk lt p m) : (kas_tail3 m N p).kasWp cmp Q s := by
  unfold kas_tail3
  rw [KasT.kasWp_bind]
  have sz := g.size
  exact sk_asc o hask h0 (g.rev _ _) N (fun m' sp a b _ => hq m' _ (g.rev _ _) sp a b) _ _ h1 (by omega) (dp.turn (by omega))
theorem sk_descPart {p : Array Nat} (g : Gd n p) {Q : Nat × Array Nat → Shared → Prop} (N : Nat) (hN : N ≤ n) (hq : ∀ m p, Gd n p → SPk lt p m → 1 ≤ m → m ≤ N → Q (m, p) s) (m : Nat) (h2 : m + 1 ≤ N) (dp : DPk lt p (m + 1)) : (kas_descPart m N p).kasWp cmp Q s := by
  unfold kas_descPart
  rw [KasT.kasWp_bind]
  refine sk_desc o hask h0 N hN (fun p' m' q g' a b c dp' er => ?_) _ _ _ _ g (by omega) (by omega) (by omega) dp fun i j hi hi' hj hj' => ?_
  · have sz := g'.size
    dsimp only
    split
    · exact sk_tail3 o hask h0 (g'.rev _ _) N hN hq _ a c (dp'.rev (by omega) (Nat.le_refl _) er)
    · exact sk_tail3 o hask h0 g' N hN hq _ a c dp'
  · have e1 : i = m := by omega
    have e2 : j = m := by omega
    subst e1 e2
    exact o.irr _
theorem sk_count {p : Array Nat} (g : Gd n p) {Q : Nat × Array Nat → Shared → Prop} (hq : ∀ m p, Gd n p → SPk lt p m → 1 ≤ m → m ≤ n → Q (m, p) s) : (kas_count n p).kasWp cmp Q s := by
  unfold kas_count
  rw [KasT.kasWp_bind]
  have sz := g.size
  refine sk_asc o hask h0 g n (fun m sp m1 mn st => ?_) _ _ (Nat.le_refl _) (by omega) (fun i j hij hj => by omega)
  split
  · exact hq _ _ g sp m1 mn
  · rename_i c
    have c' : m ≠ n := by simpa using c
    have lt1 := st (by omega)
    have ge1 := o.asym _ _ lt1
    split
    · refine hask _ _ _ (g.lt h0 _) (g.lt h0 _) ?_
      dsimp only
      split
      · exact hq _ _ g sp m1 mn
      · rename_i d
        have d' : lt (p.getD 0 0) (p.getD (m - 1) 0) = false := by simpa using d
        have lo : ∀ i, i < m → lt (p.getD (m - 1) 0) (p.getD i 0) = false := fun i hi => by
          by_cases e : i = m - 1
          · subst e; exact o.irr _
          · exact sp i (m - 1) (by omega) (by omega)
        have hi0 : ∀ j, j < m → lt (p.getD j 0) (p.getD 0 0) = false := fun j hj => by
          by_cases e : j = 0
          · subst e; exact o.irr _
          · exact sp 0 j (by omega) hj
        have er : ERk lt p 0 m := fun i j _ hi _ hj => o.tr _ _ _ (o.tr _ _ _ (lo j hj) d') (hi0 i hi)
        refine sk_descPart o hask h0 (g.rev _ _) n (Nat.le_refl _) hq m (by omega) fun i j hij hj => ?_
        rw [rev_at (by omega), rev_at (by omega)]
        by_cases ej : j = m
        · subst ej
          rw [if_pos (by omega), if_neg (by omega)]
          exact o.tr _ _ _ ge1 (er _ _ (by omega) (by omega) (by omega) (by omega))
        · rw [if_pos (by omega), if_pos (by omega)]
          exact er _ _ (by omega) (by omega) (by omega) (by omega)
    · have e : m = 1 := by omega
      subst e
      refine sk_descPart o hask h0 g n (Nat.le_refl _) hq 1 (by omega) fun i j hij hj => ?_
      have e1 : i = 0 := by omega
      have e2 : j = 1 := by omega
      subst e1 e2
      exact ge1
theorem sk_place {p : Array Nat} (g : Gd n p) {Q : Nat → Shared → Prop} (k : Nat) (sp : SPk lt p k) (hq : ∀ l, l ≤ k → (∀ i, i < l → lt (p.getD k 0) (p.getD i 0) = false) → (∀ i, l ≤ i → i < k → lt (p.getD i 0) (p.getD k 0) = false) → Q l s) :
    ∀ f l r, l ≤ r → r ≤ k → r - l ≤ f → (∀ i, i < l → lt (p.getD k 0) (p.getD i 0) = false) → (∀ i, r ≤ i → i < k → lt (p.getD i 0) (p.getD k 0) = false) → (kas_place p k f l r).kasWp cmp Q s
  | 0, l, r, h1, h2, h3, a, b => hq l (by omega) a fun i hi hk => b i (by omega) hk
  | f + 1, l, r, h1, h2, h3, a, b => by
    unfold kas_place
    split
    · exact hq l (by omega) a fun i hi hk => b i (by omega) hk
    · refine hask _ _ _ (g.lt h0 _) (g.lt h0 _) ?_
      dsimp only
      split
      · rename_i c
        have c' := o.asym _ _ c
        refine sk_place g k sp hq f l ((l + r) / 2) (by omega) (by omega) (by omega) a fun i hi hk => ?_
        by_cases e : i = (l + r) / 2
        · subst e; exact c'
        · exact o.tr _ _ _ c' (sp _ _ (by omega) hk)
      · rename_i c
        have c' : lt (p.getD k 0) (p.getD ((l + r) / 2) 0) = false := by simpa using c
        refine sk_place g k sp hq f ((l + r) / 2 + 1) r (by omega) h2 (by omega) (fun i hi => ?_) b
        by_cases e : i = (l + r) / 2
        · subst e; exact c'
        · exact o.tr _ _ _ (sp i ((l + r) / 2) (by omega) (by omega)) c'
theorem sk_bin {Q : Array Nat → Shared → Prop} (hq : ∀ p, Gd n p → SPk lt p n → Q p s) : ∀ f p k, Gd n p → k + f = n → SPk lt p k → (kas_bin f p k).kasWp cmp Q s
  | 0, p, k, g, h1, sp => hq p g (by rw [← h1]; exact sp)
  | f + 1, p, k, g, h1, sp => by
    unfold kas_bin
    rw [KasT.kasWp_bind]
    have sz := g.size
    refine sk_place o hask h0 g k sp (fun l hl a b => sk_bin hq f _ _ (g.bub _ _) (by omega) fun i j hij hj => ?_) k 0 k (by omega) (Nat.le_refl _) (by omega) (fun i hi => by omega) (fun i hi hk => by omega)
    rw [bub_at (by omega) hl, bub_at (by omega) hl]
    by_cases ej : j = l
    · rw [if_pos ej, if_neg (by omega), if_neg (by omega)]
      exact a i (by omega)
    · rw [if_neg ej]
      by_cases ej2 : l < j ∧ j ≤ k
      · rw [if_pos ej2]
        by_cases ei : i = l
        · rw [if_pos ei]
          exact b (j - 1) (by omega) (by omega)
        · rw [if_neg ei]
          split
          · exact sp _ _ (by omega) (by omega)
          · exact sp _ _ (by omega) (by omega)
      · rw [if_neg ej2, if_neg (by omega), if_neg (by omega)]
        exact sp _ _ hij (by omega)
theorem sk_sort {Q : Array Nat → Shared → Prop} (hq : ∀ p, Gd n p → SPk lt p n → Q p s) : (kas_sort n).kasWp cmp Q s := by
  unfold kas_sort
  rw [KasT.kasWp_bind]
  refine sk_count o hask h0 (Array.Perm.refl _) (fun m p g sp m1 mn => ?_)
  dsimp only
  have e : max m 1 = m := by omega
  rw [e]
  split
  · exact sk_bin o hask h0 hq _ _ _ g (by omega) sp
  · have e2 : m = n := by omega
    subst e2
    exact hq _ g sp
end
end L2

set_option Elab.async false
set_option linter.all false
set_option maxRecDepth 100000
namespace L2
open PySem PySem.Spec PyProof.Rows PySem.W
/-! ### rows of texts in their order -/
theorem txTri : ∀ a b : List Nat, a < b ∨ a = b ∨ b < a
  | [], [] => .inr (.inl rfl)
  | [], _ :: _ => .inl (List.nil_lt_cons _ _)
  | _ :: _, [] => .inr (.inr (List.nil_lt_cons _ _))
  | x :: a, y :: b => by
    rcases Nat.lt_trichotomy x y with h | h | h
    · exact .inl (List.cons_lt_cons_iff.mpr (.inl h))
    · subst h
      rcases txTri a b with h | h | h
      · exact .inl (List.cons_lt_cons_iff.mpr (.inr ⟨rfl, h⟩))
      · exact .inr (.inl (by rw [h]))
      · exact .inr (.inr (List.cons_lt_cons_iff.mpr (.inr ⟨rfl, h⟩)))
    · exact .inr (.inr (List.cons_lt_cons_iff.mpr (.inl h)))
theorem txExt {x y : Str} (h : x.cps.toList = y.cps.toList) : x = y := by
  cases x; cases y
  simp only [Str.mk.injEq]
  exact Array.toList_inj.mp h
def sLtB (x y : Str) : Bool := decide (x.cps.toList < y.cps.toList)
theorem sLtB_irr (x : Str) : sLtB x x = false := decide_eq_false (List.lt_irrefl _)
theorem sLtB_trans {x y z : Str} (h : sLtB x y = true) (h' : sLtB y z = true) : sLtB x z = true := decide_eq_true (List.lt_trans (of_decide_eq_true h) (of_decide_eq_true h'))
theorem sLtB_tri (x y : Str) : sLtB x y = true ∨ x = y ∨ sLtB y x = true := by
  rcases txTri x.cps.toList y.cps.toList with h | h | h
  · exact .inl (decide_eq_true h)
  · exact .inr (.inl (txExt h))
  · exact .inr (.inr (decide_eq_true h))
def ltL : List Str → List Str → Bool
  | [], [] => false
  | [], _ :: _ => true
  | _ :: _, [] => false
  | x :: r, y :: t => if x = y then ltL r t else sLtB x y
theorem ltL_irr : ∀ a : List Str, ltL a a = false
  | [] => rfl
  | x :: r => by unfold ltL; rw [if_pos rfl]; exact ltL_irr r
theorem ltL_tri : ∀ a b : List Str, ltL a b = true ∨ a = b ∨ ltL b a = true
  | [], [] => .inr (.inl rfl)
  | [], _ :: _ => .inl rfl
  | _ :: _, [] => .inr (.inr rfl)
  | x :: r, y :: t => by
    unfold ltL
    by_cases e : x = y
    · subst e
      rw [if_pos rfl, if_pos rfl]
      rcases ltL_tri r t with h | h | h
      · exact .inl h
      · exact .inr (.inl (by rw [h]))
      · exact .inr (.inr h)
    · rw [if_neg e, if_neg (fun z => e z.symm)]
      rcases sLtB_tri x y with h | h | h
      · exact .inl h
      · exact absurd h e
      · exact .inr (.inr h)
theorem ltL_trans : ∀ a b c : List Str, ltL a b = true → ltL b c = true → ltL a c = true
  | [], _, [], h, h' => by
    rename_i b
    cases b with
    | nil => exact h
    | cons _ _ => cases h'
  | [], _, _ :: _, _, _ => rfl
  | _ :: _, [], _, h, _ => by cases h
  | _ :: _, _ :: _, [], _, h' => by cases h'
  | x :: r, y :: t, z :: u, h, h' => by
    unfold ltL at h h' ⊢
    by_cases e1 : x = y
    · subst e1
      rw [if_pos rfl] at h
      by_cases e2 : x = z
      · subst e2
        rw [if_pos rfl] at h' ⊢
        exact ltL_trans r t u h h'
      · rw [if_neg e2] at h' ⊢
        exact h'
    · rw [if_neg e1] at h
      by_cases e2 : y = z
      · subst e2
        rw [if_neg e1]
        exact h
      · rw [if_neg e2] at h'
        have q := sLtB_trans h h'
        have e3 : ¬ x = z := fun e => by rw [e, sLtB_irr] at q; cases q
        rw [if_neg e3]
        exact q
theorem ltL_asym (a b : List Str) (h : ltL a b = true) : ltL b a = false := by
  cases q : ltL b a with
  | false => rfl
  | true => have := ltL_trans a b a h q; rw [ltL_irr] at this; cases this
def ltI (ts : List (List Str)) (i j : Nat) : Bool := ltL (ts.getD i []) (ts.getD j [])
theorem ltI_ord (ts : List (List Str)) : Ordr (ltI ts) := ⟨fun a b h => ltL_asym _ _ h, fun a b c h h' => by
  have h1 : ltL (ts.getD b []) (ts.getD a []) = false := h
  have h2 : ltL (ts.getD c []) (ts.getD b []) = false := h'
  show ltL (ts.getD c []) (ts.getD a []) = false
  rcases ltL_tri (ts.getD a []) (ts.getD b []) with q | q | q
  · rcases ltL_tri (ts.getD b []) (ts.getD c []) with r | r | r
    · exact ltL_asym _ _ (ltL_trans _ _ _ q r)
    · rw [← r]; exact h1
    · rw [h2] at r; cases r
  · rw [q]; exact h2
  · rw [h1] at q; cases q⟩
theorem getD_range (vs : List Value) : (List.range vs.length).map (fun i => vs.getD i Value.none) = vs := by
  refine List.ext_getElem? fun i => ?_
  by_cases hi : i < vs.length
  · rw [List.getElem?_map, List.getElem?_range hi, List.getElem?_eq_getElem hi]
    show some (vs.getD i Value.none) = _
    rw [List.getD_eq_getElem?_getD, List.getElem?_eq_getElem hi]; rfl
  · rw [List.getElem?_eq_none (by simp; omega), List.getElem?_eq_none (by omega)]
theorem katlex_ex {P : Program} {w : World} {A : Around} {s : Shared} {b fin : Bool} {Q : Bool → Shared → Prop} : ∀ {vs us : List Value} {x y : List Str} (i : Nat), StrsAre vs x → StrsAre us y → Q (ltL x y) s → fin = decide (x.length < y.length) → KatLex P w A b fin Q (vs.zip us) i s
  | _, _, _, _, i, .nil, .nil, hQ, hf => by rw [hf]; exact hQ
  | _, _, _, _, i, .nil, .cons _ _ _, hQ, hf => by rw [hf]; exact hQ
  | _, _, _, _, i, .cons _ _ _, .nil, hQ, hf => by rw [hf]; exact hQ
  | _, _, _, _, i, .cons p t r, .cons q u r', hQ, hf => by
    refine kat_cons (wpAny_eqBool_str (kat_go (fun e => kat_yes (katlex_ex (i + 1) r r' ?_ ?_)) fun e => kat_no ?_))
    · have e' := of_decide_eq_true e
      unfold ltL at hQ
      rw [if_pos e'] at hQ
      exact hQ
    · rw [hf]
      simp
    · have e' := of_decide_eq_false e
      unfold ltL at hQ
      rw [if_neg e'] at hQ
      cases hb : (b && i == 0) with
      | true => exact strKind_oneLt P w A _ s _ _ _ _ rfl rfl hQ
      | false => exact kat_one _ _ (lt_str hQ)
section
variable {P : Program} {w : World} {A : Around} {E : Value → Shared → Prop} {s : Shared}
theorem tups_atO {h h' : Heap} {a : Addr} (k : ∀ b o, b ≠ a → h.get? b = some o → h'.get? b = some o) : ∀ {vs : List Value} {ts : List (List Str)} {i : Nat}, Paired (TupS h) vs ts → (∀ v ∈ vs, v ≠ .ref a) → i < vs.length → ∃ (b : Addr) (its : Array Value), IsTup h' b its ∧ vs.getD i Value.none = .ref b ∧ StrsAre its.toList (ts.getD i [])
  | _, _, i, .nil, _, hi => absurd hi (Nat.not_lt_zero _)
  | _, _, 0, @Paired.cons _ _ _ v t l1 l2 hh tt, hn, _ => by
    obtain ⟨b, its, rfl, ⟨o, g, c, n, d⟩, st, ne⟩ := hh
    have nb : b ≠ a := fun z => hn _ List.mem_cons_self (by rw [z])
    exact ⟨b, its, ⟨o, k b o nb g, c, n, d⟩, rfl, st⟩
  | _, _, i + 1, @Paired.cons _ _ _ v t l1 l2 hh tt, hn, hi => tups_atO (i := i) k tt (fun u hu => hn u (List.mem_cons_of_mem _ hu)) (by simpa using hi)
theorem sort_tupsO {a : Addr} {vs : List Value} {ts : List (List Str)} {n : Nat} {R : PySem.Fin → Shared → Prop} (ho : s.heap.get? a = some (seqObj "list" vs.toArray n)) (ht : Paired (TupS s.heap) vs ts) (h64 : vs.length < 64) (hna : ∀ v ∈ vs, v ≠ .ref a)
    (h : ∀ (out : List Value) (p : Array Nat), out.Perm vs → Gd vs.length p → SPk (ltI ts) p vs.length → out = p.toList.map (fun i => vs.getD i Value.none) → R (.done (.ret .none)) { s with heap := sortedHeap s.heap a vs out.toArray }) : wpAny (model P w) A (Builtin.«list.sort» ⟨[.ref a], []⟩) R E s := by
  rw [list_sort_plain]
  have ha : a < s.heap.objs.size := Heap.lt_size ho
  refine wpAny_bind (listItems_at ho rfl (wpAny_bind (listUpdate_at ho rfl ?_ (by rw [List.size_toArray, sizeLine_eq]; omega) (Nat.zero_le _))))
  obtain ⟨e1, ho1⟩ : ∃ e1, (s.heap.update a (Obj.mapSeq fun _ => #[])).get? a = some (seqObj "list" #[] e1) := ⟨_, get?_update_seq ho (fun _ => #[])⟩
  refine wpAny_bind (seqEpoch_at ho1 rfl (wpAny_bind (wpAny_newTuple ?_ (by show vs.length ≤ _; rw [sizeLine_eq]; omega))))
  refine wpAny_bind (wpAny_newList ?_ (Nat.zero_le _))
  refine wpAny_holding ?_
  have ho6 : (((s.heap.update a (Obj.mapSeq fun _ => #[])).push (seqObj "tuple" vs.toArray 0)).push (seqObj "list" #[] 0)).get? a = some (seqObj "list" #[] e1) := Heap.get?_push_of_some _ (Heap.get?_push_of_some _ ho1)
  have keep : ∀ b o, b ≠ a → s.heap.get? b = some o → (((s.heap.update a (Obj.mapSeq fun _ => #[])).push (seqObj "tuple" vs.toArray 0)).push (seqObj "list" #[] 0)).get? b = some o := fun b o hb e => by
    refine Heap.get?_push_of_some _ (Heap.get?_push_of_some _ ?_)
    rw [Heap.get?_update_ne _ _ _ _ hb]; exact e
  show wpAny (model P w) A _ R E { s with heap := ((s.heap.update a (Obj.mapSeq fun _ => #[])).push (seqObj "tuple" vs.toArray 0)).push (seqObj "list" #[] 0) }
  dsimp only
  have fin : ∀ (st' : SortSt) (out : List Value), (arrOf st').map (·.2) = out.toArray → failedOf st' = none → out.Perm vs → (∃ p, Gd vs.length p ∧ SPk (ltI ts) p vs.length ∧ out = p.toList.map (fun i => vs.getD i Value.none)) → wpAny (model P w) A (do
      let touched := (← seqEpoch a) != e1
      Builtin.List.listUpdate (.ref a) fun _ => (arrOf st').map (·.2)
      if let some e := failedOf st' then rule "list.sort.comparison-raised"; throw e
      if touched then rule "list.sort.modified"; raiseError "ValueError" "list modified during sort"
      ret .none) R E { s with heap := ((s.heap.update a (Obj.mapSeq fun _ => #[])).push (seqObj "tuple" vs.toArray 0)).push (seqObj "list" #[] 0) } := by
    intro st' out e hf hp ⟨p, hg, hsp, ep⟩
    refine wpAny_bind (seqEpoch_at ho6 rfl ?_)
    refine wpAny_bind (listUpdate_at ho6 rfl ?_ (Nat.zero_le _) (by rw [e, List.size_toArray, hp.length_eq, sizeLine_eq]; omega))
    rw [hf]
    simp only [bne_self_eq_false, Bool.false_eq_true, if_false]
    rw [e]
    exact wpAny_pure (h out p hp hg hsp ep)
  by_cases h2 : vs.toArray.size < 2
  · rw [if_pos h2, if_pos h2]
    refine wpAny_bind (wpAny_pure ?_)
    rw [StateT.run_pure]
    refine wpAny_bind (wpAny_pure (fin _ vs ?_ rfl (List.Perm.refl _) ⟨Rng vs.length, Array.Perm.refl _, fun i j hij hj => absurd hj (by rw [List.size_toArray] at h2; omega), (getD_range vs).symm⟩))
    show (vs.toArray.zip vs.toArray).map (·.2) = vs.toArray
    apply Array.toList_inj.mp
    rw [Array.toList_map, Array.toList_zip]
    exact List.map_snd_zip (Nat.le_refl _)
  · rw [if_neg h2, if_neg h2]
    have hl2 : 2 ≤ vs.length := by rw [List.size_toArray] at h2; omega
    obtain ⟨fs, kt, fl, fa⟩ := tups_firsts (a := a) keep ht hna
    refine wpAny_bind (kat_kind (T := .type "str") kt (by omega) (fun v hv => ?_) (by decide) ?_)
    · obtain ⟨x, t, rfl⟩ := fa v hv
      exact .now
    refine wpAny_bind (wpAny_mono (kat_run (ks := vs) (Q := fun st' s' => s' = { s with heap := ((s.heap.update a (Obj.mapSeq fun _ => #[])).push (seqObj "tuple" vs.toArray 0)).push (seqObj "list" #[] 0) } ∧ ∃ out : List Value, (arrOf st').map (·.2) = out.toArray ∧ failedOf st' = none ∧ out.Perm vs ∧ ∃ p, Gd vs.length p ∧ SPk (ltI ts) p vs.length ∧ out = p.toList.map (fun i => vs.getD i Value.none)) (G := fun p s' => s' = { s with heap := ((s.heap.update a (Obj.mapSeq fun _ => #[])).push (seqObj "tuple" vs.toArray 0)).push (seqObj "list" #[] 0) } ∧ Gd vs.length p ∧ SPk (ltI ts) p vs.length) rfl hl2 h64 (fun p st' s' a1 a2 a3 a4 => ?_) ?_) ?_ fun _ _ e => e)
    · obtain ⟨rfl, g, sp⟩ := a4
      refine ⟨rfl, _, kat_snds rfl a2, a3, ?_, p, g, sp, rfl⟩
      have q := (Array.perm_iff_toList_perm.mp g).map fun i => vs.getD i Value.none
      exact q.trans (List.Perm.of_eq (getD_range vs))
    · refine sk_sort (ltI_ord ts) (fun i j C hi hj hC => ?_) (by omega) fun p g sp => ⟨rfl, g, sp⟩
      obtain ⟨x1, y1, z1, v1, w1⟩ := tups_atO keep ht hna hi
      obtain ⟨x2, y2, z2, v2, w2⟩ := tups_atO keep ht hna hj
      show wpAny _ _ (keyLt' _ (vs.getD i Value.none) (vs.getD j Value.none)) C _ _
      rw [v1, v2]
      obtain ⟨o1, g1, c1, n1, d1⟩ := z1
      obtain ⟨o2, g2, c2, n2, d2⟩ := z2
      have l1 : y1.size = (ts.getD i []).length := by rw [← w1.strs]; simp
      have l2 : y2.size = (ts.getD j []).length := by rw [← w2.strs]; simp
      exact kat_lt g1 d1 g2 d2 (katlex_ex 0 w1 w2 hC (by rw [l1, l2]))
    · rintro ⟨⟨⟩, st'⟩ s' ⟨rfl, out, q1, q2, q3, q4⟩
      exact fin st' out q1 q2 q3 q4
end
end L2

set_option Elab.async false
set_option linter.all false
set_option maxRecDepth 100000
namespace L2
open PySem PySem.Spec PyProof.Rows PySem.W
theorem gd_mem {n : Nat} {o : Array Nat} (g : Gd n o) {i : Nat} (hi : i ∈ o.toList) : i < n := by
  have := (Array.perm_iff_toList_perm.mp g).mem_iff.mp hi
  simpa using this
theorem gd_len {n : Nat} {o : Array Nat} (g : Gd n o) : o.toList.length = n := by
  have := g.size
  simpa using this
theorem outs_refs {as : List Addr} {l : List Nat} (h : ∀ i ∈ l, i < as.length) : l.map (fun i => (as.map Value.ref).getD i Value.none) = (l.map fun i => as.getD i 0).map Value.ref := by
  rw [List.map_map]
  refine List.map_congr_left fun i hi => ?_
  have := h i hi
  show (as.map Value.ref).getD i Value.none = Value.ref (as.getD i 0)
  rw [List.getD_eq_getElem?_getD, List.getD_eq_getElem?_getD, List.getElem?_map, List.getElem?_eq_getElem this]; rfl
section
variable {X : Cx}
/-- sorted(a list of tuples of texts): by their order -/
theorem call_sortedTO : CallR X (.builtin "sorted") (fun xs H Q => ∃ (p : Addr) (as : List Addr) (ts : List (List Str)), xs = [.ref p] ∧ SqL X.K H p (as.map V.ref) ∧ Paired (fun a t => SqT X.K H a (t.map V.str) ∧ t ≠ []) as ts ∧ as.length < 64 ∧ ∀ (r : Addr) (o : Array Nat), H r = none → Gd as.length o → SPk (ltI ts) o as.length → Q (.ref r) (upd H r (.lst ((o.toList.map fun i => as.getD i 0).map V.ref)))) := by
  intro pins s σ H xs us Q I r h
  obtain ⟨p, as, ts, rfl, hq, ht, h64, q⟩ := h
  obtain ⟨u, rfl, rx⟩ := vals1 r
  cases rx
  obtain ⟨its, rv, pl, hz⟩ := I.list hq
  have ei := refs_of rv
  subst ei
  refine Calls.call_function_entry kind_sorted plain_sorted entry_sorted (args_sorted1 _) ?_
  unfold Builtin.«sorted»
  refine wpAny_bind (m := checkCount "sorted" 1 1 _) (wpAny_pure (wpAny_bind (collect_list pl.isList ?_ (by rw [List.length_map, sizeLine_eq]; omega))))
  refine wpAny_bind (wpAny_newList ?_ (by rw [List.length_map, sizeLine_eq]; omega))
  have hsz : ((s.heap.push (seqObj "list" #[] 0)).update s.heap.objs.size (Obj.mapSeq (· ++ (as.map Value.ref).toArray))).objs.size = s.heap.objs.size + 1 := by rw [Heap.size_update, size_push']
  have hoL : (((s.heap.push (seqObj "list" #[] 0)).update s.heap.objs.size (Obj.mapSeq (· ++ (as.map Value.ref).toArray))).push (seqObj "list" (as.map Value.ref).toArray 0)).get? (s.heap.objs.size + 1) = some (seqObj "list" (as.map Value.ref).toArray 0) := by
    rw [← hsz]; exact Heap.get?_push_size _ rfl
  have keep : ∀ b o, s.heap.get? b = some o → (((s.heap.push (seqObj "list" #[] 0)).update s.heap.objs.size (Obj.mapSeq (· ++ (as.map Value.ref).toArray))).push (seqObj "list" (as.map Value.ref).toArray 0)).get? b = some o := fun b o e => by
    have hlt : b < s.heap.objs.size := Heap.lt_size e
    rw [Heap.get?_push_ne _ _ _ (by rw [hsz]; exact Nat.ne_of_lt (Nat.lt_succ_of_lt hlt)), Heap.get?_update_ne _ _ _ _ (Nat.ne_of_lt hlt), Heap.get?_push_ne _ _ _ (Nat.ne_of_lt hlt)]
    exact e
  show wpAny _ _ _ _ _ { s with heap := ((s.heap.push (seqObj "list" #[] 0)).update s.heap.objs.size (Obj.mapSeq (· ++ (as.map Value.ref).toArray))).push (seqObj "list" (as.map Value.ref).toArray 0) }
  rw [hsz]
  have tp := tups_mk (h' := ((s.heap.push (seqObj "list" #[] 0)).update s.heap.objs.size (Obj.mapSeq (· ++ (as.map Value.ref).toArray))).push (seqObj "list" (as.map Value.ref).toArray 0)) I keep ht
  refine wpAny_bind (wpAny_holding (wpAny_call_entry slot_list_sort ⟨_, hoL, rfl⟩ entry_list_sort (sort_tupsO hoL tp (by rw [List.length_map]; exact h64) (fun v hv z => ?_) fun out o hp hg hsp eo => ⟨_, rfl, ?_⟩) (args_list_sort _)))
  · obtain ⟨b, hb, e⟩ := List.mem_map.mp hv
    rw [← e] at z
    injection z with z
    have lt := tups_lt I ht b hb
    exact absurd lt (by rw [z]; exact Nat.not_lt_of_le (Nat.le_succ _))
  rw [List.length_map] at hg hsp
  rw [outs_refs fun i hi => gd_mem hg hi] at eo
  subst eo
  have nz : H (s.heap.objs.size + 1) = none := I.hok.fresh (Nat.le_succ _)
  obtain ⟨e, he⟩ := sortedAll_at s.heap (as.map Value.ref) ((o.toList.map fun i => as.getD i 0).map Value.ref).toArray
  refine wpAny_pure ⟨_, rfl, .ref (s.heap.objs.size + 1), _, I.laid (t' := s.toks) (a := s.heap.objs.size + 1) (o := .lst ((o.toList.map fun i => as.getD i 0).map V.ref)) (h' := sortedAll s.heap (as.map Value.ref) ((o.toList.map fun i => as.getD i 0).map Value.ref).toArray) (fun b o eb => sortedAll_old eb) (Nat.le_succ _) ⟨?_, (o.toList.map fun i => as.getD i 0).map Value.ref, e, vals_refs _, he⟩, rfl, q _ o nz hg hsp⟩
  rw [List.length_map, List.length_map, gd_len hg]
  exact Nat.le_of_lt (small1000 (by omega))
end
end L2

set_option Elab.async false
set_option linter.all false
set_option maxRecDepth 100000
namespace L2
open PySem PySem.Spec PyProof.Rows PySem.W
open AutoSeq1 (wpAny_loadPart')
open MeetsSeq MeetsSeq2 MeetsSeq3 SeqRoads2
/-! ### lists of texts compared -/
theorem strs_at {vs : List Value} {x : List Str} (h : StrsAre vs x) : ∀ {i : Nat}, i < vs.length → ∃ t, vs[i]? = some (.str (x.getD i "") t) := by
  induction h with
  | nil => intro i hi; exact absurd hi (Nat.not_lt_zero _)
  | cons p t r ih =>
    intro i hi
    cases i with
    | zero => exact ⟨t, rfl⟩
    | succ i => simpa using ih (i := i) (by simpa using hi)
theorem drop_at {x : List Str} {i : Nat} (h : i < x.length) : x.drop i = x.getD i "" :: x.drop (i + 1) := by
  rw [List.drop_eq_getElem_cons h, List.getD_eq_getElem?_getD, List.getElem?_eq_getElem h]; rfl
theorem lt_loopS (l b : Addr) (items items2 : Array Value) (n n2 : Nat) (dd dd2 : Option Addr) (sl sl2 : Array (Option Value)) (x y : List Str) (hx : StrsAre items.toList x) (hy : StrsAre items2.toList y) : ∀ (k i : Nat), items.size - i = k → i ≤ items.size → i ≤ items2.size →
    Meets (Builtin.«list.__eq__.loop» ⟨[.ref l, .ref b, rawInt i, rawInt 0], []⟩)
      (fun A R s => (s.heap.get? l = some { cls := .type "list", dict := dd, data := .seq items n, slots := sl } ∧ s.heap.get? b = some { cls := .type "list", dict := dd2, data := .seq items2 n2, slots := sl2 }) ∧ R (.ok (.ret (.bool (ltL (x.drop i) (y.drop i))))) s) := by
  have lx : items.size = x.length := by rw [← hx.strs]; simp
  have ly : items2.size = y.length := by rw [← hy.strs]; simp
  intro k
  induction k with
  | zero =>
    intro i hk h1 h2 prog w A R s h
    obtain ⟨hp, g, d, tk, os⟩ := s
    obtain ⟨⟨hl, hb⟩, h⟩ := h
    have e1 : i = items.size := by omega
    have q1 : items[((i : Nat) : Int).toNat]? = none := by simp; omega
    wp_walk using wpAny_loadPart' hl, wpAny_loadPart' hb
    rw [q1]
    wp_walk using wpAny_loadPart' hl, wpAny_loadPart' hb
    have dx : x.drop i = [] := by simp; omega
    rw [dx] at h
    show R (.ok (.ret (.bool (decide (items.size < items2.size))))) _
    cases hd : y.drop i with
    | nil =>
      rw [hd] at h
      have : y.length ≤ i := by simpa using hd
      rw [decide_eq_false (by omega)]
      exact h
    | cons a r =>
      rw [hd] at h
      have : i < y.length := by
        have := congrArg List.length hd
        rw [List.length_drop, List.length_cons] at this
        omega
      rw [decide_eq_true (by omega)]
      exact h
  | succ k ih =>
    intro i hk h1 h2 prog w A R s h
    obtain ⟨hp, g, d, tk, os⟩ := s
    obtain ⟨⟨hl, hb⟩, h⟩ := h
    have hlt : i < items.size := by omega
    obtain ⟨t1, q1⟩ := strs_at hx (i := i) (by simpa using hlt)
    rw [Array.getElem?_toList] at q1
    have q1' : items[((i : Nat) : Int).toNat]? = some (.str (x.getD i "") t1) := q1
    have dx := drop_at (x := x) (i := i) (by omega)
    wp_walk using wpAny_loadPart' hl, wpAny_loadPart' hb
    rw [q1']
    by_cases hlt2 : i < items2.size
    · obtain ⟨t2, q2⟩ := strs_at hy (i := i) (by simpa using hlt2)
      rw [Array.getElem?_toList] at q2
      have q2' : items2[((i : Nat) : Int).toNat]? = some (.str (y.getD i "") t2) := q2
      have dy := drop_at (x := y) (i := i) (by omega)
      have hc : ((i : Int) + 1) = ((i + 1 : Nat) : Int) := by push_cast; rfl
      rw [dx, dy] at h
      unfold ltL at h
      rw [q2']
      refine wpAny_bind (wpAny_eqBool_str ?_)
      by_cases e : x.getD i "" = y.getD i ""
      · rw [if_pos e] at h
        rw [decide_eq_true e]
        wp_walk
        rw [hc]
        exact ⟨plainId_quiet plain_eq_loop _, codeAny_builtin entry_eq_loop (by
          rw [Around.under_plainId plain_eq_loop _]
          exact ih (i + 1) (by omega) (by omega) (by omega) prog w A R _ ⟨⟨hl, hb⟩, h⟩)⟩
      · rw [if_neg e] at h
        rw [decide_eq_false e]
        wp_walk using wpAny_loadPart' hl, wpAny_loadPart' hb
        rw [q1', q2']
        refine wpAny_bind (richCompare_gives (op := .Lt) (typeIs_str _ _ _) (typeIs_str _ _ _) F.slot_str_lt F.entry_str_lt (F.args_str_lt_2 _ _) (gives_str_lt _ _ _ _) (fun e => nomatch e) ?_)
        exact wpAny_pure h
    · have q2' : items2[((i : Nat) : Int).toNat]? = none := by simp; omega
      rw [q2']
      wp_walk using wpAny_loadPart' hl, wpAny_loadPart' hb
      have dy : y.drop i = [] := by simp; omega
      rw [dx, dy] at h
      show R (.ok (.ret (.bool (decide (items.size < items2.size))))) _
      rw [decide_eq_false (by omega)]
      exact h
theorem list_ltS (l b : Addr) (items items2 : Array Value) (n n2 : Nat) (dd dd2 : Option Addr) (sl sl2 : Array (Option Value)) (x y : List Str) (hx : StrsAre items.toList x) (hy : StrsAre items2.toList y) :
    Meets (Builtin.«list.__lt__» ⟨[.ref l, .ref b], []⟩)
      (fun A R s => (s.heap.get? l = some { cls := .type "list", dict := dd, data := .seq items n, slots := sl } ∧ s.heap.get? b = some { cls := .type "list", dict := dd2, data := .seq items2 n2, slots := sl2 }) ∧ R (.ok (.ret (.bool (ltL x y)))) s) := by
  intro prog w A R s h
  obtain ⟨hp, g, d, tk, os⟩ := s
  obtain ⟨⟨hl, hb⟩, h⟩ := h
  have f3 := AutoSeq1.sub_list_list
  wp_walk using wpAny_loadPart' hl, wpAny_loadPart' hb
  exact ⟨plainId_quiet plain_eq_loop _, codeAny_builtin entry_eq_loop (by
    rw [Around.under_plainId plain_eq_loop _]
    exact lt_loopS l b items items2 n n2 dd dd2 sl sl2 x y hx hy _ 0 rfl (Nat.zero_le _) (Nat.zero_le _) prog w A R _ ⟨⟨hl, hb⟩, h⟩)⟩
theorem keyLt_lists {P : Program} {w : World} {A : Around} {E : Value → Shared → Prop} {s : Shared} {l b : Addr} {items items2 : Array Value} {x y : List Str} {Q : Bool → Shared → Prop} (hu : A.units < cLine) (hl : s.heap.IsList l items) (hb : s.heap.IsList b items2) (hx : StrsAre items.toList x) (hy : StrsAre items2.toList y)
    (h : Q (ltL x y) s) : wpAny (model P w) A (keyLt' oneType' (.ref l) (.ref b)) Q E s := by
  obtain ⟨⟨cls, dd, data, sl⟩, ho, hc, n, hd⟩ := hl
  obtain ⟨⟨cls2, dd2, data2, sl2⟩, ho2, hc2, n2, hd2⟩ := hb
  simp only at hc hd hc2 hd2
  subst hc hd hc2 hd2
  rw [keyLt'_oneType, oneLt'_eq]
  simp only [if_true]
  refine wpAny_bind (wpAny_cRoomFor hu ?_)
  refine wpAny_bind (wpAny_callSpecialIfBound?_slot (⟨_, ho, rfl⟩ : s.TypeIs (.ref l) "list") F.slot_list_lt (call_meets F.slot_list_lt ⟨_, ho, rfl⟩ F.entry_list_lt (F.args_list_lt_2 _ _) (list_ltS l b items items2 n n2 dd dd2 sl sl2 x y hx hy) ⟨⟨ho, ho2⟩, ?_⟩))
  exact wpAny_truthy_bool h
end L2

set_option Elab.async false
set_option linter.all false
set_option maxRecDepth 100000
namespace L2
open PySem PySem.Spec PyProof.Rows PySem.W
/-- the list at v: these texts -/
def LstS (h : Heap) (v : Value) (t : List Str) : Prop := ∃ a its, v = .ref a ∧ h.IsList a its ∧ StrsAre its.toList t
theorem lists_mem {h : Heap} : ∀ {vs : List Value} {ts : List (List Str)}, Paired (LstS h) vs ts → ∀ v ∈ vs, ∃ t ∈ ts, LstS h v t
  | _, _, .nil, v, hv => by cases hv
  | _, _, .cons x r, v, hv => by
    rcases List.mem_cons.mp hv with z | z
    · subst z; exact ⟨_, List.mem_cons_self, x⟩
    · obtain ⟨t, ht, q⟩ := lists_mem r v z
      exact ⟨t, List.mem_cons_of_mem _ ht, q⟩
section
variable {P : Program} {w : World} {A : Around} {E : Value → Shared → Prop} {s : Shared}
theorem lists_atO {h h' : Heap} {a : Addr} (k : ∀ b o, b ≠ a → h.get? b = some o → h'.get? b = some o) : ∀ {vs : List Value} {ts : List (List Str)} {i : Nat}, Paired (LstS h) vs ts → (∀ v ∈ vs, v ≠ .ref a) → i < vs.length → ∃ (b : Addr) (its : Array Value), h'.IsList b its ∧ vs.getD i Value.none = .ref b ∧ StrsAre its.toList (ts.getD i [])
  | _, _, i, .nil, _, hi => absurd hi (Nat.not_lt_zero _)
  | _, _, 0, @Paired.cons _ _ _ v t l1 l2 hh tt, hn, _ => by
    obtain ⟨b, its, rfl, ⟨o, g, c, n, d⟩, st⟩ := hh
    have nb : b ≠ a := fun z => hn _ List.mem_cons_self (by rw [z])
    exact ⟨b, its, ⟨o, k b o nb g, c, n, d⟩, rfl, st⟩
  | _, _, i + 1, @Paired.cons _ _ _ v t l1 l2 hh tt, hn, hi => lists_atO (i := i) k tt (fun u hu => hn u (List.mem_cons_of_mem _ hu)) (by simpa using hi)
theorem sort_listsO (hu : A.units < cLine) {a : Addr} {vs : List Value} {ts : List (List Str)} {n : Nat} {R : PySem.Fin → Shared → Prop} (ho : s.heap.get? a = some (seqObj "list" vs.toArray n)) (ht : Paired (LstS s.heap) vs ts) (h64 : vs.length < 64) (hna : ∀ v ∈ vs, v ≠ .ref a)
    (h : ∀ (out : List Value) (p : Array Nat), out.Perm vs → Gd vs.length p → SPk (ltI ts) p vs.length → out = p.toList.map (fun i => vs.getD i Value.none) → R (.done (.ret .none)) { s with heap := sortedHeap s.heap a vs out.toArray }) : wpAny (model P w) A (Builtin.«list.sort» ⟨[.ref a], []⟩) R E s := by
  rw [list_sort_plain]
  have ha : a < s.heap.objs.size := Heap.lt_size ho
  refine wpAny_bind (listItems_at ho rfl (wpAny_bind (listUpdate_at ho rfl ?_ (by rw [List.size_toArray, sizeLine_eq]; omega) (Nat.zero_le _))))
  obtain ⟨e1, ho1⟩ : ∃ e1, (s.heap.update a (Obj.mapSeq fun _ => #[])).get? a = some (seqObj "list" #[] e1) := ⟨_, get?_update_seq ho (fun _ => #[])⟩
  refine wpAny_bind (seqEpoch_at ho1 rfl (wpAny_bind (wpAny_newTuple ?_ (by show vs.length ≤ _; rw [sizeLine_eq]; omega))))
  refine wpAny_bind (wpAny_newList ?_ (Nat.zero_le _))
  refine wpAny_holding ?_
  have ho6 : (((s.heap.update a (Obj.mapSeq fun _ => #[])).push (seqObj "tuple" vs.toArray 0)).push (seqObj "list" #[] 0)).get? a = some (seqObj "list" #[] e1) := Heap.get?_push_of_some _ (Heap.get?_push_of_some _ ho1)
  have keep : ∀ b o, b ≠ a → s.heap.get? b = some o → (((s.heap.update a (Obj.mapSeq fun _ => #[])).push (seqObj "tuple" vs.toArray 0)).push (seqObj "list" #[] 0)).get? b = some o := fun b o hb e => by
    refine Heap.get?_push_of_some _ (Heap.get?_push_of_some _ ?_)
    rw [Heap.get?_update_ne _ _ _ _ hb]; exact e
  show wpAny (model P w) A _ R E { s with heap := ((s.heap.update a (Obj.mapSeq fun _ => #[])).push (seqObj "tuple" vs.toArray 0)).push (seqObj "list" #[] 0) }
  dsimp only
  have fin : ∀ (st' : SortSt) (out : List Value), (arrOf st').map (·.2) = out.toArray → failedOf st' = none → out.Perm vs → (∃ p, Gd vs.length p ∧ SPk (ltI ts) p vs.length ∧ out = p.toList.map (fun i => vs.getD i Value.none)) → wpAny (model P w) A (do
      let touched := (← seqEpoch a) != e1
      Builtin.List.listUpdate (.ref a) fun _ => (arrOf st').map (·.2)
      if let some e := failedOf st' then rule "list.sort.comparison-raised"; throw e
      if touched then rule "list.sort.modified"; raiseError "ValueError" "list modified during sort"
      ret .none) R E { s with heap := ((s.heap.update a (Obj.mapSeq fun _ => #[])).push (seqObj "tuple" vs.toArray 0)).push (seqObj "list" #[] 0) } := by
    intro st' out e hf hp ⟨p, hg, hsp, ep⟩
    refine wpAny_bind (seqEpoch_at ho6 rfl ?_)
    refine wpAny_bind (listUpdate_at ho6 rfl ?_ (Nat.zero_le _) (by rw [e, List.size_toArray, hp.length_eq, sizeLine_eq]; omega))
    rw [hf]
    simp only [bne_self_eq_false, Bool.false_eq_true, if_false]
    rw [e]
    exact wpAny_pure (h out p hp hg hsp ep)
  by_cases h2 : vs.toArray.size < 2
  · rw [if_pos h2, if_pos h2]
    refine wpAny_bind (wpAny_pure ?_)
    rw [StateT.run_pure]
    refine wpAny_bind (wpAny_pure (fin _ vs ?_ rfl (List.Perm.refl _) ⟨Rng vs.length, Array.Perm.refl _, fun i j hij hj => absurd hj (by rw [List.size_toArray] at h2; omega), (getD_range vs).symm⟩))
    show (vs.toArray.zip vs.toArray).map (·.2) = vs.toArray
    apply Array.toList_inj.mp
    rw [Array.toList_map, Array.toList_zip]
    exact List.map_snd_zip (Nat.le_refl _)
  · rw [if_neg h2, if_neg h2]
    have hl2 : 2 ≤ vs.length := by rw [List.size_toArray] at h2; omega
    refine wpAny_bind (kas_kind (T := .type "list") hl2 (fun v hv => ?_) (by decide) (by decide) ?_)
    · obtain ⟨t, _, b, its, rfl, ⟨o, g, c, _⟩, st⟩ := lists_mem ht v hv
      have nb : b ≠ a := fun z => hna _ hv (by rw [z])
      exact kitAt_ty _ _ ⟨o, keep b o nb g, c⟩
    refine wpAny_bind (wpAny_mono (kat_run (ks := vs) (Q := fun st' s' => s' = { s with heap := ((s.heap.update a (Obj.mapSeq fun _ => #[])).push (seqObj "tuple" vs.toArray 0)).push (seqObj "list" #[] 0) } ∧ ∃ out : List Value, (arrOf st').map (·.2) = out.toArray ∧ failedOf st' = none ∧ out.Perm vs ∧ ∃ p, Gd vs.length p ∧ SPk (ltI ts) p vs.length ∧ out = p.toList.map (fun i => vs.getD i Value.none)) (G := fun p s' => s' = { s with heap := ((s.heap.update a (Obj.mapSeq fun _ => #[])).push (seqObj "tuple" vs.toArray 0)).push (seqObj "list" #[] 0) } ∧ Gd vs.length p ∧ SPk (ltI ts) p vs.length) rfl hl2 h64 (fun p st' s' a1 a2 a3 a4 => ?_) ?_) ?_ fun _ _ e => e)
    · obtain ⟨rfl, g, sp⟩ := a4
      refine ⟨rfl, _, kat_snds rfl a2, a3, ?_, p, g, sp, rfl⟩
      have q := (Array.perm_iff_toList_perm.mp g).map fun i => vs.getD i Value.none
      exact q.trans (List.Perm.of_eq (getD_range vs))
    · refine sk_sort (ltI_ord ts) (fun i j C hi hj hC => ?_) (by omega) fun p g sp => ⟨rfl, g, sp⟩
      obtain ⟨x1, y1, z1, v1, w1⟩ := lists_atO keep ht hna hi
      obtain ⟨x2, y2, z2, v2, w2⟩ := lists_atO keep ht hna hj
      show wpAny _ _ (keyLt' _ (vs.getD i Value.none) (vs.getD j Value.none)) C _ _
      rw [v1, v2]
      exact keyLt_lists hu z1 z2 w1 w2 hC
    · rintro ⟨⟨⟩, st'⟩ s' ⟨rfl, out, q1, q2, q3, q4⟩
      exact fin st' out q1 q2 q3 q4
end
section
variable {X : Cx}
theorem lists_mk {pins : List (Addr × Obj)} {s : Shared} {σ : St} {H : Hp} {h' : Heap} (I : Inv X pins σ H s) (k : ∀ b o, s.heap.get? b = some o → h'.get? b = some o) : ∀ {as : List Addr} {ts : List (List Str)}, Paired (fun a t => SqL X.K H a (t.map V.str)) as ts → Paired (LstS h') (as.map Value.ref) ts
  | _, _, .nil => .nil
  | _, _, .cons h t => by
    obtain ⟨its, rv, ⟨o, n, e, c, _, dt⟩, _⟩ := I.list h
    exact .cons ⟨_, its.toArray, rfl, ⟨o, k _ _ e, c, _, dt⟩, by simpa using strsAre_of rv⟩ (lists_mk I k t)
theorem lists_lt {pins : List (Addr × Obj)} {s : Shared} {σ : St} {H : Hp} (I : Inv X pins σ H s) : ∀ {as : List Addr} {ts : List (List Str)}, Paired (fun a t => SqL X.K H a (t.map V.str)) as ts → ∀ b ∈ as, b < s.heap.objs.size
  | _, _, .nil, b, hb => by cases hb
  | _, _, .cons h t, b, hb => by
    rcases List.mem_cons.mp hb with z | z
    · subst z
      obtain ⟨its, rv, ⟨o, n, e, _⟩, _⟩ := I.list h
      exact Heap.lt_size e
    · exact lists_lt I t b z
/-- sorted(a list of lists of texts): by their order -/
theorem call_sortedLO (hu : X.A.units + 2 < cLine) : CallR X (.builtin "sorted") (fun xs H Q => ∃ (p : Addr) (as : List Addr) (ts : List (List Str)), xs = [.ref p] ∧ SqL X.K H p (as.map V.ref) ∧ Paired (fun a t => SqL X.K H a (t.map V.str)) as ts ∧ as.length < 64 ∧ ∀ (r : Addr) (o : Array Nat), H r = none → Gd as.length o → SPk (ltI ts) o as.length → Q (.ref r) (upd H r (.lst ((o.toList.map fun i => as.getD i 0).map V.ref)))) := by
  intro pins s σ H xs us Q I r h
  obtain ⟨p, as, ts, rfl, hq, ht, h64, q⟩ := h
  obtain ⟨u, rfl, rx⟩ := vals1 r
  cases rx
  obtain ⟨its, rv, pl, hz⟩ := I.list hq
  have ei := refs_of rv
  subst ei
  refine Calls.call_function_entry kind_sorted plain_sorted entry_sorted (args_sorted1 _) ?_
  unfold Builtin.«sorted»
  refine wpAny_bind (m := checkCount "sorted" 1 1 _) (wpAny_pure (wpAny_bind (collect_list pl.isList ?_ (by rw [List.length_map, sizeLine_eq]; omega))))
  refine wpAny_bind (wpAny_newList ?_ (by rw [List.length_map, sizeLine_eq]; omega))
  have hsz : ((s.heap.push (seqObj "list" #[] 0)).update s.heap.objs.size (Obj.mapSeq (· ++ (as.map Value.ref).toArray))).objs.size = s.heap.objs.size + 1 := by rw [Heap.size_update, size_push']
  have hoL : (((s.heap.push (seqObj "list" #[] 0)).update s.heap.objs.size (Obj.mapSeq (· ++ (as.map Value.ref).toArray))).push (seqObj "list" (as.map Value.ref).toArray 0)).get? (s.heap.objs.size + 1) = some (seqObj "list" (as.map Value.ref).toArray 0) := by
    rw [← hsz]; exact Heap.get?_push_size _ rfl
  have keep : ∀ b o, s.heap.get? b = some o → (((s.heap.push (seqObj "list" #[] 0)).update s.heap.objs.size (Obj.mapSeq (· ++ (as.map Value.ref).toArray))).push (seqObj "list" (as.map Value.ref).toArray 0)).get? b = some o := fun b o e => by
    have hlt : b < s.heap.objs.size := Heap.lt_size e
    rw [Heap.get?_push_ne _ _ _ (by rw [hsz]; exact Nat.ne_of_lt (Nat.lt_succ_of_lt hlt)), Heap.get?_update_ne _ _ _ _ (Nat.ne_of_lt hlt), Heap.get?_push_ne _ _ _ (Nat.ne_of_lt hlt)]
    exact e
  show wpAny _ _ _ _ _ { s with heap := ((s.heap.push (seqObj "list" #[] 0)).update s.heap.objs.size (Obj.mapSeq (· ++ (as.map Value.ref).toArray))).push (seqObj "list" (as.map Value.ref).toArray 0) }
  rw [hsz]
  have tp := lists_mk (h' := ((s.heap.push (seqObj "list" #[] 0)).update s.heap.objs.size (Obj.mapSeq (· ++ (as.map Value.ref).toArray))).push (seqObj "list" (as.map Value.ref).toArray 0)) I keep ht
  refine wpAny_bind (wpAny_holding (wpAny_call_entry slot_list_sort ⟨_, hoL, rfl⟩ entry_list_sort (sort_listsO ?hu hoL tp (by rw [List.length_map]; exact h64) (fun v hv z => ?_) fun out o hp hg hsp eo => ⟨_, rfl, ?_⟩) (args_list_sort _)))
  case hu => omega
  · obtain ⟨b, hb, e⟩ := List.mem_map.mp hv
    rw [← e] at z
    injection z with z
    have lt := lists_lt I ht b hb
    exact absurd lt (by rw [z]; exact Nat.not_lt_of_le (Nat.le_succ _))
  rw [List.length_map] at hg hsp
  rw [outs_refs fun i hi => gd_mem hg hi] at eo
  subst eo
  have nz : H (s.heap.objs.size + 1) = none := I.hok.fresh (Nat.le_succ _)
  obtain ⟨e, he⟩ := sortedAll_at s.heap (as.map Value.ref) ((o.toList.map fun i => as.getD i 0).map Value.ref).toArray
  refine wpAny_pure ⟨_, rfl, .ref (s.heap.objs.size + 1), _, I.laid (t' := s.toks) (a := s.heap.objs.size + 1) (o := .lst ((o.toList.map fun i => as.getD i 0).map V.ref)) (h' := sortedAll s.heap (as.map Value.ref) ((o.toList.map fun i => as.getD i 0).map Value.ref).toArray) (fun b o eb => sortedAll_old eb) (Nat.le_succ _) ⟨?_, (o.toList.map fun i => as.getD i 0).map Value.ref, e, vals_refs _, he⟩, rfl, q _ o nz hg hsp⟩
  rw [List.length_map, List.length_map, gd_len hg]
  exact Nat.le_of_lt (small1000 (by omega))
end
end L2

set_option Elab.async false
set_option linter.all false
set_option maxRecDepth 100000
namespace L2
open PySem PySem.Spec PyProof.Rows
/-! ### lists gathered by two clauses -/
def LOb (xs : List V) (o : Obj) : Prop := xs.length ≤ sizeLine ∧ ∃ (its : List Value) (n : Nat), Vals xs its ∧ o = { cls := .type "list", data := .seq its.toArray n }
def listBody (elt : Expr) (acc : Addr) (env : Env) : Sem Unit := do
  let _ ← call (.builtin "list.append") [.ref acc, ← eval elt env]
def tApp (te : TE) : TB (List V) := fun xs σ H Q => te σ H fun v H' => xs.length < sizeLine ∧ Q (xs ++ [v]) σ H'
theorem pbd_list {X : Cx} {acc : Addr} {elt : Expr} {te : TE} (xxe : X.xe = fun _ _ => False) (he : PE X elt te) : PBd X LOb acc (listBody elt acc X.env) (tApp te) := by
  intro pins s σ H a o Q I np hx ha h
  have h0 := he _ s σ H _ I h
  rw [xxe] at h0
  unfold listBody
  refine wpAny_bind (thn h0 fun v s1 ⟨y, H1, I1, r1, hl, q⟩ => wpAny_bind ?_)
  have pa := I1.pin (acc, o) (List.mem_append_right _ List.mem_cons_self)
  obtain ⟨hz, its, n, rv, rfl⟩ := ha
  have hlen := rv.length
  refine wpAny_list_append_plain (items := its.toArray) ⟨n, pa.1⟩ (fun h' pl sb => ?_) (by rw [List.size_toArray]; omega)
  obtain ⟨k', pl⟩ := pl
  refine wpAny_pure ⟨a ++ [y], _, σ, H1, I1.repin (t' := s1.toks) (fun b u hb e => (sb.2 b hb).trans e) pl (fun v z => by cases z) hx np, ⟨by rw [List.length_append]; show _ + 1 ≤ _; omega, its ++ [v], k', rv.append (.cons r1 .nil), by simp⟩, q⟩
section
variable {P : Program} {w : World} {target iter target2 iter2 elt : Expr} {ifs ifs2 : List Expr} {scope : Scope} {pos : Pos}
theorem gc_list2 : GC P w (.ListComp elt [⟨target, iter, ifs, 0⟩, ⟨target2, iter2, ifs2, 0⟩] scope pos) target iter ifs scope iter.pos (newList []) (nestBody (.ListComp elt [⟨target, iter, ifs, 0⟩, ⟨target2, iter2, ifs2, 0⟩] scope pos) iter2) (seqObj "list" #[] 0) ([] : List V) LOb (fun _ xs => .lst xs) where
  new := fun A s Q E h => wpAny_newList h (Nat.zero_le _)
  nf := rfl
  nc := fun a o h v z => by
    obtain ⟨_, its, n, _, rfl⟩ := h
    cases z
  hA0 := ⟨Nat.zero_le _, [], 0, .nil, rfl⟩
  hHO := fun H' h acc a o hb x e => by
    obtain ⟨hz, its, n, rv, rfl⟩ := x
    exact ⟨hz, its, n, rv, e⟩
  cl := ⟨_, rfl⟩
  dnS := fun _ _ _ _ _ _ _ h => h
  dnL := fun _ _ _ _ _ _ _ h => h
  q := fun _ _ _ => rfl
  sh := fun it acc env => by
    unfold compShape nestBody
    simp only [bind_assoc]
    rfl
end
end L2

set_option Elab.async false
set_option linter.all false
set_option maxRecDepth 100000
namespace L2
open PySem PySem.Spec PyProof.Rows PySem.W
/-- rows in their order -/
abbrev Srt (a : List (List Str)) : Prop := a.Pairwise fun x y => ltL y x = false
theorem getD_rangeL (ts : List (List Str)) : (List.range ts.length).map (fun i => ts.getD i []) = ts := by
  refine List.ext_getElem? fun i => ?_
  by_cases hi : i < ts.length
  · rw [List.getElem?_map, List.getElem?_range hi, List.getElem?_eq_getElem hi]
    show some (ts.getD i []) = _
    rw [List.getD_eq_getElem?_getD, List.getElem?_eq_getElem hi]; rfl
  · rw [List.getElem?_eq_none (by simp; omega), List.getElem?_eq_none (by omega)]
theorem order_rows {ts : List (List Str)} {o : Array Nat} (g : Gd ts.length o) (sp : SPk (ltI ts) o ts.length) : Srt (o.toList.map fun i => ts.getD i []) ∧ (o.toList.map fun i => ts.getD i []).Perm ts := by
  have sz := g.size
  refine ⟨?_, ?_⟩
  · rw [Srt, List.pairwise_iff_getElem]
    intro i j hi hj hij
    rw [List.length_map] at hi hj
    have h := sp i j hij (by simpa [sz] using hj)
    rw [List.getElem_map, List.getElem_map]
    have e : ∀ k (hk : k < o.toList.length), o.getD k 0 = o.toList[k] := fun k hk => by
      have hk' : k < o.size := by simpa using hk
      simp [Array.getD, hk']
    rw [e i hi, e j hj] at h
    exact h
  · have q := (Array.perm_iff_toList_perm.mp g).map fun i => ts.getD i []
    exact q.trans (List.Perm.of_eq (getD_rangeL ts))
theorem srt_uniq : ∀ {a b : List (List Str)}, Srt a → Srt b → a.Perm b → a = b
  | [], b, _, _, p => (List.nil_perm.mp p).symm ▸ rfl
  | x :: a, [], _, _, p => by have := p.length_eq; simp at this
  | x :: a, y :: b, ha, hb, p => by
    obtain ⟨a1, a2⟩ := List.pairwise_cons.mp ha
    obtain ⟨b1, b2⟩ := List.pairwise_cons.mp hb
    have e : x = y := by
      rcases List.mem_cons.mp (p.mem_iff.mp List.mem_cons_self) with z | z
      · exact z
      · rcases List.mem_cons.mp (p.mem_iff.mpr List.mem_cons_self) with w' | w'
        · exact w'.symm
        · have h1 := b1 x z
          have h2 := a1 y w'
          rcases ltL_tri x y with q | q | q
          · rw [q] at h1; cases h1
          · exact q
          · rw [q] at h2; cases h2
    subst e
    rw [srt_uniq a2 b2 ((List.perm_cons _).mp p)]
end L2

set_option Elab.async false
set_option linter.all false
set_option maxRecDepth 100000
namespace L2
open PySem PySem.Spec PyProof.Rows
theorem pe_lc {X : Cx} {target iter elt : Expr} {ifs : List Expr} {scope sc : Scope} {pos : Pos} {N N' : List Str} {sub : List (Option Nat)} {wi : TI} {g : TG} {tt : TT} {te : TE} (hN : X.N = N) (hsc : X.env.scope = sc)
    (O : CmpOk N sc N' scope sub) (hc : X.calm = true) (hi : PI X target iter wi)
    (B : ∀ C s H fp, PG (cmpOf X scope N' C s H fp) target g ∧ PTs (cmpOf X scope N' C s H fp) ifs tt ∧ PE (cmpOf X scope N' C s H fp) elt te)
    (hs : ∀ x, foldedSetIterable iter X.env x = pure x := by intro _; rfl) : PE X (.ListComp elt [⟨target, iter, ifs, 0⟩] scope pos) (tComp sub wi g tt te) :=
  pe_comp hc (by rw [hN, hsc]; exact O) hi B hs
theorem ps_lc {X : Cx} {target iter elt : Expr} {ifs : List Expr} {scope sc : Scope} {pos : Pos} {N N' : List Str} {sub : List (Option Nat)} {wi : TI} {g : TG} {tt : TT} {te : TE} {i : Nat} {y : Str} {py spos : Pos} (hN : X.N = N) (hsc : X.env.scope = sc)
    (O : CmpOk N sc N' scope sub) (hc : X.calm = true) (hi : PI X target iter wi)
    (B : ∀ C s H fp, PG (cmpOf X scope N' C s H fp) target g ∧ PTs (cmpOf X scope N' C s H fp) ifs tt ∧ PE (cmpOf X scope N' C s H fp) elt te)
    (nd : X.N.Nodup) (hy : X.N[i]? = some y) (hx : Loc X.env.scope y)
    (hsw : swapsWith (.ListComp elt [⟨target, iter, ifs, 0⟩] scope pos) (some (.Name y py)) spos.line X.env = pure true := by rfl)
    (hs : ∀ x, foldedSetIterable iter X.env x = pure x := by intro _; rfl) (hf : X.fn y = true ∨ X.env.scope.names.lookup y = some .local := by first | exact .inl rfl | exact .inr rfl | assumption) :
    PS X (.Assign [.Name y py] (.ListComp elt [⟨target, iter, ifs, 0⟩] scope pos) spos) (tAsg (tComp sub wi g tt te) (gName i)) :=
  ps_comp hc (by rw [hN, hsc]; exact O) hi B nd hy hx hsw hs hf
end L2
namespace My
open PySem L2
def top (i : Nat) : Stmt := PySem.Challenge.pw_roundsalone_k18_points_stars_pieces.main.body.getD i (.Pass ⟨0, 0, 0, 0⟩)
abbrev sPoints : Stmt := top 1
abbrev sStar : Stmt := top 2
abbrev sStars : Stmt := top 3
abbrev sHomes : Stmt := top 4
abbrev sPieces : Stmt := top 5
abbrev sCell : Stmt := top 7
abbrev sBig : Stmt := top 8
abbrev sNames : Stmt := top 9
abbrev sEnds : Stmt := top 10
abbrev sNet : Stmt := top 11
abbrev sLStar : Stmt := top 12
abbrev sLPoints : Stmt := top 13
abbrev sLPieces : Stmt := top 14
abbrev sLaw : Stmt := top 15
/-- all that was tracked stays, the purse d aside, which holds one number -/
def Ext (H H' : Hp) : Prop := ∀ b o, H b = some o → H' b = some o
theorem Ext.refl (H : Hp) : Ext H H := fun _ _ h => h
theorem Ext.trans {H H1 H2 : Hp} (a : Ext H H1) (b : Ext H1 H2) : Ext H H2 := fun c o h => b c o (a c o h)
theorem Ext.new {H : Hp} {p : Addr} (h : H p = none) (o : HO) : Ext H (upd H p o) := fun b u q => by rw [upd_ne (ne_of_none q h)]; exact q
theorem Ext.none {H H' : Hp} (e : Ext H H') {p : Addr} (h : H' p = none) : H p = none := by
  cases q : H p with
  | none => rfl
  | some o => rw [e p o q] at h; cases h
theorem Ext.sqL {K : PySem.W.Frag} {H H' : Hp} {a : Addr} {xs : List V} (e : Ext H H') (h : SqL K H a xs) : SqL K H' a xs := by
  rcases h with (h | ⟨o, h⟩) | h
  · exact .inl (.inl (e _ _ h))
  · exact .inl (.inr ⟨o, e _ _ h⟩)
  · exact .inr h
def spCell (K : PySem.W.Frag) : Sp := fun vs H Q _ => ∃ (a : Addr) (ns : List Int) (k : Int), vs = [.ref a, .int k] ∧ SqL K H a (ns.map V.int) ∧ 0 ≤ k ∧ ∀ v, Q (.int v) H
section
variable {P : Program} {w : World} {K : PySem.W.Frag} {mg : Str → Option Value} {base : Heap} {f f1 : Addr} {fd fd1 : FuncData}
theorem scCell : FnScope ["_law_script", "_law_k"] ["_law_script", "_law_k"] (defScope sCell) := ⟨rfl, rfl, rfl, by decide +kernel, rfl, by decide +kernel, by decide +kernel⟩
theorem ok_cell (F : Fun K "_law_cell_at" "_law_cell_at" sCell f fd) (ml : mg "len" = none) : FnOk P w K mg base CX0 1 f fd ["_law_script", "_law_k"] (spCell K) := by
  refine F.ok scCell (fun vs H Q E h => ?_) (fun cdv A outer s H vs Q E hr h => ?_)
  · obtain ⟨a, ns, k, rfl, _⟩ := h
    rfl
  obtain ⟨a, ns, k, rfl, hS, h0, q⟩ := h
  refine ⟨_, pss_cons (ps_if (pt_cmpR op_lt (pv 1) (pe_callB call_len_seq rfl ml PySem.boot_len (pa_cons (pv 0) pa_nil)) (nomark _)) (pss_one (ps_ret (pe_ix ix_list (pv 0) (pv 1) (fun _ _ => rfl)))) pss_nil) (pss_one (ps_ret pe_int)), ?_⟩
  refine ⟨_, rfl, _, rfl, a, _, rfl, .inl hS, _, _, rfl, rfl, _, rfl, ?_⟩
  refine ite2 (fun c => ?_) (fun c => q 0)
  have c' : k < (((ns.map V.int).length : Nat) : Int) := of_decide_eq_true c
  rw [List.length_map] at c'
  have hk : k.toNat < ns.length := by omega
  have hv : atI (ns.map V.int) ((k.toNat : Nat) : Int) = some (.int ns[k.toNat]) := atI_nat (by rw [List.getElem?_map, List.getElem?_eq_getElem hk] <;> rfl)
  rw [Int.toNat_of_nonneg h0] at hv
  exact ⟨_, rfl, _, rfl, a, _, _, _, rfl, rfl, hS, hv, q _⟩
end
end My
namespace My
open PySem L2
theorem boot_bool' : bootBuiltins "bool" = some (.type "bool") := by decide +kernel
theorem boot_isinst : bootBuiltins "isinstance" = some (.builtin "isinstance") := by decide +kernel
theorem kit_same (K : PySem.W.Frag) (t : Value) : PySem.W.kitOne K t t = some true := by unfold PySem.W.kitOne; rw [if_pos (beq_self_eq_true t)]
theorem boot_abs' : bootBuiltins "abs" = some (.builtin "abs") := by decide +kernel
theorem boot_range' : bootBuiltins "range" = some (.type "range") := by decide +kernel
theorem boot_any' : bootBuiltins "any" = some (.builtin "any") := by decide +kernel
end My
namespace My
open PySem L2
section
variable {σ0 : St} {g : TG} {tt : TT} {te : TE} {Q : List V → Hp → Prop} {H1 : Hp}
theorem turns_pure {K : PySem.W.Frag} {a : Addr} {xs : List V} (f : V → Option V) (hS : SqL K H1 a xs) (hz : xs.length ≤ sizeLine)
    (hs : ∀ x ∈ xs, ∀ C : Option V → Hp → Prop, C (f x) H1 → g x σ0 H1 fun σ2 H2 => Sle σ0 σ2 ∧ tt σ2 H2 fun b H3 => if b = true then te σ2 H3 (fun v H4 => C (some v) H4) else C none H3)
    (hd : Q (xs.filterMap f) H1) : cTurns (Itl K a) σ0 g tt te Q H1 := by
  refine turns_list (xs := xs) (fun i ys H => H = H1 ∧ ys = (xs.take i).filterMap f) ⟨rfl, by simp⟩ (fun i ys H _ h => by rw [h.1]; exact hS) ?_ ?_
  · rintro i x ys H hx ⟨rfl, rfl⟩
    have hi : i < xs.length := (List.getElem?_eq_some_iff.mp hx).1
    have hm : x ∈ xs := List.mem_of_getElem? hx
    have tk : (xs.take (i + 1)).filterMap f = (xs.take i).filterMap f ++ (f x).toList := by
      rw [List.take_add_one, hx, List.filterMap_append]
      cases e : f x <;> simp [e]
    have hl : ((xs.take i).filterMap f).length < sizeLine := by
      have h1 := List.length_filterMap_le f (xs.take i)
      rw [List.length_take] at h1
      omega
    refine hs x hm (fun o H4 => match o with | some v => ((xs.take i).filterMap f).length < sizeLine ∧ Nxt xs.length i _ ((xs.take i).filterMap f ++ [v]) H4 | none => Nxt xs.length i _ ((xs.take i).filterMap f) H4) ?_
    cases e : f x with
    | none => exact nxt hi ⟨rfl, by rw [tk, e]; simp⟩
    | some v => exact ⟨hl, nxt hi ⟨rfl, by rw [tk, e]; simp⟩⟩
  · rintro ys H ⟨rfl, rfl⟩
    rw [List.take_of_length_le (Nat.le_refl _)]
    exact hd
/-- a body that makes things which are dropped -/
theorem turns_ext {K : PySem.W.Frag} {a : Addr} {xs : List V} (f : V → Option V) (hS : SqL K H1 a xs) (hz : xs.length ≤ sizeLine)
    (hs : ∀ x ∈ xs, ∀ H, Ext H1 H → ∀ C : Option V → Hp → Prop, (∀ H', Ext H H' → C (f x) H') → g x σ0 H fun σ2 H2 => Sle σ0 σ2 ∧ tt σ2 H2 fun b H3 => if b = true then te σ2 H3 (fun v H4 => C (some v) H4) else C none H3)
    (hd : ∀ H', Ext H1 H' → Q (xs.filterMap f) H') : cTurns (Itl K a) σ0 g tt te Q H1 := by
  refine turns_list (xs := xs) (fun i ys H => Ext H1 H ∧ ys = (xs.take i).filterMap f) ⟨Ext.refl _, by simp⟩ (fun i ys H _ h => h.1.sqL hS) ?_ ?_
  · rintro i x ys H hx ⟨he, rfl⟩
    have hi : i < xs.length := (List.getElem?_eq_some_iff.mp hx).1
    have hm : x ∈ xs := List.mem_of_getElem? hx
    have tk : (xs.take (i + 1)).filterMap f = (xs.take i).filterMap f ++ (f x).toList := by
      rw [List.take_add_one, hx, List.filterMap_append]
      cases e : f x <;> simp [e]
    have hl : ((xs.take i).filterMap f).length < sizeLine := by
      have h1 := List.length_filterMap_le f (xs.take i)
      rw [List.length_take] at h1
      omega
    refine hs x hm H he (fun o H4 => match o with | some v => ((xs.take i).filterMap f).length < sizeLine ∧ Nxt xs.length i _ ((xs.take i).filterMap f ++ [v]) H4 | none => Nxt xs.length i _ ((xs.take i).filterMap f) H4) (fun H' he' => ?_)
    cases e : f x with
    | none => exact nxt hi ⟨he.trans he', by rw [tk, e]; simp⟩
    | some v => exact ⟨hl, nxt hi ⟨he.trans he', by rw [tk, e]; simp⟩⟩
  · rintro ys H ⟨he, rfl⟩
    rw [List.take_of_length_le (Nat.le_refl _)]
    exact hd H he
end
theorem inV_str (n : Str) : ∀ other : List Str, inV (.str n) (other.map V.str) = decide (n ∈ other)
  | [] => by simp [inV]
  | x :: r => by
    have ih := inV_str n r
    unfold inV at ih ⊢
    rw [List.map_cons, List.any_cons, ih]
    show (x == n || decide (n ∈ r)) = _
    by_cases e : n = x
    · subst e; simp
    · have e' : ¬ x = n := fun z => e z.symm
      simp [e, e']
theorem flat_strs : ∀ other : List Str, (other.map V.str).all flatV = true := fun other => by
  rw [List.all_eq_true]
  intro x hx
  obtain ⟨y, _, rfl⟩ := List.mem_map.mp hx
  rfl
theorem filt_strs (p : Str → Bool) : ∀ ss : List Str, (ss.map V.str).filterMap (fun v => match v with | .str n => if p n = true then some (V.str n) else none | _ => none) = (ss.filter p).map V.str
  | [] => rfl
  | x :: r => by
    rw [List.map_cons, List.filterMap_cons, filt_strs p r]
    by_cases e : p x = true
    · simp [e]
    · simp [e]
def LsS (H : Hp) (a : Addr) (ss : List Str) : Prop := H a = some (.lst (ss.map V.str))
end My
namespace My
open PySem L2
abbrev sg : Str := "abcdefghijklmnopqrstuvwxyz0123456789"
def sgC (n : Nat) : Nat := sg.cps.toList.getD n 0
theorem sg_len : sg.cps.toList.length = 36 := by decide +kernel
theorem sg_nd : sg.cps.toList.Nodup := by decide +kernel
theorem sg_small : ∀ c ∈ sg.cps.toList, c < 128 := by decide +kernel
theorem sg_at {i : Int} (h0 : 0 ≤ i) (h1 : i < 36) : atI sg.cps.toList i = some (sgC i.toNat) := by
  have hk : i.toNat < sg.cps.toList.length := by rw [sg_len]; omega
  have := atI_nat (xs := sg.cps.toList) (j := i.toNat) (v := sgC i.toNat) (by
    unfold sgC
    rw [List.getD_eq_getElem?_getD, List.getElem?_eq_getElem hk]; rfl)
  rw [Int.toNat_of_nonneg h0] at this
  exact this
theorem sgC_inj {i j : Nat} (hi : i < 36) (hj : j < 36) (e : sgC i = sgC j) : i = j := by
  have hi' : i < sg.cps.toList.length := by rw [sg_len]; exact hi
  have hj' : j < sg.cps.toList.length := by rw [sg_len]; exact hj
  unfold sgC at e
  rw [List.getD_eq_getElem?_getD, List.getD_eq_getElem?_getD, List.getElem?_eq_getElem hi', List.getElem?_eq_getElem hj'] at e
  exact (List.getElem_inj sg_nd).mp e
theorem sgC_small {i : Nat} (hi : i < 36) : sgC i < 128 := by
  have hi' : i < sg.cps.toList.length := by rw [sg_len]; exact hi
  unfold sgC
  rw [List.getD_eq_getElem?_getD, List.getElem?_eq_getElem hi']
  exact sg_small _ (List.getElem_mem hi')
/-- every sign is a small one -/
def Sm (x : Str) : Prop := ∀ c ∈ x.cps.toList, c < 128
theorem Sm.ok {x : Str} (h : Sm x) : PyData.strOk x = true := by
  unfold PyData.strOk
  rw [Array.all_eq_true_iff_forall_mem]
  intro c hc
  have := h c (by simpa using hc)
  exact decide_eq_true (by omega)
theorem Sm.app {x y : Str} (h : Sm x) (h' : Sm y) : Sm (x ++ y) := fun c hc => by
  rw [Str.cps_append, Array.toList_append, List.mem_append] at hc
  exact hc.elim (h c) (h' c)
theorem Sm.one {c : Nat} (h : c < 128) : Sm ⟨#[c]⟩ := fun d hd => by
  have : d = c := by simpa using hd
  omega
theorem Sm.nil : Sm "" := fun c hc => by
  have : c ∈ ([] : List Nat) := hc
  cases this
theorem Sm.slice {x : Str} (h : Sm x) (l u : Option Int) : Sm (Txt.slice x l u) := fun c hc => by
  unfold Txt.slice at hc
  split at hc
  · exact h c hc
  · simp only [List.mem_filterMap] at hc
    obtain ⟨i, _, hi⟩ := hc
    exact h c (by simpa using Array.mem_of_getElem? hi)
end My
namespace My
open PySem L2
def rowD (r : List Str) : PyData := .list (r.map .str)
def rowsD (F : List (List Str)) : PyData := .list (F.map rowD)
theorem eqv_strs : ∀ a b : List Str, PyData.eqvAll (a.map .str) (b.map .str) = decide (a = b)
  | [], [] => rfl
  | [], _ :: _ => rfl
  | _ :: _, [] => rfl
  | x :: a, y :: b => by
    show (x == y && PyData.eqvAll (a.map .str) (b.map .str)) = _
    rw [eqv_strs a b]
    by_cases e : x = y
    · subst e; simp
    · simp [e]
theorem eqv_row (a b : List Str) : PyData.eqv (rowD a) (rowD b) = decide (a = b) := eqv_strs a b
def SOk (r : List Str) : Prop := ∀ x ∈ r, PyData.strOk x = true
theorem lay_strs : ∀ {r : List Str}, SOk r → PyData.canLayAll0 (r.map .str) = true ∧ PyData.depthAll (r.map .str) = 0
  | [], _ => ⟨rfl, rfl⟩
  | x :: r, h => by
    obtain ⟨h1, h2⟩ := lay_strs (r := r) fun y hy => h y (List.mem_cons_of_mem _ hy)
    refine ⟨?_, ?_⟩
    · show (PyData.strOk x && PyData.canLayAll0 (r.map .str)) = true
      rw [h1, h x List.mem_cons_self]; rfl
    · show max 0 (PyData.depthAll (r.map .str)) = 0
      rw [h2]; rfl
theorem shaped_row {r : List Str} (h : SOk r) : SeqAt.shaped (rowD r) = true := by
  obtain ⟨h3, h4⟩ := lay_strs h
  show (PyData.canLayAll0 (r.map .str) && decide (PyData.depthAll (r.map .str) + 1 ≤ 64)) = true
  rw [h3, h4]; rfl
theorem dr_strs {K : PySem.W.Frag} {H : Hp} : ∀ r : List Str, DRs K H (r.map V.str) (r.map .str)
  | [] => .nil
  | x :: r => .cons (.str x) (dr_strs r)
theorem dr_row {K : PySem.W.Frag} {H : Hp} {a : Addr} {r : List Str} (h : LsS H a r) : DR K H (.ref a) (rowD r) := .lst (SqL.of h) (dr_strs r)
end My
namespace My
open PySem L2
theorem room64 {k : Nat} {A : Around} (hr : Room k A) : A.units + 64 < cLine := by have := hr.un; omega
theorem boot_list' : bootBuiltins "list" = some (.type "list") := by decide +kernel
theorem boot_str' : bootBuiltins "str" = some (.type "str") := by decide +kernel
theorem boot_sorted' : bootBuiltins "sorted" = some (.builtin "sorted") := by decide +kernel
theorem boot_all' : bootBuiltins "all" = some (.builtin "all") := by decide +kernel
theorem boot_set' : bootBuiltins "set" = some (.type "set") := by decide +kernel
theorem boot_tuple' : bootBuiltins "tuple" = some (.type "tuple") := by decide +kernel
end My
namespace L2
open PySem PySem.Spec PyProof.Rows
/-- a word between two statements -/
def tCut (Pm : St → Hp → Prop) (t : TS) : TS := fun D σ H => t { D with nx := Pm } σ H ∧ ∀ σ' H', Pm σ' H' → D.nx σ' H'
theorem ps_cut {X : Cx} {st : Stmt} {t : TS} (Pm : St → Hp → Prop) (h : PS X st t) : PS X st (tCut Pm t) := by
  intro pins s σ H D I hw
  refine thn (h pins s σ H { D with nx := Pm } I hw.1) fun fl s' q => ?_
  cases fl with
  | next => obtain ⟨σ', H', I', q⟩ := q; exact ⟨σ', H', I', hw.2 σ' H' q⟩
  | brk => exact q
  | cont => exact q
  | ret u => exact q
end L2

set_option Elab.async false
set_option linter.all false
set_option maxRecDepth 100000
namespace My
open PySem L2
/-! ### labels of points, woods -/
theorem snoc_ind {α : Type} {P : List α → Prop} (h0 : P []) (hs : ∀ l t, P l → P (l ++ [t])) (l : List α) : P l := by
  have : ∀ r : List α, P r.reverse := fun r => by
    induction r with
    | nil => exact h0
    | cons a r ih => rw [List.reverse_cons]; exact hs _ _ ih
  have q := this l.reverse
  rwa [List.reverse_reverse] at q
abbrev Tr := Str × Str × Str
abbrev lab (f : Str → Str) (t : Tr) : Str → Str := fun p => if f p = f t.2.2 then f t.2.1 else f p
def homF (net : List Tr) : Str → Str := net.foldl lab id
theorem homF_snoc (net : List Tr) (t : Tr) : homF (net ++ [t]) = lab (homF net) t := by unfold homF; rw [List.foldl_append]; rfl
def isPt (net : List Tr) (x : Str) : Prop := ∃ t ∈ net, x = t.2.1 ∨ x = t.2.2
theorem isPt_snoc {net : List Tr} {t : Tr} {x : Str} : isPt (net ++ [t]) x ↔ isPt net x ∨ x = t.2.1 ∨ x = t.2.2 := by
  unfold isPt
  constructor
  · rintro ⟨u, hu, h⟩
    rcases List.mem_append.mp hu with z | z
    · exact .inl ⟨u, z, h⟩
    · rw [List.mem_singleton] at z; subst z; exact .inr h
  · rintro (⟨u, hu, h⟩ | h)
    · exact ⟨u, List.mem_append_left _ hu, h⟩
    · exact ⟨t, List.mem_append_right _ (List.mem_singleton.mpr rfl), h⟩
theorem homF_pt (net : List Tr) : (∀ x, isPt net x → isPt net (homF net x)) ∧ ∀ x, ¬ isPt net x → homF net x = x := by
  refine snoc_ind (P := fun net => (∀ x, isPt net x → isPt net (homF net x)) ∧ ∀ x, ¬ isPt net x → homF net x = x) ⟨fun x ⟨t, h, _⟩ => (by cases h), fun x _ => rfl⟩ (fun l t ih => ?_) net
  obtain ⟨h1, h2⟩ := ih
  have any : ∀ x, isPt (l ++ [t]) x → isPt (l ++ [t]) (homF l x) := fun x hx => by
    by_cases e : isPt l x
    · exact isPt_snoc.mpr (.inl (h1 x e))
    · rw [h2 x e]; exact hx
  rw [homF_snoc]
  refine ⟨fun x hx => ?_, fun x hx => ?_⟩
  · show isPt _ (if homF l x = homF l t.2.2 then homF l t.2.1 else homF l x)
    split
    · exact any _ (isPt_snoc.mpr (.inr (.inl rfl)))
    · exact any x hx
  · have nx : ¬ isPt l x := fun z => hx (isPt_snoc.mpr (.inl z))
    have ne : homF l x ≠ homF l t.2.2 := fun z => by
      have p := any t.2.2 (isPt_snoc.mpr (.inr (.inr rfl)))
      rw [← z, h2 x nx] at p
      exact hx p
    show (if homF l x = homF l t.2.2 then homF l t.2.1 else homF l x) = x
    rw [if_neg ne, h2 x nx]
theorem homF_tie (net : List Tr) : ∀ t ∈ net, homF net t.2.1 = homF net t.2.2 := by
  refine snoc_ind (P := fun net => ∀ t ∈ net, homF net t.2.1 = homF net t.2.2) (fun t h => by cases h) (fun l t ih => ?_) net
  intro u hu
  rw [homF_snoc]
  show (if homF l u.2.1 = homF l t.2.2 then homF l t.2.1 else homF l u.2.1) = if homF l u.2.2 = homF l t.2.2 then homF l t.2.1 else homF l u.2.2
  rcases List.mem_append.mp hu with z | z
  · rw [ih u z]
  · rw [List.mem_singleton] at z
    subst z
    rw [if_pos rfl]
    split <;> rfl
def wStep (kept : List Tr) (t : Tr) : List Tr := if homF kept t.2.1 = homF kept t.2.2 then kept else kept ++ [t]
def woodF (net : List Tr) : List Tr := net.foldl wStep []
theorem woodF_snoc (net : List Tr) (t : Tr) : woodF (net ++ [t]) = wStep (woodF net) t := by unfold woodF; rw [List.foldl_append]; rfl
theorem lab_same {f : Str → Str} {t : Tr} (h : f t.2.1 = f t.2.2) : lab f t = f := by
  funext p
  show (if f p = f t.2.2 then f t.2.1 else f p) = f p
  split
  · rename_i e; rw [e, h]
  · rfl
theorem homF_wood (net : List Tr) : homF (woodF net) = homF net := by
  refine snoc_ind (P := fun net => homF (woodF net) = homF net) rfl (fun l t ih => ?_) net
  rw [woodF_snoc, homF_snoc]
  unfold wStep
  rw [ih]
  split
  · rename_i e
    rw [ih, lab_same e]
  · rw [homF_snoc, ih]
theorem wood_le (net : List Tr) : (woodF net).length ≤ net.length := by
  refine snoc_ind (P := fun net => (woodF net).length ≤ net.length) (Nat.le_refl _) (fun l t ih => ?_) net
  rw [woodF_snoc, List.length_append]
  unfold wStep
  split
  · exact Nat.le_trans ih (Nat.le_add_right _ _)
  · rw [List.length_append]; exact Nat.add_le_add_right ih _
theorem nodup_len {l1 l2 : List Str} (h1 : l1.Nodup) (h2 : l2.Nodup) (h : ∀ x, x ∈ l1 ↔ x ∈ l2) : l1.length = l2.length := ((List.perm_ext_iff_of_nodup h1 h2).mpr h).length_eq
theorem count (ps : List Str) (nd : ps.Nodup) (net : List Tr) : (∀ x, isPt net x → x ∈ ps) → ∃ labs : List Str, labs.Nodup ∧ (∀ x, x ∈ labs ↔ ∃ p ∈ ps, homF net p = x) ∧ labs.length + (woodF net).length = ps.length := by
  refine snoc_ind (P := fun net => (∀ x, isPt net x → x ∈ ps) → ∃ labs : List Str, labs.Nodup ∧ (∀ x, x ∈ labs ↔ ∃ p ∈ ps, homF net p = x) ∧ labs.length + (woodF net).length = ps.length) (fun _ => ⟨ps, nd, fun x => ⟨fun h => ⟨x, h, rfl⟩, fun ⟨p, hp, e⟩ => e ▸ hp⟩, rfl⟩) (fun l t ih hp => ?_) net
  obtain ⟨labs, n1, m1, c1⟩ := ih fun x hx => hp x (isPt_snoc.mpr (.inl hx))
  have o1 : t.2.1 ∈ ps := hp _ (isPt_snoc.mpr (.inr (.inl rfl)))
  have o2 : t.2.2 ∈ ps := hp _ (isPt_snoc.mpr (.inr (.inr rfl)))
  rw [homF_snoc, woodF_snoc]
  unfold wStep
  rw [homF_wood]
  by_cases e : homF l t.2.1 = homF l t.2.2
  · rw [if_pos e, lab_same e]
    exact ⟨labs, n1, m1, c1⟩
  · rw [if_neg e]
    have mo : homF l t.2.2 ∈ labs := (m1 _).mpr ⟨_, o2, rfl⟩
    refine ⟨labs.erase (homF l t.2.2), n1.erase _, fun x => ?_, ?_⟩
    · rw [n1.mem_erase_iff, m1]
      constructor
      · rintro ⟨nx, p, hp', ex⟩
        refine ⟨p, hp', ?_⟩
        show (if homF l p = homF l t.2.2 then homF l t.2.1 else homF l p) = x
        rw [if_neg (by rw [ex]; exact nx), ex]
      · rintro ⟨p, hp', ex⟩
        have ex' : (if homF l p = homF l t.2.2 then homF l t.2.1 else homF l p) = x := ex
        by_cases z : homF l p = homF l t.2.2
        · rw [if_pos z] at ex'
          exact ⟨by rw [← ex']; exact e, _, o1, ex'⟩
        · rw [if_neg z] at ex'
          exact ⟨by rw [← ex']; exact z, p, hp', ex'⟩
    · rw [List.length_erase_of_mem mo, List.length_append]
      have : 0 < labs.length := List.length_pos_of_mem mo
      show labs.length - 1 + ((woodF l).length + 1) = _
      omega
theorem count_ks {net : List Tr} {ps ks : List Str} (n1 : ps.Nodup) (m1 : ∀ x, x ∈ ps ↔ isPt net x) (n2 : ks.Nodup) (m2 : ∀ x, x ∈ ks ↔ ∃ t ∈ net, homF net t.2.1 = x) : ks.length + (woodF net).length = ps.length := by
  obtain ⟨labs, n3, m3, c⟩ := count ps n1 net fun x hx => (m1 x).mpr hx
  have e : ks.length = labs.length := nodup_len n2 n3 fun x => by
    rw [m2, m3]
    constructor
    · rintro ⟨t, ht, rfl⟩
      exact ⟨t.2.1, (m1 _).mpr ⟨t, ht, .inl rfl⟩, rfl⟩
    · rintro ⟨p, hp, rfl⟩
      obtain ⟨t, ht, h⟩ := (m1 p).mp hp
      refine ⟨t, ht, ?_⟩
      rcases h with rfl | rfl
      · rfl
      · exact homF_tie net t ht
  rw [e]; exact c
end My

set_option Elab.async false
set_option linter.all false
set_option maxRecDepth 100000
namespace My
open PySem L2
/-! ### the ties of a net in heaps, each heap one label -/
def othr (f : Tr → Str) (t : Tr) (r : List Tr) : List Tr := r.filter fun u => !decide (f u = f t)
theorem othr_le (f : Tr → Str) (t : Tr) (r : List Tr) : (othr f t r).length ≤ r.length := List.length_filter_le _ _
def PCK (f : Tr → Str) : List Tr → List (Str × List Str)
  | [] => []
  | t :: r => (f t, ((t :: r).filter fun u => decide (f u = f t)).map (·.1)) :: PCK f (othr f t r)
termination_by l => l.length
decreasing_by
  have := othr_le f t r
  simp only [List.length_cons]
  omega
theorem PCK_nil (f : Tr → Str) : PCK f [] = [] := by rw [PCK]
theorem PCK_cons (f : Tr → Str) (t : Tr) (r : List Tr) : PCK f (t :: r) = (f t, ((t :: r).filter fun u => decide (f u = f t)).map (·.1)) :: PCK f (r.filter fun u => !decide (f u = f t)) := by rw [PCK]; rfl
theorem len_ind {P : List Tr → Prop} (h : ∀ l, (∀ l', l'.length < l.length → P l') → P l) (l : List Tr) : P l := by
  have : ∀ n, ∀ l : List Tr, l.length < n → P l := fun n => by
    induction n with
    | zero => intro l hl; omega
    | succ n ih => intro l hl; exact h l fun l' hl' => ih l' (by omega)
  exact this (l.length + 1) l (by omega)
theorem PCK_keys (f : Tr → Str) (net : List Tr) : ((PCK f net).map (·.1)).Nodup ∧ ∀ x, x ∈ (PCK f net).map (·.1) ↔ ∃ t ∈ net, f t = x := by
  refine len_ind (P := fun net => ((PCK f net).map (·.1)).Nodup ∧ ∀ x, x ∈ (PCK f net).map (·.1) ↔ ∃ t ∈ net, f t = x) (fun l ih => ?_) net
  cases l with
  | nil => rw [PCK_nil]; exact ⟨List.nodup_nil, fun x => by simp⟩
  | cons t r =>
    obtain ⟨h1, h2⟩ := ih (r.filter fun u => !decide (f u = f t)) (by have := List.length_filter_le (fun u => !decide (f u = f t)) r; rw [List.length_cons]; omega)
    rw [PCK_cons, List.map_cons]
    refine ⟨List.nodup_cons.mpr ⟨fun z => ?_, h1⟩, fun x => ?_⟩
    · obtain ⟨u, hu, e⟩ := (h2 _).mp z
      have := (List.mem_filter.mp hu).2
      simp [e] at this
    · rw [List.mem_cons, h2]
      constructor
      · rintro (rfl | ⟨u, hu, e⟩)
        · exact ⟨t, List.mem_cons_self, rfl⟩
        · exact ⟨u, List.mem_cons_of_mem _ (List.mem_filter.mp hu).1, e⟩
      · rintro ⟨u, hu, e⟩
        by_cases z : x = f t
        · exact .inl z
        · rcases List.mem_cons.mp hu with y | y
          · subst y; exact absurd e.symm z
          · exact .inr ⟨u, List.mem_filter.mpr ⟨y, by rw [e]; simpa using z⟩, e⟩
/-- one tie more -/
theorem PCK_snoc (f : Tr → Str) (t : Tr) (net : List Tr) : PCK f (net ++ [t]) = if f t ∈ (PCK f net).map (·.1) then (PCK f net).map (fun p => if p.1 = f t then (p.1, p.2 ++ [t.1]) else p) else PCK f net ++ [(f t, [t.1])] := by
  refine len_ind (P := fun net => PCK f (net ++ [t]) = if f t ∈ (PCK f net).map (·.1) then (PCK f net).map (fun p => if p.1 = f t then (p.1, p.2 ++ [t.1]) else p) else PCK f net ++ [(f t, [t.1])]) (fun l ih => ?_) net
  cases l with
  | nil =>
    rw [List.nil_append, PCK_cons, PCK_nil, List.filter_nil, PCK_nil, if_neg (by simp)]
    simp
  | cons u r =>
    have ih' := ih (r.filter fun v => !decide (f v = f u)) (by have := List.length_filter_le (fun v => !decide (f v = f u)) r; rw [List.length_cons]; omega)
    obtain ⟨k1, k2⟩ := PCK_keys f (r.filter fun v => !decide (f v = f u))
    rw [List.cons_append, PCK_cons, PCK_cons, List.filter_append]
    have nu : f u ∉ (PCK f (r.filter fun v => !decide (f v = f u))).map (·.1) := fun z => by
      obtain ⟨v, hv, e⟩ := (k2 _).mp z
      have := (List.mem_filter.mp hv).2
      simp [e] at this
    by_cases e : f t = f u
    · have e1 : ([t].filter fun v => !decide (f v = f u)) = [] := by simp [e]
      have e2 : ((u :: (r ++ [t])).filter fun v => decide (f v = f u)) = ((u :: r).filter fun v => decide (f v = f u)) ++ [t] := by
        rw [← List.cons_append, List.filter_append]; simp [e]
      rw [e1, e2, List.append_nil, List.map_cons, if_pos (by rw [e]; exact List.mem_cons_self), List.map_cons]
      dsimp only
      rw [if_pos e.symm, List.map_append]
      congr 1
      refine (List.map_id _).symm.trans (List.map_congr_left fun p hp => ?_)
      have : p.1 ≠ f t := fun z => by
        have m := List.mem_map_of_mem (f := (·.1)) hp
        rw [z, e] at m
        exact nu m
      rw [if_neg this]; rfl
    · have e1 : ([t].filter fun v => !decide (f v = f u)) = [t] := by simp [e]
      have e2 : ((u :: (r ++ [t])).filter fun v => decide (f v = f u)) = ((u :: r).filter fun v => decide (f v = f u)) := by
        rw [← List.cons_append, List.filter_append]; simp [e]
      rw [e1, e2, ih', List.map_cons]
      dsimp only
      by_cases m : f t ∈ (PCK f (r.filter fun v => !decide (f v = f u))).map (·.1)
      · rw [if_pos m, if_pos (List.mem_cons_of_mem _ m), List.map_cons]
        dsimp only
        rw [if_neg (fun z => e z.symm)]
      · rw [if_neg m, if_neg (fun z => (List.mem_cons.mp z).elim e m)]
        rfl
/-- a heap is the net's ties of its label, in their order -/
theorem PCK_val (f : Tr → Str) (net : List Tr) : ∀ p ∈ PCK f net, p.2 = (net.filter fun u => decide (f u = p.1)).map (·.1) := by
  refine len_ind (P := fun net => ∀ p ∈ PCK f net, p.2 = (net.filter fun u => decide (f u = p.1)).map (·.1)) (fun l ih => ?_) net
  cases l with
  | nil => rw [PCK_nil]; intro p hp; cases hp
  | cons t r =>
    rw [PCK_cons]
    intro p hp
    rcases List.mem_cons.mp hp with z | z
    · subst z; rfl
    · have q := ih (r.filter fun u => !decide (f u = f t)) (by have := List.length_filter_le (fun u => !decide (f u = f t)) r; rw [List.length_cons]; omega) p z
      obtain ⟨_, k2⟩ := PCK_keys f (r.filter fun v => !decide (f v = f t))
      obtain ⟨v, hv, e⟩ := (k2 p.1).mp (List.mem_map_of_mem z)
      have ne : ¬ f t = p.1 := fun y => by
        have := (List.mem_filter.mp hv).2
        simp [e, y] at this
      rw [q, List.filter_filter, List.filter_cons, if_neg (by simpa using ne)]
      congr 1
      refine List.filter_congr fun u hu => ?_
      by_cases y : f u = p.1
      · have w : ¬ f u = f t := fun w => ne (w.symm.trans y)
        rw [decide_eq_true y, decide_eq_false w]; rfl
      · rw [decide_eq_false y]; rfl
theorem PCK_heads (f : Tr → Str) (net : List Tr) : ∀ p ∈ PCK f net, ∃ u r', u ∈ net ∧ p.2 = u.1 :: r' := fun p hp => by
  have v := PCK_val f net p hp
  obtain ⟨t, ht, e⟩ := ((PCK_keys f net).2 p.1).mp (List.mem_map_of_mem hp)
  cases q : net.filter fun u => decide (f u = p.1) with
  | nil =>
    have : t ∈ net.filter fun u => decide (f u = p.1) := List.mem_filter.mpr ⟨ht, by simpa using e⟩
    rw [q] at this; cases this
  | cons u r' =>
    have hu : u ∈ net.filter fun u => decide (f u = p.1) := by rw [q]; exact List.mem_cons_self
    exact ⟨u, r'.map (·.1), (List.mem_filter.mp hu).1, by rw [v, q]; rfl⟩
abbrev Rise (l : List Str) : Prop := l.Pairwise fun a b => sLtB a b = true
theorem PCK_rise (f : Tr → Str) (net : List Tr) : Rise (net.map (·.1)) → ((PCK f net).map (·.2)).Pairwise fun a b => ltL a b = true := by
  refine len_ind (P := fun net => Rise (net.map (·.1)) → ((PCK f net).map (·.2)).Pairwise fun a b => ltL a b = true) (fun l ih h => ?_) net
  cases l with
  | nil => rw [PCK_nil]; exact List.Pairwise.nil
  | cons t r =>
    rw [List.map_cons] at h
    obtain ⟨h1, h2⟩ := List.pairwise_cons.mp h
    rw [PCK_cons, List.map_cons]
    refine List.pairwise_cons.mpr ⟨fun g hg => ?_, ih (r.filter fun u => !decide (f u = f t)) (by have := List.length_filter_le (fun u => !decide (f u = f t)) r; rw [List.length_cons]; omega) (List.Pairwise.sublist (List.filter_sublist.map _) h2)⟩
    obtain ⟨p, hp, rfl⟩ := List.mem_map.mp hg
    obtain ⟨u, r', hu, e⟩ := PCK_heads f _ p hp
    have lt := h1 u.1 (List.mem_map_of_mem (List.mem_filter.mp hu).1)
    have ne : ¬ t.1 = u.1 := fun z => by rw [z, sLtB_irr] at lt; cases lt
    rw [e, List.filter_cons, if_pos (by simp), List.map_cons]
    unfold ltL
    rw [if_neg ne]
    exact lt
/-- a heap rises as the net does -/
theorem PCK_each (f : Tr → Str) (net : List Tr) (h : Rise (net.map (·.1))) : ∀ p ∈ PCK f net, Rise p.2 := fun p hp => by
  rw [PCK_val f net p hp]
  exact List.Pairwise.sublist (List.filter_sublist.map _) h
/-- what rises with the same members is the same -/
theorem rise_ext : ∀ {a b : List Str}, Rise a → Rise b → (∀ x, x ∈ a ↔ x ∈ b) → a = b
  | [], [], _, _, _ => rfl
  | [], y :: b, _, _, h => by have := (h y).mpr List.mem_cons_self; cases this
  | x :: a, [], _, _, h => by have := (h x).mp List.mem_cons_self; cases this
  | x :: a, y :: b, ha, hb, h => by
    obtain ⟨a1, a2⟩ := List.pairwise_cons.mp ha
    obtain ⟨b1, b2⟩ := List.pairwise_cons.mp hb
    have e : x = y := by
      rcases List.mem_cons.mp ((h x).mp List.mem_cons_self) with z | z
      · exact z
      · rcases List.mem_cons.mp ((h y).mpr List.mem_cons_self) with w | w
        · exact w.symm
        · have q := sLtB_trans (b1 x z) (a1 y w)
          rw [sLtB_irr] at q; cases q
    subst e
    refine congrArg _ (rise_ext a2 b2 fun z => ⟨fun hz => ?_, fun hz => ?_⟩)
    · rcases List.mem_cons.mp ((h z).mp (List.mem_cons_of_mem _ hz)) with w | w
      · have := a1 z hz; rw [w, sLtB_irr] at this; cases this
      · exact w
    · rcases List.mem_cons.mp ((h z).mpr (List.mem_cons_of_mem _ hz)) with w | w
      · have := b1 z hz; rw [w, sLtB_irr] at this; cases this
      · exact w
end My

set_option Elab.async false
set_option linter.all false
set_option maxRecDepth 100000
namespace My
open PySem L2
abbrev trV (t : Tr) : List V := [.str t.1, .str t.2.1, .str t.2.2]
def NetAt (H : Hp) (p : Addr) (net : List Tr) : Prop := ∃ as : List Addr, H p = some (.lst (as.map V.ref)) ∧ Paired (fun a t => H a = some (.tup (trV t))) as net
theorem NetAt.ext {H H' : Hp} {p : Addr} {net : List Tr} (h : NetAt H p net) (e : Ext H H') : NetAt H' p net := by
  obtain ⟨as, h1, h2⟩ := h
  exact ⟨as, e _ _ h1, Paired.mapP h2 fun a t z => e _ _ z⟩
theorem paired_get {α β : Type} {R : α → β → Prop} : ∀ {as : List α} {bs : List β} {i : Nat} {a : α}, Paired R as bs → as[i]? = some a → ∃ b, bs[i]? = some b ∧ R a b
  | _, _, _, _, .nil, e => by simp at e
  | _, _, 0, _, .cons h _, e => by simp at e; subst e; exact ⟨_, rfl, h⟩
  | _, _, i + 1, _, .cons _ t, e => by
    obtain ⟨b, h1, h2⟩ := paired_get (i := i) t (by simpa using e)
    exact ⟨b, by simpa using h1, h2⟩
theorem net_get {H : Hp} {as : List Addr} {net : List Tr} {i : Nat} {x : V} (h : Paired (fun a t => H a = some (.tup (trV t))) as net) (e : (as.map V.ref)[i]? = some x) : ∃ a t, x = .ref a ∧ net[i]? = some t ∧ H a = some (.tup (trV t)) := by
  rw [List.getElem?_map] at e
  cases ha : as[i]? with
  | none => rw [ha] at e; cases e
  | some a =>
    rw [ha] at e
    obtain ⟨t, h1, h2⟩ := paired_get h ha
    exact ⟨a, t, (Option.some.inj e).symm, h1, h2⟩
theorem take_snoc {α : Type} {l : List α} {i : Nat} {t : α} (h : l[i]? = some t) : l.take (i + 1) = l.take i ++ [t] := by rw [List.take_add_one, h]; rfl
theorem at_lt {α : Type} {l : List α} {i : Nat} {t : α} (h : l[i]? = some t) : i < l.length := (List.getElem?_eq_some_iff.mp h).1
theorem rise_go : ∀ (l : List Str) (p : Str), PyProof.Rows.risingS p l = true → (p :: l).Nodup → Rise (p :: l)
  | [], p, _, _ => List.pairwise_singleton _ _
  | x :: r, p, h, nd => by
    have h' : (!PySem.Spec.ltCps x.cps.toList p.cps.toList && PyProof.Rows.risingS x r) = true := h
    rw [Bool.and_eq_true] at h'
    have nd' := List.nodup_cons.mp nd
    have ih := rise_go r x h'.2 nd'.2
    have px : sLtB p x = true := by
      have z := h'.1
      rw [PyProof.Rows.ltCps_eq] at z
      rcases sLtB_tri p x with t | t | t
      · exact t
      · exact absurd t (fun e => nd'.1 (by rw [e]; exact List.mem_cons_self))
      · rw [decide_eq_true (of_decide_eq_true t)] at z; cases z
    refine List.pairwise_cons.mpr ⟨fun y hy => ?_, ih⟩
    rcases List.mem_cons.mp hy with e | hy
    · rw [e]; exact px
    · exact sLtB_trans px ((List.pairwise_cons.mp ih).1 y hy)
theorem rise_of {l : List Str} (h : PyProof.Rows.sortedS l = true) (nd : l.Nodup) : Rise l := by
  cases l with
  | nil => exact List.Pairwise.nil
  | cons x r => exact rise_go r x h nd
def PtsOk (net : List Tr) (ps : List Str) : Prop := ps.Nodup ∧ ∀ x, x ∈ ps ↔ isPt net x
def spPoints : Sp := fun vs H Q _ => ∃ (p : Addr) (net : List Tr), vs = [.ref p] ∧ NetAt H p net ∧ net.length ≤ 12 ∧ ∀ r ps H', Ext H H' → H r = none → LsS H' r ps → PtsOk net ps → Rise ps → ps.length ≤ 24 → Q (.ref r) H'
section
variable {P : Program} {w : World} {K : PySem.W.Frag} {mg : Str → Option Value} {base : Heap} {f f1 : Addr} {fd fd1 : FuncData}
theorem scPoints : FnScope ["net"] ["net"] (defScope sPoints) := ⟨rfl, rfl, rfl, by decide +kernel, rfl, by decide +kernel, by decide +kernel⟩
abbrev ptN : List Str := ["tie", "one", "other", "end"]
set_option maxHeartbeats 4000000 in
theorem ok_points (F : Fun K "points" "points" sPoints f fd) (mso : mg "sorted" = none) : FnOk P w K mg base CX0 1 f fd ["net"] spPoints := by
  refine F.ok scPoints (fun vs H Q E h => ?_) (fun cdv A outer s H vs Q E hr h => ?_)
  · obtain ⟨p, net, rfl, _⟩ := h
    rfl
  obtain ⟨p, net, rfl, ⟨as, hp, pr⟩, hl, q⟩ := h
  refine ⟨_, pss_one (ps_ret (pe_callB (call_sortedSet rfl) rfl mso boot_sorted' (pa_cons
    (pe_g gc_set2 rfl (N := ["net"]) (sc := defScope sPoints) (N' := ptN) (sub := [none, none, none, none]) rfl rfl (CmpOk.of (by decide +kernel)) rfl (pi_list (pv 0))
      (fun C s H fp => ⟨(show PG _ _ (gTup K 3 _) from pg_tup rfl (pgs_cons (pg_name (i := 0) (by show ptN.Nodup; decide) rfl (Or.inl rfl)) (pgs_cons (pg_name (i := 1) (by show ptN.Nodup; decide) rfl (Or.inl rfl)) (pgs_cons (pg_name (i := 2) (by show ptN.Nodup; decide) rfl (Or.inl rfl)) pgs_nil)))), pts_nil,
        fun acc => pbd_nest rfl rfl (show PI _ _ _ (iTup K _) from pi_tup (pe_tup (pa_cons (pv 1) (pa_cons (pv 2) pa_nil)))) (pg_name (i := 3) (by show ptN.Nodup; decide) rfl (Or.inl rfl)) pts_nil (pbd_set rfl (pv 3)) (fun _ => rfl) rfl rfl (fun _ => rfl) (fun _ _ _ _ _ h => h) (fun _ _ _ _ _ h => h) (fun _ => rfl)⟩)) pa_nil))), ?_⟩
  have lA : as.length = net.length := pr.length
  refine ⟨_, rfl, p, rfl, ⟨_, SqL.of hp⟩, ?_⟩
  refine g_list (xs := as.map V.ref) (fun i ss σ H' => Ext H H' ∧ (∃ x0 x1 x2 x3 : Option V, σ = [x0, x1, x2, x3]) ∧ ss.Nodup ∧ (∀ x, x ∈ ss ↔ isPt (net.take i) x) ∧ ss.length ≤ 2 * i) ⟨Ext.refl _, ⟨none, none, none, none, rfl⟩, List.nodup_nil, fun x => ⟨fun z => (by cases z), fun ⟨t, ht, _⟩ => (by simp at ht)⟩, Nat.zero_le _⟩ (fun i ss σ H' _ h => SqL.of (h.1 _ _ hp)) ?_ ?_
  · rintro i x ss σ H' hx ⟨he, ⟨x0, x1, x2, x3, rfl⟩, nd, mem, ln⟩
    obtain ⟨a, t, rfl, ht, ha⟩ := net_get pr hx
    have hi := at_lt ht
    refine ⟨a, _, rfl, SqT.of (he _ _ ha), rfl, _, _, rfl, _, _, rfl, _, _, rfl, rfl, iteT (B := False) ?_⟩
    refine ⟨_, rfl, _, rfl, (by show 2 ≤ sizeLine; decide), fun T hT => ⟨T, rfl, ⟨_, SqT.of upd_same⟩, ?_⟩⟩
    have X1 := Ext.new hT (.tup [V.str t.2.1, V.str t.2.2])
    refine g_tuple (xs := [V.str t.2.1, V.str t.2.2]) (fun j ss σ H2 => Ext (upd H' T (.tup [V.str t.2.1, V.str t.2.2])) H2 ∧ (∃ y : Option V, σ = [some (.str t.1), some (.str t.2.1), some (.str t.2.2), y]) ∧ ss.Nodup ∧ (∀ x, x ∈ ss ↔ isPt (net.take i) x ∨ (0 < j ∧ x = t.2.1) ∨ (1 < j ∧ x = t.2.2)) ∧ ss.length ≤ 2 * i + j)
      ⟨Ext.refl _, ⟨_, rfl⟩, nd, fun x => by rw [mem]; simp, by omega⟩ (fun j ss σ H2 _ h => SqT.of (h.1 _ _ upd_same)) ?_ ?_
    · rintro j z ss2 σ H2 hz ⟨h2, ⟨y, rfl⟩, nd2, mem2, ln2⟩
      have hj : j < 2 := at_lt hz
      obtain ⟨v, rfl, hv⟩ : ∃ v : Str, z = .str v ∧ ((j = 0 ∧ v = t.2.1) ∨ (j = 1 ∧ v = t.2.2)) := by
        rcases (show j = 0 ∨ j = 1 by omega) with rfl | rfl
        · exact ⟨t.2.1, (Option.some.inj hz).symm, .inl ⟨rfl, rfl⟩⟩
        · exact ⟨t.2.2, (Option.some.inj hz).symm, .inr ⟨rfl, rfl⟩⟩
      refine iteT (B := False) ⟨_, rfl, v, rfl, by omega, fun ss3 h3 => nxg hj ⟨h2, ⟨_, rfl⟩, ?_⟩⟩
      have key : ss3.Nodup ∧ (∀ x, x ∈ ss3 ↔ x ∈ ss2 ∨ x = v) ∧ ss3.length ≤ ss2.length + 1 := by
        by_cases m : v ∈ ss2
        · rw [if_pos m] at h3
          subst h3
          exact ⟨nd2, fun x => ⟨.inl, fun z => z.elim id fun e => e ▸ m⟩, Nat.le_succ _⟩
        · rw [if_neg m] at h3
          refine ⟨h3.nodup_iff.mpr ?_, fun x => by rw [h3.mem_iff, List.mem_append, List.mem_singleton], by rw [h3.length_eq, List.length_append]; exact Nat.le_refl _⟩
          rw [List.nodup_append]
          exact ⟨nd2, by simp, fun y hy z hz => by rw [List.mem_singleton] at hz; subst hz; rintro rfl; exact m hy⟩
      refine ⟨key.1, fun x => ?_, by have := key.2.2; omega⟩
      rw [key.2.1, mem2]
      rcases hv with ⟨rfl, rfl⟩ | ⟨rfl, rfl⟩
      · simp
      · simp [or_assoc]
    · rintro ss2 σ H2 ⟨h2, ⟨y, rfl⟩, nd2, mem2, ln2⟩
      refine nxg (at_lt hx) ⟨he.trans (X1.trans h2), ⟨_, _, _, _, rfl⟩, nd2, fun x => ?_, by have : ss2.length ≤ 2 * i + 2 := ln2; omega⟩
      rw [mem2, take_snoc ht, isPt_snoc]
      simp
  · rintro ss σ H' ⟨he, _, nd, mem, ln⟩ r hr1
    rw [List.length_map, lA, List.take_of_length_le (Nat.le_refl _)] at mem
    rw [List.length_map, lA] at ln
    refine ⟨r, ss, rfl, upd_same, by omega, fun r2 ss2 hr2 pm srt => ?_⟩
    exact q r2 ss2 _ ((he.trans (Ext.new hr1 _)).trans (Ext.new hr2 _)) ((he.trans (Ext.new hr1 _)).none hr2) upd_same ⟨pm.nodup_iff.mpr nd, fun x => by rw [pm.mem_iff, mem]⟩ (rise_of srt (pm.nodup_iff.mpr nd)) (by rw [pm.length_eq]; omega)
end
end My

set_option Elab.async false
set_option linter.all false
set_option maxRecDepth 100000
namespace My
open PySem L2
theorem Ext.over {H H' : Hp} {d : Addr} (e : Ext H H') (h : H d = Option.none) (o : HO) : Ext H (upd H' d o) := fun b u q => by rw [upd_ne (ne_of_none q h)]; exact e b u q
def hD (ps : List Str) (f : Str → Str) : List (Key × V) := ps.map fun p => (Sum.inr p, V.str (f p))
theorem hD_val (f : Str → Str) (x : Str) : ∀ ps : List Str, valV (hD ps f) (Sum.inr x) = if x ∈ ps then some (.str (f x)) else none
  | [] => by simp [hD, valV]
  | p :: r => by
    have ih := hD_val f x r
    by_cases e : p = x
    · subst e
      rw [if_pos List.mem_cons_self]
      exact valV_pos rfl
    · have : valV (hD (p :: r) f) (Sum.inr x) = valV (hD r f) (Sum.inr x) := valV_neg fun z => e (Sum.inr.inj z)
      rw [this, ih]
      have e' : ¬ x = p := fun z => e z.symm
      simp [e']
theorem hD_snoc {ps : List Str} {f : Str → Str} {i : Nat} {p : Str} (nd : ps.Nodup) (h : ps[i]? = some p) : putK (hD (ps.take i) f) (Sum.inr p) (.str (f p)) = hD (ps.take (i + 1)) f := by
  have np : p ∉ ps.take i := fun z => by
    have e := take_snoc h
    have nd' : (ps.take (i + 1)).Nodup := nd.sublist (List.take_sublist _ _)
    rw [e, List.nodup_append] at nd'
    exact nd'.2.2 p z p (by simp) rfl
  rw [putK_new _ (by rw [hD_val, if_neg np]), take_snoc h]
  unfold hD
  rw [List.map_append]; rfl
theorem hD_itV {ps : List Str} {f : Str → Str} {i : Nat} {p : Str} (h : ps[i]? = some p) : itV (hD ps f) i = [V.str p, V.str (f p)] := by
  unfold itV hD
  rw [List.getElem?_map, h]; rfl
def spHomes : Sp := fun vs H Q _ => ∃ (p : Addr) (net : List Tr), vs = [.ref p] ∧ NetAt H p net ∧ net.length ≤ 12 ∧ ∀ r ps H', Ext H H' → H r = none → H' r = some (.dK (hD ps (homF net))) → PtsOk net ps → ps.length ≤ 24 → Q (.ref r) H'
section
variable {P : Program} {w : World} {K : PySem.W.Frag} {mg : Str → Option Value} {base : Heap} {f f1 : Addr} {fd fd1 : FuncData}
abbrev hoN : List Str := ["net", "home", "tie", "one", "other", "old", "new"]
theorem scHomes : FnScope hoN ["net"] (defScope sHomes) := ⟨rfl, rfl, rfl, by decide +kernel, rfl, by decide +kernel, by decide +kernel⟩
set_option maxHeartbeats 4000000 in
theorem ok_homes (F : Fun K "homes" "homes" sHomes f fd) (G : FnOk P w K mg base CX0 1 f1 fd1 ["net"] spPoints) (bG : Binds K fd1 ["net"] []) (kG : PySem.W.keepIn K (.ref f1) = true) (mG : mg "points" = some (.ref f1)) : FnOk P w K mg base CX0 2 f fd ["net"] spHomes := by
  refine F.ok scHomes (fun vs H Q E h => ?_) (fun cdv A outer s H vs Q E hr h => ?_)
  · obtain ⟨p, net, rfl, _⟩ := h
    rfl
  obtain ⟨p, net, rfl, nt, hl, q⟩ := h
  refine ⟨_, pss_cons (ps_g (i := 1) gc_dict (fun _ => rfl) (N := hoN) (sc := defScope sHomes) (N' := ["point"]) (sub := [none]) rfl rfl (CmpOk.of (by decide +kernel)) rfl (pi_list (pe_call G hr rfl mG kG bG .nil pass0 (pa_cons (pv 0) pa_nil)))
      (fun C s H fp => ⟨pg_name (i := 0) (by show (["point"] : List Str).Nodup; decide) rfl (Or.inl rfl), pts_nil, fun acc => pbd_dict rfl (pv 0) (pv 0)⟩) scHomes.nd rfl (Or.inl rfl))
    (pss_cons (ps_for PassesOwn.never rfl (pi_list (pv 0)) (pg_tup rfl (pgs_cons (pg_name (i := 2) scHomes.nd rfl (Or.inl rfl)) (pgs_cons (pg_name (i := 3) scHomes.nd rfl (Or.inl rfl)) (pgs_cons (pg_name (i := 4) scHomes.nd rfl (Or.inl rfl)) pgs_nil))))
      (pss_cons (ps_asg (pe_tup (pa_cons (pe_dget (hu_of hr) (pv 1) (pv 4) (fun _ _ => rfl)) (pa_cons (pe_dget (hu_of hr) (pv 1) (pv 3) (fun _ _ => rfl)) pa_nil))) (pg_tup rfl (pgs_cons (pg_name (i := 5) scHomes.nd rfl (Or.inr rfl)) (pgs_cons (pg_name (i := 6) scHomes.nd rfl (Or.inr rfl)) pgs_nil))))
      (pss_one (ps_g (i := 1) gc_dict (fun _ => rfl) (N := hoN) (sc := defScope sHomes) (N' := ["point", "at", "new", "old"]) (sub := [none, none, some 6, some 5]) rfl rfl (CmpOk.of (by decide +kernel)) rfl (pi_items (pv 1))
        (fun C s H fp => ⟨(show PG _ _ (gTup K 2 _) from pg_tup rfl (pgs_cons (pg_name (i := 0) (by show (["point", "at", "new", "old"] : List Str).Nodup; decide) rfl (Or.inl rfl)) (pgs_cons (pg_name (i := 1) (by show (["point", "at", "new", "old"] : List Str).Nodup; decide) rfl (Or.inl rfl)) pgs_nil))), pts_nil,
          fun acc => pbd_dict rfl (pv 0) (pe_ifExp (pt_cmpR op_eq (pv 1) (pv 3) (nomark _)) (pv 2) (pv 1))⟩) scHomes.nd rfl (Or.inl rfl)))))
    (pss_one (ps_ret (pv 1)))), ?_⟩
  obtain ⟨as, hp, pr⟩ := id nt
  have lA : as.length = net.length := pr.length
  refine ⟨_, rfl, p, net, rfl, nt, hl, fun r ps H1 e1 hr1 hps pok _ lps => ⟨r, rfl, ⟨_, SqL.of hps⟩, ?_⟩⟩
  have pnd := pok.1
  refine g_list (xs := ps.map V.str) (fun i kvs σ H2 => H2 = H1 ∧ (∃ x : Option V, σ = [x]) ∧ kvs = hD (ps.take i) id) ⟨rfl, ⟨none, rfl⟩, rfl⟩ (fun i kvs σ H2 _ h => by rw [h.1]; exact SqL.of hps) ?_ ?_
  · rintro i x kvs σ H2 hx ⟨rfl, ⟨x0, rfl⟩, rfl⟩
    obtain ⟨y, hy, rfl⟩ : ∃ y, ps[i]? = some y ∧ V.str y = x := by
      rw [List.getElem?_map] at hx
      cases e : ps[i]? with
      | none => rw [e] at hx; cases hx
      | some y => rw [e] at hx; exact ⟨y, rfl, Option.some.inj hx⟩
    refine iteT (B := False) ⟨_, rfl, _, rfl, Sum.inr y, rfl, ?_, nxg (at_lt hx) ⟨rfl, ⟨_, rfl⟩, hD_snoc pnd hy⟩⟩
    have := at_lt hy
    unfold hD
    rw [List.length_map, List.length_take]
    exact small1000 (by omega)
  · rintro kvs σ H2 ⟨rfl, _, rfl⟩ d hd
    rw [List.length_map, List.take_of_length_le (Nat.le_refl _)]
    have hd0 := e1.none hd
    refine ⟨_, rfl, p, rfl, ⟨_, SqL.of ((e1.over hd0 _) _ _ hp)⟩, ?_⟩
    refine for_list (xs := as.map V.ref) (fun i σ H3 => ∃ (d : Addr) (x2 x3 x4 x5 x6 : Option V), σ = [some (.ref p), some (.ref d), x2, x3, x4, x5, x6] ∧ Ext H H3 ∧ H d = none ∧ H3 d = some (.dK (hD ps (homF (net.take i))))) ⟨d, _, _, _, _, _, rfl, e1.over hd0 _, hd0, upd_same⟩ ?_ ?_ ?_
    · rintro i σ H3 _ ⟨d, x2, x3, x4, x5, x6, _, e3, _⟩
      exact SqL.of (e3 _ _ hp)
    · rintro i x σ H3 hx ⟨d, x2, x3, x4, x5, x6, rfl, e3, hd0, hd3⟩
      obtain ⟨a, t, rfl, ht, ha⟩ := net_get pr hx
      have i1 : t.2.1 ∈ ps := (pok.2 _).mpr ⟨t, List.mem_of_getElem? ht, .inl rfl⟩
      have i2 : t.2.2 ∈ ps := (pok.2 _).mpr ⟨t, List.mem_of_getElem? ht, .inr rfl⟩
      have v1 := hD_val (homF (net.take i)) t.2.1 ps
      have v2 := hD_val (homF (net.take i)) t.2.2 ps
      rw [if_pos i1] at v1
      rw [if_pos i2] at v2
      refine ⟨a, _, rfl, SqT.of (e3 _ _ ha), rfl, _, _, rfl, _, _, rfl, _, _, rfl, rfl, ?_⟩
      have g2 := DGet.k (k := Sum.inr t.2.2) hd3
      rw [v2] at g2
      have g1 := DGet.k (k := Sum.inr t.2.1) hd3
      rw [v1] at g1
      refine ⟨_, rfl, _, rfl, d, _, rfl, g2, _, rfl, _, rfl, d, _, rfl, g1, (by show 2 ≤ sizeLine; decide), fun T hT => ⟨T, _, rfl, SqT.of upd_same, rfl, _, _, rfl, _, _, rfl, rfl, ?_⟩⟩
      have e4 := Ext.new hT (.tup [V.str (homF (net.take i) t.2.2), V.str (homF (net.take i) t.2.1)])
      refine ⟨_, rfl, d, _, rfl, e4 _ _ hd3, fun o => ?_⟩
      have ln : (hD ps (homF (net.take i))).length = ps.length := by unfold hD; rw [List.length_map]
      have g0 := (e3.trans e4).over hd0 (.frz o (.dK (hD ps (homF (net.take i)))))
      rw [ln]
      refine g_pairs (fun j kvs σ H5 => (∃ x0 x1 : Option V, σ = [x0, x1, some (.str (homF (net.take i) t.2.1)), some (.str (homF (net.take i) t.2.2))]) ∧ Ext H H5 ∧ H5 d = some (.frz o (.dK (hD ps (homF (net.take i))))) ∧ kvs = hD (ps.take j) (lab (homF (net.take i)) t))
        ⟨⟨none, none, rfl⟩, g0, upd_same, rfl⟩ (fun j kvs σ H5 _ h => h.2.2.1) ?_ ?_
      · rintro j kvs σ H5 T2 hj ⟨⟨x0, x1, rfl⟩, e5, f5, rfl⟩ hT2
        have hy : ps[j]? = some ps[j] := List.getElem?_eq_getElem hj
        refine ⟨T2, _, rfl, SqT.of upd_same, ?_⟩
        rw [hD_itV hy]
        refine ⟨rfl, _, _, rfl, _, _, rfl, rfl, iteT (B := False) ?_⟩
        have e6 := e5.trans (Ext.new hT2 (.tup [V.str ps[j], V.str (homF (net.take i) ps[j])]))
        have f6 := Ext.new hT2 (.tup [V.str ps[j], V.str (homF (net.take i) ps[j])]) _ _ f5
        have sm : (hD (ps.take j) (lab (homF (net.take i)) t)).length < sizeLine := by
          unfold hD
          rw [List.length_map, List.length_take]
          exact small1000 (by omega)
        refine ⟨_, rfl, _, rfl, _, rfl, rfl, _, rfl, ?_⟩
        refine ite2 (fun c => ?_) (fun c => ?_)
        · refine ⟨_, rfl, Sum.inr ps[j], rfl, sm, nxg hj ⟨⟨_, _, rfl⟩, e6, f6, ?_⟩⟩
          have c' : homF (net.take i) ps[j] = homF (net.take i) t.2.2 := by simpa using c
          have h := hD_snoc (f := lab (homF (net.take i)) t) pnd hy
          rwa [show lab (homF (net.take i)) t ps[j] = homF (net.take i) t.2.1 from if_pos c'] at h
        · refine ⟨_, rfl, Sum.inr ps[j], rfl, sm, nxg hj ⟨⟨_, _, rfl⟩, e6, f6, ?_⟩⟩
          have c' : ¬ homF (net.take i) ps[j] = homF (net.take i) t.2.2 := by simpa using c
          have h := hD_snoc (f := lab (homF (net.take i)) t) pnd hy
          rwa [show lab (homF (net.take i)) t ps[j] = homF (net.take i) ps[j] from if_neg c'] at h
      · rintro kvs σ H5 ⟨⟨x0, x1, rfl⟩, e5, f5, rfl⟩ d2 hd2
        rw [List.take_of_length_le (Nat.le_refl _)]
        have hd20 := e5.none hd2
        refine ⟨d2, _, _, _, _, _, rfl, e5.over hd20 _, hd20, ?_⟩
        rw [take_snoc ht, homF_snoc]
        exact upd_same
    · rintro σ H3 ⟨d, x2, x3, x4, x5, x6, rfl, e3, hd0, hd3⟩
      rw [List.length_map, lA, List.take_of_length_le (Nat.le_refl _)] at hd3
      exact ⟨_, rfl, q d ps H3 e3 hd0 hd3 pok lps⟩
end
end My

set_option Elab.async false
set_option linter.all false
set_option maxRecDepth 100000
namespace My
open PySem L2
def stT (t : Tr) (x : Str) : List Str := (if t.2.1 = x then [t.1] else []) ++ (if t.2.2 = x then [t.1] else [])
def starF (net : List Tr) (x : Str) : List Str := (net.map fun t => stT t x).flatten
theorem starF_snoc (net : List Tr) (t : Tr) (x : Str) : starF (net ++ [t]) x = starF net x ++ stT t x := by
  unfold starF
  rw [List.map_append, List.flatten_append]
  simp
theorem stT_le (t : Tr) (x : Str) : (stT t x).length ≤ 2 := by
  unfold stT
  rw [List.length_append]
  split <;> split <;> simp
theorem starF_le (net : List Tr) (x : Str) : (starF net x).length ≤ 2 * net.length := by
  refine snoc_ind (P := fun net => (starF net x).length ≤ 2 * net.length) (Nat.le_refl _) (fun l t ih => ?_) net
  rw [starF_snoc, List.length_append, List.length_append]
  have := stT_le t x
  show _ ≤ 2 * (l.length + 1)
  omega
def spStar : Sp := fun vs H Q _ => ∃ (p : Addr) (net : List Tr) (x : Str), vs = [.ref p, .str x] ∧ NetAt H p net ∧ net.length ≤ 12 ∧ ∀ r H', Ext H H' → H r = none → LsS H' r (starF net x) → Q (.ref r) H'
section
variable {P : Program} {w : World} {K : PySem.W.Frag} {mg : Str → Option Value} {base : Heap} {f f1 : Addr} {fd fd1 : FuncData}
theorem scStar : FnScope ["net", "point"] ["net", "point"] (defScope sStar) := ⟨rfl, rfl, rfl, by decide +kernel, rfl, by decide +kernel, by decide +kernel⟩
abbrev stN : List Str := ["tie", "one", "other", "end", "point"]
set_option maxHeartbeats 4000000 in
theorem ok_star (F : Fun K "star" "star" sStar f fd) : FnOk P w K mg base CX0 1 f fd ["net", "point"] spStar := by
  refine F.ok scStar (fun vs H Q E h => ?_) (fun cdv A outer s H vs Q E hr h => ?_)
  · obtain ⟨p, net, x, rfl, _⟩ := h
    rfl
  obtain ⟨p, net, x, rfl, ⟨as, hp, pr⟩, hl, q⟩ := h
  refine ⟨_, pss_one (ps_ret
    (pe_g gc_list2 rfl (N := ["net", "point"]) (sc := defScope sStar) (N' := stN) (sub := [none, none, none, none, some 1]) rfl rfl (CmpOk.of (by decide +kernel)) rfl (pi_list (pv 0))
      (fun C s H fp => ⟨(show PG _ _ (gTup K 3 _) from pg_tup rfl (pgs_cons (pg_name (i := 0) (by show stN.Nodup; decide) rfl (Or.inl rfl)) (pgs_cons (pg_name (i := 1) (by show stN.Nodup; decide) rfl (Or.inl rfl)) (pgs_cons (pg_name (i := 2) (by show stN.Nodup; decide) rfl (Or.inl rfl)) pgs_nil)))), pts_nil,
        fun acc => pbd_nest rfl rfl (show PI _ _ _ (iTup K _) from pi_tup (pe_tup (pa_cons (pv 1) (pa_cons (pv 2) pa_nil)))) (pg_name (i := 3) (by show stN.Nodup; decide) rfl (Or.inl rfl)) (pts_one (pt_cmpR op_eq (pv 3) (pv 4) (nomark _))) (pbd_list rfl (pv 0)) (fun _ => rfl) rfl rfl (fun _ => rfl) (fun _ _ _ _ _ h => h) (fun _ _ _ _ _ h => h) (fun _ => rfl)⟩))), ?_⟩
  have lA : as.length = net.length := pr.length
  refine ⟨_, rfl, p, rfl, ⟨_, SqL.of hp⟩, ?_⟩
  refine g_list (xs := as.map V.ref) (fun i ss σ H' => Ext H H' ∧ (∃ x0 x1 x2 x3 : Option V, σ = [x0, x1, x2, x3, some (.str x)]) ∧ ss = (starF (net.take i) x).map V.str) ⟨Ext.refl _, ⟨none, none, none, none, rfl⟩, rfl⟩ (fun i ss σ H' _ h => SqL.of (h.1 _ _ hp)) ?_ ?_
  · rintro i z ss σ H' hx ⟨he, ⟨x0, x1, x2, x3, rfl⟩, rfl⟩
    obtain ⟨a, t, rfl, ht, ha⟩ := net_get pr hx
    have hi := at_lt ht
    refine ⟨a, _, rfl, SqT.of (he _ _ ha), rfl, _, _, rfl, _, _, rfl, _, _, rfl, rfl, iteT (B := False) ?_⟩
    refine ⟨_, rfl, _, rfl, (by show 2 ≤ sizeLine; decide), fun T hT => ⟨T, rfl, ⟨_, SqT.of upd_same⟩, ?_⟩⟩
    have X1 := Ext.new hT (.tup [V.str t.2.1, V.str t.2.2])
    have ls := starF_le (net.take i) x
    rw [List.length_take] at ls
    refine g_tuple (xs := [V.str t.2.1, V.str t.2.2]) (fun j ss σ H2 => Ext (upd H' T (.tup [V.str t.2.1, V.str t.2.2])) H2 ∧ (∃ y : Option V, σ = [some (.str t.1), some (.str t.2.1), some (.str t.2.2), y, some (.str x)]) ∧ ss = (starF (net.take i) x ++ ((if 0 < j ∧ t.2.1 = x then [t.1] else []) ++ (if 1 < j ∧ t.2.2 = x then [t.1] else []))).map V.str)
      ⟨Ext.refl _, ⟨_, rfl⟩, by simp⟩ (fun j ss σ H2 _ h => SqT.of (h.1 _ _ upd_same)) ?_ ?_
    · rintro j z ss2 σ H2 hz ⟨h2, ⟨y, rfl⟩, rfl⟩
      have hj : j < 2 := at_lt hz
      rcases (show j = 0 ∨ j = 1 by omega) with rfl | rfl
      · cases Option.some.inj hz
        refine ⟨_, rfl, _, rfl, rfl, _, rfl, ?_⟩
        refine ite2 (fun c => ?_) (fun c => ?_)
        · have c' : t.2.1 = x := by simpa using c
          refine ⟨_, rfl, ?_, nxg hj ⟨h2, ⟨_, rfl⟩, ?_⟩⟩
          · simp only [Nat.lt_irrefl, false_and, if_false, List.append_nil, List.nil_append, List.length_map]
            exact small1000 (by simp; omega)
          · simp [c']
        · have c' : ¬ t.2.1 = x := by simpa using c
          exact nxg hj ⟨h2, ⟨_, rfl⟩, by simp [c']⟩
      · cases Option.some.inj hz
        refine ⟨_, rfl, _, rfl, rfl, _, rfl, ?_⟩
        refine ite2 (fun c => ?_) (fun c => ?_)
        · have c' : t.2.2 = x := by simpa using c
          refine ⟨_, rfl, ?_, nxg hj ⟨h2, ⟨_, rfl⟩, ?_⟩⟩
          · rw [List.length_map, List.length_append, List.length_append]
            refine small1000 ?_
            have e1 : (if 0 < 1 ∧ t.2.1 = x then [t.1] else []).length ≤ 1 := by split <;> simp
            have e2 : (if 1 < 1 ∧ t.2.2 = x then [t.1] else []).length ≤ 1 := by split <;> simp
            omega
          · simp [c']
        · have c' : ¬ t.2.2 = x := by simpa using c
          exact nxg hj ⟨h2, ⟨_, rfl⟩, by simp [c']⟩
    · rintro ss2 σ H2 ⟨h2, ⟨y, rfl⟩, rfl⟩
      refine nxg (at_lt hx) ⟨he.trans (X1.trans h2), ⟨_, _, _, _, rfl⟩, ?_⟩
      rw [take_snoc ht, starF_snoc]
      unfold stT
      simp
  · rintro ss σ H' ⟨he, _, rfl⟩ r hr1
    rw [List.length_map, lA, List.take_of_length_le (Nat.le_refl _)]
    exact q r _ (he.trans (Ext.new hr1 _)) (he.none hr1) upd_same
end
end My

set_option Elab.async false
set_option linter.all false
set_option maxRecDepth 100000
namespace My
open PySem L2
theorem room2 {k : Nat} {A : Around} (hr : Room k A) : A.units + 2 < cLine := by have := hr.un; omega
def RowsAt (H : Hp) (p : Addr) (F : List (List Str)) : Prop := ∃ as : List Addr, H p = some (.lst (as.map V.ref)) ∧ Paired (LsS H) as F
theorem RowsAt.ext {H H' : Hp} {p : Addr} {F : List (List Str)} (h : RowsAt H p F) (e : Ext H H') : RowsAt H' p F := by
  obtain ⟨as, h1, h2⟩ := h
  exact ⟨as, e _ _ h1, Paired.mapP h2 fun a r z => e _ _ z⟩
/-- the same, each list a new one -/
def RowsY (H0 H : Hp) (fo : Addr) (F : List (List Str)) : Prop := ∃ as : List Addr, H fo = some (.lst (as.map V.ref)) ∧ Paired (fun a r => LsS H a r ∧ H0 a = none ∧ a ≠ fo) as F
theorem RowsY.rows {H0 H : Hp} {p : Addr} {F : List (List Str)} (h : RowsY H0 H p F) : RowsAt H p F := by
  obtain ⟨as, h1, h2⟩ := h
  exact ⟨as, h1, Paired.mapP h2 fun a r z => z.1⟩
theorem RowsY.ext {H0 H H' : Hp} {p : Addr} {F : List (List Str)} (h : RowsY H0 H p F) (e : Ext H H') : RowsY H0 H' p F := by
  obtain ⟨as, h1, h2⟩ := h
  exact ⟨as, e _ _ h1, Paired.mapP h2 fun a r z => ⟨e _ _ z.1, z.2⟩⟩
/-- and no two of them one -/
def RowsZ (H0 H : Hp) (fo : Addr) (F : List (List Str)) : Prop := ∃ as : List Addr, as.Nodup ∧ H fo = some (.lst (as.map V.ref)) ∧ Paired (fun a r => LsS H a r ∧ H0 a = none ∧ a ≠ fo) as F
theorem RowsZ.y {H0 H : Hp} {p : Addr} {F : List (List Str)} (h : RowsZ H0 H p F) : RowsY H0 H p F := by
  obtain ⟨as, _, h1, h2⟩ := h
  exact ⟨as, h1, h2⟩
theorem paired_memA {α β : Type} {R : α → β → Prop} : ∀ {as : List α} {bs : List β}, Paired R as bs → ∀ a ∈ as, ∃ b ∈ bs, R a b
  | _, _, .nil, a, h => by cases h
  | _, _, .cons h t, a, ha => by
    rcases List.mem_cons.mp ha with rfl | z
    · exact ⟨_, List.mem_cons_self, h⟩
    · obtain ⟨b, hb, hr⟩ := paired_memA t a z
      exact ⟨b, List.mem_cons_of_mem _ hb, hr⟩
theorem getD_rangeA (as : List Addr) : (List.range as.length).map (fun i => as.getD i 0) = as := by
  refine List.ext_getElem? fun i => ?_
  by_cases hi : i < as.length
  · rw [List.getElem?_map, List.getElem?_range hi, List.getElem?_eq_getElem hi]
    show some (as.getD i 0) = _
    rw [List.getD_eq_getElem?_getD, List.getElem?_eq_getElem hi]; rfl
  · rw [List.getElem?_eq_none (by simp; omega), List.getElem?_eq_none (by omega)]
theorem pick_perm {as : List Addr} {o : Array Nat} (g : Gd as.length o) : (o.toList.map fun i => as.getD i 0).Perm as :=
  ((Array.perm_iff_toList_perm.mp g).map fun i => as.getD i 0).trans (List.Perm.of_eq (getD_rangeA as))
theorem paired_at {R : Addr → List Str → Prop} : ∀ {as : List Addr} {ts : List (List Str)} {i : Nat}, Paired R as ts → i < as.length → R (as.getD i 0) (ts.getD i [])
  | _, _, i, .nil, hi => absurd hi (Nat.not_lt_zero _)
  | _, _, 0, .cons h _, _ => h
  | _, _, i + 1, .cons _ t, hi => by simpa using paired_at (i := i) t (by simpa using hi)
theorem paired_pick {R : Addr → List Str → Prop} {as : List Addr} {ts : List (List Str)} (pr : Paired R as ts) : ∀ {l : List Nat}, (∀ i ∈ l, i < as.length) → Paired R (l.map fun i => as.getD i 0) (l.map fun i => ts.getD i [])
  | [], _ => .nil
  | i :: l, h => .cons (paired_at pr (h i List.mem_cons_self)) (paired_pick pr fun j hj => h j (List.mem_cons_of_mem _ hj))
def spStars : Sp := fun vs H Q _ => ∃ (p : Addr) (net : List Tr), vs = [.ref p] ∧ NetAt H p net ∧ net.length ≤ 12 ∧ ∀ r rows ps H', Ext H H' → H r = none → RowsZ H H' r rows → PtsOk net ps → Rise ps → rows.Perm (ps.map (starF net)) → Srt rows → rows.length ≤ 24 → Q (.ref r) H'
section
variable {P : Program} {w : World} {K : PySem.W.Frag} {mg : Str → Option Value} {base : Heap} {f f1 f2 : Addr} {fd fd1 fd2 : FuncData}
theorem scStars : FnScope ["net"] ["net"] (defScope sStars) := ⟨rfl, rfl, rfl, by decide +kernel, rfl, by decide +kernel, by decide +kernel⟩
set_option maxHeartbeats 4000000 in
theorem ok_stars (F : Fun K "stars" "stars" sStars f fd) (G : FnOk P w K mg base CX0 1 f1 fd1 ["net"] spPoints) (bG : Binds K fd1 ["net"] []) (kG : PySem.W.keepIn K (.ref f1) = true) (mG : mg "points" = some (.ref f1))
    (G2 : FnOk P w K mg base CX0 1 f2 fd2 ["net", "point"] spStar) (bG2 : Binds K fd2 ["net", "point"] []) (kG2 : PySem.W.keepIn K (.ref f2) = true) (mG2 : mg "star" = some (.ref f2)) (mso : mg "sorted" = none) : FnOk P w K mg base CX0 2 f fd ["net"] spStars := by
  refine F.ok scStars (fun vs H Q E h => ?_) (fun cdv A outer s H vs Q E hr h => ?_)
  · obtain ⟨p, net, rfl, _⟩ := h
    rfl
  obtain ⟨p, net, rfl, nt, hl, q⟩ := h
  refine ⟨_, pss_one (ps_ret (pe_callB (call_sortedLO (room2 hr)) rfl mso boot_sorted' (pa_cons
    (pe_lc (N := ["net"]) (sc := defScope sStars) (N' := ["point", "net"]) (sub := [none, some 0]) rfl rfl (CmpOk.of (by decide +kernel)) rfl (pi_list (pe_call G hr rfl mG kG bG .nil pass0 (pa_cons (pv 0) pa_nil)))
      (fun C s H fp => ⟨pg_name (i := 0) (by show (["point", "net"] : List Str).Nodup; decide) rfl (Or.inl rfl), pts_nil, pe_call G2 hr rfl mG2 kG2 bG2 .nil pass0 (pa_cons (pv 1) (pa_cons (pv 0) pa_nil))⟩)) pa_nil))), ?_⟩
  refine ⟨_, rfl, p, net, rfl, nt, hl, fun pl ps H1 e1 pl0 hpl pok psr lps => ⟨pl, rfl, ⟨_, SqL.of hpl⟩, ?_⟩⟩
  refine turns_list (xs := ps.map V.str) (fun j ys H2 => Ext H1 H2 ∧ ∃ as, ys = as.map V.ref ∧ as.Nodup ∧ Paired (fun a r => LsS H2 a r ∧ H a = none) as ((ps.take j).map (starF net))) ⟨Ext.refl _, [], rfl, List.nodup_nil, .nil⟩ (fun j ys H2 _ h => SqL.of (h.1 _ _ hpl)) ?_ ?_
  · rintro j x ys H2 hx ⟨e2, as, rfl, nd, pr⟩
    obtain ⟨y, hy, rfl⟩ : ∃ y, ps[j]? = some y ∧ V.str y = x := by
      rw [List.getElem?_map] at hx
      cases e : ps[j]? with
      | none => rw [e] at hx; cases hx
      | some y => rw [e] at hx; exact ⟨y, rfl, Option.some.inj hx⟩
    have hj := at_lt hy
    have la : as.length = _ := pr.length
    rw [List.length_map, List.length_take] at la
    refine ⟨Sle.set _ (Sle.refl _) (fun u z => by cases z), iteT (B := False) ⟨_, rfl, _, rfl, p, net, y, rfl, (nt.ext e1).ext e2, hl, fun r H3 e3 r0 hr3 => ⟨?_, nxt (at_lt hx) ⟨e2.trans e3, as ++ [r], by rw [List.map_append]; rfl, ?_, ?_⟩⟩⟩⟩
    · rw [List.length_map]; exact small1000 (by omega)
    · rw [List.nodup_append]
      refine ⟨nd, by simp, fun a ha b hb z => ?_⟩
      rw [List.mem_singleton] at hb
      obtain ⟨_, _, h1, _⟩ := paired_memA pr a ha
      unfold LsS at h1
      rw [z, hb, r0] at h1
      cases h1
    · rw [take_snoc hy, List.map_append]
      exact Paired.snoc (Paired.mapP pr fun a t z => ⟨e3 _ _ z.1, z.2⟩) ⟨hr3, (e1.trans e2).none r0⟩
  · rintro ys H2 ⟨e2, as, rfl, nd, pr⟩ l hl'
    rw [List.length_map, List.take_of_length_le (Nat.le_refl _)] at pr
    have la : as.length = (ps.map (starF net)).length := pr.length
    have la' : as.length = ps.length := by rw [la, List.length_map]
    have X1 := Ext.new hl' (.lst (as.map V.ref))
    refine ⟨l, as, ps.map (starF net), rfl, SqL.of upd_same, Paired.mapP pr fun a t z => SqL.of (X1 _ _ z.1), by omega, fun r o hr' g sp => ?_⟩
    have X2 := X1.trans (Ext.new hr' (.lst ((o.toList.map fun i => as.getD i 0).map V.ref)))
    have E2 := e1.trans e2
    have gm : ∀ i ∈ o.toList, i < as.length := fun i hi => gd_mem g hi
    have gl := gd_len g
    have nd' := (pick_perm g).nodup_iff.mpr nd
    rw [la] at g sp
    obtain ⟨s1, s2⟩ := order_rows g sp
    refine q r _ ps _ (E2.trans X2) ((E2.trans X1).none hr') ⟨_, nd', upd_same, Paired.mapP (paired_pick pr gm) fun a t z => ⟨X2 _ _ z.1, z.2, ne_of_none (X1 _ _ z.1) hr'⟩⟩ pok psr s2 s1 ?_
    rw [List.length_map, gl, la']
    exact lps
end
end My

set_option Elab.async false
set_option linter.all false
set_option maxRecDepth 100000
namespace My
open PySem L2
def spBig (K : PySem.W.Frag) : Sp := fun vs H Q _ => ∃ (a : Addr) (ns : List Int) (k : Int), vs = [.ref a, .int k] ∧ SqL K H a (ns.map V.int) ∧ 0 ≤ k ∧ k ≤ 100 ∧ ∀ v, Q (.int v) H
def Tx (ss : List Str) : Prop := ∀ s ∈ ss, Sm s
def spNames : Sp := fun vs H Q _ => ∃ (b n : Int), vs = [.int b, .int n] ∧ 0 ≤ n ∧ n ≤ 100 ∧ ∀ (r : Addr) (ss : List Str) (H' : Hp), Ext H H' → H r = none → LsS H' r ss → ss.length = n.toNat → Tx ss → (n ≤ 36 → ss.Nodup) → Q (.ref r) H'
def nmF (pre post : Str) (f : Int) (k : Nat) : Str := pre ++ ⟨#[sgC ((f + 7 * (0 + (k : Int))) % 36).toNat]⟩ ++ post
theorem nmF_inj {pre post : Str} {f : Int} {i j : Nat} (hi : i < 36) (hj : j < 36) (e : nmF pre post f i = nmF pre post f j) : i = j := by
  have e1 := congrArg (fun s : Str => s.cps.toList) e
  unfold nmF at e1
  simp only [Str.cps_append, Array.toList_append] at e1
  have e2 := List.append_cancel_left (List.append_cancel_right e1)
  have a0 := Int.emod_nonneg (f + 7 * (0 + (i : Int))) (show (36 : Int) ≠ 0 by decide)
  have a1 := Int.emod_lt_of_pos (f + 7 * (0 + (i : Int))) (show (0 : Int) < 36 by decide)
  have b0 := Int.emod_nonneg (f + 7 * (0 + (j : Int))) (show (36 : Int) ≠ 0 by decide)
  have b1 := Int.emod_lt_of_pos (f + 7 * (0 + (j : Int))) (show (0 : Int) < 36 by decide)
  have e3 : sgC ((f + 7 * (0 + (i : Int))) % 36).toNat = sgC ((f + 7 * (0 + (j : Int))) % 36).toNat := by simpa using e2
  have e4 := sgC_inj (by omega) (by omega) e3
  omega
theorem nd_range {g : Nat → Str} : ∀ {n : Nat}, (∀ i j, i < n → j < n → g i = g j → i = j) → ((List.range n).map g).Nodup
  | 0, _ => List.nodup_nil
  | n + 1, h => by
    rw [List.range_succ, List.map_append, List.nodup_append]
    refine ⟨nd_range fun i j hi hj => h i j (by omega) (by omega), by simp, fun a ha b hb => ?_⟩
    obtain ⟨i, hi, rfl⟩ := List.mem_map.mp ha
    rw [List.map_singleton, List.mem_singleton] at hb
    subst hb
    rw [List.mem_range] at hi
    intro z
    have := h i n (by omega) (by omega) z
    omega
section
variable {P : Program} {w : World} {K : PySem.W.Frag} {mg : Str → Option Value} {base : Heap} {f f1 f2 : Addr} {fd fd1 fd2 : FuncData}
abbrev bgN : List Str := ["_law_script", "_law_k", "_law_x", "_law_total", "_law_j"]
theorem scBig : FnScope bgN ["_law_script", "_law_k"] (defScope sBig) := ⟨rfl, rfl, rfl, by decide +kernel, rfl, by decide +kernel, by decide +kernel⟩
set_option maxHeartbeats 4000000 in
theorem ok_big (F : Fun K "_law_big" "_law_big" sBig f fd) (G : FnOk P w K mg base CX0 1 f1 fd1 ["_law_script", "_law_k"] (spCell K)) (bG : Binds K fd1 ["_law_script", "_law_k"] []) (kG : PySem.W.keepIn K (.ref f1) = true) (mG : mg "_law_cell_at" = some (.ref f1)) (mr : mg "range" = none) (ma : mg "abs" = none) :
    FnOk P w K mg base CX0 2 f fd ["_law_script", "_law_k"] (spBig K) := by
  refine F.ok scBig (fun vs H Q E h => ?_) (fun cdv A outer s H vs Q E hr h => ?_)
  · obtain ⟨a, ns, k, rfl, _⟩ := h
    rfl
  obtain ⟨a, ns, k, rfl, hS, h0, h1, q⟩ := h
  refine ⟨_, pss_cons (ps_if (pt_cmpR op_ge (pe_callB call_abs rfl ma boot_abs' (pa_cons (pe_call G hr rfl mG kG bG .nil pass0 (pa_cons (pv 0) (pa_cons (pv 1) pa_nil))) pa_nil)) (pe_op op_pow pe_int pe_int) (nomark _))
      (pss_one (ps_ret (pe_op op_sub (pe_callB call_abs rfl ma boot_abs' (pa_cons (pe_call G hr rfl mG kG bG .nil pass0 (pa_cons (pv 0) (pa_cons (pv 1) pa_nil))) pa_nil)) (pe_op op_pow pe_int pe_int)))) pss_nil)
    (pss_cons (ps_set (i := 2) scBig.nd rfl (Or.inl rfl) (pe_op op_add (pe_op op_add (pe_op op_add (pe_op op_mod (pe_call G hr rfl mG kG bG .nil pass0 (pa_cons (pv 0) (pa_cons pe_int pa_nil))) pe_int) (pe_op op_mul pe_int (pv 1))) (pe_op op_mul pe_int (pe_call G hr rfl mG kG bG .nil pass0 (pa_cons (pv 0) (pa_cons (pv 1) pa_nil))))) pe_int))
    (pss_cons (ps_set (i := 2) scBig.nd rfl (Or.inl rfl) (pe_op op_add (pe_op op_mod (pv 2) pe_int) pe_int))
    (pss_cons (ps_set (i := 3) scBig.nd rfl (Or.inl rfl) pe_int)
    (pss_cons (ps_for PassesOwn.never rfl (pi_range1 rfl mr (pa_cons pe_int pa_nil)) (pg_name (i := 4) scBig.nd rfl (Or.inl rfl))
      (pss_cons (ps_set (i := 2) scBig.nd rfl (Or.inl rfl) (pe_op op_mod (pe_op op_add (pe_op op_add (pe_op op_add (pe_op op_mul (pv 2) pe_int) (pe_op op_fdiv (pv 2) pe_int)) (pe_op op_mul (pe_op op_mul pe_int (pv 4)) (pv 4))) (pv 1)) pe_int))
      (pss_one (ps_set (i := 3) scBig.nd rfl (Or.inl rfl) (pe_op op_add (pe_op op_mul (pv 3) pe_int) (pe_op op_mod (pe_op op_mul (pv 2) pe_int) pe_int))))))
    (pss_one (ps_ret (pv 3))))))), ?_⟩
  refine ⟨_, rfl, _, rfl, a, ns, k, rfl, hS, h0, fun v => ⟨v, rfl, ?_⟩⟩
  refine ⟨_, _, rfl, rfl, ⟨by decide, by decide, by decide⟩, _, _, rfl, rfl, _, rfl, ?_⟩
  refine ite2 (fun c => ?_) (fun c => ?_)
  · refine ⟨_, rfl, _, rfl, a, ns, k, rfl, hS, h0, fun v => ⟨v, rfl, ?_⟩⟩
    exact ⟨_, _, rfl, rfl, ⟨by decide, by decide, by decide⟩, _, _, rfl, rfl, q _⟩
  refine ⟨_, rfl, a, ns, 0, rfl, hS, by decide, fun v1 => ?_⟩
  refine ⟨_, _, rfl, rfl, (by show (0 : Int) < _; decide), _, rfl, _, _, rfl, rfl, .inl ⟨by decide, by decide⟩, _, _, rfl, rfl, ?_⟩
  refine ⟨_, rfl, _, rfl, a, ns, k, rfl, hS, h0, fun v2 => ?_⟩
  refine ⟨_, _, rfl, rfl, .inl ⟨by decide, by decide⟩, _, _, rfl, rfl, _, _, rfl, rfl, ?_⟩
  refine ⟨_, rfl, _, _, rfl, rfl, (by show (0 : Int) < _; decide), _, _, rfl, rfl, ?_⟩
  refine ⟨8, rfl, by decide, by decide, for_range (lo := 0) (n := 8) (fun i σ H' => H' = H ∧ ∃ (x t : Int) (z : Option V), σ = [some (.ref a), some (.int k), some (.int x), some (.int t), z]) ⟨rfl, _, 0, none, rfl⟩ ?_ ?_⟩
  · rintro i σ H' hi ⟨rfl, x, t, z, rfl⟩
    refine ⟨_, rfl, _, _, rfl, rfl, .inr ⟨by decide, by decide⟩, _, rfl, _, _, rfl, rfl, ⟨by decide, by decide⟩, _, _, rfl, rfl, ?_⟩
    refine ⟨_, rfl, _, _, rfl, rfl, .inl ⟨by decide, by decide⟩, _, rfl, _, _, rfl, rfl, .inr ⟨by omega, by omega⟩, _, _, rfl, rfl, ?_⟩
    refine ⟨_, rfl, _, _, rfl, rfl, _, _, rfl, rfl, (by show (0 : Int) < _; decide), ?_⟩
    refine ⟨_, rfl, _, _, rfl, rfl, .inr ⟨by decide, by decide⟩, _, rfl, _, _, rfl, rfl, .inr ⟨by decide, by decide⟩, _, _, rfl, rfl, (by show (0 : Int) < _; decide), _, _, rfl, rfl, ?_⟩
    exact ⟨rfl, _, _, _, rfl⟩
  · rintro σ H' ⟨rfl, x, t, z, rfl⟩
    exact ⟨_, rfl, q _⟩
abbrev naN : List Str := ["_law_big_here", "_law_many", "_law_signs", "_law_word", "_law_k", "_law_spot", "_law_first", "_law_head", "_law_tail"]
theorem scNames : FnScope naN ["_law_big_here", "_law_many"] (defScope sNames) := ⟨rfl, rfl, rfl, by decide +kernel, rfl, by decide +kernel, by decide +kernel⟩
set_option maxHeartbeats 4000000 in
theorem ok_names (F : Fun K "_law_names" "_law_names" sNames f fd) (mr : mg "range" = none) (ml : mg "len" = none) : FnOk P w K mg base CX0 1 f fd ["_law_big_here", "_law_many"] spNames := by
  refine F.ok scNames (fun vs H Q E h => ?_) (fun cdv A outer s H vs Q E hr h => ?_)
  · obtain ⟨b, n, rfl, _⟩ := h
    rfl
  obtain ⟨b, n, rfl, n0, n1, q⟩ := h
  refine ⟨_, pss_cons (ps_set (i := 2) scNames.nd rfl (Or.inr rfl) pe_str)
    (pss_cons (ps_set (i := 3) scNames.nd rfl (Or.inl rfl) pe_str)
    (pss_cons (ps_for PassesOwn.never rfl (pi_range1 rfl mr (pa_cons (pe_op op_add pe_int (pe_op op_mod (pv 0) pe_int)) pa_nil)) (pg_name (i := 4) scNames.nd rfl (Or.inl rfl))
      (pss_cons (ps_set (i := 3) scNames.nd rfl (Or.inl rfl) (pe_op op_add_str (pv 3) (pe_ix ix_str (pv 2) (pe_op op_mod (pe_op op_fdiv (pv 0) pe_int) pe_int) (fun _ _ => rfl))))
      (pss_one (ps_set (i := 0) scNames.nd rfl (Or.inl rfl) (pe_op op_fdiv (pv 0) pe_int)))))
    (pss_cons (ps_set (i := 5) scNames.nd rfl (Or.inl rfl) (pe_op op_mod (pe_op op_fdiv (pv 0) pe_int) (pe_callB call_len_str rfl ml PySem.boot_len (pa_cons (pv 3) pa_nil))))
    (pss_cons (ps_set (i := 6) scNames.nd rfl (Or.inr rfl) (pe_op op_mod (pe_op op_fdiv (pv 0) pe_int) pe_int))
    (pss_cons (ps_asg (pe_tup (pa_cons (pe_slice sl_str (pv 3) po_none (po_some (pv 5))) (pa_cons (pe_slice sl_str (pv 3) (po_some (pe_op op_add (pv 5) pe_int)) po_none) pa_nil))) (pg_tup rfl (pgs_cons (pg_name (i := 7) scNames.nd rfl (Or.inr rfl)) (pgs_cons (pg_name (i := 8) scNames.nd rfl (Or.inr rfl)) pgs_nil))))
    (pss_one (ps_ret (pe_lc (N := naN) (sc := defScope sNames) (N' := ["_law_k", "_law_head", "_law_signs", "_law_first", "_law_tail"]) (sub := [none, some 7, some 2, some 6, some 8]) rfl rfl (CmpOk.of (by decide +kernel)) rfl (pi_range1 rfl mr (pa_cons (pv 1) pa_nil))
      (fun C s H fp => ⟨pg_name (i := 0) (by show (["_law_k", "_law_head", "_law_signs", "_law_first", "_law_tail"] : List Str).Nodup; decide) rfl (Or.inl rfl), pts_nil,
        pe_op op_add_str (pe_op op_add_str (pv 1) (pe_ix ix_str (pv 2) (pe_op op_mod (pe_op op_add (pv 3) (pe_op op_mul pe_int (pv 0))) pe_int) (fun _ _ => rfl))) (pv 4)⟩))))))))), ?_⟩
  have b6 := Int.emod_nonneg b (show (6 : Int) ≠ 0 by decide)
  have b6' := Int.emod_lt_of_pos b (show (0 : Int) < 6 by decide)
  refine ⟨_, rfl, _, _, rfl, rfl, (by show (0 : Int) < _; decide), _, _, rfl, rfl, 1 + b % 6, rfl, by omega, by omega, ?_⟩
  refine for_range (lo := 0) (n := (1 + b % 6).toNat) (fun i σ H' => H' = H ∧ ∃ (b' : Int) (word : Str) (x : Option V), σ = [some (.int b'), some (.int n), some (.str sg), some (.str word), x, none, none, none, none] ∧ word.length = i ∧ Sm word) ⟨rfl, b, "", none, rfl, rfl, Sm.nil⟩ ?_ ?_
  · rintro i σ H' hi ⟨rfl, b', word, x, rfl, hw, sm⟩
    have c1 := Int.emod_nonneg (b' / 6) (show (36 : Int) ≠ 0 by decide)
    have c2 := Int.emod_lt_of_pos (b' / 6) (show (0 : Int) < 36 by decide)
    refine ⟨_, rfl, _, rfl, _, rfl, _, _, rfl, rfl, ⟨by decide, by decide⟩, _, _, rfl, rfl, (by show (0 : Int) < _; decide), sg, _, sgC (b' / 6 % 36).toNat, rfl, rfl, by decide +kernel, sg_at c1 c2, word, ⟨#[sgC (b' / 6 % 36).toNat]⟩, rfl, rfl, ?_, ?_⟩
    · show word.length + 1 ≤ sizeLine
      exact Nat.le_of_lt (small1000 (by omega))
    · refine ⟨_, rfl, _, _, rfl, rfl, ⟨by decide, by decide⟩, ?_⟩
      refine ⟨rfl, _, _, _, rfl, ?_, sm.app (Sm.one (sgC_small (by omega)))⟩
      rw [Str.length_append]
      show word.length + 1 = i + 1
      omega
  · rintro σ H' ⟨rfl, b', word, x, rfl, hw, sm⟩
    have wl : word.length ≤ sizeLine := Nat.le_of_lt (small1000 (by omega))
    have fa := Int.emod_nonneg (b' / 216) (show (36 : Int) ≠ 0 by decide)
    have fb := Int.emod_lt_of_pos (b' / 216) (show (0 : Int) < 36 by decide)
    refine ⟨_, rfl, _, _, rfl, rfl, ⟨by decide, by decide⟩, _, rfl, word, rfl, wl, _, _, rfl, rfl, (by show (0 : Int) < _; omega), ?_⟩
    refine ⟨_, rfl, _, _, rfl, rfl, ⟨by decide, by decide⟩, _, _, rfl, rfl, (by show (0 : Int) < _; decide), ?_⟩
    obtain ⟨spot, hsp⟩ : ∃ spot, b' / 6 % ((word.length : Nat) : Int) = spot := ⟨_, rfl⟩
    refine ⟨_, rfl, _, rfl, _, rfl, word, rfl, wl, _, rfl, _, rfl, _, _, rfl, rfl, _, rfl, word, rfl, wl, (by show 2 ≤ sizeLine; decide), fun T hT => ⟨T, _, rfl, SqT.of upd_same, rfl, _, _, rfl, _, _, rfl, rfl, ?_⟩⟩
    have l1 := Txt.slice_le word none (some spot)
    have l2 := Txt.slice_le word (some (spot + 1)) none
    have s1 := sm.slice none (some spot)
    have s2 := sm.slice (some (spot + 1)) none
    have X1 := Ext.new hT (.tup [V.str (Txt.slice word none (some spot)), V.str (Txt.slice word (some (spot + 1)) none)])
    refine ⟨_, rfl, n, rfl, by omega, by omega, ?_⟩
    refine turns_range (lo := 0) (n := n.toNat) (fun i ys H2 => H2 = upd H' T (.tup [V.str (Txt.slice word none (some spot)), V.str (Txt.slice word (some (spot + 1)) none)]) ∧ ∃ ss : List Str, ys = ss.map V.str ∧ ss.length = i ∧ Tx ss ∧ ss = (List.range i).map (nmF (Txt.slice word none (some spot)) (Txt.slice word (some (spot + 1)) none) (b' / 216 % 36))) ⟨by rw [hsp], [], rfl, rfl, (fun s hs => by cases hs), rfl⟩ ?_ ?_
    · rintro i ys H2 hi ⟨rfl, ss, rfl, ls, tx, eq⟩
      have ea := Int.emod_nonneg (b' / 216 % 36 + 7 * (0 + (i : Int))) (show (36 : Int) ≠ 0 by decide)
      have eb := Int.emod_lt_of_pos (b' / 216 % 36 + 7 * (0 + (i : Int))) (show (0 : Int) < 36 by decide)
      rw [hsp]
      refine ⟨Sle.set _ (Sle.refl _) (fun u z => by cases z), iteT (B := False) ⟨_, rfl, _, rfl, _, rfl, _, rfl, _, _, rfl, rfl, .inl ⟨by decide, by decide⟩, _, _, rfl, rfl, _, _, rfl, rfl, (by show (0 : Int) < _; decide), sg, _, sgC ((b' / 216 % 36 + 7 * (0 + (i : Int))) % 36).toNat, rfl, rfl, by decide +kernel, sg_at ea eb, _, _, rfl, rfl, ?_, _, rfl, _, _, rfl, rfl, ?_, ?_, nxt hi ⟨rfl, ss ++ [Txt.slice word none (some spot) ++ ⟨#[sgC ((b' / 216 % 36 + 7 * (0 + (i : Int))) % 36).toNat]⟩ ++ Txt.slice word (some (spot + 1)) none], ?_, ?_, ?_, ?_⟩⟩⟩
      · show _ + 1 ≤ sizeLine
        exact Nat.le_of_lt (small1000 (by omega))
      · rw [Str.length_append]
        show _ + 1 + _ ≤ sizeLine
        exact Nat.le_of_lt (small1000 (by omega))
      · rw [List.length_map]
        exact small1000 (by omega)
      · rw [List.map_append]; rfl
      · rw [List.length_append, ls]; rfl
      · intro s hs
        rcases List.mem_append.mp hs with z | z
        · exact tx s z
        · rw [List.mem_singleton] at z
          subst z
          exact (s1.app (Sm.one (sgC_small (by omega)))).app s2
      · rw [eq, List.range_succ, List.map_append]; rfl
    · rintro ys H2 ⟨rfl, ss, rfl, ls, tx, eq⟩ r hr'
      exact q r ss _ (X1.trans (Ext.new hr' _)) (X1.none hr') upd_same ls tx (fun n36 => by rw [eq]; exact nd_range fun i j hi hj => nmF_inj (by omega) (by omega))
end
end My

set_option Elab.async false
set_option linter.all false
set_option maxRecDepth 100000
namespace My
open PySem L2
abbrev enV (e : Int × Int) : List V := [.int e.1, .int e.2]
def EndsAt (H : Hp) (p : Addr) (es : List (Int × Int)) : Prop := ∃ as : List Addr, H p = some (.lst (as.map V.ref)) ∧ Paired (fun a e => H a = some (.tup (enV e))) as es
theorem EndsAt.ext {H H' : Hp} {p : Addr} {es : List (Int × Int)} (h : EndsAt H p es) (e : Ext H H') : EndsAt H' p es := by
  obtain ⟨as, h1, h2⟩ := h
  exact ⟨as, e _ _ h1, Paired.mapP h2 fun a t z => e _ _ z⟩
theorem EndsAt.snoc {H H' : Hp} {k a : Addr} {as : List Addr} {net : List (Int × Int)} {t : Int × Int} (hk : H k = some (.lst (as.map V.ref))) (pr : Paired (fun a t => H a = some (.tup (enV t))) as net) (e : Ext H H') (ha : H' a = some (.tup (enV t))) : EndsAt (upd H' k (.lst (as.map V.ref ++ [V.ref a]))) k (net ++ [t]) := by
  have hk' := e _ _ hk
  have ne : ∀ {b : Addr} {xs : List V}, H' b = some (.tup xs) → b ≠ k := fun h z => by rw [z, hk'] at h; cases h
  refine ⟨as ++ [a], by rw [upd_same, List.map_append]; rfl, ?_⟩
  refine Paired.snoc (Paired.mapP pr fun b u z => ?_) ?_
  · have z' := e _ _ z
    rw [upd_ne (ne z')]; exact z'
  · rw [upd_ne (ne ha)]; exact ha
theorem at_int {hs : List Int} {i : Int} (h0 : 0 ≤ i) (h1 : i < (hs.length : Int)) : ∃ v, atI (hs.map V.int) i = some (.int v) := by
  have hk : i.toNat < hs.length := by omega
  have hv : atI (hs.map V.int) ((i.toNat : Nat) : Int) = some (.int hs[i.toNat]) := atI_nat (by rw [List.getElem?_map, List.getElem?_eq_getElem hk] <;> rfl)
  rw [Int.toNat_of_nonneg h0] at hv
  exact ⟨_, hv⟩
def InSp (sp : Int) (e : Int × Int) : Prop := (0 ≤ e.1 ∧ e.1 < sp) ∧ 0 ≤ e.2 ∧ e.2 < sp
def spEnds : Sp := fun vs H Q _ => ∃ (b n sp : Int), vs = [.int b, .int n, .int sp] ∧ 0 ≤ n ∧ n ≤ 12 ∧ 0 < sp ∧ sp ≤ 10 ∧ ∀ r es H', Ext H H' → H r = none → EndsAt H' r es → es.length ≤ n.toNat → (∀ e ∈ es, InSp sp e) → Q (.ref r) H'
section
variable {P : Program} {w : World} {K : PySem.W.Frag} {mg : Str → Option Value} {base : Heap} {f f1 f2 : Addr} {fd fd1 fd2 : FuncData}
abbrev eN : List Str := ["_law_big_here", "_law_many", "_law_spread", "_law_heaps", "_law_found", "_law_high", "_law_k", "_law_one", "_law_other", "_law_gone"]
theorem scEnds : FnScope eN ["_law_big_here", "_law_many", "_law_spread"] (defScope sEnds) := ⟨rfl, rfl, rfl, by decide +kernel, rfl, by decide +kernel, by decide +kernel⟩
structure EI (H : Hp) (sp n : Int) (i : Nat) (σ : St) (H' : Hp) (b' h : Int) (hp fo : Addr) (hs : List Int) (es : List (Int × Int)) : Prop where
  st : ∃ x6 x7 x8 x9 : Option V, σ = [some (.int b'), some (.int n), some (.int sp), some (.ref hp), some (.ref fo), some (.int h), x6, x7, x8, x9]
  ext : Ext H H'
  fo0 : H fo = none
  ne : hp ≠ fo
  hsA : H' hp = some (.lst (hs.map V.int))
  hsl : (hs.length : Int) = sp
  esA : EndsAt H' fo es
  esl : es.length ≤ i
  esi : ∀ e ∈ es, InSp sp e
set_option maxHeartbeats 8000000 in
theorem ok_ends (F : Fun K "_law_ends" "_law_ends" sEnds f fd) (mr : mg "range" = none) (ml : mg "len" = none) (mL : mg "list" = none) : FnOk P w K mg base CX0 1 f fd ["_law_big_here", "_law_many", "_law_spread"] spEnds := by
  refine F.ok scEnds (fun vs H Q E h => ?_) (fun cdv A outer s H vs Q E hr h => ?_)
  · obtain ⟨b, n, sp, rfl, _⟩ := h
    rfl
  obtain ⟨b, n, sp, rfl, n0, n1, p0, p1, q⟩ := h
  refine ⟨_, pss_cons (ps_set (i := 3) scEnds.nd rfl (Or.inr rfl) (pe_callTy (call_list_rng rfl) rfl mL boot_list' (pa_cons (pe_callTy call_range1' rfl mr boot_range' (pa_cons (pv 2) pa_nil)) pa_nil)))
    (pss_cons (ps_set (i := 4) scEnds.nd rfl (Or.inl rfl) (pe_lst pa_nil))
    (pss_cons (ps_set (i := 5) scEnds.nd rfl (Or.inl rfl) pe_int)
    (pss_cons (ps_for PassesOwn.never rfl (pi_range1 rfl mr (pa_cons (pv 1) pa_nil)) (pg_name (i := 6) scEnds.nd rfl (Or.inl rfl))
      (pss_cons (ps_asg (pe_tup (pa_cons (pe_op op_mod (pv 0) (pv 2)) (pa_cons (pe_op op_mod (pe_op op_fdiv (pv 0) (pv 2)) (pv 2)) pa_nil))) (pg_tup rfl (pgs_cons (pg_name (i := 7) scEnds.nd rfl (Or.inr rfl)) (pgs_cons (pg_name (i := 8) scEnds.nd rfl (Or.inl rfl)) pgs_nil))))
      (pss_cons (ps_set (i := 0) scEnds.nd rfl (Or.inl rfl) (pe_op op_fdiv (pe_op op_fdiv (pv 0) (pv 2)) (pv 2)))
      (pss_one (ps_if (PW.pt (pw_and (pt_cmpR op_eq (pe_ix ix_list (pv 3) (pv 7) (fun _ _ => rfl)) (pe_ix ix_list (pv 3) (pv 8) (fun _ _ => rfl)) (nomark _)) (pw_and1 (pt_cmpR op_lt (pe_op op_sub (pe_callB call_len_seq rfl ml PySem.boot_len (pa_cons (pv 4) pa_nil)) (pv 5)) pe_int (nomark _)))))
        (pss_one (ps_expr (pe_bm PySem.F.plainAttrs_list PySem.F.slot_list_append PySem.F.type_list_append mt_append (pv 4) (pa_cons (pe_tup (pa_cons (pv 7) (pa_cons (pv 8) pa_nil))) pa_nil))))
        (pss_one (ps_if (PW.pt (pw_and (pt_cmpR op_ne (pe_ix ix_list (pv 3) (pv 7) (fun _ _ => rfl)) (pe_ix ix_list (pv 3) (pv 8) (fun _ _ => rfl)) (nomark _)) (pw_and1 (pt_cmpR op_lt (pv 5) pe_int (nomark _)))))
          (pss_cons (ps_expr (pe_bm PySem.F.plainAttrs_list PySem.F.slot_list_append PySem.F.type_list_append mt_append (pv 4) (pa_cons (pe_tup (pa_cons (pv 7) (pa_cons (pv 8) pa_nil))) pa_nil)))
          (pss_cons (ps_aug (i := 5) scEnds.nd rfl (Or.inl rfl) pe_int ip_add)
          (pss_cons (ps_set (i := 9) scEnds.nd rfl (Or.inr rfl) (pe_ix ix_list (pv 3) (pv 8) (fun _ _ => rfl)))
          (pss_one (ps_set (i := 3) scEnds.nd rfl (Or.inr rfl) (pe_lc (N := eN) (sc := defScope sEnds) (N' := ["_law_heap", "_law_heaps", "_law_one", "_law_gone"]) (sub := [none, some 3, some 7, some 9]) rfl rfl (CmpOk.of (by decide +kernel)) rfl (pi_list (pv 3))
            (fun C s H fp => ⟨pg_name (i := 0) (by show (["_law_heap", "_law_heaps", "_law_one", "_law_gone"] : List Str).Nodup; decide) rfl (Or.inl rfl), pts_nil, pe_ifExp (pt_cmpR op_eq (pv 0) (pv 3) (nomark _)) (pe_ix (show IxR _ (rIxL K) from ix_list) (pv 1) (pv 2) (fun _ _ => rfl)) (pv 0)⟩)))))))
          pss_nil)))))))
    (pss_one (ps_ret (pv 4)))))), ?_⟩
  refine ⟨_, rfl, sp, rfl, by omega, by omega, fun rg hrg => ⟨rg, sp, rfl, upd_same, by omega, by omega, fun hp hhp => ?_⟩⟩
  have X1 := Ext.new hrg (.rng 0 sp)
  have X2 := X1.trans (Ext.new hhp (.lst ((List.range sp.toNat).map fun (i : Nat) => V.int (i : Int))))
  refine ⟨Nat.zero_le _, fun fo hfo => ?_⟩
  have f0 := X2.none hfo
  refine ⟨_, rfl, n, rfl, by omega, by omega, for_range (lo := 0) (n := n.toNat) (fun i σ H' => ∃ b' h hp fo hs es, EI H sp n i σ H' b' h hp fo hs es)
    ⟨b, 0, hp, fo, (List.range sp.toNat).map fun (i : Nat) => (i : Int), [], ⟨_, _, _, _, rfl⟩, X2.trans (Ext.new hfo _), f0, fun e => (by rw [← e, upd_same] at hfo; cases hfo), ?_, ?_, ⟨[], upd_same, .nil⟩, Nat.le_refl _, fun e he => by cases he⟩ ?_ ?_⟩
  · rw [upd_ne (fun e => by rw [← e, upd_same] at hfo; cases hfo), upd_same, List.map_map]; rfl
  · rw [List.length_map, List.length_range]; omega
  · rintro i σ H' hi ⟨b', h, hp, fo, hs, es, ⟨x6, x7, x8, x9, rfl⟩, ext, fo0, ne, hsA, hsl, esA, esl, esi⟩
    have sp0 : (0 : Int) < sp := p0
    have o0 := Int.emod_nonneg b' (show sp ≠ 0 by omega)
    have o1 := Int.emod_lt_of_pos b' p0
    have t0 := Int.emod_nonneg (b' / sp) (show sp ≠ 0 by omega)
    have t1 := Int.emod_lt_of_pos (b' / sp) p0
    have cd : CDiv (b' / sp) sp := ⟨p0, by omega⟩
    have cd' : CDiv b' sp := ⟨p0, by omega⟩
    refine ⟨_, rfl, _, rfl, _, _, rfl, rfl, p0, _, rfl, _, rfl, _, _, rfl, rfl, cd', _, rfl, _, _, rfl, rfl, p0, (by show 2 ≤ sizeLine; decide), fun T hT => ⟨T, _, rfl, SqT.of upd_same, rfl, _, _, rfl, _, _, rfl, rfl, ?_⟩⟩
    have X3 := Ext.new hT (.tup [V.int (b' % sp), V.int (b' / sp % sp)])
    refine ⟨_, rfl, _, rfl, _, _, rfl, rfl, cd', _, rfl, _, _, rfl, rfl, cd, ?_⟩
    obtain ⟨v1, a1⟩ := at_int (hs := hs) o0 (by omega)
    obtain ⟨v2, a2⟩ := at_int (hs := hs) t0 (by omega)
    have hs3 := X3 _ _ hsA
    have es3 := esA.ext X3
    obtain ⟨as, ea1, ea2⟩ := id esA
    have la : as.length = es.length := ea2.length
    have inn : InSp sp ((b' % sp), (b' / sp % sp)) := ⟨⟨o0, o1⟩, t0, t1⟩
    refine ⟨_, rfl, _, rfl, hp, _, _, _, rfl, rfl, SqL.of hs3, a1, _, rfl, _, rfl, hp, _, _, _, rfl, rfl, SqL.of hs3, a2, rfl, _, rfl, ?_⟩
    refine ite2 (fun c => ?_) (fun c => ?_)
    · refine ⟨_, rfl, fo, _, rfl, .inl (SqL.of (X3 _ _ ea1)), _, rfl, _, _, rfl, rfl, _, _, rfl, rfl, _, rfl, ?_⟩
      refine ite2 (fun c2 => ?_) (fun c2 => ?_)
      · refine ⟨_, rfl, .inl ⟨rfl, _, SqL.of (X3 _ _ ea1)⟩, _, rfl, _, rfl, (by show 2 ≤ sizeLine; decide), fun T2 hT2 => ?_⟩
        have X4 := X3.trans (Ext.new hT2 (.tup (enV ((b' % sp), (b' / sp % sp)))))
        refine ⟨fo, _, _, rfl, rfl, X4 _ _ ea1, by rw [List.length_map]; exact small1000 (by omega), ?_⟩
        refine ⟨_, _, hp, fo, hs, es ++ [((b' % sp), (b' / sp % sp))], ⟨_, _, _, _, rfl⟩, (ext.trans X4).over fo0 _, fo0, ne, by rw [upd_ne ne]; exact X4 _ _ hsA, hsl, EndsAt.snoc ea1 ea2 X4 upd_same, by rw [List.length_append]; exact Nat.succ_le_succ esl, fun e he => ?_⟩
        rcases List.mem_append.mp he with z | z
        · exact esi e z
        · rw [List.mem_singleton] at z; subst z; exact inn
      · refine ⟨_, rfl, _, rfl, hp, _, _, _, rfl, rfl, SqL.of hs3, a1, _, rfl, _, rfl, hp, _, _, _, rfl, rfl, SqL.of hs3, a2, rfl, _, rfl, ?_⟩
        refine ite2 (fun c3 => ?_) (fun c3 => ?_)
        · have e1 : v1 = v2 := by simpa using c
          have e2 : ¬ v1 = v2 := by simpa using c3
          exact absurd e1 e2
        · refine iteF ?_
          exact ⟨_, _, hp, fo, hs, es, ⟨_, _, _, _, rfl⟩, ext.trans X3, fo0, ne, hs3, hsl, es3, by omega, esi⟩
    · refine iteF ?_
      refine ⟨_, rfl, _, rfl, hp, _, _, _, rfl, rfl, SqL.of hs3, a1, _, rfl, _, rfl, hp, _, _, _, rfl, rfl, SqL.of hs3, a2, rfl, _, rfl, ?_⟩
      refine ite2 (fun c3 => ?_) (fun c3 => ?_)
      · refine ⟨_, rfl, _, _, rfl, rfl, _, rfl, ?_⟩
        refine ite2 (fun c2 => ?_) (fun c2 => ?_)
        · refine ⟨_, rfl, .inl ⟨rfl, _, SqL.of (X3 _ _ ea1)⟩, _, rfl, _, rfl, (by show 2 ≤ sizeLine; decide), fun T2 hT2 => ?_⟩
          have X4 := X3.trans (Ext.new hT2 (.tup (enV ((b' % sp), (b' / sp % sp)))))
          refine ⟨fo, _, _, rfl, rfl, X4 _ _ ea1, by rw [List.length_map]; exact small1000 (by omega), ?_⟩
          have hs4 : upd (upd (upd H' T (.tup [V.int (b' % sp), V.int (b' / sp % sp)])) T2 (.tup (enV ((b' % sp), (b' / sp % sp))))) fo (.lst (as.map V.ref ++ [V.ref T2])) hp = some (.lst (hs.map V.int)) := by rw [upd_ne ne]; exact X4 _ _ hsA
          have en4 := EndsAt.snoc (t := ((b' % sp), (b' / sp % sp))) ea1 ea2 X4 upd_same
          have X5 := (ext.trans X4).over fo0 (.lst (as.map V.ref ++ [V.ref T2]))
          refine ⟨_, rfl, _, _, rfl, rfl, ?_⟩
          refine ⟨_, rfl, _, rfl, hp, _, _, _, rfl, rfl, SqL.of hs4, a2, ?_⟩
          refine ⟨_, rfl, hp, rfl, ⟨_, SqL.of hs4⟩, ?_⟩
          refine turns_pure (fun v => some (if v = .int v2 then .int v1 else v)) (SqL.of hs4) (by rw [List.length_map]; exact Nat.le_of_lt (small1000 (by omega))) (fun x hx C hC => ?_) (fun r hr' => ?_)
          · obtain ⟨y, _, rfl⟩ := List.mem_map.mp hx
            refine ⟨Sle.set _ (Sle.refl _) (fun u z => by cases z), iteT (B := False) ?_⟩
            refine ⟨_, rfl, _, rfl, rfl, _, rfl, ?_⟩
            refine ite2 (fun c5 => ?_) (fun c5 => ?_)
            · have e5 : y = v2 := by simpa using c5
              subst e5
              refine ⟨_, rfl, _, rfl, hp, _, _, _, rfl, rfl, SqL.of hs4, a1, ?_⟩
              rw [if_pos rfl] at hC
              exact hC
            · have e5 : ¬ y = v2 := by simpa using c5
              rw [if_neg (fun z => e5 (V.int.inj z))] at hC
              exact ⟨_, rfl, hC⟩
          · have rf : r ≠ fo := fun e => by rw [e, upd_same] at hr'; cases hr'
            have em : (hs.map V.int).filterMap (fun v => some (if v = .int v2 then .int v1 else v)) = (hs.map fun y => if y = v2 then v1 else y).map V.int := by
              rw [List.filterMap_eq_map', List.map_map, List.map_map]
              refine List.map_congr_left fun y _ => ?_
              show (if V.int y = V.int v2 then V.int v1 else V.int y) = V.int (if y = v2 then v1 else y)
              by_cases z : y = v2
              · subst z; rw [if_pos rfl, if_pos rfl]
              · rw [if_neg (fun e => z (V.int.inj e)), if_neg z]
            rw [em]
            refine ⟨_, _, r, fo, _, es ++ [((b' % sp), (b' / sp % sp))], ⟨_, _, _, _, rfl⟩, X5.trans (Ext.new hr' _), fo0, rf, upd_same, by rw [List.length_map]; exact hsl, en4.ext (Ext.new hr' _), by rw [List.length_append]; exact Nat.succ_le_succ esl, fun e he => ?_⟩
            rcases List.mem_append.mp he with z | z
            · exact esi e z
            · rw [List.mem_singleton] at z; subst z; exact inn
        · exact ⟨_, _, hp, fo, hs, es, ⟨_, _, _, _, rfl⟩, ext.trans X3, fo0, ne, hs3, hsl, es3, by omega, esi⟩
      · refine iteF ?_
        exact ⟨_, _, hp, fo, hs, es, ⟨_, _, _, _, rfl⟩, ext.trans X3, fo0, ne, hs3, hsl, es3, by omega, esi⟩
  · rintro σ H' ⟨b', h, hp, fo, hs, es, ⟨x6, x7, x8, x9, rfl⟩, ext, fo0, ne, hsA, hsl, esA, esl, esi⟩
    exact ⟨_, rfl, q fo es H' ext fo0 esA esl esi⟩
end
end My

set_option Elab.async false
set_option linter.all false
set_option maxRecDepth 100000
namespace My
open PySem L2
abbrev lbF (net : List Tr) : Tr → Str := fun t => homF net t.2.1
/-- the dict whose lists are these heaps, each list a new one -/
def PD (H0 H : Hp) (kvs : List (Key × V)) (P : List (Str × List Str)) : Prop := Paired (fun kv p => kv.1 = Sum.inr p.1 ∧ ∃ a, kv.2 = V.ref a ∧ LsS H a p.2 ∧ H0 a = Option.none) kvs P
theorem PD.ext {H0 H H' : Hp} {kvs : List (Key × V)} {P : List (Str × List Str)} (h : PD H0 H kvs P) (e : Ext H H') : PD H0 H' kvs P := Paired.mapP h fun _ _ ⟨h1, a, h2, h3, h4⟩ => ⟨h1, a, h2, e _ _ h3, h4⟩
theorem PD.set {H0 H : Hp} {d : Addr} {kvs : List (Key × V)} {P : List (Str × List Str)} (h : PD H0 H kvs P) {kvs' : List (Key × V)} (hd : H d = some (.dK kvs')) (o : HO) : PD H0 (upd H d o) kvs P := Paired.mapP h fun _ _ ⟨h1, a, h2, h3, h4⟩ => ⟨h1, a, h2, by
  have ne : a ≠ d := fun z => by unfold LsS at h3; rw [z, hd] at h3; cases h3
  unfold LsS; rw [upd_ne ne]; exact h3, h4⟩
theorem PD.none {H0 H : Hp} : ∀ {kvs : List (Key × V)} {P : List (Str × List Str)} {x : Str}, PD H0 H kvs P → x ∉ P.map (·.1) → valV kvs (Sum.inr x) = Option.none
  | _, _, _, .nil, _ => rfl
  | _, _, _, .cons h t, nx => by
    rw [List.map_cons] at nx
    have n1 := fun z => nx (List.mem_cons.mpr (.inl z))
    rw [valV_neg (fun z => n1 (Sum.inr.inj (h.1 ▸ z)).symm)]
    exact PD.none t fun z => nx (List.mem_cons_of_mem _ z)
theorem PD.some {H0 H : Hp} : ∀ {kvs : List (Key × V)} {P : List (Str × List Str)} {x : Str}, PD H0 H kvs P → x ∈ P.map (·.1) → ∃ p ∈ P, p.1 = x ∧ ∃ a, valV kvs (Sum.inr x) = Option.some (.ref a) ∧ LsS H a p.2
  | _, _, _, .nil, m => by cases m
  | _, _, x, @Paired.cons _ _ _ kv p _ _ h t, m => by
    obtain ⟨h1, a, h2, h3, _⟩ := h
    by_cases e : p.1 = x
    · exact ⟨p, List.mem_cons_self, e, a, by rw [valV_pos (by rw [h1, e]), h2], h3⟩
    · rw [List.map_cons] at m
      rcases List.mem_cons.mp m with z | z
      · exact absurd z.symm e
      · obtain ⟨p', hp', e', a', v, l⟩ := PD.some t z
        exact ⟨p', List.mem_cons_of_mem _ hp', e', a', by rw [valV_neg (fun z => e (Sum.inr.inj (h1 ▸ z)))]; exact v, l⟩
theorem PD.put {H0 H : Hp} {x n : Str} {a : Addr} {old : List Str} (la : LsS H a (old ++ [n])) (la0 : H0 a = Option.none) : ∀ {kvs : List (Key × V)} {P : List (Str × List Str)}, PD H0 H kvs P → (P.map (·.1)).Nodup → (∀ p ∈ P, p.1 = x → p.2 = old) → PD H0 H (kvs.map fun kv => if kv.1 = Sum.inr x then (kv.1, V.ref a) else kv) (P.map fun p => if p.1 = x then (p.1, p.2 ++ [n]) else p)
  | _, _, .nil, _, _ => .nil
  | _, _, @Paired.cons _ _ _ kv p _ _ h t, nd, ho => by
    rw [List.map_cons, List.map_cons]
    refine .cons ?_ (PD.put la la0 t (List.nodup_cons.mp nd).2 fun p hp => ho p (List.mem_cons_of_mem _ hp))
    obtain ⟨h1, b, h2, h3, h4⟩ := h
    by_cases e : p.1 = x
    · have e' : kv.1 = Sum.inr x := by rw [h1, e]
      rw [if_pos e, if_pos e']
      exact ⟨h1, a, rfl, by rw [ho p List.mem_cons_self e]; exact la, la0⟩
    · have e' : ¬ kv.1 = Sum.inr x := fun z => e (Sum.inr.inj (h1 ▸ z))
      rw [if_neg e, if_neg e']
      exact ⟨h1, b, h2, h3, h4⟩
end My

set_option Elab.async false
set_option linter.all false
set_option maxRecDepth 100000
namespace My
open PySem L2
theorem PCK_len (f : Tr → Str) (net : List Tr) : (PCK f net).length ≤ net.length := by
  refine snoc_ind (P := fun net => (PCK f net).length ≤ net.length) (by rw [PCK_nil]; exact Nat.le_refl _) (fun l t ih => ?_) net
  rw [PCK_snoc, List.length_append]
  split
  · rw [List.length_map]; exact Nat.le_trans ih (Nat.le_add_right _ _)
  · rw [List.length_append]; exact Nat.add_le_add_right ih _
theorem PCK_small (f : Tr → Str) (net : List Tr) : ∀ p ∈ PCK f net, p.2.length ≤ net.length := fun p hp => by
  rw [PCK_val f net p hp, List.length_map]
  exact List.length_filter_le _ _
theorem pd_rows {H0 H : Hp} : ∀ {kvs : List (Key × V)} {P : List (Str × List Str)}, PD H0 H kvs P → ∃ as : List Addr, kvs.map (·.2) = as.map V.ref ∧ Paired (fun a r => LsS H a r ∧ H0 a = none) as (P.map (·.2))
  | _, _, .nil => ⟨[], rfl, .nil⟩
  | _, _, .cons h t => by
    obtain ⟨h1, a, h2, h3⟩ := h
    obtain ⟨as, e, p⟩ := pd_rows t
    exact ⟨a :: as, by rw [List.map_cons, List.map_cons, e, h2], .cons h3 p⟩
def spPieces : Sp := fun vs H Q _ => ∃ (p : Addr) (net : List Tr), vs = [.ref p] ∧ NetAt H p net ∧ net.length ≤ 12 ∧ ∀ r H', Ext H H' → H r = none → RowsY H H' r ((PCK (lbF net) net).map (·.2)) → Q (.ref r) H'
section
variable {P : Program} {w : World} {K : PySem.W.Frag} {mg : Str → Option Value} {base : Heap} {f f1 f2 : Addr} {fd fd1 fd2 : FuncData}
abbrev piN : List Str := ["net", "home", "told", "tie", "one", "other"]
theorem scPieces : FnScope piN ["net"] (defScope sPieces) := ⟨rfl, rfl, rfl, by decide +kernel, rfl, by decide +kernel, by decide +kernel⟩
set_option maxHeartbeats 4000000 in
theorem ok_pieces (F : Fun K "pieces" "pieces" sPieces f fd) (G : FnOk P w K mg base CX0 2 f1 fd1 ["net"] spHomes) (bG : Binds K fd1 ["net"] []) (kG : PySem.W.keepIn K (.ref f1) = true) (mG : mg "homes" = some (.ref f1)) (ml : mg "list" = none) : FnOk P w K mg base CX0 3 f fd ["net"] spPieces := by
  refine F.ok scPieces (fun vs H Q E h => ?_) (fun cdv A outer s H vs Q E hr h => ?_)
  · obtain ⟨p, net, rfl, _⟩ := h
    rfl
  obtain ⟨p, net, rfl, nt, hl, q⟩ := h
  refine ⟨_, pss_cons (ps_set (i := 1) scPieces.nd rfl (Or.inl rfl) (pe_call G hr rfl mG kG bG .nil pass0 (pa_cons (pv 0) pa_nil)))
    (pss_cons (ps_set (i := 2) scPieces.nd rfl (Or.inl rfl) pe_dnewK)
    (pss_cons (ps_for PassesOwn.never rfl (pi_list (pv 0)) (pg_tup rfl (pgs_cons (pg_name (i := 3) scPieces.nd rfl (Or.inl rfl)) (pgs_cons (pg_name (i := 4) scPieces.nd rfl (Or.inl rfl)) (pgs_cons (pg_name (i := 5) scPieces.nd rfl (Or.inl rfl)) pgs_nil))))
      (pss_one (ps_dput (hu_of hr) (pv 2) (pe_dget (hu_of hr) (pv 1) (pv 4) (fun _ _ => rfl)) (pe_op op_cat (pe_dget2 (hu_of hr) (pv 2) (pe_dget (hu_of hr) (pv 1) (pv 4) (fun _ _ => rfl)) (pe_lst pa_nil) ⟨rfl, rfl, rfl, rfl⟩) (pe_lst (pa_cons (pv 3) pa_nil))) rfl)))
    (pss_one (ps_ret (pe_callTy (call_list_vals rfl) rfl ml boot_list' (pa_cons (pe_bm0 PySem.F.plainAttrs_dict PySem.F.slot_dict_values PySem.F.type_dict_values mt_values (pv 2)) pa_nil)))))), ?_⟩
  obtain ⟨as, hp, pr⟩ := id nt
  have lA : as.length = net.length := pr.length
  refine ⟨_, rfl, p, net, rfl, nt, hl, fun hm ps H1 e1 hm0 hm1 pok lps => ?_⟩
  intro d hd
  have hd0 := e1.none hd
  have hmd : hm ≠ d := ne_of_none hm1 hd
  refine ⟨_, rfl, p, rfl, ⟨_, SqL.of ((e1.over hd0 _) _ _ hp)⟩, ?_⟩
  refine for_list (xs := as.map V.ref) (fun i σ H3 => ∃ (x3 x4 x5 : Option V) (kvs : List (Key × V)), σ = [some (.ref p), some (.ref hm), some (.ref d), x3, x4, x5] ∧ Ext H H3 ∧ H3 hm = some (.dK (hD ps (homF net))) ∧ H3 d = some (.dK kvs) ∧ PD H H3 kvs (PCK (lbF net) (net.take i)))
    ⟨none, none, none, [], rfl, e1.over hd0 _, by rw [upd_ne hmd]; exact hm1, upd_same, by rw [List.take_zero, PCK_nil]; exact .nil⟩ ?_ ?_ ?_
  · rintro i σ H3 _ ⟨x3, x4, x5, kvs, _, e3, _⟩
    exact SqL.of (e3 _ _ hp)
  · rintro i x σ H3 hx ⟨x3, x4, x5, kvs, rfl, e3, hh3, hd3, pd⟩
    obtain ⟨a, t, rfl, ht, ha⟩ := net_get pr hx
    have hi := at_lt ht
    have i1 : t.2.1 ∈ ps := (pok.2 _).mpr ⟨t, List.mem_of_getElem? ht, .inl rfl⟩
    have v1 := hD_val (homF net) t.2.1 ps
    rw [if_pos i1] at v1
    have lk : kvs.length ≤ i := by
      have h1 : kvs.length = _ := pd.length
      have h2 := PCK_len (lbF net) (net.take i)
      rw [List.length_take] at h2
      omega
    refine ⟨a, _, rfl, SqT.of (e3 _ _ ha), rfl, _, _, rfl, _, _, rfl, _, _, rfl, rfl, ?_⟩
    have gh : ∀ {H4 : Hp}, Ext H3 H4 → DGet H4 hm (V.str t.2.1) (some (.str (homF net t.2.1))) := fun e => by
      have g := DGet.k (k := Sum.inr t.2.1) (e _ _ hh3)
      rw [v1] at g
      exact g
    refine ⟨_, rfl, d, rfl, .inl ⟨kvs, .inl hd3⟩, _, rfl, _, rfl, hm, _, rfl, gh (Ext.refl _), Nat.zero_le _, fun l0 hl0 => ?_⟩
    have n0 := Ext.new hl0 (.lst [])
    refine ⟨_, DGet.k (k := Sum.inr (homF net t.2.1)) (n0 _ _ hd3), ?_⟩
    refine ⟨_, rfl, (by show 1 ≤ sizeLine; decide), fun l1 hl1 => ?_⟩
    have n1 := n0.trans (Ext.new hl1 (.lst [V.str t.1]))
    have snoc := PCK_snoc (lbF net) t (net.take i)
    rw [← take_snoc ht] at snoc
    by_cases m : homF net t.2.1 ∈ (PCK (lbF net) (net.take i)).map (·.1)
    · obtain ⟨pp, hpp, ep, lv, ev, hlv⟩ := pd.some m
      have lz := PCK_small (lbF net) (net.take i) pp hpp
      rw [List.length_take] at lz
      rw [if_pos (show lbF net t ∈ _ from m)] at snoc
      refine ⟨lv, l1, _, _, by rw [ev]; rfl, rfl, n1 _ _ hlv, upd_same, ?_, fun l2 hl2 => ?_⟩
      · rw [List.length_map]
        show _ + 1 ≤ sizeLine
        exact Nat.le_of_lt (small1000 (by omega))
      have n2 := n1.trans (Ext.new hl2 (.lst (pp.2.map V.str ++ [V.str t.1])))
      have d2 := n2 _ _ hd3
      have e4 := (e3.trans n2).over hd0 (.dK (putK kvs (Sum.inr (homF net t.2.1)) (.ref l2)))
      refine ⟨_, rfl, _, rfl, _, rfl, hm, _, rfl, gh n2, d, _, rfl, DPut.k (k := Sum.inr (homF net t.2.1)) d2 (small1000 (by omega)), ?_⟩
      refine ⟨_, _, _, putK kvs (Sum.inr (homF net t.2.1)) (.ref l2), rfl, e4, by rw [upd_ne hmd]; exact n2 _ _ hh3, upd_same, ?_⟩
      rw [snoc]
      have pk : putK kvs (Sum.inr (homF net t.2.1)) (.ref l2) = kvs.map fun kv => if kv.1 = Sum.inr (homF net t.2.1) then (kv.1, V.ref l2) else kv := by
        unfold putK
        rw [valV_any, ev, Option.isSome_some, if_pos rfl]
      rw [pk]
      refine PD.set (PD.put (old := pp.2) (n := t.1) (by unfold LsS; rw [upd_same, List.map_append]; rfl) ((e3.trans n1).none hl2) (pd.ext n2) (PCK_keys _ _).1 fun p' hp' ep' => ?_) d2 _
      rw [PCK_val _ _ p' hp', PCK_val _ _ pp hpp, ep', ep]
    · have ev := pd.none m
      rw [if_neg (show ¬ lbF net t ∈ _ from m)] at snoc
      refine ⟨l0, l1, _, _, by rw [ev]; rfl, rfl, (Ext.new hl1 _) _ _ upd_same, upd_same, (by show 1 ≤ sizeLine; decide), fun l2 hl2 => ?_⟩
      have n2 := n1.trans (Ext.new hl2 (.lst ([] ++ [V.str t.1])))
      have d2 := n2 _ _ hd3
      have e4 := (e3.trans n2).over hd0 (.dK (putK kvs (Sum.inr (homF net t.2.1)) (.ref l2)))
      refine ⟨_, rfl, _, rfl, _, rfl, hm, _, rfl, gh n2, d, _, rfl, DPut.k (k := Sum.inr (homF net t.2.1)) d2 (small1000 (by omega)), ?_⟩
      refine ⟨_, _, _, putK kvs (Sum.inr (homF net t.2.1)) (.ref l2), rfl, e4, by rw [upd_ne hmd]; exact n2 _ _ hh3, upd_same, ?_⟩
      rw [snoc, putK_new _ ev]
      exact PD.set (P := PCK (lbF net) (net.take i) ++ [(lbF net t, [t.1])]) (Paired.snoc (pd.ext n2) ⟨rfl, l2, rfl, (upd_same : upd _ _ (HO.lst [V.str t.1]) _ = _), (e3.trans n1).none hl2⟩) d2 _
  · rintro σ H3 ⟨x3, x4, x5, kvs, rfl, e3, hh3, hd3, pd⟩
    rw [List.length_map, lA, List.take_of_length_le (Nat.le_refl _)] at pd
    refine ⟨_, rfl, .inr (.inr (.inl ⟨rfl, .inl ⟨kvs, hd3⟩⟩)), d, kvs, rfl, rfl, hd3, fun v hv' => ?_⟩
    have n1 := Ext.new hv' (VwS v d)
    refine ⟨v, d, kvs, rfl, upd_same, n1 _ _ hd3, fun l hl' => ?_⟩
    obtain ⟨bs, eb, pb⟩ := pd_rows pd
    have n2 := n1.trans (Ext.new hl' (.lst (kvs.map (·.2))))
    exact q l _ (e3.trans n2) ((e3.trans n1).none hl') ⟨bs, by rw [upd_same, eb], Paired.mapP pb fun a t z => ⟨n2 _ _ z.1, z.2, ne_of_none (n1 _ _ z.1) hl'⟩⟩
end
end My

set_option Elab.async false
set_option linter.all false
set_option maxRecDepth 100000
namespace L2
open PySem PySem.Spec PyProof.Rows
theorem for_pairs {n : Nat} {Ls : Hp → Prop} {xv : Nat → List V} {g : TG} {tb : TS} {D : Ends} {σ : St} {H : Hp} (Pv : Nat → St → Hp → Prop) (h0 : Pv 0 σ H) (hl : ∀ i σ H, i ≤ n → Pv i σ H → Ls H)
    (hs : ∀ i σ H T, i < n → Pv i σ H → H T = none → g (.ref T) σ (upd H T (.tup (xv i))) fun σ2 H2 => tb { D with nx := Pv (i + 1), ct := Pv (i + 1), bk := D.nx } σ2 H2) (hd : ∀ σ H, Pv n σ H → D.nx σ H) :
    ∃ W : Nat → Nat → St → Hp → Prop, (∃ m, W 0 m σ H) ∧ ∀ i m σ H, W i m σ H →
      ((Itp n Ls xv).stop i H ∧ D.nx σ H) ∨ ((Itp n Ls xv).go i H ∧ ∃ N : St → Hp → Prop, (∀ σ' H', N σ' H' → ∃ m', m' < m ∧ W (i + 1) m' σ' H') ∧ ∀ x H', (Itp n Ls xv).yld i H x H' → g x σ H' fun σ2 H2 => tb { D with nx := N, ct := N, bk := D.nx } σ2 H2) := by
  refine ⟨fun i m σ H => m = n - i ∧ i ≤ n ∧ Pv i σ H, ⟨n, by simp, Nat.zero_le _, h0⟩, ?_⟩
  rintro i m σ H ⟨rfl, hi, p⟩
  have q := hl i σ H hi p
  by_cases hlt : i < n
  · refine .inr ⟨⟨q, hlt⟩, Pv (i + 1), fun σ' H' p' => ⟨n - (i + 1), by omega, rfl, hlt, p'⟩, fun x H' y => ?_⟩
    obtain ⟨T, e1, e2, e3⟩ := y
    subst e2 e3
    exact hs i σ H T hlt p e1
  · have e : i = n := by omega
    subst e
    exact .inl ⟨⟨q, rfl⟩, hd σ H p⟩
end L2
namespace My
open PySem L2
theorem at_intM {hs : List Int} {i : Int} (h0 : 0 ≤ i) (h1 : i < (hs.length : Int)) : ∃ v ∈ hs, atI (hs.map V.int) i = some (.int v) := by
  have hk : i.toNat < hs.length := by omega
  have hv : atI (hs.map V.int) ((i.toNat : Nat) : Int) = some (.int hs[i.toNat]) := atI_nat (by rw [List.getElem?_map, List.getElem?_eq_getElem hk] <;> rfl)
  rw [Int.toNat_of_nonneg h0] at hv
  exact ⟨_, List.getElem_mem hk, hv⟩
theorem at_strM {hs : List Str} {i : Int} (h0 : 0 ≤ i) (h1 : i < (hs.length : Int)) : ∃ v ∈ hs, atI (hs.map V.str) i = some (.str v) := by
  have hk : i.toNat < hs.length := by omega
  have hv : atI (hs.map V.str) ((i.toNat : Nat) : Int) = some (.str hs[i.toNat]) := atI_nat (by rw [List.getElem?_map, List.getElem?_eq_getElem hk] <;> rfl)
  rw [Int.toNat_of_nonneg h0] at hv
  exact ⟨_, List.getElem_mem hk, hv⟩
theorem paired_any {α β : Type} {R : α → β → Prop} {G : β → Prop} : ∀ {as : List α}, (∀ a ∈ as, ∃ b, R a b ∧ G b) → ∃ bs, Paired R as bs ∧ ∀ b ∈ bs, G b
  | [], _ => ⟨[], .nil, fun b hb => by cases hb⟩
  | a :: as, h => by
    obtain ⟨b, h1, h2⟩ := h a List.mem_cons_self
    obtain ⟨bs, h3, h4⟩ := paired_any (as := as) fun a' ha' => h a' (List.mem_cons_of_mem _ ha')
    refine ⟨b :: bs, .cons h1 h3, fun c hc => ?_⟩
    rcases List.mem_cons.mp hc with rfl | z
    · exact h2
    · exact h4 c z
theorem paired_mem {α β : Type} {R : α → β → Prop} : ∀ {as : List α} {bs : List β}, Paired R as bs → ∀ a ∈ as, ∃ b ∈ bs, R a b
  | _, _, .nil, a, h => by cases h
  | _, _, .cons h t, a, ha => by
    rcases List.mem_cons.mp ha with rfl | z
    · exact ⟨_, List.mem_cons_self, h⟩
    · obtain ⟨b, hb, hr⟩ := paired_mem t a z
      exact ⟨b, List.mem_cons_of_mem _ hb, hr⟩
theorem paired_map {α β γ : Type} {R : α → β → Prop} {S : α → γ → Prop} (g : β → γ) (h : ∀ a b, R a b → S a (g b)) : ∀ {as : List α} {bs : List β}, Paired R as bs → Paired S as (bs.map g)
  | _, _, .nil => .nil
  | _, _, .cons x t => .cons (h _ _ x) (paired_map g h t)
theorem NetAt.snoc {H H' : Hp} {k a : Addr} {as : List Addr} {net : List Tr} {t : Tr} (hk : H k = some (.lst (as.map V.ref))) (pr : Paired (fun a t => H a = some (.tup (trV t))) as net) (e : Ext H H') (ha : H' a = some (.tup (trV t))) : NetAt (upd H' k (.lst (as.map V.ref ++ [V.ref a]))) k (net ++ [t]) := by
  have hk' := e _ _ hk
  have ne : ∀ {b : Addr} {xs : List V}, H' b = some (.tup xs) → b ≠ k := fun h z => by rw [z, hk'] at h; cases h
  refine ⟨as ++ [a], by rw [upd_same, List.map_append]; rfl, ?_⟩
  refine Paired.snoc (Paired.mapP pr fun b u z => ?_) ?_
  · have z' := e _ _ z
    rw [upd_ne (ne z')]; exact z'
  · rw [upd_ne (ne ha)]; exact ha
def rowT (t : Tr) : List Str := [t.1, t.2.1, t.2.2]
def t0 : Tr := ("", "", "")
theorem rowT_at : ∀ {net : List Tr} {i : Nat}, i < net.length → rowT (net.getD i t0) = (net.map rowT).getD i []
  | [], _, h => absurd h (Nat.not_lt_zero _)
  | t :: r, 0, _ => rfl
  | t :: r, i + 1, h => by simpa using rowT_at (net := r) (i := i) (by simpa using h)
theorem net_pick {H : Hp} : ∀ {as : List Addr} {net : List Tr} {i : Nat}, Paired (fun a t => H a = some (.tup (trV t))) as net → i < as.length → H (as.getD i 0) = some (.tup (trV (net.getD i t0)))
  | _, _, i, .nil, hi => absurd hi (Nat.not_lt_zero _)
  | _, _, 0, .cons h _, _ => h
  | _, _, i + 1, .cons _ t, hi => by simpa using net_pick (i := i) t (by simpa using hi)
theorem net_picks {H : Hp} {as : List Addr} {net : List Tr} (pr : Paired (fun a t => H a = some (.tup (trV t))) as net) : ∀ {l : List Nat}, (∀ i ∈ l, i < as.length) → Paired (fun a t => H a = some (.tup (trV t))) (l.map fun i => as.getD i 0) (l.map fun i => net.getD i t0)
  | [], _ => .nil
  | i :: l, h => .cons (net_pick pr (h i List.mem_cons_self)) (net_picks pr fun j hj => h j (List.mem_cons_of_mem _ hj))
theorem rows_picks {net : List Tr} : ∀ {l : List Nat}, (∀ i ∈ l, i < net.length) → (l.map fun i => net.getD i t0).map rowT = l.map fun i => (net.map rowT).getD i []
  | [], _ => rfl
  | i :: l, h => by
    rw [List.map_cons, List.map_cons, List.map_cons, rows_picks fun j hj => h j (List.mem_cons_of_mem _ hj), rowT_at (h i List.mem_cons_self)]
theorem rowT_inj {t u : Tr} (e : rowT t = rowT u) : t = u := by
  obtain ⟨a, b, c⟩ := t
  obtain ⟨a', b', c'⟩ := u
  unfold rowT at e
  simp at e
  obtain ⟨e1, e2, e3⟩ := e
  subst e1 e2 e3; rfl
theorem map_names (net : List Tr) : (net.map rowT).map (fun r => r.getD 0 "") = net.map (·.1) := by
  rw [List.map_map]; rfl
/-- rows in order whose first names differ rise by these -/
theorem rise_srt : ∀ {net : List Tr}, Srt (net.map rowT) → (net.map (·.1)).Nodup → Rise (net.map (·.1))
  | [], _, _ => List.Pairwise.nil
  | t :: r, h, nd => by
    rw [List.map_cons] at h nd
    obtain ⟨h1, h2⟩ := List.pairwise_cons.mp h
    obtain ⟨n1, n2⟩ := List.nodup_cons.mp nd
    rw [List.map_cons]
    refine List.pairwise_cons.mpr ⟨fun x hx => ?_, rise_srt h2 n2⟩
    obtain ⟨u, hu, rfl⟩ := List.mem_map.mp hx
    have q := h1 (rowT u) (List.mem_map_of_mem hu)
    have ne : ¬ u.1 = t.1 := fun z => n1 (z ▸ List.mem_map_of_mem hu)
    unfold rowT ltL at q
    rw [if_neg ne] at q
    rcases sLtB_tri t.1 u.1 with z | z | z
    · exact z
    · exact absurd z.symm ne
    · rw [z] at q; cases q
def TxT (t : Tr) : Prop := Sm t.1 ∧ Sm t.2.1 ∧ Sm t.2.2
def TxN (net : List Tr) : Prop := ∀ t ∈ net, TxT t
def spNet (K : PySem.W.Frag) : Sp := fun vs H Q _ => ∃ (a : Addr) (ns : List Int), vs = [.ref a, .int 1] ∧ SqL K H a (ns.map V.int) ∧ ∀ r net H', Ext H H' → H r = none → NetAt H' r net → net.length ≤ 12 → TxN net → Rise (net.map (·.1)) → Q (.ref r) H'
section
variable {P : Program} {w : World} {K : PySem.W.Frag} {mg : Str → Option Value} {base : Heap} {f f1 f2 f3 : Addr} {fd fd1 fd2 fd3 : FuncData}
abbrev neN : List Str := ["_law_script", "_law_at", "_law_head", "_law_ends_here", "_law_ties", "_law_knots", "_law_net_here", "_law_tie", "_law_two"]
theorem scNet : FnScope neN ["_law_script", "_law_at"] (defScope sNet) := ⟨rfl, rfl, rfl, by decide +kernel, rfl, by decide +kernel, by decide +kernel⟩
abbrev spr : List Int := [4, 5, 3, 6, 5, 9, 2, 10]
set_option maxHeartbeats 8000000 in
theorem ok_net (F : Fun K "_law_net" "_law_net" sNet f fd)
    (G1 : FnOk P w K mg base CX0 2 f1 fd1 ["_law_script", "_law_k"] (spBig K)) (bG1 : Binds K fd1 ["_law_script", "_law_k"] []) (kG1 : PySem.W.keepIn K (.ref f1) = true) (mG1 : mg "_law_big" = some (.ref f1))
    (G2 : FnOk P w K mg base CX0 1 f2 fd2 ["_law_big_here", "_law_many", "_law_spread"] spEnds) (bG2 : Binds K fd2 ["_law_big_here", "_law_many", "_law_spread"] []) (kG2 : PySem.W.keepIn K (.ref f2) = true) (mG2 : mg "_law_ends" = some (.ref f2))
    (G3 : FnOk P w K mg base CX0 1 f3 fd3 ["_law_big_here", "_law_many"] spNames) (bG3 : Binds K fd3 ["_law_big_here", "_law_many"] []) (kG3 : PySem.W.keepIn K (.ref f3) = true) (mG3 : mg "_law_names" = some (.ref f3))
    (ml : mg "len" = none) (mz : mg "zip" = none) (mtu : mg "tuple" = none) (mso : mg "sorted" = none) : FnOk P w K mg base CX0 3 f fd ["_law_script", "_law_at"] (spNet K) := by
  refine F.ok scNet (fun vs H Q E h => ?_) (fun cdv A outer s H vs Q E hr h => ?_)
  · obtain ⟨a, ns, rfl, _⟩ := h
    rfl
  obtain ⟨a, ns, rfl, hS, q⟩ := h
  have hr1 := hr.mono (j := 1) (by decide)
  refine ⟨_, pss_cons (ps_set (i := 2) scNet.nd rfl (Or.inl rfl) (pe_call G1 hr rfl mG1 kG1 bG1 .nil pass0 (pa_cons (pv 0) (pa_cons (pv 1) pa_nil))))
    (pss_cons (ps_set (i := 3) scNet.nd rfl (Or.inl rfl) (pe_call G2 hr1 rfl mG2 kG2 bG2 .nil pass0 (pa_cons (pe_call G1 hr rfl mG1 kG1 bG1 .nil pass0 (pa_cons (pv 0) (pa_cons (pe_op op_add (pv 1) pe_int) pa_nil))) (pa_cons (pe_op op_mod (pe_op op_fdiv (pv 2) pe_int) pe_int) (pa_cons
        (pe_ix ix_list (pe_lst (pa_cons pe_int (pa_cons pe_int (pa_cons pe_int (pa_cons pe_int (pa_cons pe_int (pa_cons pe_int (pa_cons pe_int (pa_cons pe_int pa_nil))))))))) (pe_op op_mod (pv 2) pe_int) (fun _ _ => rfl)) pa_nil)))))
    (pss_cons (ps_set (i := 4) scNet.nd rfl (Or.inl rfl) (pe_call G3 hr1 rfl mG3 kG3 bG3 .nil pass0 (pa_cons (pe_op op_fdiv (pv 2) pe_int) (pa_cons (pe_callB call_len_seq rfl ml PySem.boot_len (pa_cons (pv 3) pa_nil)) pa_nil))))
    (pss_cons (ps_set (i := 5) scNet.nd rfl (Or.inl rfl) (pe_call G3 hr1 rfl mG3 kG3 bG3 .nil pass0 (pa_cons (pe_call G1 hr rfl mG1 kG1 bG1 .nil pass0 (pa_cons (pv 0) (pa_cons (pe_op op_add (pv 1) pe_int) pa_nil))) (pa_cons pe_int pa_nil))))
    (pss_cons (ps_set (i := 6) scNet.nd rfl (Or.inl rfl) (pe_lst pa_nil))
    (pss_cons (ps_for PassesOwn.never rfl (pi_zip rfl mz (pa_cons (pv 4) (pa_cons (pv 3) pa_nil))) (pg_tup rfl (pgs_cons (pg_name (i := 7) scNet.nd rfl (Or.inl rfl)) (pgs_cons (pg_name (i := 8) scNet.nd rfl (Or.inl rfl)) pgs_nil)))
      (pss_one (ps_expr (pe_bm PySem.F.plainAttrs_list PySem.F.slot_list_append PySem.F.type_list_append mt_append (pv 6) (pa_cons
        (pe_op op_catT (pe_tup (pa_cons (pv 7) pa_nil)) (pe_callTy call_tuple_of rfl mtu boot_tuple' (pa_cons (pe_callB call_sortedS rfl mso boot_sorted' (pa_cons
          (pe_lst (pa_cons (pe_ix ix_list (pv 5) (pe_ix ix_tup (pv 8) pe_int (fun _ _ => rfl)) (fun _ _ => rfl)) (pa_cons (pe_ix ix_list (pv 5) (pe_ix ix_tup (pv 8) pe_int (fun _ _ => rfl)) (fun _ _ => rfl)) pa_nil))) pa_nil)) pa_nil))) pa_nil)))))
    (pss_one (ps_ret (pe_callB call_sortedTO rfl mso boot_sorted' (pa_cons (pv 6) pa_nil))))))))), ?_⟩
  refine ⟨_, rfl, _, rfl, a, ns, 1, rfl, hS, by decide, by decide, fun hd => ?_⟩
  have d1 := Int.emod_nonneg (hd / 8) (show (13 : Int) ≠ 0 by decide)
  have d2 := Int.emod_lt_of_pos (hd / 8) (show (0 : Int) < 13 by decide)
  have d3 := Int.emod_nonneg hd (show (8 : Int) ≠ 0 by decide)
  have d4 := Int.emod_lt_of_pos hd (show (0 : Int) < 8 by decide)
  refine ⟨_, rfl, _, rfl, _, _, rfl, rfl, a, ns, _, rfl, hS, by decide, by decide, fun v1 => ?_⟩
  refine ⟨_, rfl, _, _, rfl, rfl, ⟨by decide, by decide⟩, _, _, rfl, rfl, (by show (0 : Int) < _; decide), (by show 8 ≤ sizeLine; decide), fun L hL => ?_⟩
  have X1 := Ext.new hL (.lst (spr.map V.int))
  obtain ⟨sp, spm, spa⟩ := at_intM (hs := spr) d3 (by show hd % 8 < 8; exact d4)
  have spb : 0 < sp ∧ sp ≤ 10 := by
    have : ∀ z ∈ spr, 0 < z ∧ z ≤ 10 := by decide
    exact this sp spm
  refine ⟨_, rfl, _, _, rfl, rfl, (by show (0 : Int) < _; decide), L, spr.map V.int, _, _, rfl, rfl, SqL.of upd_same, spa, ?_⟩
  refine ⟨_, _, sp, rfl, d1, by omega, spb.1, spb.2, fun en es H2 e2 en0 hen esl esi => ?_⟩
  have E2 := X1.trans e2
  obtain ⟨bs, hb1, hb2⟩ := id hen
  have lb : bs.length = es.length := hb2.length
  have esl' : es.length ≤ 12 := by omega
  refine ⟨_, rfl, _, _, rfl, rfl, ⟨by decide, by decide⟩, _, rfl, en, _, rfl, .inl (SqL.of hb1), ?_⟩
  refine ⟨_, _, rfl, by omega, by rw [List.length_map]; omega, fun tl ts H3 e3 tl0 htl tsl tsx tnd => ?_⟩
  have E3 := E2.trans e3
  refine ⟨_, rfl, _, rfl, _, _, rfl, rfl, a, ns, _, rfl, E3.sqL hS, by decide, by decide, fun v2 => ?_⟩
  refine ⟨_, 10, rfl, by decide, by decide, fun kl kn H4 e4 kl0 hkl knl knx _ => ?_⟩
  have E4 := E3.trans e4
  refine ⟨Nat.zero_le _, fun nl hnl => ?_⟩
  have nl0 := E4.none hnl
  have E5 := E4.trans (Ext.new hnl (.lst []))
  have tsl' : ts.length = es.length := by rw [tsl, List.length_map, lb]; omega
  have mn : min (ts.map V.str).length (bs.map V.ref).length = es.length := by rw [List.length_map, List.length_map, lb, tsl']; exact Nat.min_self _
  have htl5 := (Ext.new hnl (.lst [])) _ _ (e4 _ _ htl)
  have hen5 := (Ext.new hnl (.lst [])) _ _ (e4 _ _ (e3 _ _ hb1))
  refine ⟨_, rfl, _, rfl, tl, en, _, _, rfl, SqL.of htl5, SqL.of hen5, ?_⟩
  refine for_pairs (fun i σ H6 => ∃ (x7 x8 : Option V) (net : List Tr), σ = [some (.ref a), some (.int 1), some (.int hd), some (.ref en), some (.ref tl), some (.ref kl), some (.ref nl), x7, x8] ∧ Ext H4 H6 ∧ NetAt H6 nl net ∧ net.length = i ∧ TxN net ∧ net.map (·.1) = ts.take i)
    ⟨none, none, [], rfl, Ext.new hnl _, ⟨[], upd_same, .nil⟩, rfl, (fun t ht => by cases ht), rfl⟩ ?_ ?_ ?_
  · rintro i σ H6 _ ⟨x7, x8, net, _, e6, _⟩
    exact ⟨SqL.of (e6 _ _ (e4 _ _ htl)), SqL.of (e6 _ _ (e4 _ _ (e3 _ _ hb1)))⟩
  · rintro i σ H6 T hi ⟨x7, x8, net, rfl, e6, nt, nl', tx, nm⟩ hT
    rw [mn] at hi
    have hit : i < ts.length := by omega
    have hib : i < bs.length := by omega
    have g1 : (ts.map V.str).getD i .non = .str ts[i] := by rw [List.getD_eq_getElem?_getD, List.getElem?_map, List.getElem?_eq_getElem hit]; rfl
    have g2 : (bs.map V.ref).getD i .non = .ref bs[i] := by rw [List.getD_eq_getElem?_getD, List.getElem?_map, List.getElem?_eq_getElem hib]; rfl
    obtain ⟨e, he, hbe⟩ := paired_get hb2 (List.getElem?_eq_getElem hib)
    obtain ⟨⟨i0, i1⟩, j0, j1⟩ := esi e (List.mem_of_getElem? he)
    obtain ⟨k1, k1m, k1a⟩ := at_strM (hs := kn) i0 (by rw [knl]; show e.1 < 10; omega)
    obtain ⟨k2, k2m, k2a⟩ := at_strM (hs := kn) j0 (by rw [knl]; show e.2 < 10; omega)
    obtain ⟨as, ea1, ea2⟩ := id nt
    have la : as.length = net.length := ea2.length
    dsimp only
    rw [g1, g2]
    have Y1 := Ext.new hT (.tup [V.str ts[i], V.ref bs[i]])
    refine ⟨T, _, rfl, SqT.of upd_same, rfl, _, _, rfl, _, _, rfl, rfl, ?_⟩
    refine ⟨_, rfl, .inl ⟨rfl, _, SqL.of (Y1 _ _ ea1)⟩, _, rfl, (by show 1 ≤ sizeLine; decide), fun T1 hT1 => ?_⟩
    have Y2 := Y1.trans (Ext.new hT1 (.tup [V.str ts[i]]))
    have hb6 := Y2 _ _ (e6 _ _ (e4 _ _ (e3 _ _ hbe)))
    have hk6 := Y2 _ _ (e6 _ _ hkl)
    refine ⟨_, rfl, _, rfl, bs[i], _, _, _, rfl, rfl, SqT.of hb6, (by exact atI_nat (j := 0) rfl), kl, _, _, _, rfl, rfl, SqL.of hk6, k1a, ?_⟩
    refine ⟨_, rfl, _, rfl, bs[i], _, _, _, rfl, rfl, SqT.of hb6, (by exact atI_nat (j := 1) rfl), kl, _, _, _, rfl, rfl, SqL.of hk6, k2a, ?_⟩
    refine ⟨(by show 2 ≤ sizeLine; decide), fun L2 hL2 => ⟨L2, [k1, k2], rfl, SqL.of upd_same, (by show 2 < 64; decide), fun S ss hS' perm srt => ?_⟩⟩
    have Y3 := Y2.trans (Ext.new hL2 (.lst [V.str k1, V.str k2]))
    have Y4 := Y3.trans (Ext.new hS' (.lst (ss.map V.str)))
    refine ⟨S, _, rfl, .inl ⟨SqL.of upd_same, fun T2 hT2 => ?_⟩⟩
    have lss : ss.length = 2 := perm.length_eq
    obtain ⟨x, y, rfl⟩ : ∃ x y, ss = [x, y] := by
      match ss, lss with
      | [x, y], _ => exact ⟨x, y, rfl⟩
    have sx : Sm x := by
      have : x ∈ [k1, k2] := perm.mem_iff.mp (by simp)
      simp at this
      rcases this with rfl | rfl
      · exact knx _ k1m
      · exact knx _ k2m
    have sy : Sm y := by
      have : y ∈ [k1, k2] := perm.mem_iff.mp (by simp)
      simp at this
      rcases this with rfl | rfl
      · exact knx _ k1m
      · exact knx _ k2m
    have Y5 := Y4.trans (Ext.new hT2 (.tup ([x, y].map V.str)))
    have t1 : upd (upd H6 T (.tup [V.str ts[i], V.ref bs[i]])) T1 (.tup [V.str ts[i]]) T1 = some (.tup [V.str ts[i]]) := upd_same
    have t15 := Ext.new hT2 (.tup ([x, y].map V.str)) _ _ (Ext.new hS' (.lst ([x, y].map V.str)) _ _ (Ext.new hL2 (.lst [V.str k1, V.str k2]) _ _ t1))
    refine ⟨T1, T2, _, _, rfl, rfl, SqT.of t15, SqT.of upd_same, (by simp), (by show 3 ≤ sizeLine; decide), (fun z => by cases z), fun _ T3 hT3 => ?_⟩
    have Y6 := Y5.trans (Ext.new hT3 (.tup (trV (ts[i], x, y))))
    refine ⟨nl, _, _, rfl, rfl, Y6 _ _ ea1, ?_, ?_⟩
    · rw [List.length_map]; exact small1000 (by omega)
    · refine ⟨_, _, net ++ [(ts[i], x, y)], rfl, (e6.trans Y6).over hnl _, NetAt.snoc ea1 ea2 Y6 upd_same, by rw [List.length_append, nl']; rfl, (fun t ht => ?_), by rw [List.map_append, nm, take_snoc (List.getElem?_eq_getElem hit)]; rfl⟩
      rcases List.mem_append.mp ht with z | z
      · exact tx t z
      · rw [List.mem_singleton] at z
        subst z
        exact ⟨tsx _ (List.getElem_mem hit), sx, sy⟩
  · rintro σ H6 ⟨x7, x8, net, rfl, e6, nt, nl', tx, nm⟩
    rw [mn] at nl' nm
    obtain ⟨as, ea1, ea2⟩ := id nt
    have la : as.length = net.length := ea2.length
    refine ⟨_, rfl, nl, as, net.map rowT, rfl, SqL.of ea1, paired_map _ (fun a t z => ⟨SqT.of z, by simp [rowT]⟩) ea2, by omega, fun r o hr' g sp => ?_⟩
    have E6 := E4.trans e6
    have gm : ∀ i ∈ o.toList, i < as.length := fun i hi => gd_mem g hi
    have gm' : ∀ i ∈ o.toList, i < net.length := fun i hi => by have := gm i hi; omega
    have gl := gd_len g
    have lt : as.length = (net.map rowT).length := by rw [List.length_map]; exact la
    rw [lt] at g sp
    obtain ⟨s1, s2⟩ := order_rows g sp
    rw [← rows_picks gm'] at s1 s2
    have nd : ((o.toList.map fun i => net.getD i t0).map (·.1)).Nodup := by
      rw [← map_names]
      refine (s2.map _).nodup_iff.mpr ?_
      rw [map_names, nm, ← tsl', List.take_of_length_le (Nat.le_refl _)]
      refine tnd ?_
      rw [List.length_map]; omega
    refine q r (o.toList.map fun i => net.getD i t0) _ (E6.trans (Ext.new hr' _)) (E6.none hr') ⟨_, upd_same, Paired.mapP (net_picks ea2 gm) fun a' t z => Ext.new hr' _ _ _ z⟩ ?_ (fun t ht => ?_) (rise_srt s1 nd)
    · rw [List.length_map, gl]; omega
    · have m : rowT t ∈ net.map rowT := s2.mem_iff.mp (List.mem_map_of_mem ht)
      obtain ⟨u, hu, e⟩ := List.mem_map.mp m
      rw [← rowT_inj e]
      exact tx u hu
end
end My

set_option Elab.async false
set_option linter.all false
set_option maxRecDepth 100000
namespace My
open PySem L2
theorem boot_int' : bootBuiltins "int" = some (.type "int") := by decide +kernel
theorem rep_stT (t : Tr) (x : Str) : (List.replicate ((if decide (V.str t.2.1 = V.str x) = true then (1 : Int) else 0) + (if decide (V.str t.2.2 = V.str x) = true then (1 : Int) else 0)).toNat [V.str t.1]).flatten = (stT t x).map V.str := by
  unfold stT
  by_cases a : t.2.1 = x <;> by_cases b : t.2.2 = x <;> simp [a, b]
section
variable {P : Program} {w : World} {K : PySem.W.Frag} {mg : Str → Option Value} {base : Heap} {f f1 f2 : Addr} {fd fd1 fd2 : FuncData}
abbrev lsN : List Str := ["_law_net_here", "_law_point", "_law_found", "_law_name", "_law_one", "_law_other"]
theorem scLStar : FnScope lsN ["_law_net_here", "_law_point"] (defScope sLStar) := ⟨rfl, rfl, rfl, by decide +kernel, rfl, by decide +kernel, by decide +kernel⟩
set_option maxHeartbeats 4000000 in
theorem ok_lstar (F : Fun K "_law_star" "_law_star" sLStar f fd) (mi : mg "int" = none) : FnOk P w K mg base CX0 1 f fd ["_law_net_here", "_law_point"] spStar := by
  refine F.ok scLStar (fun vs H Q E h => ?_) (fun cdv A outer s H vs Q E hr h => ?_)
  · obtain ⟨p, net, x, rfl, _⟩ := h
    rfl
  obtain ⟨p, net, x, rfl, ⟨as, hp, pr⟩, hl, q⟩ := h
  refine ⟨_, pss_cons (ps_set (i := 2) scLStar.nd rfl (Or.inl rfl) (pe_lst pa_nil))
    (pss_cons (ps_for PassesOwn.never rfl (pi_list (pv 0)) (pg_tup rfl (pgs_cons (pg_name (i := 3) scLStar.nd rfl (Or.inl rfl)) (pgs_cons (pg_name (i := 4) scLStar.nd rfl (Or.inl rfl)) (pgs_cons (pg_name (i := 5) scLStar.nd rfl (Or.inl rfl)) pgs_nil))))
      (pss_one (ps_set (i := 2) scLStar.nd rfl (Or.inl rfl) (pe_op op_cat (pv 2) (pe_op op_rep (pe_lst (pa_cons (pv 3) pa_nil)) (pe_op op_add (pe_callTy call_int1 rfl mi boot_int' (pa_cons (pe_cmpR op_eq (pv 4) (pv 1) (nomark _)) pa_nil)) (pe_callTy call_int1 rfl mi boot_int' (pa_cons (pe_cmpR op_eq (pv 5) (pv 1) (nomark _)) pa_nil))))))))
    (pss_one (ps_ret (pv 2)))), ?_⟩
  have lA : as.length = net.length := pr.length
  refine ⟨Nat.zero_le _, fun fo hfo => ?_⟩
  have X0 := Ext.new hfo (.lst [])
  refine ⟨_, rfl, p, rfl, ⟨_, SqL.of (X0 _ _ hp)⟩, ?_⟩
  refine for_list (xs := as.map V.ref) (fun i σ H3 => ∃ (fo : Addr) (x3 x4 x5 : Option V), σ = [some (.ref p), some (.str x), some (.ref fo), x3, x4, x5] ∧ Ext H H3 ∧ H fo = none ∧ LsS H3 fo (starF (net.take i) x))
    ⟨fo, none, none, none, rfl, X0, hfo, upd_same⟩ ?_ ?_ ?_
  · rintro i σ H3 _ ⟨fo, x3, x4, x5, _, e3, _⟩
    exact SqL.of (e3 _ _ hp)
  · rintro i z σ H3 hx ⟨fo, x3, x4, x5, rfl, e3, fo0, hf⟩
    obtain ⟨a, t, rfl, ht, ha⟩ := net_get pr hx
    have hi := at_lt ht
    have ls := starF_le (net.take i) x
    rw [List.length_take] at ls
    refine ⟨a, _, rfl, SqT.of (e3 _ _ ha), rfl, _, _, rfl, _, _, rfl, _, _, rfl, rfl, ?_⟩
    refine ⟨_, rfl, _, rfl, (by show 1 ≤ sizeLine; decide), fun l1 hl1 => ?_⟩
    have n1 := Ext.new hl1 (.lst [V.str t.1])
    refine ⟨_, rfl, _, rfl, rfl, .inr ⟨_, rfl, ?_⟩⟩
    refine ⟨_, rfl, _, rfl, rfl, .inr ⟨_, rfl, ?_⟩⟩
    have b2 : 0 ≤ (if decide (V.str t.2.1 = V.str x) = true then (1 : Int) else 0) + (if decide (V.str t.2.2 = V.str x) = true then (1 : Int) else 0) ∧ (if decide (V.str t.2.1 = V.str x) = true then (1 : Int) else 0) + (if decide (V.str t.2.2 = V.str x) = true then (1 : Int) else 0) ≤ 2 := by split <;> split <;> omega
    refine ⟨_, _, rfl, rfl, l1, _, _, rfl, rfl, upd_same, by omega, by omega, ?_, fun l2 hl2 => ?_⟩
    · show 1 * _ ≤ sizeLine
      exact Nat.le_of_lt (small1000 (by omega))
    rw [rep_stT]
    have n2 := n1.trans (Ext.new hl2 (.lst ((stT t x).map V.str)))
    have st := stT_le t x
    refine ⟨fo, l2, _, _, rfl, rfl, n2 _ _ hf, upd_same, ?_, fun l3 hl3 => ?_⟩
    · rw [List.length_map, List.length_map]
      exact Nat.le_of_lt (small1000 (by omega))
    refine ⟨l3, _, _, _, rfl, (e3.trans n2).trans (Ext.new hl3 _), (e3.trans n2).none hl3, ?_⟩
    rw [take_snoc ht, starF_snoc]
    unfold LsS
    rw [upd_same, List.map_append]
  · rintro σ H3 ⟨fo, x3, x4, x5, rfl, e3, fo0, hf⟩
    rw [List.length_map, lA, List.take_of_length_le (Nat.le_refl _)] at hf
    exact ⟨_, rfl, q fo H3 e3 fo0 hf⟩
theorem scLPoints : FnScope ["_law_net_here"] ["_law_net_here"] (defScope sLPoints) := ⟨rfl, rfl, rfl, by decide +kernel, rfl, by decide +kernel, by decide +kernel⟩
theorem turns_net {as : List Addr} {net : List Tr} {Q : List V → Hp → Prop} {H1 : Hp} {σ0 : St} {g : TG} {tt : TT} {te : TE} {p : Addr} (h : Tr → Str) (hp : H1 p = some (.lst (as.map V.ref))) (pr : Paired (fun a t => H1 a = some (.tup (trV t))) as net) (ln : net.length ≤ 12)
    (hs : ∀ a t, H1 a = some (.tup (trV t)) → ∀ (C : V → Hp → Prop) (B : Hp → Prop), C (.str (h t)) H1 → g (.ref a) σ0 H1 fun σ2 H2 => Sle σ0 σ2 ∧ tt σ2 H2 fun b H3 => if b = true then te σ2 H3 C else B H3)
    (hd : Q ((net.map h).map V.str) H1) : cTurns (Itl K p) σ0 g tt te Q H1 := by
  have lA : as.length = net.length := pr.length
  refine turns_list (xs := as.map V.ref) (fun j ys H2 => H2 = H1 ∧ ys = ((net.take j).map h).map V.str) ⟨rfl, rfl⟩ (fun j ys H2 _ h => by rw [h.1]; exact SqL.of hp) ?_ ?_
  · rintro j x ys H2 hx ⟨rfl, rfl⟩
    obtain ⟨a, t, rfl, ht, ha⟩ := net_get pr hx
    have hi := at_lt ht
    have sz : (((net.take j).map h).map V.str).length < sizeLine := by
      rw [List.length_map, List.length_map, List.length_take]
      exact small1000 (by omega)
    exact hs a t ha _ _ ⟨sz, nxt (at_lt hx) ⟨rfl, by rw [take_snoc ht, List.map_append, List.map_append]; rfl⟩⟩
  · rintro ys H2 ⟨rfl, rfl⟩
    rw [List.length_map, lA, List.take_of_length_le (Nat.le_refl _)]
    exact hd
set_option maxHeartbeats 4000000 in
theorem ok_lpoints (F : Fun K "_law_points" "_law_points" sLPoints f fd) (mso : mg "sorted" = none) (mst : mg "set" = none) : FnOk P w K mg base CX0 1 f fd ["_law_net_here"] spPoints := by
  refine F.ok scLPoints (fun vs H Q E h => ?_) (fun cdv A outer s H vs Q E hr h => ?_)
  · obtain ⟨p, net, rfl, _⟩ := h
    rfl
  obtain ⟨p, net, rfl, ⟨as, hp, pr⟩, hl, q⟩ := h
  refine ⟨_, pss_one (ps_ret (pe_callB (call_sortedSet rfl) rfl mso boot_sorted' (pa_cons (pe_callTy (call_setS rfl) rfl mst boot_set' (pa_cons (pe_op op_cat
    (pe_lc (N := ["_law_net_here"]) (sc := defScope sLPoints) (N' := ["_law_tie"]) (sub := [none]) rfl rfl (CmpOk.of (by decide +kernel)) rfl (pi_list (pv 0)) (fun C s H fp => ⟨pg_name (i := 0) (by show (["_law_tie"] : List Str).Nodup; decide) rfl (Or.inl rfl), pts_nil, pe_ix (show IxR _ (rIxT K) from ix_tup) (pv 0) pe_int (fun _ _ => rfl)⟩))
    (pe_lc (N := ["_law_net_here"]) (sc := defScope sLPoints) (N' := ["_law_tie"]) (sub := [none]) rfl rfl (CmpOk.of (by decide +kernel)) rfl (pi_list (pv 0)) (fun C s H fp => ⟨pg_name (i := 0) (by show (["_law_tie"] : List Str).Nodup; decide) rfl (Or.inl rfl), pts_nil, pe_ix (show IxR _ (rIxT K) from ix_tup) (pv 0) pe_int (fun _ _ => rfl)⟩))) pa_nil)) pa_nil))), ?_⟩
  refine ⟨_, rfl, p, rfl, ⟨_, SqL.of hp⟩, ?_⟩
  refine turns_net (fun t => t.2.1) hp pr hl (fun a t ha C B c => ⟨Sle.set _ (Sle.refl _) (fun u z => by cases z), ?_⟩) ?_
  · exact iteT (B := B H) ⟨_, rfl, a, _, _, _, rfl, rfl, SqT.of ha, (by exact atI_nat (j := 1) rfl), c⟩
  intro l1 hl1
  have n1 := Ext.new hl1 (.lst ((net.map fun t => t.2.1).map V.str))
  refine ⟨_, rfl, p, rfl, ⟨_, SqL.of (n1 _ _ hp)⟩, ?_⟩
  refine turns_net (fun t => t.2.2) (n1 _ _ hp) (Paired.mapP pr fun a t z => n1 _ _ z) hl (fun a t ha C B c => ⟨Sle.set _ (Sle.refl _) (fun u z => by cases z), ?_⟩) ?_
  · exact iteT (B := B (upd H l1 (.lst ((net.map fun t => t.2.1).map V.str)))) ⟨_, rfl, a, _, _, _, rfl, rfl, SqT.of ha, (by exact atI_nat (j := 2) rfl), c⟩
  intro l2 hl2
  have n2 := n1.trans (Ext.new hl2 (.lst ((net.map fun t => t.2.2).map V.str)))
  refine ⟨l1, l2, _, _, rfl, rfl, (Ext.new hl2 _) _ _ upd_same, upd_same, ?_, fun l3 hl3 => ?_⟩
  · simp only [List.length_map]
    exact Nat.le_of_lt (small1000 (by omega))
  have n3 := n2.trans (Ext.new hl3 (.lst ((net.map fun t => t.2.1).map V.str ++ (net.map fun t => t.2.2).map V.str)))
  refine ⟨l3, (net.map fun t => t.2.1) ++ (net.map fun t => t.2.2), rfl, SqL.of (by rw [upd_same, List.map_append]), ?_, fun r1 ss hr1 nd ln mem => ?_⟩
  · simp only [List.length_append, List.length_map]
    omega
  simp only [List.length_append, List.length_map] at ln
  refine ⟨r1, ss, rfl, upd_same, by omega, fun r ss' hr' pm srt => ?_⟩
  refine q r ss' _ ((n3.trans (Ext.new hr1 _)).trans (Ext.new hr' _)) ((n3.trans (Ext.new hr1 _)).none hr') upd_same ⟨pm.nodup_iff.mpr nd, fun x => ?_⟩ (rise_of srt (pm.nodup_iff.mpr nd)) (by rw [pm.length_eq]; omega)
  rw [pm.mem_iff, mem, List.mem_append, List.mem_map, List.mem_map]
  unfold isPt
  constructor
  · rintro (⟨t, ht, rfl⟩ | ⟨t, ht, rfl⟩)
    · exact ⟨t, ht, .inl rfl⟩
    · exact ⟨t, ht, .inr rfl⟩
  · rintro ⟨t, ht, rfl | rfl⟩
    · exact .inl ⟨t, ht, rfl⟩
    · exact .inr ⟨t, ht, rfl⟩
end
end My

set_option Elab.async false
set_option linter.all false
set_option maxRecDepth 100000
namespace My
open PySem L2
/-! ### pieces found by going from point to point -/
theorem hom_tie (net : List Tr) : ∀ u ∈ net, homF net u.2.1 = homF net u.2.2 := by
  refine snoc_ind (P := fun net => ∀ u ∈ net, homF net u.2.1 = homF net u.2.2) (fun u hu => by cases hu) (fun l t ih u hu => ?_) net
  rw [homF_snoc]
  show (if homF l u.2.1 = homF l t.2.2 then homF l t.2.1 else homF l u.2.1) = (if homF l u.2.2 = homF l t.2.2 then homF l t.2.1 else homF l u.2.2)
  rcases List.mem_append.mp hu with z | z
  · rw [ih u z]
  · rw [List.mem_singleton] at z
    subst z
    rw [if_pos (rfl : homF l u.2.2 = homF l u.2.2)]
    split <;> rfl
/-- what no tie leaves is made of whole heaps -/
theorem closed_lab (net : List Tr) : ∀ S : Str → Prop, (∀ t ∈ net, S t.2.1 ↔ S t.2.2) → ∀ x y, homF net x = homF net y → (S x ↔ S y) := by
  refine snoc_ind (P := fun net => ∀ S : Str → Prop, (∀ t ∈ net, S t.2.1 ↔ S t.2.2) → ∀ x y, homF net x = homF net y → (S x ↔ S y)) (fun S _ x y e => ?_) (fun l t ih S hS x y e => ?_) net
  · have : x = y := e
    rw [this]
  have ih' := ih S fun u hu => hS u (List.mem_append_left _ hu)
  have hT := hS t (by simp)
  rw [homF_snoc] at e
  have e' : (if homF l x = homF l t.2.2 then homF l t.2.1 else homF l x) = (if homF l y = homF l t.2.2 then homF l t.2.1 else homF l y) := e
  by_cases a : homF l x = homF l t.2.2
  · by_cases b : homF l y = homF l t.2.2
    · exact ih' x y (a.trans b.symm)
    · rw [if_pos a, if_neg b] at e'
      exact (ih' x t.2.2 a).trans (hT.symm.trans (ih' t.2.1 y e'))
  · by_cases b : homF l y = homF l t.2.2
    · rw [if_neg a, if_pos b] at e'
      exact (ih' x t.2.1 e').trans (hT.trans (ih' t.2.2 y b.symm))
    · rw [if_neg a, if_neg b] at e'
      exact ih' x y e'
theorem sub_len : ∀ {a b : List Str}, a.Nodup → (∀ x ∈ a, x ∈ b) → a.length ≤ b.length
  | [], _, _, _ => Nat.zero_le _
  | x :: a, b, nd, h => by
    obtain ⟨n1, n2⟩ := List.nodup_cons.mp nd
    have hx := h x List.mem_cons_self
    have ih := sub_len (a := a) (b := b.erase x) n2 fun y hy => (List.mem_erase_of_ne (fun e : y = x => n1 (by rw [← e]; exact hy))).mpr (h y (List.mem_cons_of_mem _ hy))
    rw [List.length_erase_of_mem hx] at ih
    have := List.length_pos_of_mem hx
    rw [List.length_cons]; omega
def Tch (u : Tr) (y : Str) : Prop := y = u.2.1 ∨ y = u.2.2
structure RI (net ov : List Tr) (c : Str) (R W : List Str) : Prop where
  nd : R.Nodup
  lab : ∀ y ∈ R, homF net y = c ∧ isPt net y
  row : ∀ n ∈ W, ∃ u ∈ ov, u.1 = n ∧ lbF net u = c
def Dn (us : List Tr) (ys R W : List Str) : Prop := ∀ y ∈ ys, ∀ u ∈ us, Tch u y → u.1 ∈ W ∧ u.2.1 ∈ R ∧ u.2.2 ∈ R
theorem Dn.mono {us : List Tr} {ys R W R' W' : List Str} (h : Dn us ys R W) (hR : ∀ x ∈ R, x ∈ R') (hW : ∀ x ∈ W, x ∈ W') : Dn us ys R' W' := fun y hy u hu t =>
  let ⟨a, b, c⟩ := h y hy u hu t
  ⟨hW _ a, hR _ b, hR _ c⟩
def nwR (R : List Str) (u : Tr) : List Str := [u.2.1, u.2.2].filter fun e => !decide (e ∈ R)
theorem RI.len {net ov : List Tr} {c : Str} {R W : List Str} (h : RI net ov c R W) : R.length ≤ 2 * net.length := by
  have := sub_len (b := (net.map fun t => t.2.1) ++ (net.map fun t => t.2.2)) h.nd fun x hx => by
    obtain ⟨t, ht, e | e⟩ := (h.lab x hx).2
    · exact List.mem_append_left _ (List.mem_map.mpr ⟨t, ht, e.symm⟩)
    · exact List.mem_append_right _ (List.mem_map.mpr ⟨t, ht, e.symm⟩)
  rw [List.length_append, List.length_map, List.length_map] at this
  omega
theorem RI.step {net ov : List Tr} {c : Str} {R W : List Str} (h : RI net ov c R W) (sub : ∀ u ∈ ov, u ∈ net) {u : Tr} {y : Str} (hu : u ∈ ov) (hy : y ∈ R) (t : Tch u y) :
    RI net ov c (R ++ nwR R u) (W ++ [u.1]) ∧ u.1 ∈ W ++ [u.1] ∧ u.2.1 ∈ R ++ nwR R u ∧ u.2.2 ∈ R ++ nwR R u := by
  have tie := hom_tie net u (sub u hu)
  have l1 : homF net u.2.1 = c := by
    rcases t with e | e
    · rw [← e]; exact (h.lab y hy).1
    · rw [tie, ← e]; exact (h.lab y hy).1
  have l2 : homF net u.2.2 = c := tie ▸ l1
  have mem : ∀ e, (e = u.2.1 ∨ e = u.2.2) → e ∈ R ++ nwR R u := fun e he => by
    by_cases m : e ∈ R
    · exact List.mem_append_left _ m
    · exact List.mem_append_right _ (List.mem_filter.mpr ⟨by simpa using he, by simpa using m⟩)
  refine ⟨⟨?_, fun e he => ?_, fun n hn => ?_⟩, by simp, mem _ (.inl rfl), mem _ (.inr rfl)⟩
  · rw [List.nodup_append]
    refine ⟨h.nd, ?_, fun a ha b hb e => ?_⟩
    · unfold nwR
      rcases t with e | e
      · have : u.2.1 ∈ R := e ▸ hy
        rw [List.filter_cons, if_neg (by simpa using this)]
        exact List.Nodup.sublist List.filter_sublist (by simp)
      · have : u.2.2 ∈ R := e ▸ hy
        have e2 : [u.2.1, u.2.2].filter (fun e => !decide (e ∈ R)) = [u.2.1].filter fun e => !decide (e ∈ R) := by
          rw [show [u.2.1, u.2.2] = [u.2.1] ++ [u.2.2] from rfl, List.filter_append]
          simp [this]
        rw [e2]
        exact List.Nodup.sublist List.filter_sublist (by simp)
    · subst e
      have := (List.mem_filter.mp hb).2
      simp [ha] at this
  · rcases List.mem_append.mp he with z | z
    · exact h.lab e z
    · have := (List.mem_filter.mp z).1
      simp at this
      rcases this with rfl | rfl
      · exact ⟨l1, u, sub u hu, .inl rfl⟩
      · exact ⟨l2, u, sub u hu, .inr rfl⟩
  · rcases List.mem_append.mp hn with z | z
    · exact h.row n z
    · rw [List.mem_singleton] at z
      exact ⟨u, hu, z.symm, l1⟩
/-- behind the walk the row is all ties of the label -/
theorem RI.done {net ov : List Tr} {c : Str} {R W : List Str} (h : RI net ov c R W) (sub : ∀ u ∈ ov, u ∈ net) (full : ∀ u ∈ net, lbF net u = c → u ∈ ov) (dn : Dn ov R R W) {x : Str} (hx : x ∈ R) : ∀ u ∈ ov, lbF net u = c → u.1 ∈ W := by
  have cl : ∀ t ∈ net, (t.2.1 ∈ R ↔ t.2.2 ∈ R) := fun t ht => by
    constructor
    · intro m
      exact (dn _ m t (full t ht (h.lab _ m).1) (.inl rfl)).2.2
    · intro m
      have e : lbF net t = c := (hom_tie net t ht).trans (h.lab _ m).1
      exact (dn _ m t (full t ht e) (.inr rfl)).2.1
  intro u hu e
  have m : u.2.1 ∈ R := (closed_lab net (fun z => z ∈ R) cl u.2.1 x (e.trans (h.lab x hx).1.symm)).mpr hx
  exact (dn _ m u hu (.inl rfl)).1
/-- what is left behind a heap -/
structure OV (net ov : List Tr) : Prop where
  sub : ov.Sublist net
  full : ∀ u ∈ net, ∀ v ∈ ov, lbF net u = lbF net v → u ∈ ov
theorem OV.start (net : List Tr) : OV net net := ⟨List.Sublist.refl _, fun u hu _ _ _ => hu⟩
theorem OV.next {net : List Tr} {t : Tr} {r : List Tr} (h : OV net (t :: r)) : OV net (r.filter fun u => !decide (lbF net u = lbF net t)) := by
  refine ⟨List.Sublist.trans (List.Sublist.trans List.filter_sublist (List.sublist_cons_self _ _)) h.sub, fun u hu v hv e => ?_⟩
  obtain ⟨v1, v2⟩ := List.mem_filter.mp hv
  have m := h.full u hu v (List.mem_cons_of_mem _ v1) e
  have ne : ¬ lbF net u = lbF net t := by rw [e]; simpa using v2
  rcases List.mem_cons.mp m with z | z
  · subst z; exact absurd rfl ne
  · exact List.mem_filter.mpr ⟨z, by simpa using ne⟩
theorem name_inj {net : List Tr} (nd : (net.map (·.1)).Nodup) {u v : Tr} (hu : u ∈ net) (hv : v ∈ net) (e : u.1 = v.1) : u = v := by
  induction net with
  | nil => cases hu
  | cons t r ih =>
    rw [List.map_cons] at nd
    obtain ⟨n1, n2⟩ := List.nodup_cons.mp nd
    rcases List.mem_cons.mp hu with a | a <;> rcases List.mem_cons.mp hv with b | b
    · rw [a, b]
    · subst a; exact absurd (e ▸ List.mem_map_of_mem (f := (·.1)) b) n1
    · subst b; exact absurd (e ▸ List.mem_map_of_mem (f := (·.1)) a) n1
    · exact ih n2 a b
theorem rise_nd {l : List Str} (h : Rise l) : l.Nodup := List.Pairwise.imp (fun {a b} z e => by rw [e, sLtB_irr] at z; cases z) h
theorem mem_row {net ov : List Tr} {c : Str} {R W : List Str} (o : OV net ov) (rs : Rise (net.map (·.1))) (h : RI net ov c R W) (all : ∀ u ∈ ov, lbF net u = c → u.1 ∈ W) {u : Tr} (hu : u ∈ ov) : u.1 ∈ W ↔ lbF net u = c := by
  refine ⟨fun m => ?_, all u hu⟩
  obtain ⟨v, hv, e1, e2⟩ := h.row _ m
  rw [name_inj (rise_nd rs) (o.sub.subset hu) (o.sub.subset hv) e1.symm]
  exact e2
theorem heap_mem {net ov : List Tr} {c : Str} {R W : List Str} (o : OV net ov) (h : RI net ov c R W) (all : ∀ u ∈ ov, lbF net u = c → u.1 ∈ W) (x : Str) : x ∈ W ↔ x ∈ (ov.filter fun u => decide (lbF net u = c)).map (·.1) := by
  rw [List.mem_map]
  constructor
  · intro m
    obtain ⟨v, hv, e1, e2⟩ := h.row _ m
    exact ⟨v, List.mem_filter.mpr ⟨hv, by simpa using e2⟩, e1⟩
  · rintro ⟨v, hv, rfl⟩
    obtain ⟨v1, v2⟩ := List.mem_filter.mp hv
    exact all v v1 (by simpa using v2)
end My

set_option Elab.async false
set_option linter.all false
set_option maxRecDepth 100000
namespace My
open PySem L2
def trD (t : Tr) : PyData := .tuple [.str t.1, .str t.2.1, .str t.2.2]
def netD (net : List Tr) : PyData := .list (net.map trD)
theorem eqv_tr (t : Tr) : PyData.eqv (trD t) (trD t) = true := by
  show (t.1 == t.1 && (t.2.1 == t.2.1 && (t.2.2 == t.2.2 && true))) = true
  simp
theorem eqv_net : ∀ net : List Tr, PyData.eqv (netD net) (netD net) = true
  | [] => rfl
  | t :: r => by
    have ih : PyData.eqvAll (r.map trD) (r.map trD) = true := eqv_net r
    show (PyData.eqv (trD t) (trD t) && PyData.eqvAll (r.map trD) (r.map trD)) = true
    rw [eqv_tr, ih]; rfl
theorem lay_net : ∀ {net : List Tr}, TxN net → PyData.canLayAll0 (net.map trD) = true ∧ PyData.depthAll (net.map trD) ≤ 1
  | [], _ => ⟨rfl, by decide⟩
  | t :: r, h => by
    obtain ⟨h1, h2⟩ := lay_net (net := r) fun y hy => h y (List.mem_cons_of_mem _ hy)
    obtain ⟨t1, t2, t3⟩ := h t List.mem_cons_self
    refine ⟨?_, ?_⟩
    · show ((PyData.strOk t.1 && (PyData.strOk t.2.1 && (PyData.strOk t.2.2 && true))) && PyData.canLayAll0 (r.map trD)) = true
      rw [h1, t1.ok, t2.ok, t3.ok]; rfl
    · show max (max 0 (max 0 (max 0 0)) + 1) (PyData.depthAll (r.map trD)) ≤ 1
      omega
theorem shaped_net {net : List Tr} (h : TxN net) : SeqAt.shaped (netD net) = true := by
  obtain ⟨h3, h4⟩ := lay_net h
  show (PyData.canLayAll0 (net.map trD) && decide (PyData.depthAll (net.map trD) + 1 ≤ 64)) = true
  rw [h3, decide_eq_true (by omega)]; rfl
theorem drs_net {K : PySem.W.Frag} {H : Hp} : ∀ {as : List Addr} {net : List Tr}, Paired (fun a t => H a = some (.tup (trV t))) as net → DRs K H (as.map V.ref) (net.map trD)
  | _, _, .nil => .nil
  | _, _, .cons h t => .cons (.tup (SqT.of h) (.cons (.str _) (.cons (.str _) (.cons (.str _) .nil)))) (drs_net t)
theorem dr_net {K : PySem.W.Frag} {H : Hp} {p : Addr} {net : List Tr} (h : NetAt H p net) : DR K H (.ref p) (netD net) := by
  obtain ⟨as, h1, h2⟩ := h
  exact .lst (SqL.of h1) (drs_net h2)
theorem eqv_net_nil (net : List Tr) : PyData.eqv (netD net) (.list []) = decide (net = []) := by
  cases net with
  | nil => rfl
  | cons t r => rfl
theorem shaped_nil : SeqAt.shaped (.list []) = true := by decide +kernel
theorem dr_nil {K : PySem.W.Frag} {H : Hp} {p : Addr} (h : H p = some (.lst [])) : DR K H (.ref p) (.list []) := .lst (SqL.of h) .nil
theorem filt_t {α : Type} {p : α → Bool} {l : List α} {i : Nat} {t : α} (h : l[i]? = some t) (c : p t = true) : (l.take (i + 1)).filter p = (l.take i).filter p ++ [t] := by rw [take_snoc h, List.filter_append]; simp [c]
theorem filt_f {α : Type} {p : α → Bool} {l : List α} {i : Nat} {t : α} (h : l[i]? = some t) (c : p t = false) : (l.take (i + 1)).filter p = (l.take i).filter p := by rw [take_snoc h, List.filter_append]; simp [c]
theorem PCK_srt (f : Tr → Str) (net : List Tr) (h : Rise (net.map (·.1))) : Srt ((PCK f net).map (·.2)) := List.Pairwise.imp (fun {a b} z => ltL_asym _ _ z) (PCK_rise f net h)
end My

set_option Elab.async false
set_option linter.all false
set_option maxRecDepth 100000
namespace L2
open PySem PySem.Spec PyProof.Rows
section
variable {σ0 : St} {g : TG} {tt : TT} {te : TE} {Q : List V → Hp → Prop} {H1 : Hp}
theorem turns_tuple {K : PySem.W.Frag} {a : Addr} {xs : List V} (Pv : Nat → List V → Hp → Prop) (h0 : Pv 0 [] H1) (hl : ∀ i ys H, i ≤ xs.length → Pv i ys H → SqT K H a xs)
    (hs : ∀ i x ys H, xs[i]? = some x → Pv i ys H → g x σ0 H fun σ2 H2 => Sle σ0 σ2 ∧ tt σ2 H2 fun b H3 => if b = true then te σ2 H3 (fun v H4 => ys.length < sizeLine ∧ Nxt xs.length i Pv (ys ++ [v]) H4) else Nxt xs.length i Pv ys H3)
    (hd : ∀ ys H, Pv xs.length ys H → Q ys H) : cTurns (Itt K a) σ0 g tt te Q H1 := by
  refine ⟨fun i m ys H => m = xs.length - i ∧ i ≤ xs.length ∧ Pv i ys H, ⟨xs.length, by simp, Nat.zero_le _, h0⟩, ?_⟩
  rintro i m ys H ⟨rfl, hi, p⟩
  have q := hl i ys H hi p
  by_cases hlt : i < xs.length
  · refine .inr ⟨⟨xs, xs[i], q, by simp [hlt]⟩, fun x H' y => ?_⟩
    obtain ⟨e, y⟩ := y
    subst e
    exact hs i x ys _ (y xs q) p
  · have e : i = xs.length := by omega
    subst e
    exact .inl ⟨⟨xs, q, Nat.le_refl _⟩, hd ys H p⟩
end
end L2
namespace My
open PySem L2
theorem NetAt.set {H : Hp} {p fo : Addr} {net : List Tr} {xs : List V} (h : NetAt H p net) (hf : H fo = some (.lst xs)) (ne : p ≠ fo) (o : HO) : NetAt (upd H fo o) p net := by
  obtain ⟨as, h1, h2⟩ := h
  refine ⟨as, by rw [upd_ne ne]; exact h1, Paired.mapP h2 fun a t z => ?_⟩
  have : a ≠ fo := fun e => by rw [e, hf] at z; cases z
  rw [upd_ne this]; exact z
def LPW (H : Hp) (p fo : Addr) (net : List Tr) (m : Nat) (σ : St) (H' : Hp) : Prop := ∃ (ov : Addr) (ovl : List Tr) (dn : List (List Str)) (x3 x4 x5 x6 x7 x8 : Option V),
  m = ovl.length ∧ σ = [some (.ref p), some (.ref fo), some (.ref ov), x3, x4, x5, x6, x7, x8] ∧ Ext H H' ∧ NetAt H' ov ovl ∧ ov ≠ fo ∧ RowsY H H' fo dn ∧ OV net ovl ∧ dn ++ (PCK (lbF net) ovl).map (·.2) = (PCK (lbF net) net).map (·.2)
def LPI (Hb : Hp) (p fo ov ro : Addr) (net ovl : List Tr) (c x : Str) (m : Nat) (σ : St) (H' : Hp) : Prop := ∃ (re : Addr) (R W : List Str) (k : Nat) (x6 x7 x8 : Option V),
  m = 25 - k ∧ σ = [some (.ref p), some (.ref fo), some (.ref ov), some (.ref re), some (.ref ro), some (.int (k : Int)), x6, x7, x8] ∧ Ext Hb H' ∧ LsS H' re R ∧ LsS H' ro W ∧ re ≠ ro ∧ RI net ovl c R W ∧ Dn ovl (R.take k) R W ∧ k ≤ R.length ∧ W.length ≤ 12 * k ∧ x ∈ R
def spLPieces : Sp := fun vs H Q _ => ∃ (p : Addr) (net : List Tr), vs = [.ref p] ∧ NetAt H p net ∧ net.length ≤ 12 ∧ TxN net ∧ Rise (net.map (·.1)) ∧ ∀ r H', Ext H H' → H r = none → RowsAt H' r ((PCK (lbF net) net).map (·.2)) → Q (.ref r) H'
section
variable {P : Program} {w : World} {K : PySem.W.Frag} {mg : Str → Option Value} {base : Heap} {f f1 f2 : Addr} {fd fd1 fd2 : FuncData}
abbrev lpN : List Str := ["_law_net_here", "_law_found", "_law_over", "_law_reached", "_law_row", "_law_at", "_law_name", "_law_one", "_law_other"]
theorem scLPieces : FnScope lpN ["_law_net_here"] (defScope sLPieces) := ⟨rfl, rfl, rfl, by decide +kernel, rfl, by decide +kernel, by decide +kernel⟩
set_option maxHeartbeats 8000000 in
theorem ok_lpieces (F : Fun K "_law_pieces" "_law_pieces" sLPieces f fd) (mL : mg "list" = none) (ml : mg "len" = none) (mso : mg "sorted" = none) (mst : mg "set" = none) : FnOk P w K mg base CX0 1 f fd ["_law_net_here"] spLPieces := by
  refine F.ok scLPieces (fun vs H Q E h => ?_) (fun cdv A outer s H vs Q E hr h => ?_)
  · obtain ⟨p, net, rfl, _⟩ := h
    rfl
  obtain ⟨p, net, rfl, nt, hl, tx, rs, q⟩ := h
  refine ⟨_, pss_cons (ps_set (i := 1) scLPieces.nd rfl (Or.inl rfl) (pe_lst pa_nil))
    (pss_cons (ps_set (i := 2) scLPieces.nd rfl (Or.inl rfl) (pe_callTy call_list_of rfl mL boot_list' (pa_cons (pv 0) pa_nil)))
    (pss_cons (ps_while PassesOwn.never (pt_cmpR (op_neD (room64 hr)) (pv 2) (pe_lst pa_nil) (nomark _))
      (pss_cons (ps_set (i := 3) scLPieces.nd rfl (Or.inr rfl) (pe_lst (pa_cons (pe_ix ix_tup (pe_ix ix_list (pv 2) pe_int (fun _ _ => rfl)) pe_int (fun _ _ => rfl)) pa_nil)))
      (pss_cons (ps_set (i := 4) scLPieces.nd rfl (Or.inr rfl) (pe_lst pa_nil))
      (pss_cons (ps_set (i := 5) scLPieces.nd rfl (Or.inl rfl) pe_int)
      (pss_cons (ps_while PassesOwn.never (pt_cmpR op_lt (pv 5) (pe_callB call_len_seq rfl ml PySem.boot_len (pa_cons (pv 3) pa_nil)) (nomark _))
        (pss_cons (ps_for PassesOwn.never rfl (pi_list (pv 2)) (pg_tup rfl (pgs_cons (pg_name (i := 6) scLPieces.nd rfl (Or.inl rfl)) (pgs_cons (pg_name (i := 7) scLPieces.nd rfl (Or.inl rfl)) (pgs_cons (pg_name (i := 8) scLPieces.nd rfl (Or.inl rfl)) pgs_nil))))
          (pss_one (ps_if (pt_cmpR op_in_seq (pe_ix ix_list (pv 3) (pv 5) (fun _ _ => rfl)) (pe_tup (pa_cons (pv 7) (pa_cons (pv 8) pa_nil))) (by with_unfolding_all rfl))
            (pss_cons (ps_expr (pe_bm PySem.F.plainAttrs_list PySem.F.slot_list_append PySem.F.type_list_append mt_append (pv 4) (pa_cons (pv 6) pa_nil)))
            (pss_one (ps_set (i := 3) scLPieces.nd rfl (Or.inr rfl) (pe_op op_cat (pv 3) (pe_lc (N := lpN) (sc := defScope sLPieces) (N' := ["_law_end", "_law_reached"]) (sub := [none, some 3]) rfl rfl (CmpOk.of (by decide +kernel)) rfl (pi_tup (pe_tup (pa_cons (pv 7) (pa_cons (pv 8) pa_nil))))
              (fun C s H fp => ⟨pg_name (i := 0) (by show (["_law_end", "_law_reached"] : List Str).Nodup; decide) rfl (Or.inl rfl), pts_one (pt_cmpR (show OpR _ (compareOp .NotIn) (rIn K true) from op_notIn_seq) (pv 0) (pv 1) (by with_unfolding_all rfl)), pv 0⟩))))))
            pss_nil)))
        (pss_one (ps_aug (i := 5) scLPieces.nd rfl (Or.inl rfl) pe_int ip_add))))
      (pss_cons (ps_lc (i := 2) (N := lpN) (sc := defScope sLPieces) (N' := ["_law_tie", "_law_row"]) (sub := [none, some 4]) rfl rfl (CmpOk.of (by decide +kernel)) rfl (pi_list (pv 2))
          (fun C s H fp => ⟨pg_name (i := 0) (by show (["_law_tie", "_law_row"] : List Str).Nodup; decide) rfl (Or.inl rfl), pts_one (pt_cmpR (show OpR _ (compareOp .NotIn) (rIn K true) from op_notIn_seq) (pe_ix (show IxR _ (rIxT K) from ix_tup) (pv 0) pe_int (fun _ _ => rfl)) (pv 1) (by with_unfolding_all rfl)), pv 0⟩) scLPieces.nd rfl (Or.inl rfl))
      (pss_one (ps_expr (pe_bm PySem.F.plainAttrs_list PySem.F.slot_list_append PySem.F.type_list_append mt_append (pv 1) (pa_cons (pe_callB (call_sortedSet rfl) rfl mso boot_sorted' (pa_cons (pe_callTy (call_setS rfl) rfl mst boot_set' (pa_cons (pv 4) pa_nil)) pa_nil)) pa_nil))))))))))
    (pss_one (ps_ret (pe_callB (call_sortedLO (room2 hr)) rfl mso boot_sorted' (pa_cons (pv 1) pa_nil)))))), ?_⟩
  refine ⟨Nat.zero_le _, fun fo fo0 => ?_⟩
  have X0 := Ext.new fo0 (.lst [])
  obtain ⟨as0, hp0, pr0⟩ := id nt
  refine ⟨_, rfl, p, _, rfl, .inl (SqL.of (X0 _ _ hp0)), fun ov hov => ?_⟩
  have X1 := Ext.new hov (.lst (as0.map V.ref))
  have fo1 : (upd (upd H fo (.lst [])) ov (.lst (as0.map V.ref))) fo = some (.lst []) := X1 _ _ upd_same
  refine ⟨LPW H p fo net, ⟨_, ov, net, [], none, none, none, none, none, none, rfl, rfl, X0.trans X1, ⟨as0, upd_same, Paired.mapP pr0 fun a t z => (X0.trans X1) _ _ z⟩, Ne.symm (ne_of_none upd_same hov), ⟨[], fo1, .nil⟩, OV.start net, rfl⟩, ?_⟩
  rintro m σ H' ⟨ov, ovl, dn, x3, x4, x5, x6, x7, x8, rfl, rfl, e', nv, ne, rows, o, eq⟩
  have txo : TxN ovl := fun t ht => tx t (o.sub.subset ht)
  have lov : ovl.length ≤ 12 := Nat.le_trans o.sub.length_le hl
  have subO : ∀ u ∈ ovl, u ∈ net := fun u hu => o.sub.subset hu
  have ldn : dn.length ≤ 12 := by
    have h1 := congrArg List.length eq
    rw [List.length_append, List.length_map, List.length_map] at h1
    have h2 := PCK_len (lbF net) net
    omega
  refine ⟨_, rfl, Nat.zero_le _, fun l hl0 => ?_⟩
  have Xl := Ext.new hl0 (.lst [])
  refine ⟨_, _, dr_net (nv.ext Xl), dr_nil upd_same, shaped_net txo, shaped_nil, _, rfl, ?_⟩
  rw [if_pos rfl, eqv_net_nil]
  have e1 := e'.trans Xl
  have nv1 := nv.ext Xl
  have rows1 := rows.ext Xl
  revert e1 nv1 rows1
  generalize upd H' l (.lst []) = Hb
  intro e1 nv1 rows1
  refine ite2 (fun c => ?_) (fun c => ?_)
  · cases ovl with
    | nil => simp at c
    | cons t r =>
      refine ⟨fun σ' H' => ∃ m', m' < (t :: r).length ∧ LPW H p fo net m' σ' H', fun _ _ h => h, ?_⟩
      obtain ⟨as, hv, pv'⟩ := id nv1
      obtain ⟨a0, as', rfl⟩ : ∃ a0 as', as = a0 :: as' := by cases pv' with | cons h tl => exact ⟨_, _, rfl⟩
      have ha0 : Hb a0 = some (.tup (trV t)) := by cases pv' with | cons h tl => exact h
      have lA : (a0 :: as').length = (t :: r).length := pv'.length
      refine ⟨_, rfl, ov, _, _, _, rfl, rfl, SqL.of hv, (by exact atI_nat (j := 0) rfl), a0, _, _, _, rfl, rfl, SqT.of ha0, (by exact atI_nat (j := 1) rfl), (by show 1 ≤ sizeLine; decide), fun re hre => ?_⟩
      have Xr := Ext.new hre (.lst [V.str t.2.1])
      refine ⟨Nat.zero_le _, fun ro hro => ?_⟩
      have ro0 : Hb ro = none := Xr.none hro
      have Xo := Xr.trans (Ext.new hro (.lst []))
      have reo : re ≠ ro := ne_of_none (upd_same : upd Hb re (.lst [V.str t.2.1]) re = _) hro
      have fullc : ∀ u ∈ net, lbF net u = lbF net t → u ∈ t :: r := fun u hu e => o.full u hu t List.mem_cons_self e
      refine ⟨LPI Hb p fo ov ro net (t :: r) (lbF net t) t.2.1, ⟨_, re, [t.2.1], [], 0, x6, x7, x8, rfl, rfl, Xo, (by unfold LsS; rw [upd_ne reo, upd_same]; rfl), upd_same, reo, ⟨by simp, fun y hy => ?_, fun n hn => (by cases hn)⟩, fun y hy => (by cases hy), Nat.zero_le _, Nat.zero_le _, by simp⟩, ?_⟩
      · rw [List.mem_singleton] at hy
        subst hy
        exact ⟨rfl, t, subO t List.mem_cons_self, .inl rfl⟩
      rintro m σ H3 ⟨re, R, W, k, x6, x7, x8, rfl, rfl, e3, hR, hW, reo, ri, dnk, kR, lW, xR⟩
      have lR := ri.len
      have hv3 := e3 _ _ hv
      have ne_ro : ∀ {b : Addr} {ob : HO}, Hb b = some ob → b ≠ ro := fun h => ne_of_none h ro0
      refine ⟨_, rfl, _, rfl, re, _, rfl, .inl (SqL.of hR), _, _, rfl, rfl, _, rfl, ?_⟩
      refine ite2 (fun ck => ?_) (fun ck => ?_)
      · have ck' : k < R.length := by
          have := of_decide_eq_true ck
          rw [List.length_map] at this
          omega
        have hy : R[k]? = some R[k] := List.getElem?_eq_getElem ck'
        refine ⟨fun σ' H' => ∃ m', m' < 25 - k ∧ LPI Hb p fo ov ro net (t :: r) (lbF net t) t.2.1 m' σ' H', fun _ _ h => h, ?_⟩
        refine ⟨_, rfl, ov, rfl, ⟨_, SqL.of hv3⟩, ?_⟩
        refine for_list (xs := (a0 :: as').map V.ref) (fun i σ H4 => ∃ (re : Addr) (R' W' : List Str) (x6 x7 x8 : Option V), σ = [some (.ref p), some (.ref fo), some (.ref ov), some (.ref re), some (.ref ro), some (.int (k : Int)), x6, x7, x8] ∧ Ext Hb H4 ∧ LsS H4 re R' ∧ LsS H4 ro W' ∧ re ≠ ro ∧ RI net (t :: r) (lbF net t) R' W' ∧ Dn (t :: r) (R.take k) R' W' ∧ Dn ((t :: r).take i) [R[k]] R' W' ∧ (∃ ex, R' = R ++ ex) ∧ W'.length ≤ 12 * k + i)
          ⟨re, R, W, x6, x7, x8, rfl, e3, hR, hW, reo, ri, dnk, fun y _ u hu => (by cases hu), ⟨[], by simp⟩, by omega⟩ ?_ ?_ ?_
        · rintro i σ H4 _ ⟨re, R', W', x6, x7, x8, _, e4, _⟩
          exact SqL.of (e4 _ _ hv)
        · rintro i z σ H4 hx ⟨re, R', W', x6, x7, x8, rfl, e4, hR4, hW4, reo, ri4, dn1, dn2, ⟨ex, rfl⟩, lW4⟩
          obtain ⟨a, u, rfl, hu, ha⟩ := net_get pv' hx
          have hi := at_lt hu
          have um : u ∈ t :: r := List.mem_of_getElem? hu
          have lR4 := ri4.len
          have hyR : (R ++ ex)[k]? = some R[k] := by rw [List.getElem?_append_left ck', hy]
          have hya : atI ((R ++ ex).map V.str) ((k : Nat) : Int) = some (.str R[k]) := atI_nat (by rw [List.getElem?_map, hyR]; rfl)
          have ym : R[k] ∈ R ++ ex := List.mem_append_left _ (List.getElem_mem ck')
          refine ⟨a, _, rfl, SqT.of (e4 _ _ ha), rfl, _, _, rfl, _, _, rfl, _, _, rfl, rfl, ?_⟩
          refine ⟨_, rfl, _, rfl, re, _, _, _, rfl, rfl, SqL.of hR4, hya, _, rfl, _, rfl, (by show 2 ≤ sizeLine; decide), fun T hT => ?_⟩
          have XT := Ext.new hT (.tup [V.str u.2.1, V.str u.2.2])
          refine ⟨T, _, rfl, .inr (SqT.of upd_same), rfl, rfl, _, rfl, ?_⟩
          rw [if_neg (by decide), show inV (V.str R[k]) [V.str u.2.1, V.str u.2.2] = decide (R[k] ∈ [u.2.1, u.2.2]) from inV_str R[k] [u.2.1, u.2.2]]
          refine ite2 (fun c2 => ?_) (fun c2 => ?_)
          · have tch : Tch u R[k] := by simpa [Tch] using c2
            obtain ⟨ri5, m1, m2, m3⟩ := ri4.step subO um ym tch
            have hW5 := XT _ _ hW4
            refine ⟨_, rfl, .inl ⟨rfl, _, SqL.of hW5⟩, _, rfl, ro, _, _, rfl, rfl, hW5, ?_, ?_⟩
            · rw [List.length_map]; exact small1000 (by omega)
            have hR5 : LsS (upd (upd H4 T (.tup [V.str u.2.1, V.str u.2.2])) ro (.lst (W'.map V.str ++ [V.str u.1]))) re (R ++ ex) := by
              unfold LsS; rw [upd_ne reo]; exact XT _ _ hR4
            have hW6 : LsS (upd (upd H4 T (.tup [V.str u.2.1, V.str u.2.2])) ro (.lst (W'.map V.str ++ [V.str u.1]))) ro (W' ++ [u.1]) := by
              unfold LsS; rw [upd_same, List.map_append]; rfl
            have e5 := (e4.trans XT).over ro0 (.lst (W'.map V.str ++ [V.str u.1]))
            revert hR5 hW6 e5
            generalize upd (upd H4 T (.tup [V.str u.2.1, V.str u.2.2])) ro (.lst (W'.map V.str ++ [V.str u.1])) = H5
            intro hR5 hW6 e5
            refine ⟨_, rfl, _, rfl, _, rfl, (by show 2 ≤ sizeLine; decide), fun T2 hT2 => ⟨T2, rfl, ⟨_, SqT.of upd_same⟩, ?_⟩⟩
            have XT2 := Ext.new hT2 (.tup [V.str u.2.1, V.str u.2.2])
            have hR6 := XT2 _ _ hR5
            refine turns_tuple (xs := [V.str u.2.1, V.str u.2.2]) (fun j ys H6 => H6 = upd H5 T2 (.tup [V.str u.2.1, V.str u.2.2]) ∧ ys = (([u.2.1, u.2.2].take j).filter fun e => !decide (e ∈ R ++ ex)).map V.str) ⟨rfl, rfl⟩ (fun j ys H6 _ h => by rw [h.1]; exact SqT.of upd_same) ?_ ?_
            · rintro j v ys H6 hv6 ⟨rfl, rfl⟩
              obtain ⟨e, he, rfl⟩ : ∃ e, [u.2.1, u.2.2][j]? = some e ∧ V.str e = v := by
                have : ([u.2.1, u.2.2].map V.str)[j]? = some v := hv6
                rw [List.getElem?_map] at this
                cases q : [u.2.1, u.2.2][j]? with
                | none => rw [q] at this; cases this
                | some e => rw [q] at this; exact ⟨e, rfl, Option.some.inj this⟩
              have hj : j < 2 := at_lt he
              refine ⟨Sle.set _ (Sle.refl _) (fun u z => by cases z), _, rfl, _, rfl, re, _, rfl, .inl (SqL.of hR6), rfl, flat_strs _, _, rfl, ?_⟩
              rw [if_pos rfl, inV_str]
              refine ite2 (fun c3 => ?_) (fun c3 => ?_)
              · refine ⟨_, rfl, ?_, nxt (at_lt hv6) ⟨rfl, by rw [filt_t he c3, List.map_append]; rfl⟩⟩
                have := List.length_filter_le (fun e => !decide (e ∈ R ++ ex)) ([u.2.1, u.2.2].take j)
                rw [List.length_take] at this
                rw [List.length_map]
                exact small1000 (by omega)
              · exact nxt (at_lt hv6) ⟨rfl, by rw [filt_f he (by simpa using c3)]⟩
            · rintro ys H6 ⟨rfl, rfl⟩ l2 hl2
              have Xl2 := Ext.new hl2 (.lst (((([u.2.1, u.2.2].take 2).filter fun e => !decide (e ∈ R ++ ex))).map V.str))
              have ln := ri5.len
              rw [List.length_append] at ln
              refine ⟨re, l2, _, _, rfl, rfl, Xl2 _ _ hR6, upd_same, ?_, fun re2 hre2 => ?_⟩
              · rw [List.length_map, List.length_map]
                show _ + (nwR (R ++ ex) u).length ≤ sizeLine
                exact Nat.le_of_lt (small1000 (by omega))
              have X7 := (XT2.trans Xl2).trans (Ext.new hre2 (.lst ((R ++ ex).map V.str ++ (nwR (R ++ ex) u).map V.str)))
              refine ⟨re2, (R ++ ex) ++ nwR (R ++ ex) u, W' ++ [u.1], _, _, _, rfl, e5.trans X7, ?_, X7 _ _ hW6, Ne.symm (ne_of_none ((XT2.trans Xl2) _ _ hW6) hre2), ri5, dn1.mono (fun x hx => List.mem_append_left _ hx) (fun x hx => List.mem_append_left _ hx), ?_, ⟨ex ++ nwR (R ++ ex) u, by rw [List.append_assoc]⟩, ?_⟩
              · unfold LsS
                rw [upd_same, List.map_append (f := V.str) (l₁ := R ++ ex) (l₂ := nwR (R ++ ex) u)]
                rfl
              · intro y hy' v hv' tv
                rw [take_snoc hu] at hv'
                rcases List.mem_append.mp hv' with z | z
                · exact (dn2.mono (fun x hx => List.mem_append_left _ hx) (fun x hx => List.mem_append_left _ hx)) y hy' v z tv
                · rw [List.mem_singleton] at z
                  subst z
                  exact ⟨m1, m2, m3⟩
              · rw [List.length_append]
                show W'.length + 1 ≤ _
                omega
          · refine ⟨re, R ++ ex, W', _, _, _, rfl, e4.trans XT, XT _ _ hR4, XT _ _ hW4, reo, ri4, dn1, ?_, ⟨ex, rfl⟩, by omega⟩
            intro y hy' v hv' tv
            rw [take_snoc hu] at hv'
            rcases List.mem_append.mp hv' with z | z
            · exact dn2 y hy' v z tv
            · rw [List.mem_singleton] at z hy'
              subst z hy'
              exact absurd tv (by simpa [Tch] using c2)
        · rintro σ H4 ⟨re, R', W', x6, x7, x8, rfl, e4, hR4, hW4, reo, ri4, dn1, dn2, ⟨ex, rfl⟩, lW4⟩
          rw [List.length_map, lA] at dn2 lW4
          rw [List.take_of_length_le (Nat.le_refl _)] at dn2
          have lR4 := ri4.len
          rw [List.length_append] at lR4
          refine ⟨_, rfl, _, _, rfl, rfl, 25 - (k + 1), by omega, re, R ++ ex, W', k + 1, _, _, _, rfl, rfl, e4, hR4, hW4, reo, ri4, ?_, ?_, ?_, List.mem_append_left _ xR⟩
          · intro y hy' v hv' tv
            rw [List.take_append_of_le_length (by omega), take_snoc hy] at hy'
            rcases List.mem_append.mp hy' with z | z
            · exact dn1 y z v hv' tv
            · exact dn2 y z v hv' tv
          · rw [List.length_append]; omega
          · omega
      · have ck' : k = R.length := by
          have : ¬ ((k : Int) < ((R.map V.str).length : Nat)) := fun z => ck (decide_eq_true z)
          rw [List.length_map] at this
          omega
        rw [ck', List.take_of_length_le (Nat.le_refl _)] at dnk
        have all := ri.done subO fullc dnk xR
        have memW := fun {u : Tr} (hu : u ∈ t :: r) => mem_row o rs ri all hu
        refine ⟨_, rfl, ov, rfl, ⟨_, SqL.of hv3⟩, ?_⟩
        refine turns_list (xs := (a0 :: as').map V.ref) (fun j ys H4 => H4 = H3 ∧ ∃ bs : List Addr, ys = bs.map V.ref ∧ Paired (fun a t => H3 a = some (.tup (trV t))) bs (((t :: r).take j).filter fun u => !decide (lbF net u = lbF net t))) ⟨rfl, [], rfl, .nil⟩ (fun j ys H4 _ h => by rw [h.1]; exact SqL.of hv3) ?_ ?_
        · rintro j z ys H4 hx ⟨rfl, bs, rfl, pb⟩
          obtain ⟨a, u, rfl, hu, ha⟩ := net_get pv' hx
          have hj := at_lt hu
          have um : u ∈ t :: r := List.mem_of_getElem? hu
          have lb : bs.length = _ := pb.length
          have lf := List.length_filter_le (fun u => !decide (lbF net u = lbF net t)) ((t :: r).take j)
          rw [List.length_take] at lf
          refine ⟨Sle.set _ (Sle.refl _) (fun u z => by cases z), _, rfl, a, _, _, _, rfl, rfl, SqT.of (e3 _ _ ha), (by exact atI_nat (j := 0) rfl), _, rfl, ro, _, rfl, .inl (SqL.of hW), rfl, flat_strs _, _, rfl, ?_⟩
          rw [if_pos rfl, inV_str]
          refine ite2 (fun c3 => ?_) (fun c3 => ?_)
          · have c4 : ¬ lbF net u = lbF net t := fun z => by
              have := (memW um).mpr z
              simp [this] at c3
            refine ⟨_, rfl, by rw [List.length_map]; exact small1000 (by omega), nxt (at_lt hx) ⟨rfl, bs ++ [a], by rw [List.map_append]; rfl, ?_⟩⟩
            rw [filt_t hu (by simpa using c4)]
            exact pb.snoc (e3 _ _ ha)
          · have c4 : lbF net u = lbF net t := (memW um).mp (by simpa using c3)
            refine nxt (at_lt hx) ⟨rfl, bs, rfl, ?_⟩
            rw [filt_f hu (by simpa using c4)]
            exact pb
        · rintro ys H4 ⟨rfl, bs, rfl, pb⟩ ov2 hov2
          rw [List.length_map, lA, List.take_of_length_le (Nat.le_refl _), List.filter_cons, if_neg (by simp)] at pb
          have X4 := Ext.new hov2 (.lst (bs.map V.ref))
          have rows4 := (rows1.ext e3).ext X4
          obtain ⟨fs, hf, pf⟩ := id rows4
          have lf : fs.length = dn.length := pf.length
          refine ⟨_, rfl, .inl ⟨rfl, _, SqL.of hf⟩, _, rfl, ro, W, rfl, SqL.of (X4 _ _ hW), by omega, fun r1 ss hr1 nd ln mem => ?_⟩
          have X5 := X4.trans (Ext.new hr1 (SetS P w r1 ss))
          have ssl : ss.length ≤ 12 := by
            have h1 := sub_len (b := ((t :: r).filter fun u => decide (lbF net u = lbF net t)).map (·.1)) nd fun x hx => (heap_mem o ri all x).mp ((mem x).mp hx)
            have h2 := List.length_filter_le (fun u => decide (lbF net u = lbF net t)) (t :: r)
            rw [List.length_map] at h1
            omega
          refine ⟨r1, ss, rfl, upd_same, by omega, fun r2 ss' hr2 pm srt => ?_⟩
          have X6 := X5.trans (Ext.new hr2 (.lst (ss'.map V.str)))
          have hss : ss' = ((t :: r).filter fun u => decide (lbF net u = lbF net t)).map (·.1) := by
            refine rise_ext (rise_of srt (pm.nodup_iff.mpr nd)) ?_ fun x => ?_
            · exact List.Pairwise.sublist ((List.filter_sublist.trans o.sub).map _) rs
            · rw [pm.mem_iff, mem, heap_mem o ri all x]
          have hf6 := (Ext.new hr2 (.lst (ss'.map V.str))) _ _ ((Ext.new hr1 (SetS P w r1 ss)) _ _ hf)
          have E6 := (e1.trans e3).trans X6
          refine ⟨fo, _, _, rfl, rfl, hf6, ?_, ?_⟩
          · rw [List.length_map]; exact small1000 (by omega)
          have ov2fo : ov2 ≠ fo := fun z => by
            have h1 := (rows1.ext e3)
            obtain ⟨fs', hf', _⟩ := h1
            rw [z, hf'] at hov2; cases hov2
          have r2fo : r2 ≠ fo := Ne.symm (ne_of_none ((Ext.new hr1 (SetS P w r1 ss)) _ _ hf) hr2)
          have foH : H fo = none := fo0
          have nv6 : NetAt (upd (upd (upd H4 ov2 (.lst (bs.map V.ref))) r1 (SetS P w r1 ss)) r2 (.lst (ss'.map V.str))) ov2 (r.filter fun u => !decide (lbF net u = lbF net t)) :=
            ⟨bs, (Ext.new hr2 (.lst (ss'.map V.str))) _ _ ((Ext.new hr1 (SetS P w r1 ss)) _ _ upd_same), Paired.mapP pb fun a u z => X6 _ _ z⟩
          refine ⟨_, ?_, ov2, r.filter (fun u => !decide (lbF net u = lbF net t)), dn ++ [ss'], _, _, _, _, _, _, rfl, rfl, E6.over foH _, nv6.set hf6 ov2fo _, ov2fo, ⟨fs ++ [r2], by rw [upd_same, List.map_append]; rfl, Paired.snoc (Paired.mapP pf fun a u z => ⟨?_, z.2⟩) ⟨?_, (e1.trans (e3.trans X5)).none hr2, r2fo⟩⟩, o.next, ?_⟩
          · have := List.length_filter_le (fun u => !decide (lbF net u = lbF net t)) r
            rw [List.length_cons]; omega
          · unfold LsS
            rw [upd_ne z.2.2]
            exact (Ext.new hr2 (.lst (ss'.map V.str))) _ _ ((Ext.new hr1 (SetS P w r1 ss)) _ _ z.1)
          · unfold LsS
            rw [upd_ne r2fo, upd_same]
          · rw [hss, ← eq, PCK_cons, List.map_cons, List.append_assoc]
            rfl
  · have e0 : ovl = [] := by simpa using c
    subst e0
    rw [PCK_nil, List.map_nil, List.append_nil] at eq
    obtain ⟨as, hf, pf⟩ := rows1
    have la : as.length = dn.length := pf.length
    refine ⟨_, rfl, fo, as, dn, rfl, SqL.of hf, Paired.mapP pf fun a r z => SqL.of z.1, by omega, fun r og hr' g sp => ?_⟩
    have X2 := Ext.new hr' (.lst ((og.toList.map fun i => as.getD i 0).map V.ref))
    have gm : ∀ i ∈ og.toList, i < as.length := fun i hi => gd_mem g hi
    rw [la] at g sp
    obtain ⟨s1, s2⟩ := order_rows g sp
    have es := srt_uniq s1 (by rw [eq]; exact PCK_srt _ _ rs) s2
    refine q r _ (e1.trans X2) (e1.none hr') ⟨_, upd_same, ?_⟩
    rw [← eq, ← es]
    exact Paired.mapP (paired_pick pf gm) fun a t z => X2 _ _ z.1
end
end My

set_option Elab.async false
set_option linter.all false
set_option maxRecDepth 100000
namespace My
open PySem L2
theorem cut_head (xs : List V) : cutV xs none (some 1) = xs.take 1 := by
  cases xs with
  | nil => rfl
  | cons a r => cases r <;> simp [cutV, HT.sIx]
theorem cut_tail (xs : List V) : cutV xs (some 1) none = xs.drop 1 := by
  cases xs with
  | nil => rfl
  | cons a r => cases r <;> simp [cutV, HT.sIx]
theorem eqv_rows' : ∀ a b : List (List Str), PyData.eqvAll (a.map rowD) (b.map rowD) = decide (a = b)
  | [], [] => rfl
  | [], _ :: _ => rfl
  | _ :: _, [] => rfl
  | x :: a, y :: b => by
    show (PyData.eqv (rowD x) (rowD y) && PyData.eqvAll (a.map rowD) (b.map rowD)) = _
    rw [eqv_rows' a b, eqv_row]
    by_cases e : x = y
    · subst e; simp
    · simp [e]
theorem eqv_rows (a b : List (List Str)) : PyData.eqv (rowsD a) (rowsD b) = decide (a = b) := eqv_rows' a b
theorem lay_rows : ∀ {F : List (List Str)}, (∀ r ∈ F, SOk r) → PyData.canLayAll0 (F.map rowD) = true ∧ PyData.depthAll (F.map rowD) ≤ 1
  | [], _ => ⟨rfl, by decide⟩
  | x :: r, h => by
    obtain ⟨h1, h2⟩ := lay_rows (F := r) fun y hy => h y (List.mem_cons_of_mem _ hy)
    obtain ⟨h3, h4⟩ := lay_strs (h x List.mem_cons_self)
    refine ⟨?_, ?_⟩
    · show (PyData.canLayAll0 (x.map .str) && PyData.canLayAll0 (r.map rowD)) = true
      rw [h1, h3]; rfl
    · show max (PyData.depthAll (x.map .str) + 1) (PyData.depthAll (r.map rowD)) ≤ 1
      rw [h4]; omega
theorem shaped_rows {F : List (List Str)} (h : ∀ r ∈ F, SOk r) : SeqAt.shaped (rowsD F) = true := by
  obtain ⟨h3, h4⟩ := lay_rows h
  show (PyData.canLayAll0 (F.map rowD) && decide (PyData.depthAll (F.map rowD) + 1 ≤ 64)) = true
  rw [h3, decide_eq_true (by omega)]; rfl
theorem dr_rows' {K : PySem.W.Frag} {H : Hp} : ∀ {as : List Addr} {F : List (List Str)}, Paired (LsS H) as F → DRs K H (as.map V.ref) (F.map rowD)
  | _, _, .nil => .nil
  | _, _, .cons h t => .cons (dr_row h) (dr_rows' t)
theorem dr_rows {K : PySem.W.Frag} {H : Hp} {p : Addr} {F : List (List Str)} (h : RowsAt H p F) : DR K H (.ref p) (rowsD F) := by
  obtain ⟨as, h1, h2⟩ := h
  exact .lst (SqL.of h1) (dr_rows' h2)
theorem star_mem {net : List Tr} {x n : Str} (h : n ∈ starF net x) : ∃ t ∈ net, n = t.1 := by
  unfold starF at h
  obtain ⟨l, hl, hn⟩ := List.mem_flatten.mp h
  obtain ⟨t, ht, rfl⟩ := List.mem_map.mp hl
  refine ⟨t, ht, ?_⟩
  unfold stT at hn
  rcases List.mem_append.mp hn with z | z
  · split at z
    · exact List.mem_singleton.mp z
    · cases z
  · split at z
    · exact List.mem_singleton.mp z
    · cases z
theorem star_ok {net : List Tr} (h : TxN net) (x : Str) : SOk (starF net x) := fun n hn => by
  obtain ⟨t, ht, rfl⟩ := star_mem hn
  exact (h t ht).1.ok
theorem pck_ok {net : List Tr} (h : TxN net) (f : Tr → Str) : ∀ r ∈ (PCK f net).map (·.2), SOk r := fun r hr n hn => by
  obtain ⟨p, hp, rfl⟩ := List.mem_map.mp hr
  rw [PCK_val f net p hp] at hn
  obtain ⟨t, ht, rfl⟩ := List.mem_map.mp hn
  exact (h t (List.mem_filter.mp ht).1).1.ok
theorem pts_ok {net : List Tr} {ps : List Str} (h : TxN net) (pk : PtsOk net ps) : SOk ps := fun x hx => by
  obtain ⟨t, ht, e | e⟩ := (pk.2 x).mp hx
  · rw [e]; exact (h t ht).2.1.ok
  · rw [e]; exact (h t ht).2.2.ok
theorem paired_drop {α β : Type} {R : α → β → Prop} : ∀ {as : List α} {bs : List β} (n : Nat), Paired R as bs → Paired R (as.drop n) (bs.drop n)
  | _, _, 0, h => h
  | _, _, _ + 1, .nil => .nil
  | _, _, n + 1, .cons _ t => paired_drop n t
theorem Paired_memP {α β : Type} {R S : α → β → Prop} : ∀ {as : List α} {bs : List β}, Paired R as bs → (∀ a b, a ∈ as → R a b → S a b) → Paired S as bs
  | _, _, .nil, _ => .nil
  | _, _, .cons h t, f => .cons (f _ _ List.mem_cons_self h) (Paired_memP t fun a b ha => f a b (List.mem_cons_of_mem _ ha))
/-- lists of at most so many things -/
def JL (H : Hp) (as : List Addr) (n : Nat) : Prop := ∀ a ∈ as, ∃ ys, H a = some (.lst ys) ∧ ys.length ≤ n
theorem JL.upd {H : Hp} {as : List Addr} {n m : Nat} (h : JL H as n) {b : Addr} {ys : List V} (hy : ys.length ≤ m) (nm : n ≤ m) : JL (upd H b (.lst ys)) as m := fun a ha => by
  by_cases e : a = b
  · subst e; exact ⟨ys, upd_same, hy⟩
  · obtain ⟨zs, h1, h2⟩ := h a ha
    exact ⟨zs, by rw [upd_ne e]; exact h1, by omega⟩
theorem JL.of {H H0 : Hp} {p : Addr} {as : List Addr} {F : List (List Str)} {n : Nat} (h : Paired (fun a r => LsS H a r ∧ H0 a = none ∧ a ≠ p) as F) (hn : ∀ r ∈ F, r.length ≤ n) : JL H as n := fun a ha => by
  obtain ⟨r, hr, h1, _⟩ := paired_memA h a ha
  exact ⟨_, h1, by rw [List.length_map]; exact hn r hr⟩
theorem ref_get {as : List Addr} {i : Nat} {x : V} (e : (as.map V.ref)[i]? = some x) : ∃ a, x = .ref a ∧ as[i]? = some a := by
  rw [List.getElem?_map] at e
  cases ha : as[i]? with
  | none => rw [ha] at e; cases e
  | some a => rw [ha] at e; exact ⟨a, (Option.some.inj e).symm, rfl⟩
theorem str_get {as : List Str} {i : Nat} {x : V} (e : (as.map V.str)[i]? = some x) : ∃ a, x = .str a ∧ as[i]? = some a := by
  rw [List.getElem?_map] at e
  cases ha : as[i]? with
  | none => rw [ha] at e; cases e
  | some a => rw [ha] at e; exact ⟨a, (Option.some.inj e).symm, rfl⟩
end My

set_option Elab.async false
set_option linter.all false
set_option maxRecDepth 100000
namespace My
open PySem L2
def spLaw (K : PySem.W.Frag) : Sp := fun vs H Q _ => ∃ (a : Addr) (ns : List Int), vs = [.ref a] ∧ SqL K H a (ns.map V.int) ∧ ns.length ≤ 63 ∧ ∀ H', Q (.bl true) H'
section
variable {P : Program} {w : World} {K : PySem.W.Frag} {mg : Str → Option Value} {base : Heap} {f f1 f2 f3 f4 f5 f6 f7 f8 : Addr} {fd fd1 fd2 fd3 fd4 fd5 fd6 fd7 fd8 : FuncData}
abbrev laN : List Str := ["_law_script", "_law_net_here", "_law_handed", "_law_due", "_law_all_stars", "_law_k", "_law_told", "_law_some", "_law_row", "_law_point", "_law_mine", "_law_rows"]
theorem scLaw : FnScope laN ["_law_script"] (defScope sLaw) := ⟨rfl, rfl, rfl, by decide +kernel, rfl, by decide +kernel, by decide +kernel⟩
set_option maxHeartbeats 16000000 in
theorem ok_law (F : Fun K "law" "law" sLaw f fd)
    (G1 : FnOk P w K mg base CX0 3 f1 fd1 ["_law_script", "_law_at"] (spNet K)) (bG1 : Binds K fd1 ["_law_script", "_law_at"] []) (kG1 : PySem.W.keepIn K (.ref f1) = true) (mG1 : mg "_law_net" = some (.ref f1))
    (G2 : FnOk P w K mg base CX0 1 f2 fd2 ["_law_net_here"] spPoints) (bG2 : Binds K fd2 ["_law_net_here"] []) (kG2 : PySem.W.keepIn K (.ref f2) = true) (mG2 : mg "_law_points" = some (.ref f2))
    (G3 : FnOk P w K mg base CX0 1 f3 fd3 ["_law_net_here", "_law_point"] spStar) (bG3 : Binds K fd3 ["_law_net_here", "_law_point"] []) (kG3 : PySem.W.keepIn K (.ref f3) = true) (mG3 : mg "_law_star" = some (.ref f3))
    (G4 : FnOk P w K mg base CX0 1 f4 fd4 ["_law_net_here"] spLPieces) (bG4 : Binds K fd4 ["_law_net_here"] []) (kG4 : PySem.W.keepIn K (.ref f4) = true) (mG4 : mg "_law_pieces" = some (.ref f4))
    (G5 : FnOk P w K mg base CX0 1 f5 fd5 ["net"] spPoints) (bG5 : Binds K fd5 ["net"] []) (kG5 : PySem.W.keepIn K (.ref f5) = true) (mG5 : mg "points" = some (.ref f5))
    (G6 : FnOk P w K mg base CX0 1 f6 fd6 ["net", "point"] spStar) (bG6 : Binds K fd6 ["net", "point"] []) (kG6 : PySem.W.keepIn K (.ref f6) = true) (mG6 : mg "star" = some (.ref f6))
    (G7 : FnOk P w K mg base CX0 2 f7 fd7 ["net"] spStars) (bG7 : Binds K fd7 ["net"] []) (kG7 : PySem.W.keepIn K (.ref f7) = true) (mG7 : mg "stars" = some (.ref f7))
    (G8 : FnOk P w K mg base CX0 3 f8 fd8 ["net"] spPieces) (bG8 : Binds K fd8 ["net"] []) (kG8 : PySem.W.keepIn K (.ref f8) = true) (mG8 : mg "pieces" = some (.ref f8))
    (mr : mg "range" = none) (mL : mg "list" = none) (mi : mg "isinstance" = none) (mso : mg "sorted" = none) : FnOk P w K mg base CX0 4 f fd ["_law_script"] (spLaw K) := by
  refine F.ok scLaw (fun vs H Q E h => ?_) (fun cdv A outer s H vs Q E hr h => ?_)
  · obtain ⟨a, ns, rfl, _⟩ := h
    rfl
  obtain ⟨a, ns, rfl, hS, hlen, q⟩ := h
  have hr1 := hr.mono (j := 1) (by decide)
  have hr2 := hr.mono (j := 2) (by decide)
  refine ⟨_, pss_cons (ps_set (i := 1) scLaw.nd rfl (Or.inr rfl) (pe_call G1 hr rfl mG1 kG1 bG1 .nil pass0 (pa_cons (pv 0) (pa_cons pe_int pa_nil))))
    (pss_cons (ps_set (i := 2) scLaw.nd rfl (Or.inl rfl) (pe_callTy call_list_of rfl mL boot_list' (pa_cons (pv 1) pa_nil)))
    (pss_cons (ps_set (i := 3) scLaw.nd rfl (Or.inl rfl) (pe_call G2 hr1 rfl mG2 kG2 bG2 .nil pass0 (pa_cons (pv 1) pa_nil)))
    (pss_cons (ps_set (i := 4) scLaw.nd rfl (Or.inl rfl) (pe_callB (call_sortedLO (room2 hr)) rfl mso boot_sorted' (pa_cons (pe_lc (N := laN) (sc := defScope sLaw) (N' := ["_law_point", "_law_net_here"]) (sub := [none, some 1]) rfl rfl (CmpOk.of (by decide +kernel)) rfl (pi_list (pv 3))
      (fun C s H fp => ⟨pg_name (i := 0) (by show (["_law_point", "_law_net_here"] : List Str).Nodup; decide) rfl (Or.inl rfl), pts_nil, pe_call G3 hr1 rfl mG3 kG3 bG3 .nil pass0 (pa_cons (pv 1) (pa_cons (pv 0) pa_nil))⟩)) pa_nil)))
    (pss_cons (ps_for PassesOwn.never rfl (pi_range1 rfl mr (pa_cons pe_int pa_nil)) (pg_name (i := 5) scLaw.nd rfl (Or.inl rfl))
      (pss_cons (ps_set (i := 6) scLaw.nd rfl (Or.inl rfl) (pe_call G5 hr1 rfl mG5 kG5 bG5 .nil pass0 (pa_cons (pv 2) pa_nil)))
      (pss_cons (ps_if (PW.pt (pw_or (pt_not (pt_val (pe_callB call_isinst rfl mi boot_isinst (pa_cons (pv 6) (pa_cons (pe_bltn (v := .ty "list") rfl mL boot_list' rfl) pa_nil)))))
          (pw_or (pt_cmpR (op_neD (room64 hr)) (pv 6) (pv 3) (nomark _)) (pw_or1 (pt_cmpR (op_neD (room64 hr)) (pe_call G7 hr2 rfl mG7 kG7 bG7 .nil pass0 (pa_cons (pv 2) pa_nil)) (pv 4) (nomark _)))))) (pss_one (ps_ret pe_bl)) pss_nil)
      (pss_cons (ps_if (pt_cmpR (op_neD (room64 hr)) (pe_call G8 hr rfl mG8 kG8 bG8 .nil pass0 (pa_cons (pv 2) pa_nil)) (pe_call G4 hr1 rfl mG4 kG4 bG4 .nil pass0 (pa_cons (pv 1) pa_nil)) (nomark _)) (pss_one (ps_ret pe_bl)) pss_nil)
      (pss_cons (ps_set (i := 7) scLaw.nd rfl (Or.inl rfl) (pe_call G7 hr2 rfl mG7 kG7 bG7 .nil pass0 (pa_cons (pv 2) pa_nil)))
      (pss_cons (ps_for PassesOwn.never rfl (pi_list (pe_slice sl_list (pv 7) po_none (po_some pe_int))) (pg_name (i := 8) scLaw.nd rfl (Or.inl rfl))
        (pss_one (ps_expr (pe_bm PySem.F.plainAttrs_list PySem.F.slot_list_append PySem.F.type_list_append mt_append (pv 8) (pa_cons pe_str pa_nil)))))
      (pss_cons (ps_if (pt_cmpR (op_neD (room64 hr)) (pe_slice sl_list (pv 7) (po_some pe_int) po_none) (pe_slice sl_list (pv 4) (po_some pe_int) po_none) (nomark _)) (pss_one (ps_ret pe_bl)) pss_nil)
      (pss_cons (ps_for PassesOwn.never rfl (pi_list (pv 3)) (pg_name (i := 9) scLaw.nd rfl (Or.inl rfl))
        (pss_cons (ps_set (i := 10) scLaw.nd rfl (Or.inl rfl) (pe_call G6 hr1 rfl mG6 kG6 bG6 .nil pass0 (pa_cons (pv 2) (pa_cons (pv 9) pa_nil))))
        (pss_cons (ps_if (PW.pt (pw_or (pt_not (pt_val (pe_callB call_isinst rfl mi boot_isinst (pa_cons (pv 10) (pa_cons (pe_bltn (v := .ty "list") rfl mL boot_list' rfl) pa_nil)))))
          (pw_or1 (pt_cmpR (op_neD (room64 hr)) (pv 10) (pe_call G3 hr1 rfl mG3 kG3 bG3 .nil pass0 (pa_cons (pv 1) (pa_cons (pv 9) pa_nil))) (nomark _))))) (pss_one (ps_ret pe_bl)) pss_nil)
        (pss_cons (ps_expr (pe_bm0 PySem.F.plainAttrs_list PySem.F.slot_list_reverse PySem.F.type_list_reverse mt_reverse (pv 10)))
        (pss_one (ps_expr (pe_bm PySem.F.plainAttrs_list PySem.F.slot_list_append PySem.F.type_list_append mt_append (pv 10) (pa_cons pe_str pa_nil))))))))
      (pss_cons (ps_expr (pe_bm PySem.F.plainAttrs_list PySem.F.slot_list_append PySem.F.type_list_append mt_append (pv 6) (pa_cons pe_str pa_nil)))
      (pss_one (ps_for PassesOwn.never rfl (pi_tup (pe_tup (pa_cons (pe_call G7 hr2 rfl mG7 kG7 bG7 .nil pass0 (pa_cons (pv 2) pa_nil)) (pa_cons (pe_call G8 hr rfl mG8 kG8 bG8 .nil pass0 (pa_cons (pv 2) pa_nil)) pa_nil)))) (pg_name (i := 11) scLaw.nd rfl (Or.inl rfl))
        (pss_cons (ps_for PassesOwn.never rfl (pi_list (pv 11)) (pg_name (i := 8) scLaw.nd rfl (Or.inl rfl))
          (pss_one (ps_expr (pe_bm PySem.F.plainAttrs_list PySem.F.slot_list_append PySem.F.type_list_append mt_append (pv 8) (pa_cons pe_str pa_nil)))))
        (pss_one (ps_expr (pe_bm0 PySem.F.plainAttrs_list PySem.F.slot_list_reverse PySem.F.type_list_reverse mt_reverse (pv 11))))))))))))))))
    (pss_one (ps_ret (pe_cmpR (op_eqD (room64 hr)) (pv 2) (pv 1) (nomark _)))))))), ?_⟩
  refine ⟨_, rfl, a, ns, rfl, hS, fun r net H1 e1 r0 nt ln tx rs => ?_⟩
  obtain ⟨as, hn1, pr⟩ := id nt
  refine ⟨_, rfl, r, _, rfl, .inl (SqL.of hn1), fun hd hhd => ?_⟩
  have X1 := Ext.new hhd (.lst (as.map V.ref))
  have nh : NetAt (upd H1 hd (.lst (as.map V.ref))) hd net := ⟨as, upd_same, Paired.mapP pr fun a t z => X1 _ _ z⟩
  have nr := nt.ext X1
  refine ⟨_, rfl, r, net, rfl, nr, ln, fun du ps H2 e2 du0 hdu pok psr lps => ?_⟩
  have nh2 := nh.ext e2
  have nr2 := nr.ext e2
  refine ⟨_, rfl, du, rfl, ⟨_, SqL.of hdu⟩, ?_⟩
  refine turns_list (xs := ps.map V.str) (fun j ys H3 => Ext H2 H3 ∧ ∃ as, ys = as.map V.ref ∧ Paired (LsS H3) as ((ps.take j).map (starF net))) ⟨Ext.refl _, [], rfl, .nil⟩ (fun j ys H3 _ h => SqL.of (h.1 _ _ hdu)) ?_ ?_
  · rintro j x ys H3 hx ⟨e3, as3, rfl, pr3⟩
    obtain ⟨y, rfl, hy⟩ := str_get hx
    have hj := at_lt hy
    have la : as3.length = _ := pr3.length
    rw [List.length_map, List.length_take] at la
    refine ⟨Sle.set _ (Sle.refl _) (fun u z => by cases z), iteT (B := False) ⟨_, rfl, _, rfl, r, net, y, rfl, nr2.ext e3, ln, fun r4 H4 e4 r40 hr4 => ⟨?_, nxt (at_lt hx) ⟨e3.trans e4, as3 ++ [r4], by rw [List.map_append]; rfl, ?_⟩⟩⟩⟩
    · rw [List.length_map]; exact small1000 (by omega)
    · rw [take_snoc hy, List.map_append]
      exact Paired.snoc (Paired.mapP pr3 fun a t z => e4 _ _ z) hr4
  rintro ys H3 ⟨e3, as3, rfl, pr3⟩ l hl'
  rw [List.length_map, List.take_of_length_le (Nat.le_refl _)] at pr3
  have la3 : as3.length = (ps.map (starF net)).length := pr3.length
  have la3' : as3.length = ps.length := by rw [la3, List.length_map]
  have Xl := Ext.new hl' (.lst (as3.map V.ref))
  refine ⟨l, as3, ps.map (starF net), rfl, SqL.of upd_same, Paired.mapP pr3 fun a t z => SqL.of (Xl _ _ z), by omega, fun al o hal g sp => ?_⟩
  have Xa := Xl.trans (Ext.new hal (.lst ((o.toList.map fun i => as3.getD i 0).map V.ref)))
  have gm : ∀ i ∈ o.toList, i < as3.length := fun i hi => gd_mem g hi
  rw [la3] at g sp
  obtain ⟨s1, s2⟩ := order_rows g sp
  have rA : RowsAt (upd (upd H3 l (.lst (as3.map V.ref))) al (.lst ((o.toList.map fun i => as3.getD i 0).map V.ref))) al (o.toList.map fun i => (ps.map (starF net)).getD i []) := ⟨_, upd_same, Paired.mapP (paired_pick pr3 gm) fun a t z => Xa _ _ z⟩
  have nhA := nh2.ext (e3.trans Xa)
  have nrA := nr2.ext (e3.trans Xa)
  have duA : LsS _ du ps := (e3.trans Xa) _ _ hdu
  revert rA nhA nrA duA s1 s2
  generalize upd (upd H3 l (.lst (as3.map V.ref))) al (.lst ((o.toList.map fun i => as3.getD i 0).map V.ref)) = Ha
  generalize (o.toList.map fun i => (ps.map (starF net)).getD i []) = RA
  intro s1 s2 rA nhA nrA duA
  have okRA : ∀ r ∈ RA, SOk r := fun r hr' => by
    obtain ⟨x, _, rfl⟩ := List.mem_map.mp (s2.mem_iff.mp hr')
    exact star_ok tx x
  have okP := pck_ok tx (lbF net)
  have okps := pts_ok tx pok
  have lenRA : ∀ r ∈ RA, r.length ≤ 24 := fun r hr' => by
    obtain ⟨x, _, rfl⟩ := List.mem_map.mp (s2.mem_iff.mp hr')
    have := starF_le net x
    omega
  have same : ∀ {rows ps' : List _}, PtsOk net ps' → Rise ps' → rows.Perm (ps'.map (starF net)) → Srt rows → rows = RA := fun {rows ps'} h1 h2 h3 h4 => by
    have : ps' = ps := rise_ext h2 psr fun x => (h1.2 x).trans (pok.2 x).symm
    subst this
    exact srt_uniq h4 s1 (h3.trans s2.symm)
  refine ⟨2, rfl, by decide, by decide, for_range (lo := 0) (n := 2) (fun i σ H' => ∃ x5 x6 x7 x8 x9 x10 x11 : Option V, σ = [some (.ref a), some (.ref r), some (.ref hd), some (.ref du), some (.ref al), x5, x6, x7, x8, x9, x10, x11] ∧ Ext Ha H') ⟨none, none, none, none, none, none, none, rfl, Ext.refl _⟩ ?_ ?_⟩
  · rintro i σ H' hi ⟨x5, x6, x7, x8, x9, x10, x11, rfl, e'⟩
    have hi2 : i < 2 := hi
    -- the points
    refine ⟨_, rfl, hd, net, rfl, nhA.ext e', ln, fun to pt H3 e3 to0 hto pok3 psr3 lpt => ?_⟩
    obtain rfl : ps = pt := rise_ext psr psr3 fun x => (pok.2 x).trans (pok3.2 x).symm
    have E3 := e'.trans e3
    refine ⟨_, rfl, _, _, _, true, rfl, .lst hto, kit_same _ _, true, rfl, iteF ?_⟩
    refine ⟨_, rfl, _, rfl, _, _, dr_row hto, dr_row (E3 _ _ duA), shaped_row okps, shaped_row okps, _, rfl, ?_⟩
    rw [if_pos rfl, eqv_row, decide_eq_true rfl]
    refine iteF ?_
    -- the stars
    refine ⟨_, rfl, hd, net, rfl, nhA.ext E3, ln, fun so rows ps4 H4 e4 so0 rz pok4 psr4 pm4 srt4 lr4 => ?_⟩
    obtain rfl := (same pok4 psr4 pm4 srt4).symm
    have E4 := E3.trans e4
    refine ⟨_, rfl, _, _, dr_rows rz.y.rows, dr_rows (rA.ext E4), shaped_rows okRA, shaped_rows okRA, _, rfl, ?_⟩
    rw [if_pos rfl, eqv_rows, decide_eq_true rfl]
    refine iteF ?_
    -- the pieces
    refine ⟨_, rfl, hd, net, rfl, nhA.ext E4, ln, fun pi H5 e5 pi0 ry => ?_⟩
    have E5 := E4.trans e5
    refine ⟨_, rfl, r, net, rfl, nrA.ext E5, ln, tx, rs, fun li H6 e6 li0 rl => ?_⟩
    have E6 := E5.trans e6
    refine ⟨_, _, dr_rows (ry.rows.ext e6), dr_rows rl, shaped_rows okP, shaped_rows okP, _, rfl, ?_⟩
    rw [if_pos rfl, eqv_rows, decide_eq_true rfl]
    refine iteF ?_
    have to6 := (e4.trans (e5.trans e6)) _ _ hto
    have B6 := e3.trans (e4.trans (e5.trans e6))
    -- some
    refine ⟨_, rfl, hd, net, rfl, nhA.ext E6, ln, fun sm rows ps7 H7 e7 sm0 rz7 pok7 psr7 pm7 srt7 lr7 => ?_⟩
    obtain rfl := (same pok7 psr7 pm7 srt7).symm
    obtain ⟨as7, nd7, sm7, pr7⟩ := rz7
    have l7 : as7.length = RA.length := pr7.length
    refine ⟨_, rfl, _, rfl, sm, _, rfl, SqL.of sm7, fun sl hsl => ?_⟩
    rw [cut_head, ← List.map_take]
    have Xs := Ext.new hsl (.lst ((as7.take 1).map V.ref))
    refine ⟨sl, rfl, ⟨_, SqL.of upd_same⟩, ?_⟩
    refine for_list (xs := (as7.take 1).map V.ref) (fun j σ H8 => ∃ x8 : Option V, σ = [some (.ref a), some (.ref r), some (.ref hd), some (.ref du), some (.ref al), some (.int (0 + (i : Int))), some (.ref to), some (.ref sm), x8, x9, x10, x11] ∧ Ext H6 H8 ∧ H8 sm = some (.lst (as7.map V.ref)) ∧ H8 sl = some (.lst ((as7.take 1).map V.ref)) ∧ Paired (LsS H8) (as7.drop j) (RA.drop j))
      ⟨_, rfl, e7.trans Xs, Xs _ _ sm7, upd_same, Paired.mapP pr7 fun a t z => Xs _ _ z.1⟩ ?_ ?_ ?_
    · rintro j σ H8 _ ⟨x8, _, _, _, h, _⟩
      exact SqL.of h
    · rintro j x σ H8 hx ⟨x8, rfl, e8, sm8, sl8, pr8⟩
      obtain ⟨b, rfl, hb⟩ := ref_get hx
      have hj : j = 0 := by
        have := at_lt hb
        rw [List.length_take] at this
        omega
      subst hj
      cases as7 with
      | nil => cases hb
      | cons b0 bs =>
        obtain rfl : b0 = b := Option.some.inj hb
        cases RA with
        | nil => cases pr8
        | cons r0 rr =>
          have h8 : LsS H8 b0 r0 := by cases pr8 with | cons h _ => exact h
          have t8 : Paired (LsS H8) bs rr := by cases pr8 with | cons _ h => exact h
          have z7 : LsS H7 b0 r0 ∧ H6 b0 = none ∧ b0 ≠ sm := by cases pr7 with | cons h _ => exact h
          have bsl : b0 ≠ sl := ne_of_none z7.1 hsl
          have l0 := lenRA r0 List.mem_cons_self
          have nb := (List.nodup_cons.mp nd7).1
          refine ⟨_, rfl, .inl ⟨rfl, _, SqL.of h8⟩, b0, _, _, rfl, rfl, h8, ?_, ?_⟩
          · rw [List.length_map]; exact small1000 (by omega)
          refine ⟨_, rfl, e8.over z7.2.1 _, by rw [upd_ne (Ne.symm z7.2.2)]; exact sm8, by rw [upd_ne (Ne.symm bsl)]; exact sl8, ?_⟩
          refine Paired_memP t8 fun c u hc z => ?_
          unfold LsS
          rw [upd_ne (fun e => nb (by rw [← e]; exact hc))]
          exact z
    rintro σ H8 ⟨x8, rfl, e8, sm8, sl8, pr8⟩
    have pr9 : Paired (LsS H8) (as7.drop 1) (RA.drop 1) := by
      cases as7 with
      | nil => cases pr7; exact .nil
      | cons b0 bs => exact pr8
    have E8 := E6.trans e8
    obtain ⟨asA, hA, prA⟩ := rA.ext E8
    refine ⟨_, rfl, _, rfl, sm, _, rfl, SqL.of sm8, fun v1 hv1 => ?_⟩
    have Y1 := Ext.new hv1 (.lst (cutV (as7.map V.ref) (some 1) none))
    refine ⟨_, rfl, _, rfl, al, _, rfl, SqL.of (Y1 _ _ hA), fun v2 hv2 => ?_⟩
    have Y2 := Ext.new hv2 (.lst (cutV (asA.map V.ref) (some 1) none))
    have ok1 : ∀ r ∈ RA.drop 1, SOk r := fun r hr' => okRA r (List.mem_of_mem_drop hr')
    refine ⟨_, _, dr_rows (F := RA.drop 1) ⟨as7.drop 1, ?_, Paired.mapP pr9 fun a t z => (Y1.trans Y2) _ _ z⟩, dr_rows (F := RA.drop 1) ⟨asA.drop 1, ?_, Paired.mapP (paired_drop 1 prA) fun a t z => (Y1.trans Y2) _ _ z⟩, shaped_rows ok1, shaped_rows ok1, _, rfl, ?_⟩
    · rw [Y2 _ _ upd_same, cut_tail, List.map_drop]
    · rw [upd_same, cut_tail, List.map_drop]
    rw [if_pos rfl, eqv_rows, decide_eq_true rfl]
    refine iteF ?_
    have e9 := e8.trans (Y1.trans Y2)
    revert e9
    generalize upd (upd H8 v1 (.lst (cutV (as7.map V.ref) (some 1) none))) v2 (.lst (cutV (asA.map V.ref) (some 1) none)) = H9
    intro e9
    have E9 := E6.trans e9
    refine ⟨_, rfl, du, rfl, ⟨_, SqL.of (E9 _ _ duA)⟩, ?_⟩
    refine for_list (xs := ps.map V.str) (fun j σ H10 => ∃ x8 x9 x10 : Option V, σ = [some (.ref a), some (.ref r), some (.ref hd), some (.ref du), some (.ref al), some (.int (0 + (i : Int))), some (.ref to), some (.ref sm), x8, x9, x10, x11] ∧ Ext H9 H10)
      ⟨_, _, _, rfl, Ext.refl _⟩ ?_ ?_ ?_
    · rintro j σ H10 _ ⟨x8, x9, x10, _, e10⟩
      exact SqL.of ((E9.trans e10) _ _ duA)
    · rintro j x σ H10 hx ⟨x8, x9, x10, rfl, e10⟩
      obtain ⟨y, rfl, hy⟩ := str_get hx
      have E10 := E9.trans e10
      refine ⟨_, rfl, _, rfl, hd, net, y, rfl, nhA.ext E10, ln, fun mi H11 e11 mi0 hmi => ?_⟩
      refine ⟨_, rfl, _, _, _, true, rfl, .lst hmi, kit_same _ _, true, rfl, iteF ?_⟩
      refine ⟨_, rfl, _, rfl, _, rfl, r, net, y, rfl, nrA.ext (E10.trans e11), ln, fun ms H12 e12 ms0 hms => ?_⟩
      have mi12 := e12 _ _ hmi
      refine ⟨_, _, dr_row mi12, dr_row hms, shaped_row (star_ok tx y), shaped_row (star_ok tx y), _, rfl, ?_⟩
      rw [if_pos rfl, eqv_row, decide_eq_true rfl]
      refine iteF ?_
      refine ⟨_, rfl, .inl ⟨rfl, _, SqL.of mi12⟩, mi, _, rfl, rfl, mi12, ?_⟩
      refine ⟨_, rfl, .inl ⟨rfl, _, SqL.of upd_same⟩, mi, _, _, rfl, rfl, upd_same, ?_, ?_⟩
      · rw [List.length_reverse, List.length_map]
        have := starF_le net y
        exact small1000 (by omega)
      · exact ⟨_, _, _, rfl, e10.trans (((e11.trans e12).over mi0 _).over mi0 _)⟩
    rintro σ H10 ⟨x8, x9, x10, rfl, e10⟩
    have to10 := (e9.trans e10) _ _ to6
    refine ⟨_, rfl, .inl ⟨rfl, _, SqL.of to10⟩, to, _, _, rfl, rfl, to10, ?_, ?_⟩
    · rw [List.length_map]; exact small1000 (by omega)
    have eG := ((B6.trans e9).trans e10).over to0 (.lst (ps.map V.str ++ [V.str "zz"]))
    revert eG
    generalize upd H10 to (.lst (ps.map V.str ++ [V.str "zz"])) = G0
    intro eG
    have EG := e'.trans eG
    refine ⟨_, rfl, hd, net, rfl, nhA.ext EG, ln, fun sA rw1 ps1 G1 g1 sA0 rz1 pk1 pr1 pm1 st1 lr1 => ?_⟩
    obtain rfl := (same pk1 pr1 pm1 st1).symm
    obtain ⟨as1, nd1, hs1, pz1⟩ := rz1
    refine ⟨_, rfl, hd, net, rfl, nhA.ext (EG.trans g1), ln, fun p1 G2 g2 p10 ry2 => ?_⟩
    obtain ⟨as2, hp2, pz2⟩ := ry2
    have la1 : as1.length = RA.length := pz1.length
    have la2 : as2.length = _ := pz2.length
    have lP := PCK_len (lbF net) net
    rw [List.length_map] at la2
    refine ⟨(by show 2 ≤ sizeLine; decide), fun T hT => ⟨T, rfl, ⟨_, SqT.of upd_same⟩, ?_⟩⟩
    have XT := Ext.new hT (.tup [V.ref sA, V.ref p1])
    have s1p1 : sA ≠ p1 := ne_of_none hs1 p10
    have s1T : sA ≠ T := ne_of_none (g2 _ _ hs1) hT
    have p1T : p1 ≠ T := ne_of_none hp2 hT
    have p00 := g1.none p10
    have stat : ∀ b ∈ as1 ++ as2, G0 b = none ∧ b ≠ sA ∧ b ≠ p1 ∧ b ≠ T := fun b hb => by
      rcases List.mem_append.mp hb with z | z
      · obtain ⟨u, _, h1, h2, h3⟩ := paired_memA pz1 b z
        exact ⟨h2, h3, ne_of_none h1 p10, ne_of_none (g2 _ _ h1) hT⟩
      · obtain ⟨u, _, h1, h2, h3⟩ := paired_memA pz2 b z
        exact ⟨g1.none h2, Ne.symm (ne_of_none hs1 h2), h3, ne_of_none h1 hT⟩
    have j1 : JL (upd G2 T (.tup [V.ref sA, V.ref p1])) (as1 ++ as2) 50 := fun b hb => by
      rcases List.mem_append.mp hb with z | z
      · obtain ⟨ys, h1, h2⟩ := JL.of pz1 lenRA b z
        exact ⟨ys, XT _ _ (g2 _ _ h1), by omega⟩
      · obtain ⟨ys, h1, h2⟩ := JL.of (n := 12) pz2 (fun r hr' => by
          obtain ⟨pp, hpp, rfl⟩ := List.mem_map.mp hr'
          have := PCK_small (lbF net) net pp hpp
          omega) b z
        exact ⟨ys, XT _ _ h1, by omega⟩
    refine for_tup (xs := [V.ref sA, V.ref p1]) (fun j σ G => ∃ x8 x11 : Option V, σ = [some (.ref a), some (.ref r), some (.ref hd), some (.ref du), some (.ref al), some (.int (0 + (i : Int))), some (.ref to), some (.ref sm), x8, x9, x10, x11] ∧ Ext G0 G ∧ G T = some (.tup [V.ref sA, V.ref p1]) ∧ (j = 0 → G sA = some (.lst (as1.map V.ref))) ∧ (j ≤ 1 → G p1 = some (.lst (as2.map V.ref))) ∧ JL G (as1 ++ as2) (50 * (j + 1)))
      ⟨_, _, rfl, (g1.trans g2).trans XT, upd_same, fun _ => XT _ _ (g2 _ _ hs1), fun _ => XT _ _ hp2, j1⟩ ?_ ?_ ?_
    · rintro j σ G _ ⟨x8, x11, _, _, h, _⟩
      exact SqT.of h
    · rintro j x σ G hx ⟨x8, x11, rfl, gE, gT, gs, gp, gj⟩
      have hj : j < 2 := at_lt hx
      obtain ⟨qa, bs, rfl, hq, hsub, hbl, hcase⟩ : ∃ (qa : Addr) (bs : List Addr), x = .ref qa ∧ G qa = some (.lst (bs.map V.ref)) ∧ (∀ b ∈ bs, b ∈ as1 ++ as2) ∧ bs.length ≤ 24 ∧ ((qa = sA ∧ j = 0) ∨ (qa = p1 ∧ j = 1)) := by
        rcases (show j = 0 ∨ j = 1 by omega) with rfl | rfl
        · exact ⟨sA, as1, (Option.some.inj hx).symm, gs rfl, fun b hb => List.mem_append_left _ hb, by omega, .inl ⟨rfl, rfl⟩⟩
        · exact ⟨p1, as2, (Option.some.inj hx).symm, gp (Nat.le_refl _), fun b hb => List.mem_append_right _ hb, by omega, .inr ⟨rfl, rfl⟩⟩
      have q0 : G0 qa = none := by rcases hcase with ⟨rfl, _⟩ | ⟨rfl, _⟩ <;> assumption
      have qT : qa ≠ T := by rcases hcase with ⟨rfl, _⟩ | ⟨rfl, _⟩ <;> assumption
      refine ⟨_, rfl, qa, rfl, ⟨_, SqL.of hq⟩, ?_⟩
      refine for_list (xs := bs.map V.ref) (fun k σ G' => ∃ x8 : Option V, σ = [some (.ref a), some (.ref r), some (.ref hd), some (.ref du), some (.ref al), some (.int (0 + (i : Int))), some (.ref to), some (.ref sm), x8, x9, x10, some (.ref qa)] ∧ Ext G0 G' ∧ G' T = some (.tup [V.ref sA, V.ref p1]) ∧ G' sA = G sA ∧ G' p1 = G p1 ∧ JL G' (as1 ++ as2) (50 * (j + 1) + k))
        ⟨_, rfl, gE, gT, rfl, rfl, gj⟩ ?_ ?_ ?_
      · rintro k σ G' _ ⟨x8, _, _, _, h1, h2, _⟩
        rcases hcase with ⟨rfl, _⟩ | ⟨rfl, _⟩
        · exact SqL.of (h1.trans hq)
        · exact SqL.of (h2.trans hq)
      · rintro k x σ G' hx' ⟨x8, rfl, gE', gT', h1, h2, gj'⟩
        obtain ⟨b, rfl, hb⟩ := ref_get hx'
        have hk := at_lt hb
        have bm := hsub b (List.mem_of_getElem? hb)
        obtain ⟨b0, b1, b2, b3⟩ := stat b bm
        obtain ⟨ys, hy, ly⟩ := gj' b bm
        refine ⟨_, rfl, .inl ⟨rfl, _, SqL.of hy⟩, b, _, _, rfl, rfl, hy, small1000 (by omega), ?_⟩
        refine ⟨_, rfl, gE'.over b0 _, by rw [upd_ne (Ne.symm b3)]; exact gT', by rw [upd_ne (Ne.symm b1)]; exact h1, by rw [upd_ne (Ne.symm b2)]; exact h2, gj'.upd ?_ (by omega)⟩
        rw [List.length_append]
        show ys.length + 1 ≤ _
        omega
      · rintro σ G' ⟨x8, rfl, gE', gT', h1, h2, gj'⟩
        rw [List.length_map] at gj'
        have hq' : G' qa = some (.lst (bs.map V.ref)) := by
          rcases hcase with ⟨rfl, _⟩ | ⟨rfl, _⟩
          · exact h1.trans hq
          · exact h2.trans hq
        refine ⟨_, rfl, .inl ⟨rfl, _, SqL.of hq'⟩, qa, _, rfl, rfl, hq', ?_⟩
        refine ⟨_, _, rfl, gE'.over q0 _, by rw [upd_ne (Ne.symm qT)]; exact gT', fun z => (by omega), fun z => ?_, fun b hb => ?_⟩
        · have jz : j = 0 := by omega
          have qs : qa = sA := by
            rcases hcase with ⟨e, _⟩ | ⟨_, e⟩
            · exact e
            · omega
          rw [upd_ne (qs ▸ Ne.symm s1p1), h2]
          exact gp (by omega)
        · obtain ⟨ys, hy, ly⟩ := gj' b hb
          obtain ⟨b0, b1, b2, b3⟩ := stat b hb
          have bq : b ≠ qa := by rcases hcase with ⟨rfl, _⟩ | ⟨rfl, _⟩ <;> assumption
          exact ⟨ys, by rw [upd_ne bq]; exact hy, by omega⟩
    · rintro σ G ⟨x8, x11, rfl, gE, _⟩
      exact ⟨_, _, _, _, _, _, _, rfl, EG.trans gE⟩
  · rintro σ H' ⟨x5, x6, x7, x8, x9, x10, x11, rfl, e'⟩
    refine ⟨_, rfl, _, rfl, _, _, dr_net (nhA.ext e'), dr_net (nrA.ext e'), shaped_net tx, shaped_net tx, ?_⟩
    rw [if_neg (by decide), eqv_net]
    exact q _
end
end My

set_option Elab.async false
set_option linter.all false
set_option maxRecDepth 100000
namespace My
open PySem L2
theorem all_mk {l : PySem.W.OpenLaw} {w : World} {K : PySem.W.Frag} {h : Heap} {mg : Str → Option Value} {fa f1 f2 f3 f4 f5 f6 f7 f8 f9 f10 f11 f12 f13 f14 : Addr} (X : K.In h) (G : h.Ns mainGlobals mg) (hfa : mg "law" = some (.ref fa))
    {od1 an1 od2 an2 od3 an3 od4 an4 od5 an5 od6 an6 od7 an7 od8 an8 od9 an9 od10 an10 od11 an11 od12 an12 od13 an13 od14 an14 : Option Addr} {sl1 sl2 sl3 sl4 sl5 sl6 sl7 sl8 sl9 sl10 sl11 sl12 sl13 sl14 : Array (Option Value)} {oc1 kV1 dc1 pm1 cd1 ct1 oc2 kV2 dc2 pm2 cd2 ct2 oc3 kV3 dc3 pm3 cd3 ct3 oc4 kV4 dc4 pm4 cd4 ct4 oc5 kV5 dc5 pm5 cd5 ct5 oc6 kV6 dc6 pm6 cd6 ct6 oc7 kV7 dc7 pm7 cd7 ct7 oc8 kV8 dc8 pm8 cd8 ct8 oc9 kV9 dc9 pm9 cd9 ct9 oc10 kV10 dc10 pm10 cd10 ct10 oc11 kV11 dc11 pm11 cd11 ct11 oc12 kV12 dc12 pm12 cd12 ct12 oc13 kV13 dc13 pm13 cd13 ct13 oc14 kV14 dc14 pm14 cd14 ct14 : Value}
    (a1 : PySem.W.nsIn K mainGlobals "points" = some (some (.ref f1))) (l1 : K.lookup f1 = some ⟨oc1, od1, .func (PySem.W.fnOf "points" "points" (defArgs sPoints) (defBody sPoints) (defScope sPoints) .none kV1 dc1 pm1 an1 cd1 ct1), sl1⟩) (c1 : PySem.W.codeIn K cd1 "points" = true) (k1 : PySem.W.keepIn K (.ref f1) = true)
    (a2 : PySem.W.nsIn K mainGlobals "star" = some (some (.ref f2))) (l2 : K.lookup f2 = some ⟨oc2, od2, .func (PySem.W.fnOf "star" "star" (defArgs sStar) (defBody sStar) (defScope sStar) .none kV2 dc2 pm2 an2 cd2 ct2), sl2⟩) (c2 : PySem.W.codeIn K cd2 "star" = true) (k2 : PySem.W.keepIn K (.ref f2) = true)
    (a3 : PySem.W.nsIn K mainGlobals "stars" = some (some (.ref f3))) (l3 : K.lookup f3 = some ⟨oc3, od3, .func (PySem.W.fnOf "stars" "stars" (defArgs sStars) (defBody sStars) (defScope sStars) .none kV3 dc3 pm3 an3 cd3 ct3), sl3⟩) (c3 : PySem.W.codeIn K cd3 "stars" = true) (k3 : PySem.W.keepIn K (.ref f3) = true)
    (a4 : PySem.W.nsIn K mainGlobals "homes" = some (some (.ref f4))) (l4 : K.lookup f4 = some ⟨oc4, od4, .func (PySem.W.fnOf "homes" "homes" (defArgs sHomes) (defBody sHomes) (defScope sHomes) .none kV4 dc4 pm4 an4 cd4 ct4), sl4⟩) (c4 : PySem.W.codeIn K cd4 "homes" = true) (k4 : PySem.W.keepIn K (.ref f4) = true)
    (a5 : PySem.W.nsIn K mainGlobals "pieces" = some (some (.ref f5))) (l5 : K.lookup f5 = some ⟨oc5, od5, .func (PySem.W.fnOf "pieces" "pieces" (defArgs sPieces) (defBody sPieces) (defScope sPieces) .none kV5 dc5 pm5 an5 cd5 ct5), sl5⟩) (c5 : PySem.W.codeIn K cd5 "pieces" = true) (k5 : PySem.W.keepIn K (.ref f5) = true)
    (a6 : PySem.W.nsIn K mainGlobals "_law_cell_at" = some (some (.ref f6))) (l6 : K.lookup f6 = some ⟨oc6, od6, .func (PySem.W.fnOf "_law_cell_at" "_law_cell_at" (defArgs sCell) (defBody sCell) (defScope sCell) .none kV6 dc6 pm6 an6 cd6 ct6), sl6⟩) (c6 : PySem.W.codeIn K cd6 "_law_cell_at" = true) (k6 : PySem.W.keepIn K (.ref f6) = true)
    (a7 : PySem.W.nsIn K mainGlobals "_law_big" = some (some (.ref f7))) (l7 : K.lookup f7 = some ⟨oc7, od7, .func (PySem.W.fnOf "_law_big" "_law_big" (defArgs sBig) (defBody sBig) (defScope sBig) .none kV7 dc7 pm7 an7 cd7 ct7), sl7⟩) (c7 : PySem.W.codeIn K cd7 "_law_big" = true) (k7 : PySem.W.keepIn K (.ref f7) = true)
    (a8 : PySem.W.nsIn K mainGlobals "_law_names" = some (some (.ref f8))) (l8 : K.lookup f8 = some ⟨oc8, od8, .func (PySem.W.fnOf "_law_names" "_law_names" (defArgs sNames) (defBody sNames) (defScope sNames) .none kV8 dc8 pm8 an8 cd8 ct8), sl8⟩) (c8 : PySem.W.codeIn K cd8 "_law_names" = true) (k8 : PySem.W.keepIn K (.ref f8) = true)
    (a9 : PySem.W.nsIn K mainGlobals "_law_ends" = some (some (.ref f9))) (l9 : K.lookup f9 = some ⟨oc9, od9, .func (PySem.W.fnOf "_law_ends" "_law_ends" (defArgs sEnds) (defBody sEnds) (defScope sEnds) .none kV9 dc9 pm9 an9 cd9 ct9), sl9⟩) (c9 : PySem.W.codeIn K cd9 "_law_ends" = true) (k9 : PySem.W.keepIn K (.ref f9) = true)
    (a10 : PySem.W.nsIn K mainGlobals "_law_net" = some (some (.ref f10))) (l10 : K.lookup f10 = some ⟨oc10, od10, .func (PySem.W.fnOf "_law_net" "_law_net" (defArgs sNet) (defBody sNet) (defScope sNet) .none kV10 dc10 pm10 an10 cd10 ct10), sl10⟩) (c10 : PySem.W.codeIn K cd10 "_law_net" = true) (k10 : PySem.W.keepIn K (.ref f10) = true)
    (a11 : PySem.W.nsIn K mainGlobals "_law_star" = some (some (.ref f11))) (l11 : K.lookup f11 = some ⟨oc11, od11, .func (PySem.W.fnOf "_law_star" "_law_star" (defArgs sLStar) (defBody sLStar) (defScope sLStar) .none kV11 dc11 pm11 an11 cd11 ct11), sl11⟩) (c11 : PySem.W.codeIn K cd11 "_law_star" = true) (k11 : PySem.W.keepIn K (.ref f11) = true)
    (a12 : PySem.W.nsIn K mainGlobals "_law_points" = some (some (.ref f12))) (l12 : K.lookup f12 = some ⟨oc12, od12, .func (PySem.W.fnOf "_law_points" "_law_points" (defArgs sLPoints) (defBody sLPoints) (defScope sLPoints) .none kV12 dc12 pm12 an12 cd12 ct12), sl12⟩) (c12 : PySem.W.codeIn K cd12 "_law_points" = true) (k12 : PySem.W.keepIn K (.ref f12) = true)
    (a13 : PySem.W.nsIn K mainGlobals "_law_pieces" = some (some (.ref f13))) (l13 : K.lookup f13 = some ⟨oc13, od13, .func (PySem.W.fnOf "_law_pieces" "_law_pieces" (defArgs sLPieces) (defBody sLPieces) (defScope sLPieces) .none kV13 dc13 pm13 an13 cd13 ct13), sl13⟩) (c13 : PySem.W.codeIn K cd13 "_law_pieces" = true) (k13 : PySem.W.keepIn K (.ref f13) = true)
    (a14 : PySem.W.nsIn K mainGlobals "law" = some (some (.ref f14))) (l14 : K.lookup f14 = some ⟨oc14, od14, .func (PySem.W.fnOf "law" "law" (defArgs sLaw) (defBody sLaw) (defScope sLaw) .none kV14 dc14 pm14 an14 cd14 ct14), sl14⟩) (c14 : PySem.W.codeIn K cd14 "law" = true) (k14 : PySem.W.keepIn K (.ref f14) = true)
    (z1 : PySem.W.nsIn K mainGlobals "range" = some none)
    (z2 : PySem.W.nsIn K mainGlobals "len" = some none)
    (z3 : PySem.W.nsIn K mainGlobals "list" = some none)
    (z4 : PySem.W.nsIn K mainGlobals "sorted" = some none)
    (z5 : PySem.W.nsIn K mainGlobals "isinstance" = some none)
    (z6 : PySem.W.nsIn K mainGlobals "zip" = some none)
    (z7 : PySem.W.nsIn K mainGlobals "tuple" = some none)
    (z8 : PySem.W.nsIn K mainGlobals "abs" = some none)
    (z9 : PySem.W.nsIn K mainGlobals "int" = some none)
    (z10 : PySem.W.nsIn K mainGlobals "set" = some none)
    : ∃ fd : FuncData, (∀ (s : Shared) (v : Value), BindsTo s fd ⟨[v], []⟩ [("_law_script", v)]) ∧ ∀ base : Heap, K.In base → base.Ns mainGlobals mg → FnOk l.prog w K mg base CX0 4 fa fd ["_law_script"] (spLaw K) := by
  have e := hfa.symm.trans (PySem.W.mg_of X G a14)
  cases e
  have F1 := fun_mk (st := sPoints) l1 c1 k1
  have F2 := fun_mk (st := sStar) l2 c2 k2
  have F3 := fun_mk (st := sStars) l3 c3 k3
  have F4 := fun_mk (st := sHomes) l4 c4 k4
  have F5 := fun_mk (st := sPieces) l5 c5 k5
  have F6 := fun_mk (st := sCell) l6 c6 k6
  have F7 := fun_mk (st := sBig) l7 c7 k7
  have F8 := fun_mk (st := sNames) l8 c8 k8
  have F9 := fun_mk (st := sEnds) l9 c9 k9
  have F10 := fun_mk (st := sNet) l10 c10 k10
  have F11 := fun_mk (st := sLStar) l11 c11 k11
  have F12 := fun_mk (st := sLPoints) l12 c12 k12
  have F13 := fun_mk (st := sLPieces) l13 c13 k13
  have F14 := fun_mk (st := sLaw) l14 c14 k14
  have b1 := F1.binds (ps := ["net"]) fun _ _ _ _ _ _ us hl => match us, hl with | [_], _ => rfl
  have m1 := PySem.W.mg_of X G a1
  have b2 := F2.binds (ps := ["net", "point"]) fun _ _ _ _ _ _ us hl => match us, hl with | [_, _], _ => rfl
  have m2 := PySem.W.mg_of X G a2
  have b3 := F3.binds (ps := ["net"]) fun _ _ _ _ _ _ us hl => match us, hl with | [_], _ => rfl
  have m3 := PySem.W.mg_of X G a3
  have b4 := F4.binds (ps := ["net"]) fun _ _ _ _ _ _ us hl => match us, hl with | [_], _ => rfl
  have m4 := PySem.W.mg_of X G a4
  have b5 := F5.binds (ps := ["net"]) fun _ _ _ _ _ _ us hl => match us, hl with | [_], _ => rfl
  have m5 := PySem.W.mg_of X G a5
  have b6 := F6.binds (ps := ["_law_script", "_law_k"]) fun _ _ _ _ _ _ us hl => match us, hl with | [_, _], _ => rfl
  have m6 := PySem.W.mg_of X G a6
  have b7 := F7.binds (ps := ["_law_script", "_law_k"]) fun _ _ _ _ _ _ us hl => match us, hl with | [_, _], _ => rfl
  have m7 := PySem.W.mg_of X G a7
  have b8 := F8.binds (ps := ["_law_big_here", "_law_many"]) fun _ _ _ _ _ _ us hl => match us, hl with | [_, _], _ => rfl
  have m8 := PySem.W.mg_of X G a8
  have b9 := F9.binds (ps := ["_law_big_here", "_law_many", "_law_spread"]) fun _ _ _ _ _ _ us hl => match us, hl with | [_, _, _], _ => rfl
  have m9 := PySem.W.mg_of X G a9
  have b10 := F10.binds (ps := ["_law_script", "_law_at"]) fun _ _ _ _ _ _ us hl => match us, hl with | [_, _], _ => rfl
  have m10 := PySem.W.mg_of X G a10
  have b11 := F11.binds (ps := ["_law_net_here", "_law_point"]) fun _ _ _ _ _ _ us hl => match us, hl with | [_, _], _ => rfl
  have m11 := PySem.W.mg_of X G a11
  have b12 := F12.binds (ps := ["_law_net_here"]) fun _ _ _ _ _ _ us hl => match us, hl with | [_], _ => rfl
  have m12 := PySem.W.mg_of X G a12
  have b13 := F13.binds (ps := ["_law_net_here"]) fun _ _ _ _ _ _ us hl => match us, hl with | [_], _ => rfl
  have m13 := PySem.W.mg_of X G a13
  have n_range := PySem.W.mg_none_of X G z1
  have n_len := PySem.W.mg_none_of X G z2
  have n_list := PySem.W.mg_none_of X G z3
  have n_sorted := PySem.W.mg_none_of X G z4
  have n_isinstance := PySem.W.mg_none_of X G z5
  have n_zip := PySem.W.mg_none_of X G z6
  have n_tuple := PySem.W.mg_none_of X G z7
  have n_abs := PySem.W.mg_none_of X G z8
  have n_int := PySem.W.mg_none_of X G z9
  have n_set := PySem.W.mg_none_of X G z10
  refine ⟨PySem.W.fnOf "law" "law" (defArgs sLaw) (defBody sLaw) (defScope sLaw) .none kV14 dc14 pm14 an14 cd14 ct14, fun s v => .of_eq rfl, fun base _ _ => ?_⟩
  have gP := ok_points (P := l.prog) (w := w) (base := base) F1 n_sorted
  have gS := ok_star (P := l.prog) (w := w) (mg := mg) (base := base) F2
  have gA := ok_stars (P := l.prog) (w := w) (base := base) F3 gP b1 k1 m1 gS b2 k2 m2 n_sorted
  have gH := ok_homes (P := l.prog) (w := w) (base := base) F4 gP b1 k1 m1
  have gI := ok_pieces (P := l.prog) (w := w) (base := base) F5 gH b4 k4 m4 n_list
  have gC := ok_cell (P := l.prog) (w := w) (base := base) F6 n_len
  have gB := ok_big (P := l.prog) (w := w) (base := base) F7 gC b6 k6 m6 n_range n_abs
  have gN := ok_names (P := l.prog) (w := w) (base := base) F8 n_range n_len
  have gE := ok_ends (P := l.prog) (w := w) (base := base) F9 n_range n_len n_list
  have gX := ok_net (P := l.prog) (w := w) (base := base) F10 gB b7 k7 m7 gE b9 k9 m9 gN b8 k8 m8 n_len n_zip n_tuple n_sorted
  have gLS := ok_lstar (P := l.prog) (w := w) (base := base) F11 n_int
  have gLP := ok_lpoints (P := l.prog) (w := w) (base := base) F12 n_sorted n_set
  have gLI := ok_lpieces (P := l.prog) (w := w) (base := base) F13 n_list n_len n_sorted n_set
  exact ok_law F14 gX b10 k10 m10 gLP b12 k12 m12 gLS b11 k11 m11 gLI b13 k13 m13 gP b1 k1 m1 gS b2 k2 m2 gA b3 k3 m3 gI b5 k5 m5 n_range n_list n_isinstance n_sorted
theorem walk {l : PySem.W.OpenLaw} {q : Program} {loose : List Str} {XP : (Str → Option Value) → Heap → Prop} {YP : World → Heap → Prop} {d : DefRec} {K : Params → PySem.W.Frag} (hn : l.most = some 63) (hdf : d.params.defaults = [])
    (hY : ∀ (w : World) (h : Heap), YP w h → (K w.params).In h)
    (F : ∀ (w : World) (mg : Str → Option Value) (fa : Addr) (h : Heap), (K w.params).In h → h.Ns mainGlobals mg → mg d.name = some (.ref fa) →
      ∃ fd : FuncData, (∀ (s : Shared) (u : Value), BindsTo s fd ⟨[u], []⟩ [("_law_script", u)]) ∧ ∀ base : Heap, (K w.params).In base → base.Ns mainGlobals mg → FnOk l.prog w (K w.params) mg base CX0 4 fa fd ["_law_script"] (spLaw (K w.params))) :
    PySem.W.WalkO q loose XP YP l.row.toRowW d [] (fun f vs => PySem.call f vs) :=
  L2.walk_of (n := 63) (k := 4) (x := "_law_script") (CX := fun _ => CX0) (sp := fun w => spLaw (K w.params)) hn (by decide) hdf ⟨rfl, by decide, by decide⟩ hY F (fun _ _ a ns hl _ hS => ⟨a, ns, rfl, hS, hl, fun _ => rfl⟩) fun _ _ _ _ _ z => z
end My
open PySem PySem.W PyProof.Rows
set_option maxRecDepth 100000 in
set_option maxHeartbeats 0 in
theorem PySem.Challenge.cw_roundsalone_k18_points_stars_pieces_holds : PySem.Challenge.rw_roundsalone_k18_points_stars_pieces.Holds := by
  w_on; o_law; k_head; (case hw => w_witness2)
  k_fill
  refine My.walk (l := PySem.Challenge.rw_roundsalone_k18_points_stars_pieces) rfl rfl (fun w h Y => PySem.W.kIn_of Y) ?F
  case F =>
    intro w mg fa h KX G hmg
    refine' My.all_mk KX G hmg ?a1 ?l1 ?c1 ?k1 ?a2 ?l2 ?c2 ?k2 ?a3 ?l3 ?c3 ?k3 ?a4 ?l4 ?c4 ?k4 ?a5 ?l5 ?c5 ?k5 ?a6 ?l6 ?c6 ?k6 ?a7 ?l7 ?c7 ?k7 ?a8 ?l8 ?c8 ?k8 ?a9 ?l9 ?c9 ?k9 ?a10 ?l10 ?c10 ?k10 ?a11 ?l11 ?c11 ?k11 ?a12 ?l12 ?c12 ?k12 ?a13 ?l13 ?c13 ?k13 ?a14 ?l14 ?c14 ?k14 ?z1 ?z2 ?z3 ?z4 ?z5 ?z6 ?z7 ?z8 ?z9 ?z10
    (case a1 => k_is)
    (case l1 => k_is)
    (case c1 => k_is)
    (case k1 => k_is)
    (case a2 => k_is)
    (case l2 => k_is)
    (case c2 => k_is)
    (case k2 => k_is)
    (case a3 => k_is)
    (case l3 => k_is)
    (case c3 => k_is)
    (case k3 => k_is)
    (case a4 => k_is)
    (case l4 => k_is)
    (case c4 => k_is)
    (case k4 => k_is)
    (case a5 => k_is)
    (case l5 => k_is)
    (case c5 => k_is)
    (case k5 => k_is)
    (case a6 => k_is)
    (case l6 => k_is)
    (case c6 => k_is)
    (case k6 => k_is)
    (case a7 => k_is)
    (case l7 => k_is)
    (case c7 => k_is)
    (case k7 => k_is)
    (case a8 => k_is)
    (case l8 => k_is)
    (case c8 => k_is)
    (case k8 => k_is)
    (case a9 => k_is)
    (case l9 => k_is)
    (case c9 => k_is)
    (case k9 => k_is)
    (case a10 => k_is)
    (case l10 => k_is)
    (case c10 => k_is)
    (case k10 => k_is)
    (case a11 => k_is)
    (case l11 => k_is)
    (case c11 => k_is)
    (case k11 => k_is)
    (case a12 => k_is)
    (case l12 => k_is)
    (case c12 => k_is)
    (case k12 => k_is)
    (case a13 => k_is)
    (case l13 => k_is)
    (case c13 => k_is)
    (case k13 => k_is)
    (case a14 => k_is)
    (case l14 => k_is)
    (case c14 => k_is)
    (case k14 => k_is)
    (case z1 => k_is)
    (case z2 => k_is)
    (case z3 => k_is)
    (case z4 => k_is)
    (case z5 => k_is)
    (case z6 => k_is)
    (case z7 => k_is)
    (case z8 => k_is)
    (case z9 => k_is)
    (case z10 => k_is)
#print axioms PySem.Challenge.cw_roundsalone_k18_points_stars_pieces_holds
