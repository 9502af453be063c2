import PyProof.Rows.All
import Wide.All
import OpenK.AllK
import Wide.FinOn
import Lean
import PyProof.EqAt
import PyProof.EqKinds
import PyProof.TupleCall
import KE.KSortKey
import PySem.Challenge.RW_roundsalone_k05_within_or_without
set_option Elab.async false
set_option linter.all false
set_option maxRecDepth 100000
namespace L2
open PySem PySem.Spec PyProof.Rows
abbrev Key := Sum Int Str
def keyIs : Key → Value → Bool
  | .inl k, v => Value.isInt k v
  | .inr x, v => Value.isStrOf x v
def keyH (w : World) : Key → Int
  | .inl k => hashInt k
  | .inr x => hashStr w x
theorem keyIs_shape : ∀ {k : Key} {v : Value}, keyIs k v = true → (∃ i t, k = Sum.inl i ∧ v = Value.int i t) ∨ (∃ x t, k = Sum.inr x ∧ v = Value.str x t)
  | .inl i, v, h => by
    obtain ⟨t, e⟩ := Value.isInt_shape (k := i) (v := v) h
    exact .inl ⟨i, t, rfl, e⟩
  | .inr x, v, h => by
    obtain ⟨t, e⟩ := Value.isStrOf_shape (x := x) (v := v) h
    exact .inr ⟨x, t, rfl, e⟩
theorem keyIs_int (i : Int) (t : Tok) : keyIs (.inl i) (.int i t) = true := by simp [keyIs, Value.isInt]
theorem keyIs_str (x : Str) (t : Tok) : keyIs (.inr x) (.str x t) = true := by simp [keyIs, Value.isStrOf]
theorem key_ll (a b : Int) : decide ((Sum.inl a : Key) = Sum.inl b) = (a == b) := by
  by_cases e : a = b
  · subst e; simp
  · have h : ¬ (Sum.inl a : Key) = Sum.inl b := fun q => e (Sum.inl.inj q)
    rw [decide_eq_false h]
    exact (beq_eq_false_iff_ne.mpr e).symm
theorem key_rr (a b : Str) : decide ((Sum.inr a : Key) = Sum.inr b) = decide (a = b) := by
  by_cases e : a = b
  · subst e; simp
  · have h : ¬ (Sum.inr a : Key) = Sum.inr b := fun q => e (Sum.inr.inj q)
    rw [decide_eq_false h, decide_eq_false e]
theorem key_lr (a : Int) (b : Str) : decide ((Sum.inl a : Key) = Sum.inr b) = false := decide_eq_false (fun q => nomatch q)
theorem key_rl (a : Str) (b : Int) : decide ((Sum.inr a : Key) = Sum.inl b) = false := decide_eq_false (fun q => nomatch q)
def mixKind (prog : Program) (w : World) : PySem.KeyKind prog w Key where
  is := keyIs
  hash := keyH w
  inj := fun v a b ha hb => by
    rcases keyIs_shape ha with ⟨i, t, rfl, rfl⟩ | ⟨x, t, rfl, rfl⟩
    · rcases keyIs_shape hb with ⟨j, u, rfl, e⟩ | ⟨y, u, rfl, e⟩
      · injection e with e1 _; rw [e1]
      · exact nomatch e
    · rcases keyIs_shape hb with ⟨j, u, rfl, e⟩ | ⟨y, u, rfl, e⟩
      · exact nomatch e
      · injection e with e1 _; rw [e1]
  byValue := fun k v h => by
    rcases keyIs_shape h with ⟨i, t, rfl, rfl⟩ | ⟨x, t, rfl, rfl⟩ <;> rfl
  pyHash := fun hv h => by
    rcases keyIs_shape hv with ⟨i, t, rfl, rfl⟩ | ⟨x, t, rfl, rfl⟩
    · exact wpAny_pyHash_int h
    · exact wpAny_pyHash_str h
  eqBool := fun hu hv h => by
    rcases keyIs_shape hu with ⟨i, t, rfl, rfl⟩ | ⟨x, t, rfl, rfl⟩
    · rcases keyIs_shape hv with ⟨j, u, rfl, rfl⟩ | ⟨y, u, rfl, rfl⟩
      · rw [key_ll] at h; exact wpAny_eqBool_int h
      · rw [key_lr] at h; exact SeqAt.EqAt.int_str i t y u _ _ _ _ h
    · rcases keyIs_shape hv with ⟨j, u, rfl, rfl⟩ | ⟨y, u, rfl, rfl⟩
      · rw [key_rl] at h; exact SeqAt.EqAt.str_int x t j u _ _ _ _ h
      · rw [key_rr] at h; exact wpAny_eqBool_str h
  «strs» := fun k x t v h => by
    rcases keyIs_shape h with ⟨i, u, rfl, e⟩ | ⟨y, u, rfl, e⟩
    · exact nomatch e
    · injection e with e1 _
      subst e1
      cases v <;> rfl
theorem mixKind_int (prog : Program) (w : World) (i : Int) (t : Tok) : (mixKind prog w).is (.inl i) (.int i t) = true := keyIs_int i t
theorem mixKind_str (prog : Program) (w : World) (x : Str) (t : Tok) : (mixKind prog w).is (.inr x) (.str x t) = true := keyIs_str x t
end L2
namespace L2
open PySem PySem.Spec PyProof.Rows
inductive V where
  | non | bl (b : Bool) | int (i : Int) | str (x : Str) | byt (b : Array UInt8) | flt (b : UInt64) | ref (a : Addr) | ty (n : String)
  deriving DecidableEq
def RelV : V → Value → Prop
  | .non, u => u = Value.none
  | .bl b, u => u = Value.bool b
  | .int i, u => ∃ t, u = Value.int i t
  | .str x, u => ∃ t, u = Value.str x t
  | .byt b, u => ∃ t, u = Value.bytes b t
  | .flt b, u => ∃ t, u = Value.float b t
  | .ref a, u => u = Value.ref a
  | .ty n, u => u = Value.type n
abbrev Vals : List V → List Value → Prop := Paired RelV
theorem Vals.length {xs : List V} {us : List Value} (r : Vals xs us) : xs.length = us.length := Paired.length r
theorem Vals.get : ∀ {xs : List V} {us : List Value} {i : Nat} {x : V}, Vals xs us → xs[i]? = some x → ∃ u, us[i]? = some u ∧ RelV x u
  | _, _, _, _, .nil, e => by simp at e
  | _, _, 0, _, .cons r _, e => by simp at e; subst e; exact ⟨_, rfl, r⟩
  | _, _, i + 1, x, .cons _ t, e => by
    obtain ⟨u, h1, h2⟩ := Vals.get (i := i) (x := x) t (by simpa using e)
    exact ⟨u, by simpa using h1, h2⟩
theorem Vals.set {x : V} {u : Value} (r : RelV x u) : ∀ {xs : List V} {us : List Value} (i : Nat), Vals xs us → Vals (xs.set i x) (us.set i u)
  | _, _, _, .nil => .nil
  | _, _, 0, .cons _ t => .cons r t
  | _, _, i + 1, .cons q t => .cons q (Vals.set r i t)
theorem Vals.append : ∀ {xs ys : List V} {us ws : List Value}, Vals xs us → Vals ys ws → Vals (xs ++ ys) (us ++ ws)
  | _, _, _, _, .nil, s => s
  | _, _, _, _, .cons r t, s => .cons r (Vals.append t s)
theorem Vals.take : ∀ {xs : List V} {us : List Value} (n : Nat), Vals xs us → Vals (xs.take n) (us.take n)
  | _, _, 0, _ => .nil
  | _, _, _ + 1, .nil => .nil
  | _, _, n + 1, .cons r t => .cons r (Vals.take n t)
theorem Vals.drop : ∀ {xs : List V} {us : List Value} (n : Nat), Vals xs us → Vals (xs.drop n) (us.drop n)
  | _, _, 0, r => r
  | _, _, _ + 1, .nil => .nil
  | _, _, n + 1, .cons _ t => Vals.drop n t
def RelO : Option V → Option Value → Prop
  | some v, some u => RelV v u
  | none, none => True
  | _, _ => False
def KV {κ : Type} : List (κ × V) → List (κ × Value) → Prop := Paired fun (p : κ × V) (q : κ × Value) => p.1 = q.1 ∧ RelV p.2 q.2
def kV : Key → V
  | .inl i => .int i
  | .inr x => .str x
inductive HO where
    | lst (xs : List V)
    | tup (xs : List V)
    | dK (kvs : List (Key × V)) | dT (kvs : List (List Key × V))
    | set (S : Int → Bool) (n : Nat)
    | ins (C dx : Addr) (fs : List (Str × V))
    | own (x : Addr)
    | xd (fs : List (Str × V))
    | met (f x : Addr)
    | rng (lo hi : Int)
    | frz (o : Obj) (u : HO)
    | tbl (ps : Array Value)
    | ext (φ : Heap → Prop)
abbrev Hp := Addr → Option HO
def upd (H : Hp) (a : Addr) (o : HO) : Hp := fun b => if b = a then some o else H b
theorem upd_same {H : Hp} {a : Addr} {o : HO} : upd H a o a = some o := by unfold upd; rw [if_pos rfl]
theorem upd_ne {H : Hp} {a b : Addr} {o : HO} (h : b ≠ a) : upd H a o b = H b := by unfold upd; rw [if_neg h]
theorem upd_upd {H : Hp} {a : Addr} {o u : HO} : upd (upd H a o) a u = upd H a u := by
  funext b; unfold upd; split <;> rfl
theorem ne_of {H : Hp} {a b : Addr} {o u : HO} (h : H a = some o) (h' : H b = some u) (d : o ≠ u) : a ≠ b := by
  intro e; subst e; rw [h] at h'; exact d (Option.some.inj h')
theorem ne_of_none {H : Hp} {a b : Addr} {o : HO} (h : H a = some o) (h' : H b = none) : a ≠ b := by
  intro e; subst e; rw [h] at h'; cases h'
section
variable (P : Program) (w : World)
def ObjOk (H : Hp) (h : Heap) (a : Addr) : HO → Prop
  | .lst xs => xs.length ≤ sizeLine ∧ ∃ (its : List Value) (n : Nat), Vals xs its ∧ h.get? a = some { cls := .type "list", data := .seq its.toArray n }
  | .tup xs => xs.length ≤ sizeLine ∧ ∃ its : List Value, Vals xs its ∧ IsTup h a its.toArray
  | .dK kvs => kvs.length ≤ sizeLine ∧ (a == sysModules) = false ∧ ∃ vs, KV kvs vs ∧ h.DictOf (mixKind P w) a vs
  | .dT kvs => kvs.length ≤ sizeLine ∧ (a == sysModules) = false ∧ ∃ xs : List (List Key × Addr × Value),
      Paired (fun (p : List Key × V) (q : List Key × Addr × Value) => p.1 = q.1 ∧ H q.2.1 = some (.tup (p.1.map kV)) ∧ RelV p.2 q.2.2) kvs xs ∧
      ∃ o es ep, h.get? a = some o ∧ o.ExactDict ∧ o.data = .dict es ep ∧ es.toList = xs.map (entryOfKey (tupleKind (mixKind P w))) ∧ (xs.map (·.1)).Nodup
  | .set S n => h.SetOf (intKind P w) a S n
  | .ins C dx fs => H dx = some (.own a) ∧ fs.length ≤ 1000 ∧ dx ≠ a ∧ h.get? a = some (PySem.W.instObj C dx) ∧
      ∃ mA, h.Ns1 dx mA ∧ (∀ f, RelO (fs.lookup f) (mA f)) ∧ PySem.Within mA (fs.map (·.1))
  | .own _ => ∃ o, h.get? a = some o
  | .xd fs => ∃ mA, h.Ns1 a mA ∧ ∀ f, RelO (fs.lookup f) (mA f)
  | .rng lo hi => ∃ t u v, h.get? a = some { cls := .type "range", data := .fields #[.int lo t, .int hi u, .int 1 v] }
  | .frz o u => h.get? a = some o ∧ ObjOk H h a u
  | .tbl ps => h.get? a = some { cls := .none, data := .fields ps }
  | .met f x => h.get? a = some (PySem.W.methodObj (.ref f) (.ref x))
  | .ext φ => φ h ∧ (∃ o, h.get? a = some o) ∧ ∀ h1 h2 : Heap, φ h1 → (∀ o, h1.get? a = some o → h2.get? a = some o) → φ h2
def HOk (H : Hp) (h : Heap) : Prop := ∀ a o, H a = some o → ObjOk P w H h a o
end
section
variable {P : Program} {w : World} {H H' : Hp} {h h' : Heap} {a : Addr} {o : HO}
theorem ObjOk.lt (x : ObjOk P w H h a o) : a < h.objs.size := by
  cases o with
  | lst xs => obtain ⟨_, _, _, _, e⟩ := x; exact Heap.lt_size e
  | tup xs => obtain ⟨_, _, _, p⟩ := x; exact p.lt
  | dK kvs => obtain ⟨_, _, _, _, o, _, _, e, _⟩ := x; exact Heap.lt_size e
  | dT kvs => obtain ⟨_, _, _, _, o, _, _, e, _⟩ := x; exact Heap.lt_size e
  | set S n => obtain ⟨o, _, _, _, e, _⟩ := x; exact Heap.lt_size e
  | ins C dx fs => obtain ⟨_, _, _, e, _⟩ := x; exact Heap.lt_size e
  | own y => obtain ⟨_, e⟩ := x; exact Heap.lt_size e
  | xd fs => obtain ⟨_, ⟨_, _, _, e, _⟩, _⟩ := x; exact Heap.lt_size e
  | rng lo hi => obtain ⟨_, _, _, e⟩ := x; exact Heap.lt_size e
  | frz ob u => obtain ⟨e, _⟩ := x; exact Heap.lt_size e
  | tbl ps => exact Heap.lt_size (show h.get? a = some _ from x)
  | met f y => exact Heap.lt_size (show h.get? a = some _ from x)
  | ext φ => obtain ⟨_, ⟨_, e⟩, _⟩ := x; exact Heap.lt_size e
theorem Paired.mapP {α β : Type} {F G : α → β → Prop} : ∀ {l₁ : List α} {l₂ : List β}, Paired F l₁ l₂ → (∀ a b, F a b → G a b) → Paired G l₁ l₂
  | _, _, .nil, _ => .nil
  | _, _, .cons r t, f => .cons (f _ _ r) (Paired.mapP t f)
theorem ObjOk.stay (x : ObjOk P w H h a o) (k : ∀ b u, (b = a ∨ H b = some (.own a)) → h.get? b = some u → h'.get? b = some u)
    (ho : ∀ b, H b = some (.own a) → H' b = some (.own a)) (ht : ∀ b xs, H b = some (.tup xs) → H' b = some (.tup xs)) : ObjOk P w H' h' a o := by
  induction o with
  | lst xs => obtain ⟨z, its, n, r, e⟩ := x; exact ⟨z, its, n, r, k _ _ (.inl rfl) e⟩
  | tup xs => obtain ⟨z, its, r, ob, e, c⟩ := x; exact ⟨z, its, r, ob, k _ _ (.inl rfl) e, c⟩
  | dK kvs => obtain ⟨z, y, vs, r, ob, es, ep, e, c⟩ := x; exact ⟨z, y, vs, r, ob, es, ep, k _ _ (.inl rfl) e, c⟩
  | dT kvs =>
    obtain ⟨z, y, xs, r, ob, es, ep, e, c⟩ := x
    exact ⟨z, y, xs, Paired.mapP r fun p q z => ⟨z.1, ht _ _ z.2.1, z.2.2⟩, ob, es, ep, k _ _ (.inl rfl) e, c⟩
  | set S n => obtain ⟨ob, es, ep, t, e, c⟩ := x; exact ⟨ob, es, ep, t, k _ _ (.inl rfl) e, c⟩
  | ins C dx fs =>
    obtain ⟨d, z, ne, e, mA, ⟨od, es, ep, e2, c⟩, r⟩ := x
    exact ⟨ho _ d, z, ne, k _ _ (.inl rfl) e, mA, ⟨od, es, ep, k _ _ (.inr d) e2, c⟩, r⟩
  | own y => obtain ⟨ob, e⟩ := x; exact ⟨ob, k _ _ (.inl rfl) e⟩
  | xd fs => obtain ⟨mA, ⟨od, es, ep, e, c⟩, r⟩ := x; exact ⟨mA, ⟨od, es, ep, k _ _ (.inl rfl) e, c⟩, r⟩
  | rng lo hi => obtain ⟨t, u, v, e⟩ := x; exact ⟨t, u, v, k _ _ (.inl rfl) e⟩
  | frz ob u ih => obtain ⟨e, q⟩ := x; exact ⟨k _ _ (.inl rfl) e, ih q⟩
  | tbl ps =>
    have e : h.get? a = some { cls := .none, data := .fields ps } := x
    show h'.get? a = some { cls := .none, data := .fields ps }
    exact k a _ (.inl rfl) e
  | met f y =>
    have e : h.get? a = some (PySem.W.methodObj (.ref f) (.ref y)) := x
    show h'.get? a = some (PySem.W.methodObj (.ref f) (.ref y))
    exact k a _ (.inl rfl) e
  | ext φ => obtain ⟨p, ⟨o, e⟩, st⟩ := x; exact ⟨st _ _ p fun o q => k _ _ (.inl rfl) q, ⟨o, k _ _ (.inl rfl) e⟩, st⟩
theorem HOk.lt (x : HOk P w H h) (e : H a = some o) : a < h.objs.size := (x a o e).lt
theorem HOk.fresh (x : HOk P w H h) (e : h.objs.size ≤ a) : H a = none := by
  cases q : H a with
  | none => rfl
  | some u => exact absurd (Nat.lt_of_lt_of_le (x.lt q) e) (Nat.lt_irrefl _)
theorem HOk.kept (x : HOk P w H h) (k : ∀ b u, h.get? b = some u → h'.get? b = some u) : HOk P w H h' := fun a o e =>
  (x a o e).stay (fun b u _ q => k b u q) (fun _ q => q) fun _ _ q => q
theorem HOk.laid (x : HOk P w H h) (k : ∀ b u, h.get? b = some u → h'.get? b = some u) (hp : h.objs.size ≤ a) (new : ObjOk P w (upd H a o) h' a o) : HOk P w (upd H a o) h' := fun b u e => by
  have hn := x.fresh hp
  by_cases hb : b = a
  · subst hb; rw [upd_same] at e; cases e; exact new
  · rw [upd_ne hb] at e
    exact (x b u e).stay (fun c v _ q => k c v q) (fun c q => by rw [upd_ne (ne_of_none q hn)]; exact q) fun c xs q => by rw [upd_ne (ne_of_none q hn)]; exact q
end
def Rd (H : Hp) (a : Addr) (u : HO) : Prop := H a = some u ∨ ∃ o, H a = some (.frz o u)
theorem Rd.ok {P : Program} {w : World} {H : Hp} {h : Heap} {a : Addr} {u : HO} (r : Rd H a u) (x : HOk P w H h) : ObjOk P w H h a u := by
  rcases r with r | ⟨o, r⟩
  · exact x a u r
  · obtain ⟨_, q⟩ := x a _ r
    exact q
def Mut : Option HO → Prop
  | some (.lst _) => True
  | some (.dK _) => True
  | some (.dT _) => True
  | some (.set _ _) => True
  | some (.ins _ _ _) => True
  | some (.ext _) => True
  | _ => False
section
variable {P : Program} {w : World} {H : Hp} {h h' : Heap} {x e : Addr} {o' : HO}
theorem HOk.write (ok : HOk P w H h) (mu : Mut (H x)) (he : e = x ∨ H e = some (.own x)) (k : ∀ b u, b ≠ e → h.get? b = some u → h'.get? b = some u) (heo : ∃ u, h'.get? e = some u)
    (new : ObjOk P w (upd H x o') h' x o') : HOk P w (upd H x o') h' := fun b u q => by
  have nown : ∀ c y, H c = some (.own y) → c ≠ x := fun c y r z => by subst z; rw [r] at mu; exact mu
  have ntup : ∀ c xs, H c = some (.tup xs) → c ≠ x := fun c xs r z => by subst z; rw [r] at mu; exact mu
  by_cases hb : b = x
  · subst hb; rw [upd_same] at q; cases q; exact new
  · rw [upd_ne hb] at q
    by_cases hbe : b = e
    · have q' : H b = some (.own x) := by
        rcases he with z | z
        · exact absurd (hbe.trans z) hb
        · rw [hbe]; exact z
      rw [q] at q'; cases q'
      obtain ⟨v, hv⟩ := heo
      exact ⟨v, by rw [hbe]; exact hv⟩
    · refine (ok b u q).stay (fun c v hc r => k c v ?_ r) (fun c r => by rw [upd_ne (nown c b r)]; exact r) fun c xs r => by rw [upd_ne (ntup c xs r)]; exact r
      rcases hc with rfl | hc
      · exact hbe
      · rintro rfl
        rcases he with z | z
        · exact nown c b hc z
        · rw [hc] at z; cases z; exact hb rfl
end
structure Un (fs ex : List Addr) (H H' : Hp) (h h' : Heap) : Prop where
  keep : ∀ b o, h.get? b = some o → H b = none → b ∉ fs → b ∉ ex → h'.get? b = some o
  slot : ∀ b o, h.get? b = some o → H b = none → b ∈ fs → b ∉ ex → ∃ sl, h'.get? b = some { o with slots := sl }
  free : ∀ b o, h.get? b = some o → H b = none → b ∉ ex → H' b = none
  there : ∀ b o, h.get? b = some o → b ∉ ex → ∃ o', h'.get? b = some o'
  tups : ∀ b xs, H b = some (.tup xs) → H' b = some (.tup xs)
  frzs : ∀ b o u, H b = some (.frz o u) → H' b = some (.frz o u)
  tbls : ∀ b ps, H b = some (.tbl ps) → ∃ more, H' b = some (.tbl (ps ++ more))
section
variable {fs fs' ex ex' : List Addr} {H H1 H2 : Hp} {h h1 h2 h' : Heap} {a x e : Addr} {o : HO}
theorem Un.any (u : Un fs ex H H1 h h1) {b : Addr} {ob : Obj} (q : h.get? b = some ob) (n : H b = none) (hx : b ∉ ex) : ∃ sl, h1.get? b = some { ob with slots := sl } := by
  by_cases hb : b ∈ fs
  · exact u.slot b ob q n hb hx
  · exact ⟨ob.slots, u.keep b ob q n hb hx⟩
theorem Un.kept (k : ∀ b u, h.get? b = some u → h'.get? b = some u) : Un fs ex H H h h' :=
  ⟨fun b ob q _ _ _ => k b ob q, fun b ob q _ _ _ => ⟨ob.slots, k b ob q⟩, fun _ _ _ n _ => n, fun b ob q _ => ⟨ob, k b ob q⟩, fun _ _ q => q, fun _ _ _ q => q, fun _ ps q => ⟨#[], by rw [q]; simp⟩⟩
theorem Un.refl : Un fs ex H H h h := Un.kept fun _ _ q => q
theorem Un.laid (k : ∀ b u, h.get? b = some u → h'.get? b = some u) (hp : h.objs.size ≤ a) (hn : H a = none) : Un fs ex H (upd H a o) h h' where
  keep := fun b u q _ _ _ => k b u q
  slot := fun b u q _ _ _ => ⟨u.slots, k b u q⟩
  free := fun b u q n _ => by rw [upd_ne (Nat.ne_of_lt (Nat.lt_of_lt_of_le (Heap.lt_size q) hp))]; exact n
  there := fun b u q _ => ⟨u, k b u q⟩
  tups := fun b xs q => by rw [upd_ne (ne_of_none q hn)]; exact q
  frzs := fun b u xs q => by rw [upd_ne (ne_of_none q hn)]; exact q
  tbls := fun b ps q => ⟨#[], by rw [upd_ne (ne_of_none q hn), q]; simp⟩
theorem Un.write (mu : Mut (H x)) (he : e = x ∨ H e = some (.own x)) (k : ∀ b u, b ≠ e → h.get? b = some u → h'.get? b = some u) (heo : ∃ u, h'.get? e = some u) : Un fs ex H (upd H x o) h h' := by
  have hx : ∀ b, H b = none → b ≠ x := fun b n z => by subst z; rw [n] at mu; exact mu
  have hb : ∀ b, H b = none → b ≠ e := fun b n z => by
    subst z
    rcases he with r | r
    · exact hx b n r
    · rw [n] at r; cases r
  have hm : ∀ b u, H b = some u → ¬ Mut (some u) → b ≠ x := fun b u q nm z => by subst z; rw [q] at mu; exact nm mu
  refine ⟨fun b u q n _ _ => k b u (hb b n) q, fun b u q n _ _ => ⟨u.slots, k b u (hb b n) q⟩, fun b u q n _ => by rw [upd_ne (hx b n)]; exact n, fun b u q _ => ?_,
    fun b xs q => by rw [upd_ne (hm b _ q fun z => z)]; exact q, fun b u xs q => by rw [upd_ne (hm b _ q fun z => z)]; exact q, fun b ps q => ⟨#[], by rw [upd_ne (hm b _ q fun z => z), q]; simp⟩⟩
  by_cases hbe : b = e
  · subst hbe; exact heo
  · exact ⟨u, k b u hbe q⟩
end
def trk (h : Heap) (H : Hp) : List Addr := (List.range h.objs.size).filter fun a => (H a).isSome
def hidT (h : Heap) (H : Hp) : Heap := PySem.W.hideAll h (trk h H)
theorem hidT_size (h : Heap) (H : Hp) : (hidT h H).objs.size = h.objs.size := PySem.W.hideAll_size _ _
theorem hidT_get {h : Heap} {H : Hp} {b : Addr} {o : Obj} (e : h.get? b = some o) (n : H b = none) : (hidT h H).get? b = some o :=
  PySem.W.hideAll_get _ e fun hm => by
    have q : (H b).isSome = true := (List.mem_filter.mp hm).2
    rw [n] at q; simp at q
theorem of_hidT {h : Heap} {H : Hp} {b : Addr} {o : Obj} (e : (hidT h H).get? b = some o) : h.get? b = some o ∧ H b = none := by
  have e' : h.get? b = some o := PySem.W.of_hideAll (trk h H) e
  refine ⟨e', ?_⟩
  cases q : H b with
  | none => rfl
  | some x =>
    have hm : b ∈ trk h H := List.mem_filter.mpr ⟨List.mem_range.mpr (Heap.lt_size e'), by simp [q]⟩
    have z : (hidT h H).get? b = none := PySem.W.hideAll_none (trk h H) hm
    rw [z] at e; cases e
def allNews (g h : Heap) (L : Addr) : List (Addr × Obj) := (List.range h.objs.size).filterMap fun a => if a = L ∨ (g.get? a).isSome = true then none else (h.get? a).map fun o => (a, o)
def rest (g h : Heap) (L d : Addr) : List (Addr × Obj) := (allNews g h L).filter fun p => decide (p.1 ≠ d)
end L2
namespace L2
open PySem PySem.Spec PyProof.Rows
structure Mod (K : PySem.W.Frag) (mg : Str → Option Value) (base : Heap) : Prop where
  kin : K.In base
  glob : base.Ns mainGlobals mg
  blt : ∃ mb, base.Ns builtinsNs mb ∧ ∀ x : Str, x ≠ "__name__" → mb x = bootBuiltins x
  nolimit : base.NoLimit
structure Cx where
  prog : Program
  w : World
  K : PySem.W.Frag
  mg : Str → Option Value
  base : Heap
  A : Around
  N : List Str
  s₀ : Shared
  H₀ : Hp
  env : Env
  outer : List Env
  stack : List Env
  ex : List Addr
  fn : Str → Bool
  calm : Bool
  pn : List (Addr × Obj)
  xe : Value → Shared → Prop
def frs (l : List Env) : List Addr := l.filterMap (·.frame)
abbrev Cx.fs (X : Cx) : List Addr := frs X.outer
def Vis (sc : Scope) (x : Str) : Prop := sc.names.lookup x = some .local ∨ sc.names.lookup x = some .cell ∨ sc.names.lookup x = some .free
def Loc (sc : Scope) (x : Str) : Prop := sc.names.lookup x = some .local ∨ sc.names.lookup x = some .cell
def Look (env : Env) (h : Heap) (m : Str → Option Value) (x : Str) (u : Value) : Prop :=
  (env.kindOf x = some .local ∧ m x = some u) ∨ ((env.kindOf x = some .cell ∨ env.kindOf x = some .free) ∧ ∃ c, env.cells.lookup x = some c ∧ h.IsCell c (some u))
structure Cx.Ok (X : Cx) : Prop where
  mod : Mod X.K X.mg X.base
  kind : X.env.scope.kind = .function
  glob : X.env.globals = mainGlobals
  blt : X.env.builtins = builtinsNs
  above : X.s₀.heap.objs.size ≤ X.env.locals
  inj : ∀ x y c, X.env.cells.lookup x = some c → X.env.cells.lookup y = some c → x = y
  has : ∀ x, (X.env.kindOf x = some .cell ∨ X.env.kindOf x = some .free) → ∃ c, X.env.cells.lookup x = some c
  cab : ∀ x c, X.fn x = true → X.env.cells.lookup x = some c → X.s₀.heap.objs.size ≤ c
  hd : X.calm = true → X.A.handled = none
  frames : X.A.frames = some X.stack
  stk : X.stack = X.outer ∨ (X.stack = X.env :: X.outer ∧ X.env.frame = some X.env.locals)
  exf : ∀ b ∈ X.ex, b ≠ X.env.locals ∧ ∀ x c, X.env.cells.lookup x = some c → c ≠ b
  bs : ∀ b o, X.base.get? b = some o → X.s₀.heap.get? b = some o ∧ X.H₀ b = none
  bsz : X.base.objs.size ≤ X.s₀.heap.objs.size
  noex : ∀ b o, X.base.get? b = some o → b ∉ X.ex
  exfs : ∀ b ∈ X.ex, b ∉ X.fs
  funs : X.s₀.heap.FunFrames X.base X.outer
  frf : ∀ b ∈ X.fs, X.H₀ b = none
structure Inv (X : Cx) (pins : List (Addr × Obj)) (σ : List (Option V)) (H : Hp) (s : Shared) : Prop where
  ok : X.Ok
  os : s.os = X.s₀.os
  bare : AllBare s.gens
  base : Un X.fs X.ex X.H₀ H X.s₀.heap s.heap
  loc : ∃ m, s.heap.Ns X.env.locals m ∧ ∀ (i : Nat) (x : Str) (v : V), X.N[i]? = some x → σ[i]? = some (some v) → Vis X.env.scope x → ∃ u, RelV v u ∧ Look X.env s.heap m x u
  cell : ∀ x c, X.env.cells.lookup x = some c → ∃ v, s.heap.IsCell c v
  free : H X.env.locals = none
  freeC : ∀ x c, X.env.cells.lookup x = some c → H c = none
  pin : ∀ p ∈ X.pn ++ pins, s.heap.get? p.1 = some p.2 ∧ H p.1 = none ∧ p.1 ≠ X.env.locals ∧ p.1 ∉ X.fs ∧ ∀ v, p.2.data ≠ .cell v
  hok : HOk X.prog X.w H s.heap
  len : σ.length = X.N.length
section
variable {X : Cx} {pins : List (Addr × Obj)} {σ : List (Option V)} {H H' : Hp} {s : Shared} {h' : Heap}
theorem Cx.Ok.nofr (ok : X.Ok) {b : Addr} {o : Obj} (e : X.base.get? b = some o) : b ∉ X.fs := fun hb => by
  have := (ok.funs.mem hb).1
  rw [e] at this; cases this
theorem Inv.bs (I : Inv X pins σ H s) : ∀ b o, X.base.get? b = some o → s.heap.get? b = some o ∧ H b = none := fun b o e =>
  ⟨I.base.keep b o (I.ok.bs b o e).1 (I.ok.bs b o e).2 (I.ok.nofr e) (I.ok.noex b o e), I.base.free b o (I.ok.bs b o e).1 (I.ok.bs b o e).2 (I.ok.noex b o e)⟩
theorem Inv.bk (I : Inv X pins σ H s) : ∀ b o, X.base.get? b = some o → s.heap.get? b = some o := fun b o e => (I.bs b o e).1
theorem Inv.mod (I : Inv X pins σ H s) : Mod X.K X.mg X.base := I.ok.mod
theorem Inv.kIn (I : Inv X pins σ H s) : X.K.In s.heap := I.ok.mod.kin.keeps I.bk
theorem Inv.lt (I : Inv X pins σ H s) : X.env.locals < s.heap.objs.size := let ⟨_, hn, _⟩ := I.loc; hn.lt
theorem Inv.sz (I : Inv X pins σ H s) : X.s₀.heap.objs.size ≤ s.heap.objs.size := Nat.le_trans I.ok.above (Nat.le_of_lt I.lt)
theorem Inv.nofs (I : Inv X pins σ H s) {a : Addr} (h : s.heap.objs.size ≤ a) : a ∉ X.fs := fun hb => by
  obtain ⟨_, o, ho, _⟩ := I.ok.funs.mem hb
  exact absurd (Nat.lt_of_lt_of_le (Heap.lt_size ho) (Nat.le_trans I.sz h)) (Nat.lt_irrefl _)
theorem Inv.cne (I : Inv X pins σ H s) : ∀ x c, X.env.cells.lookup x = some c → c ≠ X.env.locals := fun x c e z => by
  obtain ⟨v, o, ho, hd⟩ := I.cell x c e
  obtain ⟨m, ⟨o', es, ep, ho', hd', _⟩, _⟩ := I.loc
  rw [z, ho'] at ho; cases ho; rw [hd'] at hd; cases hd
theorem Inv.funs (I : Inv X pins σ H s) : s.heap.FunFrames X.base X.outer := by
  have all : ∀ (l : List Env), (∀ b ∈ frs l, b ∈ X.fs) → X.s₀.heap.FunFrames X.base l → s.heap.FunFrames X.base l := by
    intro l
    induction l with
    | nil => intro _ _; trivial
    | cons env r ih =>
      intro hs hl
      obtain ⟨hk, ⟨L, o, hf, hn, ho, hd⟩, hr⟩ := hl
      have hL : L ∈ X.fs := hs L (by unfold frs; rw [List.filterMap_cons, hf]; exact List.mem_cons_self)
      obtain ⟨sl, e⟩ := I.base.slot L o ho (I.ok.frf L hL) hL fun z => I.ok.exfs L z hL
      exact ⟨hk, ⟨L, _, hf, hn, e, hd⟩, ih (fun b hb => hs b (by unfold frs; rw [List.filterMap_cons, hf]; exact List.mem_cons_of_mem _ hb)) hr⟩
  exact all X.outer (fun _ hb => hb) I.ok.funs
theorem Inv.stack (I : Inv X pins σ H s) : s.heap.FunFrames X.base X.stack := by
  rcases I.ok.stk with e | ⟨e, hf⟩
  · rw [e]; exact I.funs
  · rw [e]
    obtain ⟨m, hn, _⟩ := I.loc
    refine .cons (by rw [I.ok.kind]; decide) hf hn ?_ I.funs
    exact Heap.get?_none_of_le (Nat.le_trans I.ok.bsz I.ok.above)
theorem Inv.stkSub (I : Inv X pins σ H s) : ∀ b ∈ frs X.stack, b ∈ X.env.locals :: X.fs := fun b hb => by
  rcases I.ok.stk with e | ⟨e, hf⟩
  · rw [e] at hb; exact List.mem_cons_of_mem _ hb
  · rw [e] at hb
    unfold frs at hb
    rw [List.filterMap_cons, hf] at hb
    exact hb
theorem Inv.stkFree (I : Inv X pins σ H s) : ∀ b ∈ frs X.stack, H b = none := fun b hb => by
  rcases List.mem_cons.mp (I.stkSub b hb) with e | hb
  · rw [e]; exact I.free
  · obtain ⟨_, o, ho, _⟩ := I.ok.funs.mem hb
    exact I.base.free b o ho (I.ok.frf b hb) fun z => I.ok.exfs b z hb
theorem Inv.step {g' : Array GenState} {t' : Nat} {d' : Drawn} {ch : List Addr} (I : Inv X pins σ H s)
    (hch : ∀ b ∈ ch, (b ∈ X.ex ∨ X.s₀.heap.objs.size ≤ b) ∧ b ≠ X.env.locals ∧ (∀ x c, X.env.cells.lookup x = some c → c ≠ b) ∧ ∀ p ∈ X.pn ++ pins, p.1 ≠ b)
    (keep : ∀ b o, b ≠ X.env.locals → b ∉ X.fs → b ∉ ch → s.heap.get? b = some o → H b = none → h'.get? b = some o)
    (slot : ∀ b o, b ≠ X.env.locals → b ∈ X.fs → b ∉ ch → s.heap.get? b = some o → H b = none → ∃ sl, h'.get? b = some { o with slots := sl }) (free : ∀ b o, b ∉ ch → s.heap.get? b = some o → H b = none → H' b = none)
    (there : ∀ b o, b ∉ ch → s.heap.get? b = some o → ∃ o', h'.get? b = some o')
    (tups : ∀ b xs, H b = some (.tup xs) → H' b = some (.tup xs)) (frzs : ∀ b o u, H b = some (.frz o u) → H' b = some (.frz o u)) (tbls : ∀ b ps, H b = some (.tbl ps) → ∃ more, H' b = some (.tbl (ps ++ more)))
    (ns : ∀ m, s.heap.Ns X.env.locals m → h'.Ns X.env.locals m) (hok : HOk X.prog X.w H' h') (hg : AllBare g') :
    Inv X pins σ H' { s with heap := h', gens := g', drawn := d', toks := t' } := by
  have neL : ∀ b o, X.s₀.heap.get? b = some o → b ≠ X.env.locals := fun b o e => Nat.ne_of_lt (Nat.lt_of_lt_of_le (Heap.lt_size e) I.ok.above)
  have neC : ∀ b o, X.s₀.heap.get? b = some o → b ∉ X.ex → b ∉ ch := fun b o e hx hb => by
    rcases (hch b hb).1 with z | z
    · exact hx z
    · exact absurd (Nat.lt_of_lt_of_le (Heap.lt_size e) z) (Nat.lt_irrefl _)
  have cellK : ∀ x c, X.env.cells.lookup x = some c → ∀ v, s.heap.IsCell c v → h'.IsCell c v := fun x c e v ⟨o, ho, hd⟩ => by
    have nch : c ∉ ch := fun z => (hch c z).2.2.1 x c e rfl
    by_cases hc : c ∈ X.fs
    · obtain ⟨sl, q⟩ := slot c o (I.cne x c e) hc nch ho (I.freeC x c e)
      exact ⟨_, q, hd⟩
    · exact ⟨o, keep c o (I.cne x c e) hc nch ho (I.freeC x c e), hd⟩
  refine ⟨I.ok, I.os, hg, ⟨fun b o e n hb hx => ?_, fun b o e n hb hx => ?_, fun b o e n hx => ?_, fun b o e hx => ?_, fun b xs e => tups b xs (I.base.tups b xs e), fun b o xs e => frzs b o xs (I.base.frzs b o xs e), fun b ps e => ?_⟩, ?_, fun x c e => ?_, ?_, fun x c e => ?_, fun p hp => ?_, hok, I.len⟩
  · exact keep b o (neL b o e) hb (neC b o e hx) (I.base.keep b o e n hb hx) (I.base.free b o e n hx)
  · obtain ⟨sl, e1⟩ := I.base.slot b o e n hb hx
    obtain ⟨sl', e2⟩ := slot b _ (neL b o e) hb (neC b o e hx) e1 (I.base.free b o e n hx)
    exact ⟨sl', e2⟩
  · obtain ⟨o', e1⟩ := I.base.there b o e hx
    exact free b o' (neC b o e hx) e1 (I.base.free b o e n hx)
  · obtain ⟨o', e1⟩ := I.base.there b o e hx
    exact there b o' (neC b o e hx) e1
  · obtain ⟨m1, e1⟩ := I.base.tbls b ps e
    obtain ⟨m2, e2⟩ := tbls b _ e1
    exact ⟨m1 ++ m2, by rw [e2, Array.append_assoc]⟩
  · obtain ⟨m, hn, hl⟩ := I.loc
    refine ⟨m, ns m hn, fun i x v e1 e2 e3 => ?_⟩
    obtain ⟨u, r, l⟩ := hl i x v e1 e2 e3
    refine ⟨u, r, ?_⟩
    rcases l with l | ⟨k, c, e, z⟩
    · exact .inl l
    · exact .inr ⟨k, c, e, cellK x c e _ z⟩
  · obtain ⟨v, z⟩ := I.cell x c e
    exact ⟨v, cellK x c e v z⟩
  · obtain ⟨m, ⟨o, _, _, ho, _⟩, _⟩ := I.loc
    exact free _ o (fun z => (hch _ z).2.1 rfl) ho I.free
  · obtain ⟨v, o, ho, hd⟩ := I.cell x c e
    exact free c o (fun z => (hch c z).2.2.1 x c e rfl) ho (I.freeC x c e)
  · obtain ⟨e, n, ne, nf, d⟩ := I.pin p hp
    have nch : p.1 ∉ ch := fun z => (hch p.1 z).2.2.2 p hp rfl
    exact ⟨keep p.1 p.2 ne nf nch e n, free p.1 p.2 nch e n, ne, nf, d⟩
theorem Inv.un {t' : Nat} (I : Inv X pins σ H s) (u : Un X.fs [] H H' s.heap h') (hok : HOk X.prog X.w H' h') : Inv X pins σ H' { s with heap := h', toks := t' } := by
  obtain ⟨m, ⟨o, es, ep, ho, r⟩, _⟩ := id I.loc
  obtain ⟨sl, hL⟩ := u.any ho I.free (by simp)
  exact I.step (g' := s.gens) (d' := s.drawn) (ch := []) (fun _ z => nomatch z) (fun b o _ hb _ e n => u.keep b o e n hb (by simp)) (fun b o _ hb _ e n => u.slot b o e n hb (by simp)) (fun b o _ e n => u.free b o e n (by simp)) (fun b o _ e => u.there b o e (by simp)) u.tups u.frzs u.tbls (fun m' hm => by
    obtain ⟨o', es', ep', ho', r'⟩ := hm
    rw [ho] at ho'; cases ho'
    exact ⟨_, es', ep', hL, r'⟩) hok I.bare
theorem Inv.call {g' : Array GenState} {t' : Nat} {d' : Drawn} {ch : List Addr} (I : Inv X pins σ H s) (u : Un (frs X.stack) ch H H' s.heap h') (hok : HOk X.prog X.w H' h') (hg : AllBare g')
    (hch : ∀ b ∈ ch, (b ∈ X.ex ∨ X.s₀.heap.objs.size ≤ b) ∧ b ≠ X.env.locals ∧ (∀ x c, X.env.cells.lookup x = some c → c ≠ b) ∧ ∀ p ∈ X.pn ++ pins, p.1 ≠ b) :
    Inv X pins σ H' { s with heap := h', gens := g', drawn := d', toks := t' } := by
  obtain ⟨m, ⟨o, es, ep, ho, r⟩, _⟩ := id I.loc
  obtain ⟨sl, hL⟩ := u.any ho I.free fun z => (hch _ z).2.1 rfl
  exact I.step (ch := ch) hch (fun b o hL hb hc e n => u.keep b o e n (fun z => (List.mem_cons.mp (I.stkSub b z)).elim hL hb) hc) (fun b o _ _ hc e n => u.any e n hc) (fun b o hc e n => u.free b o e n hc) (fun b o hc e => u.there b o e hc) u.tups u.frzs u.tbls (fun m' hm => by
    obtain ⟨o', es', ep', ho', r'⟩ := hm
    rw [ho] at ho'; cases ho'
    exact ⟨_, es', ep', hL, r'⟩) hok hg
theorem Inv.turned {t' : Nat} {it : Addr} (I : Inv X pins σ H s) (k : ∀ b o, b ≠ it → s.heap.get? b = some o → h'.get? b = some o) (hn : H it = none) (hL : it ≠ X.env.locals)
    (h1 : it ∈ X.ex ∨ X.s₀.heap.objs.size ≤ it) (h2 : ∀ x c, X.env.cells.lookup x = some c → c ≠ it) (h3 : ∀ p ∈ X.pn ++ pins, p.1 ≠ it) : Inv X pins σ H { s with heap := h', toks := t' } := by
  have nit : ∀ b u, H b = some u → b ≠ it := fun b u e z => by rw [z, hn] at e; cases e
  refine I.step (g' := s.gens) (d' := s.drawn) (ch := [it]) (fun b hb => ?_) (fun b o _ _ hc e _ => k b o (fun z => hc (by simp [z])) e) (fun b o _ _ hc e _ => ⟨o.slots, k b o (fun z => hc (by simp [z])) e⟩) (fun _ _ _ _ n => n)
    (fun b o hc e => ⟨o, k b o (fun z => hc (by simp [z])) e⟩) (fun _ _ e => e) (fun _ _ _ e => e) (fun b ps e => ⟨#[], by rw [e]; simp⟩) (fun m hm => ?_) (fun b u e => ?_) I.bare
  · have e : b = it := by simpa using hb
    subst e
    exact ⟨h1, hL, h2, h3⟩
  · obtain ⟨o, es, ep, ho, r⟩ := hm
    exact ⟨o, es, ep, k _ o (Ne.symm hL) ho, r⟩
  · refine (I.hok b u e).stay (fun c v hc q => k c v ?_ q) (fun _ q => q) fun _ _ q => q
    rcases hc with z | z
    · rw [z]; exact nit b u e
    · exact nit c _ z
theorem Inv.tok (I : Inv X pins σ H s) (t : Nat) : Inv X pins σ H { s with toks := t } := I.un (h' := s.heap) (t' := t) Un.refl I.hok
theorem Inv.kept {t' : Nat} (I : Inv X pins σ H s) (k : ∀ b u, s.heap.get? b = some u → h'.get? b = some u) : Inv X pins σ H { s with heap := h', toks := t' } := I.un (Un.kept k) (I.hok.kept k)
theorem Inv.laid {a : Addr} {o : HO} {t' : Nat} (I : Inv X pins σ H s) (k : ∀ b u, s.heap.get? b = some u → h'.get? b = some u) (hp : s.heap.objs.size ≤ a) (new : ObjOk X.prog X.w (upd H a o) h' a o) :
    Inv X pins σ (upd H a o) { s with heap := h', toks := t' } := I.un (Un.laid k hp (I.hok.fresh hp)) (I.hok.laid k hp new)
theorem Inv.write {x e : Addr} {o : HO} {t' : Nat} (I : Inv X pins σ H s) (mu : Mut (H x)) (he : e = x ∨ H e = some (.own x)) (k : ∀ b u, b ≠ e → s.heap.get? b = some u → h'.get? b = some u) (heo : ∃ u, h'.get? e = some u)
    (new : ObjOk X.prog X.w (upd H x o) h' x o) : Inv X pins σ (upd H x o) { s with heap := h', toks := t' } := I.un (Un.write mu he k heo) (I.hok.write mu he k heo new)
theorem Inv.weak {σ' : List (Option V)} (I : Inv X pins σ H s) (hl : σ'.length = σ.length) (w : ∀ (i : Nat) v, σ'[i]? = some (some v) → σ[i]? = some (some v)) : Inv X pins σ' H s :=
  ⟨I.ok, I.os, I.bare, I.base, let ⟨m, hn, hl'⟩ := I.loc; ⟨m, hn, fun i x v e1 e2 e3 => hl' i x v e1 (w i v e2) e3⟩, I.cell, I.free, I.freeC, I.pin, I.hok, hl.trans I.len⟩
theorem Inv.pins_of {pins' : List (Addr × Obj)} (I : Inv X pins σ H s) (h : ∀ p ∈ pins', s.heap.get? p.1 = some p.2 ∧ H p.1 = none ∧ p.1 ≠ X.env.locals ∧ p.1 ∉ X.fs ∧ ∀ v, p.2.data ≠ .cell v) : Inv X pins' σ H s :=
  ⟨I.ok, I.os, I.bare, I.base, I.loc, I.cell, I.free, I.freeC, fun p hp => (List.mem_append.mp hp).elim (fun z => I.pin p (List.mem_append_left _ z)) (h p), I.hok, I.len⟩
theorem nodup_ix {N : List Str} (hN : N.Nodup) {i j : Nat} {x : Str} (a : N[i]? = some x) (b : N[j]? = some x) : i = j := by
  obtain ⟨h1, e1⟩ := List.getElem?_eq_some_iff.mp a
  obtain ⟨h2, e2⟩ := List.getElem?_eq_some_iff.mp b
  exact (List.getElem_inj hN).mp (e1.trans e2.symm)
theorem store_ok2 {M : Model} {A : Around} {E : Value → Shared → Prop} {i : Nat} {x : Str} {v : V} {u : Value} {Q : Unit → Shared → Prop} (I : Inv X pins σ H s) (hN : X.N.Nodup) (hi : X.N[i]? = some x) (hx : Loc X.env.scope x) (r : RelV v u)
    (h : ∀ s', Inv X pins (σ.set i (some v)) H s' → (∃ a, Heap.SameBut a s.heap s'.heap ∧ (a = X.env.locals ∨ X.env.cells.lookup x = some a)) → Q () s') (hf : X.fn x = true ∨ X.env.scope.names.lookup x = some .local := by first | exact .inl rfl | exact .inr rfl | assumption) : wpAny M A (storeName X.env x u) Q E s := by
  obtain ⟨m, hn, hl⟩ := id I.loc
  have hcls : (X.env.scope.kind == .class || (X.env.scope.kind == .module && X.env.locals != X.env.globals)) = false := by rw [I.ok.kind]; rfl
  have hiσ : i < σ.length := by rw [I.len]; exact (List.getElem?_eq_some_iff.mp hi).1
  have cne := I.cne
  have tracked : ∀ {a : Addr} {h' : Heap}, (∃ o, s.heap.get? a = some o ∧ H a = none) → Heap.SameBut a s.heap h' → HOk X.prog X.w H h' := fun {a h'} ha hs b ob e => by
    obtain ⟨_, _, hfree⟩ := ha
    refine (I.hok b ob e).stay (fun c w' hc q => (hs.2 c ?_).trans q) (fun _ q => q) fun _ _ q => q
    rintro rfl
    rcases hc with rfl | hc
    · rw [hfree] at e; cases e
    · rw [hfree] at hc; cases hc
  rcases hx with hk | hk
  · refine wpAny_storeName_local hk hn (fun h' hn' hs => ?_) hcls
    obtain ⟨oL, _, _, hoL, _⟩ := id hn
    refine h _ ⟨I.ok, I.os, I.bare, ⟨fun b o e n hb hx => ?_, fun b o e n hb hx => ?_, I.base.free, fun b o e hx => ?_, I.base.tups, I.base.frzs, I.base.tbls⟩, ⟨_, hn', fun j y v' e1 e2 e3 => ?_⟩, fun y c e => ?_, I.free, I.freeC, fun p hp => ?_, tracked ⟨oL, hoL, I.free⟩ hs, by simpa using I.len⟩ ⟨_, hs, .inl rfl⟩
    · exact (hs.2 b (Nat.ne_of_lt (Nat.lt_of_lt_of_le (Heap.lt_size e) I.ok.above))).trans (I.base.keep b o e n hb hx)
    · obtain ⟨sl, e1⟩ := I.base.slot b o e n hb hx
      exact ⟨sl, (hs.2 b (Nat.ne_of_lt (Nat.lt_of_lt_of_le (Heap.lt_size e) I.ok.above))).trans e1⟩
    · obtain ⟨o', e1⟩ := I.base.there b o e hx
      exact ⟨o', (hs.2 b (Nat.ne_of_lt (Nat.lt_of_lt_of_le (Heap.lt_size e) I.ok.above))).trans e1⟩
    · by_cases hj : j = i
      · subst hj
        rw [hi] at e1; cases e1
        rw [List.getElem?_set_self hiσ] at e2
        cases e2
        exact ⟨u, r, .inl ⟨hk, by simp⟩⟩
      · rw [List.getElem?_set_ne (Ne.symm hj)] at e2
        obtain ⟨u', r', q⟩ := hl j y v' e1 e2 e3
        refine ⟨u', r', ?_⟩
        rcases q with ⟨k, e⟩ | ⟨k, c, e, z⟩
        · refine .inl ⟨k, ?_⟩
          have : y ≠ x := fun e => hj (nodup_ix hN e1 (e ▸ hi))
          simp [this, e]
        · exact .inr ⟨k, c, e, z.sameBut hs (cne y c e)⟩
    · obtain ⟨w', z⟩ := I.cell y c e
      exact ⟨w', z.sameBut hs (cne y c e)⟩
    · obtain ⟨e, n, ne, nf, d⟩ := I.pin p hp
      exact ⟨(hs.2 p.1 ne).trans e, n, ne, nf, d⟩
  · have hfn : X.fn x = true := by
      rcases hf with z | z
      · exact z
      · rw [z] at hk; cases hk
    obtain ⟨c, hc⟩ := I.ok.has x (.inl hk)
    obtain ⟨w', z⟩ := I.cell x c hc
    refine wpAny_storeName_cell I.ok.kind hk hc z (fun h' hc' hs => ?_)
    obtain ⟨oc, hoc, hocd⟩ := id z
    refine h { s with heap := h' } ⟨I.ok, I.os, I.bare, ⟨fun b o e n hb hx => ?_, fun b o e n hb hx => ?_, I.base.free, fun b o e hx => ?_, I.base.tups, I.base.frzs, I.base.tbls⟩, ⟨m, hn.sameBut hs (Ne.symm (cne x c hc)), fun j y v' e1 e2 e3 => ?_⟩, fun y c' e => ?_, I.free, I.freeC, fun p hp => ?_, tracked ⟨oc, hoc, I.freeC x c hc⟩ hs, by simpa using I.len⟩ ⟨c, hs, .inr hc⟩
    · exact (hs.2 b (Nat.ne_of_lt (Nat.lt_of_lt_of_le (Heap.lt_size e) (I.ok.cab x c hfn hc)))).trans (I.base.keep b o e n hb hx)
    · obtain ⟨sl, e1⟩ := I.base.slot b o e n hb hx
      exact ⟨sl, (hs.2 b (Nat.ne_of_lt (Nat.lt_of_lt_of_le (Heap.lt_size e) (I.ok.cab x c hfn hc)))).trans e1⟩
    · obtain ⟨o', e1⟩ := I.base.there b o e hx
      exact ⟨o', (hs.2 b (Nat.ne_of_lt (Nat.lt_of_lt_of_le (Heap.lt_size e) (I.ok.cab x c hfn hc)))).trans e1⟩
    · by_cases hj : j = i
      · subst hj
        rw [hi] at e1; cases e1
        rw [List.getElem?_set_self hiσ] at e2
        cases e2
        exact ⟨u, r, .inr ⟨.inl hk, c, hc, hc'⟩⟩
      · rw [List.getElem?_set_ne (Ne.symm hj)] at e2
        obtain ⟨u', r', q⟩ := hl j y v' e1 e2 e3
        refine ⟨u', r', ?_⟩
        rcases q with q | ⟨k, c', e, z'⟩
        · exact .inl q
        · refine .inr ⟨k, c', e, z'.sameBut hs ?_⟩
          rintro rfl
          exact hj (nodup_ix hN e1 (I.ok.inj _ _ _ e hc ▸ hi))
    · by_cases hcc : c' = c
      · subst hcc; exact ⟨_, hc'⟩
      · obtain ⟨w2, z2⟩ := I.cell y c' e
        exact ⟨w2, z2.sameBut hs hcc⟩
    · obtain ⟨e, n, ne, nf, d⟩ := I.pin p hp
      refine ⟨(hs.2 p.1 ?_).trans e, n, ne, nf, d⟩
      intro q
      rw [q, hoc] at e
      have q' : oc = p.2 := Option.some.inj e
      exact d w' (by rw [← q']; exact hocd)
theorem store_ok {M : Model} {A : Around} {E : Value → Shared → Prop} {i : Nat} {x : Str} {v : V} {u : Value} {Q : Unit → Shared → Prop} (I : Inv X pins σ H s) (hN : X.N.Nodup) (hi : X.N[i]? = some x) (hx : Loc X.env.scope x) (r : RelV v u)
    (h : ∀ s', Inv X pins (σ.set i (some v)) H s' → Q () s') (hf : X.fn x = true ∨ X.env.scope.names.lookup x = some .local := by first | exact .inl rfl | exact .inr rfl | assumption) : wpAny M A (storeName X.env x u) Q E s :=
  store_ok2 I hN hi hx r (fun s' I' _ => h s' I') hf
theorem Inv.call' {s' : Shared} {ch : List Addr} (I : Inv X pins σ H s) (ho : s'.os = s.os) (u : Un (frs X.stack) ch H H' s.heap s'.heap) (hok : HOk X.prog X.w H' s'.heap) (hg : AllBare s'.gens)
    (hch : ∀ b ∈ ch, (b ∈ X.ex ∨ X.s₀.heap.objs.size ≤ b) ∧ b ≠ X.env.locals ∧ (∀ x c, X.env.cells.lookup x = some c → c ≠ b) ∧ ∀ p ∈ X.pn ++ pins, p.1 ≠ b) : Inv X pins σ H' s' := by
  obtain ⟨h', g', d', t', o'⟩ := s'
  have e : o' = s.os := ho
  subst e
  exact I.call (g' := g') (t' := t') (d' := d') u hok hg hch
end
abbrev XK := Value → Option Addr → Hp → Prop
abbrev St := List (Option V)
abbrev VK := V → Hp → Prop
abbrev TE := St → Hp → VK → Prop
abbrev TT := St → Hp → (Bool → Hp → Prop) → Prop
abbrev TA := St → Hp → (List V → Hp → Prop) → Prop
structure Ends where
  nx : St → Hp → Prop
  rt : VK
  bk : St → Hp → Prop := fun _ _ => False
  ct : St → Hp → Prop := fun _ _ => False
abbrev TS := Ends → St → Hp → Prop
def EP (X : Cx) (pins : List (Addr × Obj)) (σ : St) (Q : VK) (u : Value) (s' : Shared) : Prop := ∃ v H', Inv X pins σ H' s' ∧ RelV v u ∧ Q v H'
def TP (X : Cx) (pins : List (Addr × Obj)) (σ : St) (Q : Bool → Hp → Prop) (b : Bool) (s' : Shared) : Prop := ∃ H', Inv X pins σ H' s' ∧ Q b H'
def AP (X : Cx) (pins : List (Addr × Obj)) (σ : St) (Q : List V → Hp → Prop) (us : List Value) (s' : Shared) : Prop := ∃ vs H', Inv X pins σ H' s' ∧ Vals vs us ∧ Q vs H'
def SP (X : Cx) (pins : List (Addr × Obj)) (D : Ends) (f : Flow) (s' : Shared) : Prop :=
  match f with
  | .next => ∃ σ' H', Inv X pins σ' H' s' ∧ D.nx σ' H'
  | .brk => ∃ σ' H', Inv X pins σ' H' s' ∧ D.bk σ' H'
  | .cont => ∃ σ' H', Inv X pins σ' H' s' ∧ D.ct σ' H'
  | .ret u => ∃ v σ' H', Inv X pins σ' H' s' ∧ RelV v u ∧ D.rt v H'
def PE (X : Cx) (e : Expr) (t : TE) : Prop :=
  ∀ (pins : List (Addr × Obj)) (s : Shared) (σ : St) (H : Hp) (Q : VK), Inv X pins σ H s → t σ H Q → wpAny (model X.prog X.w) X.A (eval e X.env) (EP X pins σ Q) X.xe s
def PT (X : Cx) (e : Expr) (t : TT) : Prop :=
  ∀ (pins : List (Addr × Obj)) (s : Shared) (σ : St) (H : Hp) (Q : Bool → Hp → Prop), Inv X pins σ H s → t σ H Q → wpAny (model X.prog X.w) X.A (isTrue e X.env (eval e X.env)) (TP X pins σ Q) X.xe s
def PW (X : Cx) (e : Expr) (t : TT) : Prop :=
  ∀ (whole : Sem Value) (pins : List (Addr × Obj)) (s : Shared) (σ : St) (H : Hp) (Q : Bool → Hp → Prop), Inv X pins σ H s → t σ H Q → wpAny (model X.prog X.w) X.A (isTrue e X.env whole) (TP X pins σ Q) X.xe s
theorem PW.pt {X : Cx} {e : Expr} {t : TT} (h : PW X e t) : PT X e t := h _
def PA (X : Cx) (es : List Expr) (t : TA) : Prop :=
  ∀ (pos : Pos) (pins : List (Addr × Obj)) (s : Shared) (σ : St) (H : Hp) (Q : List V → Hp → Prop), Inv X pins σ H s → t σ H Q → wpAny (model X.prog X.w) X.A (spliced (backTo pos (starEach es X.env))) (AP X pins σ Q) X.xe s
def PS (X : Cx) (st : Stmt) (t : TS) : Prop :=
  ∀ (pins : List (Addr × Obj)) (s : Shared) (σ : St) (H : Hp) (D : Ends), Inv X pins σ H s → t D σ H → wpAny (model X.prog X.w) X.A (exec st X.env) (SP X pins D) X.xe s
def PSs (X : Cx) (st : List Stmt) (t : TS) : Prop :=
  ∀ (pins : List (Addr × Obj)) (s : Shared) (σ : St) (H : Hp) (D : Ends), Inv X pins σ H s → t D σ H → wpAny (model X.prog X.w) X.A (execs st X.env) (SP X pins D) X.xe s
theorem thn {α : Type} {t : Sem α} {Q Q' : α → Shared → Prop} {M : Model} {A : Around} {E : Value → Shared → Prop} {s : Shared} (h : wpAny M A t Q E s) (hQ : ∀ a s, Q a s → Q' a s) : wpAny M A t Q' E s := wpAny_mono h hQ fun _ _ x => x
end L2
namespace L2
open PySem PySem.Spec PyProof.Rows
section
variable {X : Cx}
def tVar (i : Nat) : TE := fun σ H Q => ∃ v, σ[i]? = some (some v) ∧ Q v H
def tC (v : V) : TE := fun _ H Q => Q v H
theorem pe_var {i : Nat} {x : Str} {pos : Pos} (hN : X.N[i]? = some x) (hv : Vis X.env.scope x) (hd : (x == ("__debug__" : Str)) = false := by decide) (hcd : (x == ("__classdict__" : Str)) = false := by decide) : PE X (.Name x pos) (tVar i) := by
  intro pins s σ H Q I h
  obtain ⟨v, e, h⟩ := h
  obtain ⟨m, hn, hl⟩ := I.loc
  obtain ⟨u, r, l⟩ := hl i x v hN e hv
  have fin : EP X pins σ Q u s := ⟨v, H, I, r, h⟩
  rcases l with ⟨hk, hm⟩ | ⟨hk, c, hc, hcell⟩
  · exact wpAny_Name (wpAny_loadName_local I.ok.kind hk hn hm fin) hd
  · rcases hk with hk | hk
    · exact wpAny_Name (wpAny_loadName_cell I.ok.kind hk hc hcell fin) hd
    · exact wpAny_Name (wpAny_loadName_free I.ok.kind hk hc hcell fin hcd) hd
theorem pe_int {i j pos} : PE X (.Constant (.int i) j pos) (tC (.int i)) := fun _ _ _ H _ I h => wpAny_Constant_int ⟨.int i, H, I.tok _, ⟨_, rfl⟩, h⟩
theorem pe_bl {b j pos} : PE X (.Constant (.bool b) j pos) (tC (.bl b)) := fun _ _ _ H _ I h => Constant_bool ⟨.bl b, H, I, rfl, h⟩
theorem pe_str {x j pos} : PE X (.Constant (.str x) j pos) (tC (.str x)) := fun _ _ _ H _ I h => Calls.Constant_str ⟨.str x, H, I.tok _, ⟨_, rfl⟩, h⟩
def Gl (X : Cx) (x : Str) : Prop := X.env.kindOf x = some .globalImplicit
theorem ld_glob {E : Value → Shared → Prop} {pins : List (Addr × Obj)} {s : Shared} {σ : St} {H : Hp} {x : Str} {u : Value} {pos : Pos} {Q : Value → Shared → Prop} (I : Inv X pins σ H s) (hg : Gl X x) (hm : X.mg x = some u) (h : Q u s)
    (hd : (x == ("__debug__" : Str)) = false := by decide) : wpAny (model X.prog X.w) X.A (eval (.Name x pos) X.env) Q E s :=
  Calls.Name_function_global I.ok.kind hg (Calls.loadGlobal_global (by rw [I.ok.glob]; exact I.mod.glob.keeps I.bk) hm h) hd
theorem ld_blt {E : Value → Shared → Prop} {pins : List (Addr × Obj)} {s : Shared} {σ : St} {H : Hp} {x : Str} {u : Value} {pos : Pos} {Q : Value → Shared → Prop} (I : Inv X pins σ H s) (hg : Gl X x) (hm : X.mg x = none) (hv : bootBuiltins x = some u) (h : Q u s)
    (hn : x ≠ "__name__" := by decide) (hd : (x == ("__debug__" : Str)) = false := by decide) : wpAny (model X.prog X.w) X.A (eval (.Name x pos) X.env) Q E s := by
  obtain ⟨mb, h1, h2⟩ := I.mod.blt
  exact Calls.Name_function_global I.ok.kind hg (Calls.loadGlobal_builtin (by rw [I.ok.glob]; exact I.mod.glob.keeps I.bk) hm (by rw [I.ok.blt]; exact h1.keeps I.bk) ((h2 x hn).trans hv) h) hd
theorem pe_bltn {x : Str} {v : V} {u : Value} {pos : Pos} (hg : Gl X x) (hm : X.mg x = none) (hv : bootBuiltins x = some u) (r : RelV v u) (hn : x ≠ "__name__" := by decide) (hd : (x == ("__debug__" : Str)) = false := by decide) : PE X (.Name x pos) (tC v) :=
  fun _ _ _ H _ I h => ld_blt I hg hm hv ⟨v, H, I, r, h⟩ hn hd
variable {a b : Expr} {ta tb : TE} {pos : Pos}
def tB (t : TE) : TT := fun σ H Q => t σ H fun x H1 => ∃ c, x = .bl c ∧ Q c H1
theorem pt_val {e : Expr} {t : TE} (h : PE X e t) (he : ∀ whole, isTrue e X.env whole = (do let v ← whole; standAt e.pos; holding [v] (truthy v)) := by intro _; rfl) : PT X e (tB t) := by
  intro pins s σ H Q I hw
  refine isTrue_plain (thn (h pins s σ H _ I hw) fun v s1 ⟨x, H1, I1, r1, q1⟩ => ?_) (he _)
  obtain ⟨d, rfl, q⟩ := q1
  cases r1
  exact wpAny_truthy_bool ⟨H1, I1, q⟩
variable {tA tB' : TT} {rest : List Expr}
def tAnd (t u : TT) : TT := fun σ H Q => t σ H fun c H1 => if c = true then u σ H1 Q else Q false H1
def tOr (t u : TT) : TT := fun σ H Q => t σ H fun c H1 => if c = true then Q true H1 else u σ H1 Q
def tNot (t : TT) : TT := fun σ H Q => t σ H fun c H1 => Q (!c) H1
theorem pw_and1 (ha : PT X a tA) : PW X (.BoolOp .And [a] pos) tA := by
  intro wh pins s σ H Q I h
  refine isTrue_and (thn (ha pins s σ H Q I h) fun c s1 e => ?_)
  cases c with
  | true => exact isTrue_and_nil e
  | false => exact e
theorem pw_or1 (ha : PT X a tA) : PW X (.BoolOp .Or [a] pos) tA := by
  intro wh pins s σ H Q I h
  refine isTrue_or (thn (ha pins s σ H Q I h) fun c s1 e => ?_)
  cases c with
  | false => exact isTrue_or_nil e
  | true => exact e
theorem pw_and (ha : PT X a tA) (hb : PW X (.BoolOp .And (b :: rest) pos) tB') : PW X (.BoolOp .And (a :: b :: rest) pos) (tAnd tA tB') := by
  intro wh pins s σ H Q I h
  refine isTrue_and (thn (ha pins s σ H _ I h) fun c s1 ⟨H1, I1, q1⟩ => ?_)
  cases c with
  | true => exact hb wh pins s1 σ H1 Q I1 q1
  | false => exact ⟨H1, I1, q1⟩
theorem pw_or (ha : PT X a tA) (hb : PW X (.BoolOp .Or (b :: rest) pos) tB') : PW X (.BoolOp .Or (a :: b :: rest) pos) (tOr tA tB') := by
  intro wh pins s σ H Q I h
  refine isTrue_or (thn (ha pins s σ H _ I h) fun c s1 ⟨H1, I1, q1⟩ => ?_)
  cases c with
  | true => exact ⟨H1, I1, q1⟩
  | false => exact hb wh pins s1 σ H1 Q I1 q1
theorem pt_not (ha : PT X a tA) : PT X (.UnaryOp .Not a pos) (tNot tA) := by
  intro pins s σ H Q I h
  exact isTrue_not (ha pins s σ H (fun c H1 => Q (!c) H1) I h)
def tAndV (ta tb : TE) : TE := fun σ H Q => ta σ H fun x H1 => ∃ c, x = .bl c ∧ if c = true then tb σ H1 Q else Q (.bl false) H1
theorem pe_one {op} {t : TE} (h : PE X a t) : PE X (.BoolOp op [a] pos) t := fun pins s σ H Q I hw => BoolOp_one (h pins s σ H Q I hw)
theorem pe_and (ha : PE X a ta) (hb : PE X (.BoolOp .And (b :: rest) pos) tb) : PE X (.BoolOp .And (a :: b :: rest) pos) (tAndV ta tb) := by
  intro pins s σ H Q I h
  refine BoolOp_and (thn (ha pins s σ H _ I h) fun v s1 ⟨x, H1, I1, r1, q1⟩ => ?_)
  obtain ⟨c, rfl, q1⟩ := q1
  cases r1
  refine wpAny_truthy_bool ?_
  cases c with
  | true => exact hb pins s1 σ H1 Q I1 q1
  | false => exact ⟨.bl false, H1, I1, rfl, q1⟩
def tIf (t : TT) (ta tb : TE) : TE := fun σ H Q => t σ H fun c H1 => if c = true then ta σ H1 Q else tb σ H1 Q
theorem pe_ifExp {c : Expr} (hc : PT X c tA) (ha : PE X a ta) (hb : PE X b tb) : PE X (.IfExp c a b pos) (tIf tA ta tb) := by
  intro pins s σ H Q I h
  refine wpAny_IfExp (thn (hc pins s σ H _ I h) fun d s1 ⟨H1, I1, q1⟩ => ?_)
  cases d with
  | true => exact ha pins s1 σ H1 Q I1 q1
  | false => exact hb pins s1 σ H1 Q I1 q1
end
end L2
namespace L2
open PySem PySem.Spec PyProof.Rows
def SqL (K : PySem.W.Frag) (H : Hp) (a : Addr) (xs : List V) : Prop :=
  Rd H a (.lst xs) ∨
    ∃ (o : Obj) (its : Array Value) (n : Nat), K.lookup a = some o ∧ o.cls = .type "list" ∧ o.dict = none ∧ o.data = .seq its n ∧ its.size ≤ sizeLine ∧ Vals xs its.toList
def SqT (K : PySem.W.Frag) (H : Hp) (a : Addr) (xs : List V) : Prop :=
  Rd H a (.tup xs) ∨
    ∃ (o : Obj) (its : Array Value) (n : Nat), K.lookup a = some o ∧ o.cls = .type "tuple" ∧ o.data = .seq its n ∧ its.size ≤ sizeLine ∧ Vals xs its.toList
def absV : Value → Option V
  | .none => some .non
  | .bool b => some (.bl b)
  | .int i _ => some (.int i)
  | .str x _ => some (.str x)
  | .bytes b _ => some (.byt b)
  | .float b _ => some (.flt b)
  | .ref a => some (.ref a)
  | .type n => some (.ty n)
  | _ => none
theorem RelV.abs {x : V} {u : Value} (r : RelV x u) : absV u = some x := by
  cases x with
  | non => cases r; rfl
  | bl _ => cases r; rfl
  | int _ => obtain ⟨t, rfl⟩ := r; rfl
  | str _ => obtain ⟨t, rfl⟩ := r; rfl
  | byt _ => obtain ⟨t, rfl⟩ := r; rfl
  | flt _ => obtain ⟨t, rfl⟩ := r; rfl
  | ref _ => cases r; rfl
  | ty _ => cases r; rfl
theorem RelV.inj {x y : V} {u : Value} (r : RelV x u) (q : RelV y u) : x = y := Option.some.inj (r.abs.symm.trans q.abs)
theorem Vals.inj : ∀ {xs ys : List V} {us : List Value}, Vals xs us → Vals ys us → xs = ys
  | _, _, _, .nil, .nil => rfl
  | _, _, _, .cons r t, .cons r' t' => by rw [r.inj r', Vals.inj t t']
section
variable {X : Cx} {pins : List (Addr × Obj)} {σ : St} {H : Hp} {s : Shared} {a : Addr} {xs ys : List V}
theorem SqL.of {K : PySem.W.Frag} (h : H a = some (.lst xs)) : SqL K H a xs := .inl (.inl h)
theorem SqT.of {K : PySem.W.Frag} (h : H a = some (.tup xs)) : SqT K H a xs := .inl (.inl h)
theorem Inv.list (I : Inv X pins σ H s) (h : SqL X.K H a xs) : ∃ its : List Value, Vals xs its ∧ PlainL s.heap a its.toArray ∧ xs.length ≤ sizeLine := by
  rcases h with h | ⟨o, its, n, hk, hc, hd, hs, hz, r⟩
  · obtain ⟨z, its, n, r, e⟩ := h.ok I.hok
    exact ⟨its, r, ⟨_, n, e, rfl, rfl, rfl⟩, z⟩
  · refine ⟨its.toList, r, ⟨o, n, I.kIn a o hk, hc, hd, by simpa using hs⟩, ?_⟩
    have e := r.length
    simp only [Array.length_toList] at e
    omega
theorem Inv.tuple (I : Inv X pins σ H s) (h : SqT X.K H a xs) : ∃ its : List Value, Vals xs its ∧ IsTup s.heap a its.toArray ∧ xs.length ≤ sizeLine := by
  rcases h with h | ⟨o, its, n, hk, hc, hs, hz, r⟩
  · obtain ⟨z, its, r, p⟩ := h.ok I.hok
    exact ⟨its, r, p, z⟩
  · refine ⟨its.toList, r, ⟨o, I.kIn a o hk, hc, n, by simpa using hs⟩, ?_⟩
    have e := r.length
    simp only [Array.length_toList] at e
    omega
theorem Inv.list_inj (I : Inv X pins σ H s) (h : SqL X.K H a xs) (h' : SqL X.K H a ys) : xs = ys := by
  obtain ⟨its, r, ⟨o, n, e, _, _, d⟩, _⟩ := I.list h
  obtain ⟨its', r', ⟨o', n', e', _, _, d'⟩, _⟩ := I.list h'
  rw [e] at e'; cases e'
  rw [d] at d'
  injection d' with d1 _
  have : its = its' := by simpa using congrArg Array.toList d1
  subst this
  exact r.inj r'
end
abbrev Cx.wish (X : Cx) (E : Value → Shared → Prop) : Cx := { X with xe := E }
abbrev Cx.nox (X : Cx) : Cx := X.wish fun _ _ => False
theorem Cx.Ok.wish {X : Cx} (ok : X.Ok) (E : Value → Shared → Prop) : (X.wish E).Ok :=
  ⟨ok.mod, ok.kind, ok.glob, ok.blt, ok.above, ok.inj, ok.has, ok.cab, ok.hd, ok.frames, ok.stk, ok.exf, ok.bs, ok.bsz, ok.noex, ok.exfs, ok.funs, ok.frf⟩
theorem Cx.Ok.unwish {X : Cx} {E : Value → Shared → Prop} (ok : (X.wish E).Ok) : X.Ok :=
  ⟨ok.mod, ok.kind, ok.glob, ok.blt, ok.above, ok.inj, ok.has, ok.cab, ok.hd, ok.frames, ok.stk, ok.exf, ok.bs, ok.bsz, ok.noex, ok.exfs, ok.funs, ok.frf⟩
section
variable {X : Cx} {pins : List (Addr × Obj)} {σ : St} {H : Hp} {s : Shared} {E : Value → Shared → Prop}
theorem Inv.wish (I : Inv X pins σ H s) (E : Value → Shared → Prop) : Inv (X.wish E) pins σ H s := ⟨I.ok.wish E, I.os, I.bare, I.base, I.loc, I.cell, I.free, I.freeC, I.pin, I.hok, I.len⟩
theorem Inv.unwish (I : Inv (X.wish E) pins σ H s) : Inv X pins σ H s := ⟨I.ok.unwish, I.os, I.bare, I.base, I.loc, I.cell, I.free, I.freeC, I.pin, I.hok, I.len⟩
theorem SP.unwish {D : Ends} {f : Flow} {s' : Shared} (h : SP (X.wish E) pins D f s') : SP X pins D f s' := by
  cases f with
  | next => obtain ⟨σ', H', I, q⟩ := h; exact ⟨σ', H', I.unwish, q⟩
  | brk => obtain ⟨σ', H', I, q⟩ := h; exact ⟨σ', H', I.unwish, q⟩
  | cont => obtain ⟨σ', H', I, q⟩ := h; exact ⟨σ', H', I.unwish, q⟩
  | ret u => obtain ⟨v, σ', H', I, r, q⟩ := h; exact ⟨v, σ', H', I.unwish, r, q⟩
theorem PSs.nox {st : List Stmt} {t : TS} (h : PSs X.nox st t) : PSs X st t := fun pins s σ H D I hw =>
  wpAny_mono (h pins s σ H D (I.wish _) hw) (fun _ _ q => q.unwish) fun _ _ z => False.elim z
end
section
variable {X : Cx} {st : Stmt} {rest : List Stmt} {t u : TS} {e : Expr} {te : TE} {pos : Pos}
def tNext : TS := fun D σ H => D.nx σ H
def tSeq (t u : TS) : TS := fun D σ H => t { D with nx := u D } σ H
theorem pss_nil : PSs X [] tNext := fun _ _ σ H _ I h => wpAny_execs_nil ⟨σ, H, I, h⟩
theorem pss_cons (h1 : PS X st t) (h2 : PSs X rest u) : PSs X (st :: rest) (tSeq t u) := by
  intro pins s σ H D I h
  refine wpAny_execs_cons (thn (h1 pins s σ H { D with nx := u D } I h) fun f s1 q => ?_)
  cases f with
  | next =>
    obtain ⟨σ', H', I', q⟩ := q
    exact h2 pins s1 σ' H' D I' q
  | ret v => exact q
  | brk => exact q
  | cont => exact q
theorem pss_one (h1 : PS X st t) : PSs X [st] t := by
  intro pins s σ H D I h
  refine wpAny_execs_cons (thn (h1 pins s σ H D I h) fun f s1 q => ?_)
  cases f with
  | next => exact wpAny_execs_nil q
  | ret v => exact q
  | brk => exact q
  | cont => exact q
theorem Inv.quiet {pins : List (Addr × Obj)} {σ : St} {H : Hp} {s : Shared} (I : Inv X pins σ H s) : interactive X.env = false := by simp [interactive, I.ok.kind]
def tDrop (te : TE) : TS := fun D σ H => te σ H fun _ H1 => D.nx σ H1
theorem ps_expr (he : PE X e te) (hs : swapsWith e none pos.line X.env = pure false := by rfl) : PS X (.Expr e pos) (tDrop te) := by
  intro pins s σ H D I h
  exact wpAny_Expr_any (thn (he pins s σ H _ I h) fun v s1 ⟨x, H1, I1, r1, q1⟩ => ⟨σ, H1, I1, q1⟩) I.quiet hs
def tRet (te : TE) : TS := fun D σ H => te σ H D.rt
theorem ps_ret (he : PE X e te) : PS X (.Return (some e) pos) (tRet te) := by
  intro pins s σ H D I h
  exact wpAny_Return_some (thn (he pins s σ H _ I h) fun v s1 ⟨x, H1, I1, r1, q1⟩ => ⟨x, σ, H1, I1, r1, q1⟩)
def tIfS (c : TT) (t u : TS) : TS := fun D σ H => c σ H fun b H1 => if b = true then t D σ H1 else u D σ H1
theorem ps_if {c : Expr} {a b : List Stmt} {tc : TT} (hc : PT X c tc) (ha : PSs X a t) (hb : PSs X b u) : PS X (.If c a b pos) (tIfS tc t u) := by
  intro pins s σ H D I h
  refine wpAny_If (thn (hc pins s σ H _ I h) fun d s1 ⟨H1, I1, q1⟩ => ?_)
  cases d with
  | true => exact ha pins s1 σ H1 D I1 q1
  | false => exact hb pins s1 σ H1 D I1 q1
end
abbrev TG := V → St → Hp → (St → Hp → Prop) → Prop
abbrev TGs := List V → St → Hp → (St → Hp → Prop) → Prop
def PG (X : Cx) (target : Expr) (t : TG) : Prop :=
  ∀ (pins : List (Addr × Obj)) (s : Shared) (σ : St) (H : Hp) (v : V) (u : Value) (Q : St → Hp → Prop), Inv X pins σ H s → RelV v u → t v σ H Q →
    wpAny (model X.prog X.w) X.A (assign target X.env u) (fun _ s' => ∃ σ' H', Inv X pins σ' H' s' ∧ Q σ' H') X.xe s
def PGs (X : Cx) (ts : List Expr) (t : TGs) : Prop :=
  ∀ (pins : List (Addr × Obj)) (s : Shared) (σ : St) (H : Hp) (vs : List V) (us : List Value) (Q : St → Hp → Prop), Inv X pins σ H s → Vals vs us → t vs σ H Q →
    wpAny (model X.prog X.w) X.A (assignInOrder ((assignEach ts X.env).map (·.2)) us) (fun _ s' => ∃ σ' H', Inv X pins σ' H' s' ∧ Q σ' H') X.xe s
abbrev TSet := V → V → V → Hp → (Hp → Prop) → Prop
def PSet (X : Cx) (t : TSet) : Prop :=
  ∀ (pins : List (Addr × Obj)) (s : Shared) (σ : St) (H : Hp) (o i v : V) (ov iv u : Value) (Q : Hp → Prop), Inv X pins σ H s → RelV o ov → RelV i iv → RelV v u → t o i v H Q →
    wpAny (model X.prog X.w) X.A (setItem ov iv u) (fun _ s' => ∃ H', Inv X pins σ H' s' ∧ Q H') X.xe s
section
variable {X : Cx} {pos : Pos}
def gName (i : Nat) : TG := fun v σ H Q => Q (σ.set i (some v)) H
theorem pg_name {i : Nat} {x : Str} (hN : X.N.Nodup) (hi : X.N[i]? = some x) (hx : Loc X.env.scope x) (hf : X.fn x = true ∨ X.env.scope.names.lookup x = some .local := by first | exact .inl rfl | exact .inr rfl | assumption) : PG X (.Name x pos) (gName i) := by
  intro pins s σ H v u Q I r h
  exact wpAny_assign_Name (store_ok I hN hi hx r (fun s' I' => ⟨_, H, I', h⟩) hf)
def gNil : TGs := fun vs σ H Q => vs = [] ∧ Q σ H
def gCons (t : TG) (u : TGs) : TGs := fun vs σ H Q => ∃ v r, vs = v :: r ∧ t v σ H fun σ' H' => u r σ' H' Q
theorem pgs_nil : PGs X [] gNil := by
  intro pins s σ H vs us Q I r h
  obtain ⟨e, h⟩ := h
  subst e
  cases r
  exact assignInOrder_nil ⟨σ, H, I, h⟩
theorem pgs_cons {e : Expr} {es : List Expr} {t : TG} {u : TGs} (h1 : PG X e t) (h2 : PGs X es u)
    (hs : (assignEach (e :: es) X.env).map (·.2) = assign e X.env :: (assignEach es X.env).map (·.2) := by rfl) : PGs X (e :: es) (gCons t u) := by
  intro pins s σ H vs us Q I r h
  obtain ⟨v, vr, e1, h⟩ := h
  subst e1
  cases r with
  | cons r rr =>
    rw [hs]
    refine assignInOrder_cons (thn (h1 pins s σ H _ _ _ I r h) fun _ s1 ⟨σ1, H1, I1, q1⟩ => ?_)
    exact h2 pins s1 σ1 H1 _ _ Q I1 rr q1
def gTup (K : PySem.W.Frag) (n : Nat) (t : TGs) : TG := fun v σ H Q => ∃ a xs, v = .ref a ∧ SqT K H a xs ∧ xs.length = n ∧ t xs σ H Q
theorem pg_tup {es : List Expr} {k : Nat} {t : TGs} {n : Nat} (hc : X.calm = true) (h : PGs X es t)
    (hn : (assignEach es X.env).length = n := by rfl) (hst : (assignEach es X.env).findIdx? (·.1) = none := by rfl) : PG X (.Tuple es k pos) (gTup X.K n t) := by
  intro pins s σ H v u Q I r hw
  obtain ⟨a, xs, e1, hq, hl, hw⟩ := hw
  subst e1
  cases r
  obtain ⟨its, rv, ht, hz⟩ := I.tuple hq
  refine assign_Tuple_tuple (I.ok.hd hc) ht (by simp [hn, ← hl, rv.length]) hst fun h' hx => ?_
  have I1 : Inv X pins σ H { s with heap := h' } := I.kept (t' := s.toks) fun b o e => hx b o (Nat.ne_of_lt (Heap.lt_size e)) e
  exact h pins _ σ H xs _ Q I1 (by simpa using rv) hw
def gSub (to ti : TE) (t : TSet) : TG := fun v σ H Q => to σ H fun o H1 => ti σ H1 fun i H2 => t o i v H2 fun H3 => Q σ H3
theorem pg_sub {o i : Expr} {to ti : TE} {t : TSet} (ho : PE X o to) (hi : PE X i ti) (hs : PSet X t)
    (ha : ∀ v, assign (.Subscript o i pos) X.env v = (do
      let ov ← holding [v] (eval o X.env)
      let iv ← holding [v, ov] (eval i X.env)
      standAt pos
      holding [v, ov, iv] (setItem ov iv v)
      release [v, ov, iv] []) := by intro _; rfl) : PG X (.Subscript o i pos) (gSub to ti t) := by
  intro pins s σ H v u Q I r h
  rw [ha]
  refine wpAny_bind (wpAny_holding (thn (ho pins s σ H _ I h) fun ov s1 ⟨x, H1, I1, r1, q1⟩ => ?_))
  refine wpAny_bind (wpAny_holding (thn (hi pins s1 σ H1 _ I1 q1) fun iv s2 ⟨y, H2, I2, r2, q2⟩ => ?_))
  refine wpAny_bind (wpAny_standAt (wpAny_bind (wpAny_holding (thn (hs pins s2 σ H2 x y v ov iv u _ I2 r1 r2 r q2) fun _ s3 ⟨H3, I3, q3⟩ => ?_))))
  exact wpAny_release ⟨σ, H3, I3, q3⟩
def tAsg (te : TE) (g : TG) : TS := fun D σ H => te σ H fun x H1 => g x σ H1 D.nx
theorem ps_asg {tg e : Expr} {te : TE} {g : TG} (he : PE X e te) (hg : PG X tg g) (hs : swapsWithSole [tg] e pos.line X.env = pure false := by rfl) (hw : swappedStores [tg] e X.env = pure none := by rfl)
    (h1 : (assignEach [tg] X.env).map (·.2) = [assign tg X.env] := by rfl) : PS X (.Assign [tg] e pos) (tAsg te g) := by
  intro pins s σ H D I h
  refine wpAny_Assign_stores (thn (he pins s σ H _ I h) fun v s1 ⟨x, H1, I1, r1, q1⟩ => ?_) hs hw
  rw [h1]
  exact thn (hg pins s1 σ H1 x v _ I1 r1 q1) fun _ s2 q => q
theorem ps_set {i : Nat} {x : Str} {e : Expr} {te : TE} {pos' : Pos} (hN : X.N.Nodup) (hi : X.N[i]? = some x) (hx : Loc X.env.scope x) (he : PE X e te) (hs : swapsWith e (some (.Name x pos')) pos.line X.env = pure false := by rfl) (hf : X.fn x = true ∨ X.env.scope.names.lookup x = some .local := by first | exact .inl rfl | exact .inr rfl | assumption) :
    PS X (.Assign [.Name x pos'] e pos) (tAsg te (gName i)) := by
  intro pins s σ H D I h
  refine wpAny_Assign_Name (thn (he pins s σ H _ I h) fun v s1 ⟨y, H1, I1, r1, q1⟩ => ?_) hs
  exact store_ok I1 hN hi hx r1 (fun s2 I2 => ⟨_, H1, I2, q1⟩) hf
end
section
variable {X : Cx} {pos : Pos}
def tWhile (c : TT) (tb : TS) : TS := fun D σ H => ∃ W : Nat → St → Hp → Prop, (∃ m, W m σ H) ∧ ∀ m σ H, W m σ H →
  c σ H fun b H1 => if b = true then ∃ N : St → Hp → Prop, (∀ σ' H', N σ' H' → ∃ m', m' < m ∧ W m' σ' H') ∧ tb { D with nx := N, ct := N, bk := D.nx } σ H1 else D.nx σ H1
theorem ps_while {c : Expr} {body : List Stmt} {tc : TT} {tb : TS} (hp : PassesOwn (model X.prog X.w) X.A X.env X.xe) (hc : PT X c tc) (hb : PSs X body tb) : PS X (.While c body [] pos) (tWhile tc tb) := by
  intro pins s σ H D I h
  obtain ⟨W, ⟨m0, w0⟩, turn⟩ := h
  refine wpAny_While (codeAny_whileLoop (fun n s' => ∃ σ' H', Inv X pins σ' H' s' ∧ W n σ' H') ?_ m0 ⟨σ, H, I, w0⟩)
  rintro n s1 ⟨σ1, H1, I1, w1⟩
  refine wpAny_passesOwn hp (thn (hc pins s1 σ1 H1 _ I1 (turn n σ1 H1 w1)) fun b s2 ⟨H2, I2, q2⟩ => ?_)
  cases b with
  | true =>
    obtain ⟨N, hN, q2⟩ := q2
    rw [if_pos rfl]
    refine wpAny_passesOwn hp (thn (hb pins s2 σ1 H2 _ I2 q2) fun f s3 q3 => ?_)
    cases f with
    | next =>
      obtain ⟨σ3, H3, I3, n3⟩ := q3
      obtain ⟨m', hm, w3⟩ := hN σ3 H3 n3
      exact ⟨m', hm, σ3, H3, I3, w3⟩
    | cont =>
      obtain ⟨σ3, H3, I3, n3⟩ := q3
      obtain ⟨m', hm, w3⟩ := hN σ3 H3 n3
      exact ⟨m', hm, σ3, H3, I3, w3⟩
    | brk => exact q3
    | ret v => exact q3
  | false =>
    rw [if_neg Bool.false_ne_true]
    exact wpAny_execs_nil ⟨σ1, H2, I2, q2⟩
end
structure It where
  go : Nat → Hp → Prop
  yld : Nat → Hp → V → Hp → Prop
  stop : Nat → Hp → Prop
def FpOk (X : Cx) (pins : List (Addr × Obj)) (H : Hp) (b : Addr) : Prop :=
  H b = none ∧ b ≠ X.env.locals ∧ b ∉ X.fs ∧ (b ∈ X.ex ∨ X.s₀.heap.objs.size ≤ b) ∧ (∀ x c, X.env.cells.lookup x = some c → c ≠ b) ∧ ∀ p ∈ X.pn ++ pins, p.1 ≠ b
theorem Inv.fpOk {X : Cx} {pins : List (Addr × Obj)} {σ : St} {H H' : Hp} {s : Shared} {b : Addr} (I : Inv X pins σ H s) (hb : s.heap.objs.size ≤ b) (hn : H' b = none) : FpOk X pins H' b := by
  refine ⟨hn, Nat.ne_of_gt (Nat.lt_of_lt_of_le I.lt hb), I.nofs hb, .inr (Nat.le_trans I.sz hb), fun x c e z => ?_, fun p hp z => ?_⟩
  · obtain ⟨v, q⟩ := I.cell x c e
    exact absurd (Nat.lt_of_lt_of_le q.lt (by rw [z]; exact hb)) (Nat.lt_irrefl _)
  · exact absurd (Nat.lt_of_lt_of_le (Heap.lt_size (I.pin p hp).1) (by rw [z]; exact hb)) (Nat.lt_irrefl _)
structure Turn (P : Program) (w : World) (K : PySem.W.Frag) (tg : Expr) (J : It) (fp : List Addr) (it : Addr) (tn : Nat → Heap → Prop) : Prop where
  mem : it ∈ fp
  obj : ∀ i h, tn i h → ∀ b ∈ fp, ∃ o, h.get? b = some o ∧ ∀ v, o.data ≠ .cell v
  keep : ∀ i h h', tn i h → (∀ b ∈ fp, ∀ o, h.get? b = some o → h'.get? b = some o) → tn i h'
  item : ∀ (X : Cx), X.prog = P → X.w = w → X.K = K → X.calm = true → ∀ (i : Nat) (pins : List (Addr × Obj)) (s : Shared) (σ : St) (H : Hp) (E : Value → Shared → Prop), Inv X pins σ H s → (∀ b ∈ fp, FpOk X pins H b) → tn i s.heap → J.go i H →
    wpAny (model P w) X.A (pyNext (.ref it)) (fun r s1 => ∃ u, r = some u ∧
      wpAny (model P w) X.A (letOwnedTupleGo tg (.ref it) u) (fun _ s2 => ∃ x H', Inv X pins σ H' s2 ∧ RelV x u ∧ J.yld i H x H' ∧ tn (i + 1) s2.heap ∧ ∀ b ∈ fp, H' b = none) E s1) E s
  done : ∀ (X : Cx), X.prog = P → X.w = w → X.K = K → X.calm = true → ∀ (i : Nat) (pins : List (Addr × Obj)) (s : Shared) (σ : St) (H : Hp) (E : Value → Shared → Prop), Inv X pins σ H s → (∀ b ∈ fp, FpOk X pins H b) → tn i s.heap → J.stop i H →
    wpAny (model P w) X.A (pyNext (.ref it)) (fun r s1 => r = none ∧ Inv X pins σ H s1) E s
  self : ∀ (A : Around) (i : Nat) (s : Shared) (Q : Value → Shared → Prop) (E : Value → Shared → Prop), tn i s.heap → Q (.ref it) s → wpAny (model P w) A (pyIter (.ref it)) Q E s
abbrev TI := St → Hp → (It → Hp → Prop) → Prop
def PIE (X : Cx) (pins : List (Addr × Obj)) (σ : St) (tg : Expr) (R : It → Hp → Prop) (itv : Value) (s2 : Shared) : Prop :=
  ∃ (it : Addr) (fp : List Addr) (tn : Nat → Heap → Prop) (J : It) (H' : Hp), itv = .ref it ∧ Inv X pins σ H' s2 ∧ Turn X.prog X.w X.K tg J fp it tn ∧ tn 0 s2.heap ∧ (∀ b ∈ fp, FpOk X pins H' b) ∧ R J H'
def PI (X : Cx) (tg iter : Expr) (wi : TI) : Prop :=
  ∀ (pins : List (Addr × Obj)) (s : Shared) (σ : St) (H : Hp) (R : It → Hp → Prop), Inv X pins σ H s → wi σ H R →
    wpAny (model X.prog X.w) X.A (eval iter X.env) (fun v s1 => wpAny (model X.prog X.w) X.A (pyIter v) (PIE X pins σ tg R) X.xe s1) X.xe s
theorem go_of {M : Model} {A : Around} {E : Value → Shared → Prop} {s : Shared} {tg : Expr} {it : Addr} {u : Value} {o : Obj} {n : String} {vs : Array Value} {Q : Unit → Shared → Prop} (ho : s.heap.get? it = some o) (hc : o.cls = .type n) (hd : o.data = .fields vs)
    (hn : ["enumerate", "zip", "dict_itemiterator", "dict_reverseitemiterator", "odict_iterator", "itertools.zip_longest", "itertools.pairwise"].contains n = false) (hQ : Q () s) : wpAny M A (letOwnedTupleGo tg (.ref it) u) Q E s := by
  unfold letOwnedTupleGo
  cases tg <;> first
    | exact wpAny_pure hQ
    | (cases u <;> first
        | exact wpAny_pure hQ
        | (refine wpAny_bind (wpAny_load ho ?_)
           rw [hc, hd]
           show wpAny M A (if (["enumerate", "zip", "dict_itemiterator", "dict_reverseitemiterator", "odict_iterator", "itertools.zip_longest", "itertools.pairwise"].contains n && vs[0]? == some (rawInt _)) = true then _ else _) Q E s
           rw [if_neg (by intro h; rw [hn, Bool.false_and] at h; cases h)]
           exact wpAny_pure hQ))
def Itl (K : PySem.W.Frag) (a : Addr) : It :=
  ⟨fun i H => ∃ xs x, SqL K H a xs ∧ xs[i]? = some x, fun i H x H' => H' = H ∧ ∀ xs, SqL K H a xs → xs[i]? = some x, fun i H => ∃ xs, SqL K H a xs ∧ xs.length ≤ i⟩
def Itr (lo : Int) (n : Nat) : It := ⟨fun i _ => i < n, fun i H x H' => H' = H ∧ x = .int (lo + i), fun i _ => n ≤ i⟩
theorem turn_list {P : Program} {w : World} {K : PySem.W.Frag} {tg : Expr} (a it : Addr) : Turn P w K tg (Itl K a) [it] it (fun i h => h.IsListIter it a i) where
  mem := by simp
  obj := fun i h st b hb => by
    have e : b = it := by simpa using hb
    subst e
    obtain ⟨o, e, c, d⟩ := st
    exact ⟨o, e, fun v z => by rw [d] at z; cases z⟩
  keep := fun i h h' st k => st.at fun o e => k it (by simp) o e
  item := by
    intro X hP hw hK hc i pins s σ H E I hf st hg
    subst hP hw hK
    obtain ⟨xs, x, hq, hx⟩ := hg
    obtain ⟨its, rv, p, hz⟩ := I.list hq
    obtain ⟨u, hu, ru⟩ := rv.get hx
    obtain ⟨f0, f1, f2, f3, f4, f5⟩ := hf it (by simp)
    refine wpAny_pyNext_list_item st p.isList (x := u) (by simpa using hu) fun h' st' sb => ?_
    have I1 : Inv X pins σ H { s with heap := h' } := I.turned (t' := s.toks) (fun b o hb e => (sb.2 b hb).trans e) f0 f1 f3 f4 f5
    obtain ⟨o, e, c, d⟩ := id st'
    exact ⟨u, rfl, go_of (s := { s with heap := h' }) e c d (by decide) ⟨x, H, I1, ru, ⟨rfl, fun ys hy => by rw [I.list_inj hy hq]; exact hx⟩, st', fun b hb => (hf b hb).1⟩⟩
  done := by
    intro X hP hw hK hc i pins s σ H E I hf st hg
    subst hP hw hK
    obtain ⟨xs, hq, hx⟩ := hg
    obtain ⟨its, rv, p, hz⟩ := I.list hq
    obtain ⟨f0, f1, f2, f3, f4, f5⟩ := hf it (by simp)
    have hl := rv.length
    exact wpAny_pyNext_list_end (I.ok.hd hc) st p.isList (by simp; omega) fun h' eb => ⟨rfl, I.turned (t' := s.toks) (fun b o hb e => eb b o hb e) f0 f1 f3 f4 f5⟩
  self := fun _ _ _ _ _ st h => wpAny_pyIter_listiter st h
theorem turn_range {P : Program} {w : World} {K : PySem.W.Frag} {tg : Expr} (it : Addr) (lo : Int) (n : Nat) : Turn P w K tg (Itr lo n) [it] it (fun i h => IsRangeIter h it (lo + (i : Nat) * 1) ((n : Int) - (i : Nat)) 1) where
  mem := by simp
  obj := fun i h st b hb => by
    have e : b = it := by simpa using hb
    subst e
    exact ⟨_, st, fun v z => by
      have z' : Data.fields _ = Data.cell v := z
      cases z'⟩
  keep := fun i h h' st k => k it (by simp) _ st
  item := by
    intro X hP hw hK hc i pins s σ H E I hf st hg
    subst hP hw hK
    obtain ⟨f0, f1, f2, f3, f4, f5⟩ := hf it (by simp)
    have W := Walks.range (prog := X.prog) (w := X.w) (I.ok.hd hc) it lo 1 n
    refine W.item i s _ _ hg st fun v h' tk hv st' kk => ?_
    obtain ⟨t, rfl⟩ := hv
    have I1 : Inv X pins σ H { s with heap := h', toks := tk } := I.turned (fun b o hb e => kk b o (by simpa using hb) e) f0 f1 f3 f4 f5
    refine ⟨_, rfl, go_of (s := { s with heap := h', toks := tk }) (n := "range_iterator") st' rfl rfl (by decide) ⟨.int (lo + i), H, I1, ⟨t, ?_⟩, ⟨rfl, rfl⟩, st', fun b hb => (hf b hb).1⟩⟩
    rw [Int.mul_one]
  done := by
    intro X hP hw hK hc i pins s σ H E I hf st hg
    subst hP hw hK
    obtain ⟨f0, f1, f2, f3, f4, f5⟩ := hf it (by simp)
    exact wpAny_pyNext_range_end (I.ok.hd hc) st (by have : n ≤ i := hg; omega) fun h' eb => ⟨rfl, I.turned (t' := s.toks) (fun b o hb e => eb b o hb e) f0 f1 f3 f4 f5⟩
  self := fun _ _ _ _ _ st h => wpAny_pyIter_rangeiter st h
end L2
namespace L2
open PySem PySem.Spec PyProof.Rows
section
variable {X : Cx} {tg : Expr}
def iList (K : PySem.W.Frag) (tl : TE) : TI := fun σ H R => tl σ H fun x H1 => ∃ a, x = .ref a ∧ (∃ xs, SqL K H1 a xs) ∧ R (Itl K a) H1
theorem pi_list {l : Expr} {tl : TE} (hl : PE X l tl) : PI X tg l (iList X.K tl) := by
  intro pins s σ H R I h
  refine thn (hl pins s σ H _ I h) fun v s1 ⟨x, H1, I1, r1, q1⟩ => ?_
  obtain ⟨a, e, ⟨xs, hq⟩, q⟩ := q1
  subst e
  cases r1
  obtain ⟨its, rv, p, hz⟩ := I1.list hq
  refine wpAny_pyIter_list p.isList ?_
  refine ⟨s1.heap.objs.size, [s1.heap.objs.size], _, _, H1, rfl, I1.kept (t' := s1.toks) fun b o e => Heap.get?_push_of_some _ e, turn_list a _, ⟨_, Heap.get?_push_size _ rfl, rfl, rfl⟩, fun b hb => ?_, q⟩
  have e : b = s1.heap.objs.size := by simpa using hb
  subst e
  exact I1.fpOk (Nat.le_refl _) (I1.hok.fresh (Nat.le_refl _))
theorem range_it {pins : List (Addr × Obj)} {σ : St} {H : Hp} {s : Shared} {R : It → Hp → Prop} {E : Value → Shared → Prop} {lo hi : Int} {t u v : Tok} {tk : Nat} (I : Inv X pins σ H s) (h1 : -(2 ^ 62) ≤ lo) (h2 : lo < 2 ^ 62) (h3 : -(2 ^ 62) ≤ hi) (h4 : hi < 2 ^ 62)
    (q : R (Itr lo (hi - lo).toNat) H) : wpAny (model X.prog X.w) X.A (pyIter (.ref s.heap.objs.size)) (PIE X pins σ tg R) E { s with heap := s.heap.push { cls := .type "range", data := .fields #[.int lo t, .int hi u, .int 1 v] }, toks := tk } := by
  refine wpAny_pyIter_range (IsRange.new ..) (small_one h1 h2 h3 h4) ?_
  have I1 : Inv X pins σ H { s with heap := s.heap.push { cls := .type "range", data := .fields #[.int lo t, .int hi u, .int 1 v] }, toks := tk } := I.kept fun b o e => Heap.get?_push_of_some _ e
  refine ⟨(s.heap.push { cls := .type "range", data := .fields #[.int lo t, .int hi u, .int 1 v] }).objs.size, [(s.heap.push { cls := .type "range", data := .fields #[.int lo t, .int hi u, .int 1 v] }).objs.size], _, _, H, rfl,
    I1.kept (t' := tk) fun b o e => Heap.get?_push_of_some _ e, turn_range _ lo (hi - lo).toNat, ?_, fun b hb => ?_, q⟩
  · have e1 : lo + ((0 : Nat) : Int) * 1 = lo := by simp
    have e2 : (((hi - lo).toNat : Nat) : Int) - ((0 : Nat) : Int) = Builtin.Range.rangeSize lo hi 1 := by rw [rangeSize_one]; split <;> omega
    show IsRangeIter _ _ (lo + ((0 : Nat) : Int) * 1) ((((hi - lo).toNat : Nat) : Int) - ((0 : Nat) : Int)) 1
    rw [e1, e2]
    exact Heap.get?_push_size _ rfl
  · have e : b = (s.heap.push { cls := .type "range", data := .fields #[.int lo t, .int hi u, .int 1 v] }).objs.size := by simpa using hb
    subst e
    exact I1.fpOk (Nat.le_refl _) (I1.hok.fresh (Nat.le_refl _))
def iRng1 (ta : TA) : TI := fun σ H R => ta σ H fun vs H1 => ∃ j : Int, vs = [.int j] ∧ -(2 ^ 62) ≤ j ∧ j < 2 ^ 62 ∧ R (Itr 0 j.toNat) H1
def iRng2 (ta : TA) : TI := fun σ H R => ta σ H fun vs H1 => ∃ i j : Int, vs = [.int i, .int j] ∧ (-(2 ^ 62) ≤ i ∧ i < 2 ^ 62 ∧ -(2 ^ 62) ≤ j ∧ j < 2 ^ 62) ∧ R (Itr i (j - i).toNat) H1
theorem pi_range1 {a : Expr} {ta : TA} {p pos : Pos} (hg : Gl X "range") (hm : X.mg "range" = none) (ha : PA X [a] ta) (hs : starEach [a] X.env = [(false, eval a X.env)] := by rfl) : PI X tg (.Call (.Name "range" p) [a] [] pos) (iRng1 ta) := by
  intro pins s σ H R I h
  refine Call_ (ld_blt I hg hm boot_range (PyProof.Rows.callWith_type1 (thn (ha pos pins s σ H _ I h) fun us s1 ⟨vs, H1, I1, r1, q1⟩ => ?_) hs rfl))
  obtain ⟨j, e, q1, q2, q⟩ := q1
  subst e
  cases r1 with
  | cons r rr =>
    cases rr
    obtain ⟨t, rfl⟩ := r
    exact call_range_1 (range_it I1 (by omega) (by omega) q1 q2 (by simpa using q))
theorem pi_range2 {a b : Expr} {ta : TA} {p pos : Pos} (hg : Gl X "range") (hm : X.mg "range" = none) (ha : PA X [a, b] ta) (hs : starEach [a, b] X.env = [(false, eval a X.env), (false, eval b X.env)] := by rfl) (hs2 : starEach [b] X.env = [(false, eval b X.env)] := by rfl) :
    PI X tg (.Call (.Name "range" p) [a, b] [] pos) (iRng2 ta) := by
  intro pins s σ H R I h
  refine Call_ (ld_blt I hg hm boot_range (PyProof.Rows.callWith_type1 (thn (ha pos pins s σ H _ I h) fun us s1 ⟨vs, H1, I1, r1, q1⟩ => ?_) (by rw [hs, hs2]) (by rw [hs2]; rfl)))
  obtain ⟨i, j, e, ⟨q1, q2, q3, q4⟩, q⟩ := q1
  subst e
  cases r1 with
  | cons r rr =>
    cases rr with
    | cons r' rr =>
      cases rr
      obtain ⟨t, rfl⟩ := r
      obtain ⟨t', rfl⟩ := r'
      exact call_range_2 (range_it I1 q1 q2 q3 q4 q)
def tFor (wi : TI) (g : TG) (tb : TS) : TS := fun D σ H => wi σ H fun J H1 => ∃ W : Nat → Nat → St → Hp → Prop, (∃ m, W 0 m σ H1) ∧ ∀ i m σ H, W i m σ H →
  (J.stop i H ∧ D.nx σ H) ∨ (J.go i H ∧ ∃ N : St → Hp → Prop, (∀ σ' H', N σ' H' → ∃ m', m' < m ∧ W (i + 1) m' σ' H') ∧ ∀ x H', J.yld i H x H' → g x σ H' fun σ2 H2 => tb { D with nx := N, ct := N, bk := D.nx } σ2 H2)
def pinsAt (fp : List Addr) (h : Heap) : List (Addr × Obj) := fp.filterMap fun b => (h.get? b).map fun o => (b, o)
theorem mem_pinsAt {fp : List Addr} {h : Heap} {b : Addr} {o : Obj} (hb : b ∈ fp) (e : h.get? b = some o) : (b, o) ∈ pinsAt fp h := List.mem_filterMap.mpr ⟨b, hb, by rw [e]; rfl⟩
theorem of_pinsAt {fp : List Addr} {h : Heap} {p : Addr × Obj} (hp : p ∈ pinsAt fp h) : p.1 ∈ fp ∧ h.get? p.1 = some p.2 := by
  obtain ⟨b, hb, e⟩ := List.mem_filterMap.mp hp
  cases q : h.get? b with
  | none => rw [q] at e; cases e
  | some o =>
    rw [q] at e
    have e' : (b, o) = p := Option.some.inj e
    subst e'
    exact ⟨hb, q⟩
theorem Inv.pinned {pins : List (Addr × Obj)} {σ : St} {H : Hp} {s : Shared} {fp : List Addr} (I : Inv X pins σ H s) (hf : ∀ b ∈ fp, FpOk X pins H b) (ho : ∀ b ∈ fp, ∃ o, s.heap.get? b = some o ∧ ∀ v, o.data ≠ .cell v) : Inv X (pins ++ pinsAt fp s.heap) σ H s :=
  I.pins_of fun p hp => (List.mem_append.mp hp).elim (fun z => I.pin p (List.mem_append_right _ z)) fun z => by
    obtain ⟨hb, e⟩ := of_pinsAt z
    obtain ⟨f0, f1, f2, _⟩ := hf p.1 hb
    obtain ⟨o, e', d⟩ := ho p.1 hb
    rw [e] at e'; cases e'
    exact ⟨e, f0, f1, f2, d⟩
theorem Inv.unpinned {pins pl : List (Addr × Obj)} {σ : St} {H : Hp} {s : Shared} (I : Inv X (pins ++ pl) σ H s) : Inv X pins σ H s := I.pins_of fun p hp => I.pin p (List.mem_append_right _ (List.mem_append_left _ hp))
theorem ps_for {iter : Expr} {body : List Stmt} {wi : TI} {g : TG} {tb : TS} {pos : Pos} (hp : PassesOwn (model X.prog X.w) X.A X.env X.xe) (hc : X.calm = true) (hi : PI X tg iter wi) (hg : PG X tg g) (hb : PSs X body tb)
    (hs : ∀ x, foldedSetIterable iter X.env x = pure x := by intro _; rfl) : PS X (.For tg iter body [] pos) (tFor wi g tb) := by
  intro pins s σ H D I h
  refine wpAny_For (thn (hi pins s σ H _ I h) fun v s1 h1 => thn h1 fun itv s2 h2 => ?_) hs
  obtain ⟨it, fp, tn, J, H2, e, I2, T, st2, f2, W, ⟨m0, w0⟩, turn⟩ := h2
  subst e
  have stat : ∀ {H' : Hp}, (∀ b ∈ fp, H' b = none) → ∀ b ∈ fp, FpOk X pins H' b := fun hn b hb => ⟨hn b hb, (f2 b hb).2⟩
  refine codeAny_forLoop_any (fun n s' => ∃ i σ' H', Inv X pins σ' H' s' ∧ tn i s'.heap ∧ (∀ b ∈ fp, H' b = none) ∧ W i n σ' H') ?_ m0 ⟨0, σ, H2, I2, st2, fun b hb => (f2 b hb).1, w0⟩
  rintro n s3 ⟨i, σ3, H3, I3, st3, fr3, w3⟩
  rcases turn i n σ3 H3 w3 with ⟨stop, qn⟩ | ⟨go, N, hN, step⟩
  · refine wpAny_passesOwn hp (thn (T.done X rfl rfl rfl hc i pins s3 σ3 H3 X.xe I3 (stat fr3) st3 stop) fun r s4 ⟨hr, I4⟩ => ?_)
    subst hr
    exact wpAny_execs_nil ⟨σ3, H3, I4, qn⟩
  · refine wpAny_passesOwn hp (thn (T.item X rfl rfl rfl hc i pins s3 σ3 H3 X.xe I3 (stat fr3) st3 go) fun r s4 ⟨u, hr, h4⟩ => ?_)
    subst hr
    refine wpAny_passesOwn hp (thn h4 fun _ s5 ⟨x, H5, I5, r5, y5, st5, fr5⟩ => ?_)
    have I5' := I5.pinned (stat fr5) (T.obj _ _ st5)
    refine wpAny_passesOwn hp (thn (hg _ s5 σ3 H5 x u _ I5' r5 (step x H5 y5)) fun _ s6 ⟨σ6, H6, I6, q6⟩ => ?_)
    refine wpAny_passesOwn hp (thn (hb _ s6 σ6 H6 _ I6 q6) fun f s7 q7 => ?_)
    have again : ∀ {σ7 : St} {H7 : Hp}, Inv X (pins ++ pinsAt fp s5.heap) σ7 H7 s7 → N σ7 H7 → ∃ m, m < n ∧ ∃ i σ' H', Inv X pins σ' H' s7 ∧ tn i s7.heap ∧ (∀ b ∈ fp, H' b = none) ∧ W i m σ' H' := fun {σ7 H7} I7 n7 => by
      obtain ⟨m', hm, w7⟩ := hN σ7 H7 n7
      refine ⟨m', hm, i + 1, σ7, H7, I7.unpinned, T.keep _ _ _ st5 fun b hb o e => (I7.pin (b, o) (List.mem_append_right _ (List.mem_append_right _ (mem_pinsAt hb e)))).1, fun b hb => ?_, w7⟩
      obtain ⟨o, e, d⟩ := T.obj _ _ st5 b hb
      exact (I7.pin (b, o) (List.mem_append_right _ (List.mem_append_right _ (mem_pinsAt hb e)))).2.1
    cases f with
    | next => obtain ⟨σ7, H7, I7, n7⟩ := q7; exact again I7 n7
    | cont => obtain ⟨σ7, H7, I7, n7⟩ := q7; exact again I7 n7
    | brk => obtain ⟨σ7, H7, I7, q7⟩ := q7; exact ⟨σ7, H7, I7.unpinned, q7⟩
    | ret v => obtain ⟨x7, σ7, H7, I7, r7, q7⟩ := q7; exact ⟨x7, σ7, H7, I7.unpinned, r7, q7⟩
end
theorem for_list {K : PySem.W.Frag} {a : Addr} {xs : List V} {g : TG} {tb : TS} {D : Ends} {σ : St} {H : Hp} (Pv : Nat → St → Hp → Prop) (h0 : Pv 0 σ H) (hl : ∀ i σ H, i ≤ xs.length → Pv i σ H → SqL K H a xs)
    (hs : ∀ i x σ H, xs[i]? = some x → Pv i σ H → g x σ H fun σ2 H2 => tb { D with nx := Pv (i + 1), ct := Pv (i + 1), bk := D.nx } σ2 H2) (hd : ∀ σ H, Pv xs.length σ H → D.nx σ H) :
    ∃ W : Nat → Nat → St → Hp → Prop, (∃ m, W 0 m σ H) ∧ ∀ i m σ H, W i m σ H →
      ((Itl K a).stop i H ∧ D.nx σ H) ∨ ((Itl K a).go i H ∧ ∃ N : St → Hp → Prop, (∀ σ' H', N σ' H' → ∃ m', m' < m ∧ W (i + 1) m' σ' H') ∧ ∀ x H', (Itl K a).yld i H x H' → g x σ H' fun σ2 H2 => tb { D with nx := N, ct := N, bk := D.nx } σ2 H2) := by
  refine ⟨fun i m σ H => m = xs.length - i ∧ i ≤ xs.length ∧ Pv i σ H, ⟨xs.length, by simp, Nat.zero_le _, h0⟩, ?_⟩
  rintro i m σ H ⟨rfl, hi, p⟩
  have q := hl i σ H hi p
  by_cases hlt : i < xs.length
  · refine .inr ⟨⟨xs, xs[i], q, by simp [hlt]⟩, Pv (i + 1), fun σ' H' p' => ⟨xs.length - (i + 1), by omega, rfl, hlt, p'⟩, fun x H' y => ?_⟩
    obtain ⟨e, y⟩ := y
    subst e
    exact hs i x σ _ (y xs q) p
  · have e : i = xs.length := by omega
    subst e
    exact .inl ⟨⟨xs, q, Nat.le_refl _⟩, hd σ H p⟩
theorem for_range {lo : Int} {n : Nat} {g : TG} {tb : TS} {D : Ends} {σ : St} {H : Hp} (Pv : Nat → St → Hp → Prop) (h0 : Pv 0 σ H)
    (hs : ∀ i σ H, i < n → Pv i σ H → g (.int (lo + i)) σ H fun σ2 H2 => tb { D with nx := Pv (i + 1), ct := Pv (i + 1), bk := D.nx } σ2 H2) (hd : ∀ σ H, Pv n σ H → D.nx σ H) :
    ∃ W : Nat → Nat → St → Hp → Prop, (∃ m, W 0 m σ H) ∧ ∀ i m σ H, W i m σ H →
      ((Itr lo n).stop i H ∧ D.nx σ H) ∨ ((Itr lo n).go i H ∧ ∃ N : St → Hp → Prop, (∀ σ' H', N σ' H' → ∃ m', m' < m ∧ W (i + 1) m' σ' H') ∧ ∀ x H', (Itr lo n).yld i H x H' → g x σ H' fun σ2 H2 => tb { D with nx := N, ct := N, bk := D.nx } σ2 H2) := by
  refine ⟨fun i m σ H => m = n - i ∧ i ≤ n ∧ Pv i σ H, ⟨n, by simp, Nat.zero_le _, h0⟩, ?_⟩
  rintro i m σ H ⟨rfl, hi, p⟩
  by_cases hlt : i < n
  · refine .inr ⟨hlt, Pv (i + 1), fun σ' H' p' => ⟨n - (i + 1), by omega, rfl, hlt, p'⟩, fun x H' y => ?_⟩
    obtain ⟨e, y⟩ := y
    subst e y
    exact hs i σ _ hlt p
  · have e : i = n := by omega
    subst e
    exact .inl ⟨Nat.le_refl _, hd σ H p⟩
end L2
namespace L2
open PySem PySem.Spec PyProof.Rows
abbrev R2 := V → V → Hp → VK → Prop
def OpR (X : Cx) (f : Value → Value → Sem Value) (r : R2) : Prop :=
  ∀ (pins : List (Addr × Obj)) (s : Shared) (σ : St) (H : Hp) (x y : V) (v u : Value) (Q : VK), Inv X pins σ H s → RelV x v → RelV y u → r x y H Q →
    wpAny (model X.prog X.w) X.A (f v u) (EP X pins σ Q) X.xe s
def UnR (X : Cx) (f : Value → Sem Value) (r : V → Hp → VK → Prop) : Prop :=
  ∀ (pins : List (Addr × Obj)) (s : Shared) (σ : St) (H : Hp) (x : V) (v : Value) (Q : VK), Inv X pins σ H s → RelV x v → r x H Q →
    wpAny (model X.prog X.w) X.A (f v) (EP X pins σ Q) X.xe s
def CallR (X : Cx) (f : Value) (r : List V → Hp → VK → Prop) : Prop :=
  ∀ (pins : List (Addr × Obj)) (s : Shared) (σ : St) (H : Hp) (xs : List V) (us : List Value) (Q : VK), Inv X pins σ H s → Vals xs us → r xs H Q →
    wpAny (model X.prog X.w) X.A (call f us) (EP X pins σ Q) X.xe s
def tOp (r : R2) (ta tb : TE) : TE := fun σ H Q => ta σ H fun x H1 => tb σ H1 fun y H2 => r x y H2 Q
def tUn (r : V → Hp → VK → Prop) (ta : TE) : TE := fun σ H Q => ta σ H fun x H1 => r x H1 Q
def rI (C : Int → Int → Prop) (g : Int → Int → V) : R2 := fun x y H Q => ∃ i j, x = .int i ∧ y = .int j ∧ C i j ∧ Q (g i j) H
def rI0 (g : Int → Int → V) : R2 := fun x y H Q => ∃ i j, x = .int i ∧ y = .int j ∧ Q (g i j) H
def rU (g : Int → V) : V → Hp → VK → Prop := fun x H Q => ∃ i, x = .int i ∧ Q (g i) H
section
variable {X : Cx} {a b c : Expr} {ta tb tc : TE} {pos : Pos}
theorem binT (ha : PE X a ta) (hb : PE X b tb) {pins : List (Addr × Obj)} {s : Shared} {σ : St} {H : Hp} {R : V → V → Hp → Prop} (I : Inv X pins σ H s)
    (h : ta σ H fun x H1 => tb σ H1 fun y H2 => R x y H2) {Q : Value → Shared → Prop} {f : Value → Value → Sem Value}
    (hf : ∀ v u s2 x y H2, Inv X pins σ H2 s2 → RelV x v → RelV y u → R x y H2 → wpAny (model X.prog X.w) X.A (f v u) Q X.xe s2) :
    wpAny (model X.prog X.w) X.A (eval a X.env) (fun v s₁ => wpAny (model X.prog X.w) X.A (eval b X.env) (fun u s₂ => wpAny (model X.prog X.w) X.A (f v u) Q X.xe s₂) X.xe s₁) X.xe s := by
  refine thn (ha pins s σ H _ I h) fun v s1 ⟨x, H1, I1, r1, q1⟩ => ?_
  refine thn (hb pins s1 σ H1 _ I1 q1) fun u s2 ⟨y, H2, I2, r2, q2⟩ => ?_
  exact hf v u s2 x y H2 I2 r1 r2 q2
theorem pe_op {op : Operator} {r : R2} (ho : OpR X (binaryOp op) r) (ha : PE X a ta) (hb : PE X b tb) : PE X (.BinOp a op b pos) (tOp r ta tb) := by
  intro pins s σ H Q I h
  exact wpAny_BinOp (binT ha hb I h fun v u s2 x y H2 I2 rx ry q => ho pins s2 σ H2 x y v u Q I2 rx ry q)
theorem pe_un {op : UnaryOp} {r : V → Hp → VK → Prop} (ho : UnR X (unaryOp op) r) (ha : PE X a ta) : PE X (.UnaryOp op a pos) (tUn r ta) := by
  intro pins s σ H Q I h
  exact UnaryOp_ (thn (ha pins s σ H _ I h) fun v s1 ⟨x, H1, I1, r1, q1⟩ => ho pins s1 σ H1 x v Q I1 r1 q1)
theorem opI {f : Value → Value → Sem Value} {C : Int → Int → Prop} {g : Int → Int → Int}
    (rule : ∀ (i j : Int) (t u : Tok) (s : Shared) (Q : Value → Shared → Prop) (E : Value → Shared → Prop), C i j → Q (.int (g i j) s.toks) { s with toks := s.toks + 1 } → wpAny (model X.prog X.w) X.A (f (.int i t) (.int j u)) Q E s) :
    OpR X f (rI C fun i j => .int (g i j)) := by
  intro pins s σ H x y v u Q I rx ry h
  obtain ⟨i, j, rfl, rfl, hc, q⟩ := h
  obtain ⟨t, rfl⟩ := rx
  obtain ⟨t', rfl⟩ := ry
  exact rule i j t t' s _ _ hc ⟨.int (g i j), H, I.tok _, ⟨_, rfl⟩, q⟩
theorem opI0 {f : Value → Value → Sem Value} {g : Int → Int → Int}
    (rule : ∀ (i j : Int) (t u : Tok) (s : Shared) (Q : Value → Shared → Prop) (E : Value → Shared → Prop), Q (.int (g i j) s.toks) { s with toks := s.toks + 1 } → wpAny (model X.prog X.w) X.A (f (.int i t) (.int j u)) Q E s) :
    OpR X f (rI0 fun i j => .int (g i j)) := by
  intro pins s σ H x y v u Q I rx ry h
  obtain ⟨i, j, rfl, rfl, q⟩ := h
  obtain ⟨t, rfl⟩ := rx
  obtain ⟨t', rfl⟩ := ry
  exact rule i j t t' s _ _ ⟨.int (g i j), H, I.tok _, ⟨_, rfl⟩, q⟩
theorem opB0 {f : Value → Value → Sem Value} {g : Int → Int → Bool}
    (rule : ∀ (i j : Int) (t u : Tok) (s : Shared) (Q : Value → Shared → Prop) (E : Value → Shared → Prop), Q (.bool (g i j)) s → wpAny (model X.prog X.w) X.A (f (.int i t) (.int j u)) Q E s) :
    OpR X f (rI0 fun i j => .bl (g i j)) := by
  intro pins s σ H x y v u Q I rx ry h
  obtain ⟨i, j, rfl, rfl, q⟩ := h
  obtain ⟨t, rfl⟩ := rx
  obtain ⟨t', rfl⟩ := ry
  exact rule i j t t' s _ _ ⟨.bl (g i j), H, I, rfl, q⟩
def CDiv (i j : Int) : Prop := 0 < j ∧ j < 1073741824
def CPow (i j : Int) : Prop := 0 ≤ j ∧ j ≤ 1000000 ∧ i.natAbs < 2 ^ 64
def CMul (i j : Int) : Prop := (-(2 ^ 64) < i ∧ i < 2 ^ 64) ∨ (-(2 ^ 64) < j ∧ j < 2 ^ 64)
theorem CMul.ok {i j : Int} (h : CMul i j) : IntMulOk i j := by
  rcases h with ⟨h1, h2⟩ | ⟨h1, h2⟩
  · exact .of_left (intBits_le_64 h1 h2)
  · exact .of_right (intBits_le_64 h1 h2)
theorem two_pow_nn (k : Nat) : (0 : Int) ≤ 2 ^ k := by
  rw [two_pow_cast]
  exact Int.natCast_nonneg _
theorem op_add : OpR X (binaryOp .Add) (rI0 fun i j => .int (i + j)) := opI0 fun _ _ _ _ _ _ _ q => add_int q
theorem op_sub : OpR X (binaryOp .Sub) (rI0 fun i j => .int (i - j)) := opI0 fun _ _ _ _ _ _ _ q => sub_int q
theorem op_mul : OpR X (binaryOp .Mult) (rI CMul fun i j => .int (i * j)) := opI fun _ _ _ _ _ _ _ hc q => mul_int q hc.ok
theorem op_fdiv : OpR X (binaryOp .FloorDiv) (rI CDiv fun i j => .int (i / j)) := opI fun i j _ _ _ _ _ hc q => by
  have h1 : (0 : Int) < j := hc.1
  have h2 : j < 1073741824 := hc.2
  exact floordiv_int (by omega) (by rw [Int.fdiv_eq_ediv_of_nonneg i (by omega)]; exact q) (.inl (PyProof.noPylong_small (by omega)))
theorem op_mod : OpR X (binaryOp .Mod) (rI (fun _ j => 0 < j) fun i j => .int (i % j)) := opI fun i j _ _ _ _ _ hc q => by
  have h1 : (0 : Int) < j := hc
  exact mod_int' (by omega) (by rw [Int.fmod_eq_emod_of_nonneg i (by omega)]; exact q)
theorem op_pow : OpR X (binaryOp .Pow) (rI CPow fun i j => .int (i ^ j.toNat)) := opI fun _ _ _ _ _ _ _ hc q => pow_int_small hc.1 hc.2.1 hc.2.2 q
theorem op_shl : OpR X (binaryOp .LShift) (rI CPow fun i j => .int (i * 2 ^ j.toNat)) := opI fun _ _ _ _ _ _ _ hc q => lshift_int_small hc.1 hc.2.1 hc.2.2 q
theorem op_shr : OpR X (binaryOp .RShift) (rI (fun _ j => 0 ≤ j) fun i j => .int (i / 2 ^ j.toNat)) := opI fun i j _ _ _ _ _ hc q =>
  rshift_int hc (by rw [Int.fdiv_eq_ediv_of_nonneg i (two_pow_nn _)]; exact q)
theorem op_and : OpR X (binaryOp .BitAnd) (rI0 fun i j => .int (Builtin.bitAnd i j)) := opI0 fun _ _ _ _ _ _ _ q => and_int q
theorem op_xor : OpR X (binaryOp .BitXor) (rI0 fun i j => .int (Builtin.bitXor i j)) := opI0 fun _ _ _ _ _ _ _ q => xor_int q
theorem unI {f : Value → Sem Value} {g : Int → Int}
    (rule : ∀ (i : Int) (t : Tok) (s : Shared) (Q : Value → Shared → Prop) (E : Value → Shared → Prop), Q (.int (g i) s.toks) { s with toks := s.toks + 1 } → wpAny (model X.prog X.w) X.A (f (.int i t)) Q E s) :
    UnR X f (rU fun i => .int (g i)) := by
  intro pins s σ H x v Q I rx h
  obtain ⟨i, rfl, q⟩ := h
  obtain ⟨t, rfl⟩ := rx
  exact rule i t s _ _ ⟨.int (g i), H, I.tok _, ⟨_, rfl⟩, q⟩
theorem un_neg : UnR X (unaryOp .USub) (rU fun i => .int (-i)) := unI fun _ _ _ _ _ q => neg_int q
end
def scal : V → V → Bool
  | .non, .non => true | .non, .int _ => true | .int _, .non => true | .non, .bl _ => true | .bl _, .non => true | .non, .str _ => true | .str _, .non => true
  | .int _, .int _ => true | .bl _, .bl _ => true | .str _, .str _ => true | .byt _, .byt _ => true
  | .int _, .str _ => true | .str _, .int _ => true | .bl _, .str _ => true | .str _, .bl _ => true
  | _, _ => false
def rEq : R2 := fun x y H Q => scal x y = true ∧ Q (.bl (decide (x = y))) H
def rNe : R2 := fun x y H Q => scal x y = true ∧ Q (.bl (!decide (x = y))) H
theorem dec_int {i j : Int} : decide (V.int i = V.int j) = (i == j) := by
  rw [Bool.eq_iff_iff]
  simp
theorem dec_bl {i j : Bool} : decide (V.bl i = V.bl j) = (i == j) := by
  rw [Bool.eq_iff_iff]
  simp
theorem dec_str {i j : Str} : decide (V.str i = V.str j) = (i == j) := by
  rw [Bool.eq_iff_iff]
  simp
theorem dec_byt {i j : Array UInt8} : decide (V.byt i = V.byt j) = (i.toList == j.toList) := by
  rw [Bool.eq_iff_iff]
  cases i
  cases j
  simp
section
variable {X : Cx} {a b c : Expr} {ta tb tc : TE} {pos : Pos}
theorem fin_bl {pins : List (Addr × Obj)} {σ : St} {H : Hp} {s : Shared} {Q : VK} {k k' : Bool} (I : Inv X pins σ H s) (q : Q (.bl k) H) (e : k = k') : EP X pins σ Q (.bool k') s := by
  subst e
  exact ⟨.bl k, H, I, rfl, q⟩
theorem op_eq : OpR X (compareOp .Eq) rEq := by
  intro pins s σ H x y v u Q I rx ry h
  obtain ⟨hs, q⟩ := h
  cases x with
  | non =>
    cases rx
    cases y with
    | non => cases ry; exact PySem.EqNone.eq_none_none (fin_bl I q (by simp))
    | bl j => cases ry; exact PySem.EqNone.eq_none_bool (fin_bl I q (by simp))
    | int j => obtain ⟨t', rfl⟩ := ry; exact PySem.EqNone.eq_none_int (fin_bl I q (by simp))
    | str j => obtain ⟨t', rfl⟩ := ry; exact PySem.EqNone.eq_none_str (fin_bl I q (by simp))
    | _ => exact absurd (show false = true from hs) Bool.false_ne_true
  | bl i =>
    cases rx
    cases y with
    | non => cases ry; exact PySem.EqNone.eq_bool_none (fin_bl I q (by simp))
    | bl j => cases ry; exact eq_bool (fin_bl I q dec_bl)
    | str j => obtain ⟨t', rfl⟩ := ry; exact PySem.EqMixed.eq_bool_str (fin_bl I q (by simp))
    | _ => exact absurd (show false = true from hs) Bool.false_ne_true
  | int i =>
    obtain ⟨t, rfl⟩ := rx
    cases y with
    | non => cases ry; exact PySem.EqNone.eq_int_none (fin_bl I q (by simp))
    | int j => obtain ⟨t', rfl⟩ := ry; exact eq_int (fin_bl I q dec_int)
    | str j => obtain ⟨t', rfl⟩ := ry; exact PySem.EqMixed.eq_int_str (fin_bl I q (by simp))
    | _ => exact absurd (show false = true from hs) Bool.false_ne_true
  | str i =>
    obtain ⟨t, rfl⟩ := rx
    cases y with
    | non => cases ry; exact PySem.EqNone.eq_str_none (fin_bl I q (by simp))
    | bl j => cases ry; exact PySem.EqMixed.eq_str_bool (fin_bl I q (by simp))
    | int j => obtain ⟨t', rfl⟩ := ry; exact PySem.EqMixed.eq_str_int (fin_bl I q (by simp))
    | str j => obtain ⟨t', rfl⟩ := ry; exact eq_str (fin_bl I q dec_str)
    | _ => exact absurd (show false = true from hs) Bool.false_ne_true
  | byt i =>
    obtain ⟨t, rfl⟩ := rx
    cases y with
    | byt j => obtain ⟨t', rfl⟩ := ry; exact PySem.W.eq_bytes (fin_bl I q dec_byt)
    | _ => exact absurd (show false = true from hs) Bool.false_ne_true
  | _ => cases y <;> exact absurd (show false = true from hs) Bool.false_ne_true
theorem op_ne : OpR X (compareOp .NotEq) rNe := by
  intro pins s σ H x y v u Q I rx ry h
  obtain ⟨hs, q⟩ := h
  cases x with
  | non =>
    cases rx
    cases y with
    | non => cases ry; exact PySem.EqNone.ne_none_none (fin_bl I q (by simp))
    | bl j => cases ry; exact PySem.EqNone.ne_none_bool (fin_bl I q (by simp))
    | int j => obtain ⟨t', rfl⟩ := ry; exact PySem.EqNone.ne_none_int (fin_bl I q (by simp))
    | str j => obtain ⟨t', rfl⟩ := ry; exact PySem.EqNone.ne_none_str (fin_bl I q (by simp))
    | _ => exact absurd (show false = true from hs) Bool.false_ne_true
  | bl i =>
    cases rx
    cases y with
    | non => cases ry; exact PySem.EqNone.ne_bool_none (fin_bl I q (by simp))
    | bl j => cases ry; exact ne_bool (fin_bl I q (congrArg not dec_bl))
    | str j => obtain ⟨t', rfl⟩ := ry; exact PySem.EqMixed.ne_bool_str (fin_bl I q (by simp))
    | _ => exact absurd (show false = true from hs) Bool.false_ne_true
  | int i =>
    obtain ⟨t, rfl⟩ := rx
    cases y with
    | non => cases ry; exact PySem.EqNone.ne_int_none (fin_bl I q (by simp))
    | int j => obtain ⟨t', rfl⟩ := ry; exact ne_int (fin_bl I q (congrArg not dec_int))
    | str j => obtain ⟨t', rfl⟩ := ry; exact PySem.EqMixed.ne_int_str (fin_bl I q (by simp))
    | _ => exact absurd (show false = true from hs) Bool.false_ne_true
  | str i =>
    obtain ⟨t, rfl⟩ := rx
    cases y with
    | non => cases ry; exact PySem.EqNone.ne_str_none (fin_bl I q (by simp))
    | bl j => cases ry; exact PySem.EqMixed.ne_str_bool (fin_bl I q (by simp))
    | int j => obtain ⟨t', rfl⟩ := ry; exact PySem.EqMixed.ne_str_int (fin_bl I q (by simp))
    | str j => obtain ⟨t', rfl⟩ := ry; exact ne_str (fin_bl I q (congrArg not dec_str))
    | _ => exact absurd (show false = true from hs) Bool.false_ne_true
  | byt i =>
    obtain ⟨t, rfl⟩ := rx
    cases y with
    | byt j => obtain ⟨t', rfl⟩ := ry; exact PySem.W.ne_bytes (fin_bl I q (congrArg not dec_byt))
    | _ => exact absurd (show false = true from hs) Bool.false_ne_true
  | _ => cases y <;> exact absurd (show false = true from hs) Bool.false_ne_true
theorem op_lt : OpR X (compareOp .Lt) (rI0 fun i j => .bl (decide (i < j))) := opB0 fun _ _ _ _ _ _ _ q => lt_int q
theorem op_le : OpR X (compareOp .LtE) (rI0 fun i j => .bl (decide (i ≤ j))) := opB0 fun _ _ _ _ _ _ _ q => le_int q
theorem op_gt : OpR X (compareOp .Gt) (rI0 fun i j => .bl (decide (j < i))) := opB0 fun _ _ _ _ _ _ _ q => gt_int q
theorem op_ge : OpR X (compareOp .GtE) (rI0 fun i j => .bl (decide (j ≤ i))) := opB0 fun _ _ _ _ _ _ _ q => ge_int q
theorem nomark (b : Expr) {op : CmpOp} (h : op ≠ .In := by decide) (h2 : op ≠ .NotIn := by decide) : behindInMarks op b = false := by
  have e1 : (op == CmpOp.In) = false := by cases op <;> first | rfl | exact absurd rfl h
  have e2 : (op == CmpOp.NotIn) = false := by cases op <;> first | rfl | exact absurd rfl h2
  cases b <;> simp [behindInMarks, e1, e2]
theorem pe_cmpR {op : CmpOp} {r : R2} (ho : OpR X (compareOp op) r) (ha : PE X a ta) (hb : PE X b tb) (hm : behindInMarks op b = false) : PE X (.Compare a [op] [b] pos) (tOp r ta tb) := by
  intro pins s σ H Q I h
  exact wpAny_Compare1 (binT ha hb I h fun v u s2 x y H2 I2 rx ry q => ho pins s2 σ H2 x y v u Q I2 rx ry q) hm
def tTest (t : TE) : TT := fun σ H Q => t σ H fun x H' => ∃ k, x = .bl k ∧ Q k H'
theorem pt_cmpR {op : CmpOp} {r : R2} (ho : OpR X (compareOp op) r) (ha : PE X a ta) (hb : PE X b tb) (hm : behindInMarks op b = false) : PT X (.Compare a [op] [b] pos) (tTest (tOp r ta tb)) := by
  intro pins s σ H Q I h
  refine wpAny_isTrue_Compare1 (thn (ha pins s σ H _ I h) fun v s1 ⟨x, H1, I1, r1, q1⟩ => thn (hb pins s1 σ H1 _ I1 q1) fun u s2 ⟨y, H2, I2, r2, q2⟩ =>
    thn (ho pins s2 σ H2 x y v u _ I2 r1 r2 q2) fun c s3 ⟨z, H3, I3, r3, k, e, q3⟩ => ?_) hm
  subst e
  cases r3
  exact wpAny_truthy_bool ⟨H3, I3, q3⟩
def tChain (r r' : R2) (ta tb tc : TE) : TE := fun σ H Q => ta σ H fun x H1 => tb σ H1 fun y H2 => r x y H2 fun z H3 => ∃ k, z = .bl k ∧
  (if k = true then tc σ H3 fun w' H4 => r' y w' H4 Q else Q (.bl false) H3)
theorem pt_chain {op op' : CmpOp} {r r' : R2} (ho : OpR X (compareOp op) r) (ho' : OpR X (compareOp op') r') (ha : PE X a ta) (hb : PE X b tb) (hc : PE X c tc)
    (hm : lastMarks [op, op'] [b, c] = false := by with_unfolding_all rfl) : PT X (.Compare a [op, op'] [b, c] pos) (tTest (tChain r r' ta tb tc)) := by
  intro pins s σ H Q I h
  refine isTrue_chain (thn (ha pins s σ H _ I h) fun v s1 ⟨x, H1, I1, r1, q1⟩ => test_link (thn (hb pins s1 σ H1 _ I1 q1) fun u s2 ⟨y, H2, I2, r2, q2⟩ =>
    thn (ho pins s2 σ H2 x y v u _ I2 r1 r2 q2) fun d s3 ⟨z, H3, I3, r3, k, e, q3⟩ => ?_)) hm
  subst e
  cases r3
  refine wpAny_truthy_bool ?_
  cases k with
  | false =>
    obtain ⟨k', e', q'⟩ := q3
    cases e'
    exact ite_ff ⟨H3, I3, q'⟩
  | true =>
    refine ite_tt (test_last (thn (hc pins s3 σ H3 _ I3 q3) fun w' s4 ⟨z', H4, I4, r4, q4⟩ => thn (ho' pins s4 σ H4 y z' u w' _ I4 r2 r4 q4) fun d' s5 ⟨z2, H5, I5, r5, k2, e2, q5⟩ => ?_))
    subst e2
    cases r5
    exact wpAny_truthy_bool ⟨H5, I5, q5⟩
theorem line63 : (sizeLine : Nat) < 2 ^ 63 := by rw [sizeLine_eq]; decide
theorem op_add_str : OpR X (binaryOp .Add) (fun x y H Q => ∃ i j, x = .str i ∧ y = .str j ∧ i.length + j.length ≤ sizeLine ∧ Q (.str (i ++ j)) H) := by
  intro pins s σ H x y v u Q I rx ry h
  obtain ⟨i, j, rfl, rfl, hz, q⟩ := h
  obtain ⟨t, rfl⟩ := rx
  obtain ⟨t', rfl⟩ := ry
  exact add_str (fun t' tk => ⟨.str (i ++ j), H, I.tok _, ⟨_, rfl⟩, q⟩) hz
theorem vals1 {x : V} {us : List Value} (r : Vals [x] us) : ∃ u, us = [u] ∧ RelV x u := by
  cases r with
  | cons r1 r2 => cases r2; exact ⟨_, rfl, r1⟩
theorem vals2 {x y : V} {us : List Value} (r : Vals [x, y] us) : ∃ u w', us = [u, w'] ∧ RelV x u ∧ RelV y w' := by
  cases r with
  | cons r1 r2 =>
    cases r2 with
    | cons r3 r4 => cases r4; exact ⟨_, _, rfl, r1, r3⟩
theorem call_max2 (hc : X.calm = true) : CallR X (.builtin "max") (fun xs H Q => ∃ i j, xs = [.int i, .int j] ∧ Q (.int (if j > i then j else i)) H) := by
  intro pins s σ H xs us Q I r h
  obtain ⟨i, j, rfl, q⟩ := h
  obtain ⟨u, w', rfl, ⟨t, rfl⟩, ⟨t', rfl⟩⟩ := vals2 r
  refine max_two_ints (I.ok.hd hc) fun h' tk k => ⟨_, H, I.kept k, ?_, q⟩
  by_cases hj : j > i
  · rw [if_pos hj, if_pos hj]; exact ⟨_, rfl⟩
  · rw [if_neg hj, if_neg hj]; exact ⟨_, rfl⟩
theorem call_min2 (hc : X.calm = true) : CallR X (.builtin "min") (fun xs H Q => ∃ i j, xs = [.int i, .int j] ∧ Q (.int (if j < i then j else i)) H) := by
  intro pins s σ H xs us Q I r h
  obtain ⟨i, j, rfl, q⟩ := h
  obtain ⟨u, w', rfl, ⟨t, rfl⟩, ⟨t', rfl⟩⟩ := vals2 r
  refine min_two_ints (I.ok.hd hc) fun h' tk k => ⟨_, H, I.kept k, ?_, q⟩
  by_cases hj : j < i
  · rw [if_pos hj, if_pos hj]; exact ⟨_, rfl⟩
  · rw [if_neg hj, if_neg hj]; exact ⟨_, rfl⟩
theorem call_int1 : CallR X (.type "int") (fun xs H Q => (∃ i, xs = [.int i] ∧ Q (.int i) H) ∨ ∃ k, xs = [.bl k] ∧ Q (.int (if k then 1 else 0)) H) := by
  intro pins s σ H xs us Q I r h
  rcases h with ⟨i, rfl, q⟩ | ⟨k, rfl, q⟩
  · obtain ⟨u, rfl, t, rfl⟩ := vals1 r
    exact call_int_int ⟨.int i, H, I, ⟨_, rfl⟩, q⟩
  · obtain ⟨u, rfl, r1⟩ := vals1 r
    cases r1
    exact call_int_bool ⟨.int (if k then 1 else 0), H, I.tok _, ⟨_, rfl⟩, q⟩
end
end L2
namespace L2
open PySem PySem.Spec PyProof.Rows
structure ObjM (h : Heap) (x dx C : Addr) (mA : Str → Option Value) : Prop where
  obj : h.get? x = some (PySem.W.instObj C dx)
  ns : h.Ns1 dx mA
  ne : dx ≠ x
theorem lookIn_ns {h : Heap} {dx : Addr} {mA : Str → Option Value} (n : h.Ns1 dx mA) : ∃ od, h.get? dx = some od ∧ ∀ name, PySem.W.lookIn name od = some (mA name) := by
  obtain ⟨o, es, ep, ho, hd, hk, _, hm⟩ := n
  refine ⟨o, ho, fun name => ?_⟩
  have e := hm name
  unfold nsFind findBy at e
  rw [← Array.find?_toList] at e
  unfold PySem.W.lookIn
  rw [hd]
  dsimp only
  split
  · rename_i y q
    rw [q] at e
    exact congrArg some e
  · rename_i q
    rw [q] at e
    have a : es.toList.any (·.refKey) = false := by
      rw [List.any_eq_false]
      intro y hy
      obtain ⟨z, t, hkey⟩ := hk y (Array.mem_toList_iff.mp hy)
      simp [DictEntry.refKey, hkey]
    have a' : ¬ es.toList.any (·.refKey) = true := by rw [a]; exact Bool.false_ne_true
    rw [if_neg a']
    exact congrArg some e
theorem ObjM.look {h : Heap} {x dx C : Addr} {mA : Str → Option Value} (I : ObjM h x dx C mA) : ∃ od, PySem.W.InstAt h x (PySem.W.instObj C dx) C (some od) ∧ ∀ name, PySem.W.lookIn name od = some (mA name) :=
  let ⟨od, ho, hl⟩ := lookIn_ns I.ns
  ⟨od, ⟨I.obj, rfl, rfl, ho⟩, hl⟩
section
variable {prog : Program} {w : World} {A : Around} {E : Value → Shared → Prop} {s : Shared} {K : PySem.W.Frag} {x dx C f : Addr} {mA : Str → Option Value} {name : Str} {v : Value}
end
theorem RelO.some_of {v : V} {o : Option Value} (r : RelO (some v) o) : ∃ u, o = some u ∧ RelV v u := by
  cases o with
  | none => exact (show False from r).elim
  | some u => exact ⟨u, rfl, r⟩
section
variable {P : Program} {w : World} {H H' : Hp} {h h' : Heap} {a C dx : Addr} {fs fs' : List (Str × V)}
theorem ins_get (hok : HOk P w H h) (e : H a = some (.ins C dx fs)) : ∃ mA, ObjM h a dx C mA ∧ (∀ f, RelO (fs.lookup f) (mA f)) ∧ PySem.Within mA (fs.map (·.1)) ∧ fs.length ≤ 1000 ∧ H dx = some (.own a) := by
  obtain ⟨d, z, ne, ob, mA, n, r, q⟩ := (show ObjOk P w H h a (.ins C dx fs) from hok a _ e)
  exact ⟨mA, ⟨ob, n, ne⟩, r, q, z, d⟩
end
structure Cls (K : PySem.W.Frag) (C : Addr) : Prop where
  pg : PySem.W.plainGet K C Str.empty = true
  hd : PySem.W.hasDictIn K C = true
  po : PySem.W.plainOver K C = true
  sa : PySem.W.findIn K (.ref C) "__setattr__" = some (some (.builtin "object.__setattr__"))
theorem Cls.get {K : PySem.W.Frag} {C : Addr} (c : Cls K C) (f : Str) : PySem.W.plainGet K C f = true := c.pg
structure Con (K : PySem.W.Frag) (C : Addr) (f : Str) (v : V) (u : Value) : Prop where
  at_ : PySem.W.findIn K (.ref C) f = some (some u)
  rel : RelV v u
  get : PySem.W.specialIn K u "__get__" = some none
  cp : PySem.W.copiedNames.contains f = false
structure Meth (K : PySem.W.Frag) (C : Addr) (m : Str) (f : Addr) : Prop where
  at_ : PySem.W.findIn K (.ref C) m = some (some (.ref f))
  fn : PySem.W.isFn K (.ref f) = true
  kp : PySem.W.keepIn K (.ref f) = true
section
variable {X : Cx} {pins : List (Addr × Obj)} {σ : St} {H : Hp} {s : Shared} {a C dx : Addr} {fs : List (Str × V)} {f : Str} {v : V} {A : Around} {E : Value → Shared → Prop}
end
section
variable {X : Cx} {o e value : Expr} {f : Str} {pos pos' tpos : Pos} {ta tv : TE}
end
section
variable {X : Cx} {pins : List (Addr × Obj)} {σ : St} {H : Hp} {s : Shared} {A : Around} {E : Value → Shared → Prop} {Q : Value → Shared → Prop} {c : Value} {b : Bool}
inductive TyOf (K : PySem.W.Frag) (H : Hp) : V → Value → Prop where
  | non : TyOf K H .non (.type "NoneType")
  | bl (x : Bool) : TyOf K H (.bl x) (.type "bool")
  | int (i : Int) : TyOf K H (.int i) (.type "int")
  | str (x : Str) : TyOf K H (.str x) (.type "str")
  | flt (x : UInt64) : TyOf K H (.flt x) (.type "float")
  | lst {a : Addr} {xs : List V} (e : H a = some (.lst xs)) : TyOf K H (.ref a) (.type "list")
  | frz {a : Addr} {o : Obj} {xs : List V} (e : H a = some (.frz o (.lst xs))) : TyOf K H (.ref a) (.type "list")
  | tup {a : Addr} {xs : List V} (e : H a = some (.tup xs)) : TyOf K H (.ref a) (.type "tuple")
  | dK {a : Addr} {kvs : List (Key × V)} (e : H a = some (.dK kvs)) : TyOf K H (.ref a) (.type "dict")
  | dT {a : Addr} {kvs : List (List Key × V)} (e : H a = some (.dT kvs)) : TyOf K H (.ref a) (.type "dict")
  | ins {a C dx : Addr} {fs : List (Str × V)} (e : H a = some (.ins C dx fs)) (cl : Cls K C) (ha : PySem.W.findIn K (.ref C) "__class__" = some (some (.builtin "object.__class__")))
      (hn : PySem.W.specialIn K (.builtin "object.__class__") "__get__" = some (some (.builtin "getset_descriptor.__get__"))) (htk : PySem.W.takesIn K (.builtin "object.__class__") = some true)
      (hm : PySem.W.mroIn K C (.type "object") = some true) : TyOf K H (.ref a) (.ref C)
theorem isinst_ok {x : V} {u t : Value} (I : Inv X pins σ H s) (rx : RelV x u) (ty : TyOf X.K H x t) (e : PySem.W.kitOne X.K t c = some b) (h : ∀ tk, Q (.bool b) { s with toks := tk }) :
    wpAny (model X.prog X.w) A (call (.builtin "isinstance") [u, c]) Q E s := by
  cases ty with
  | non => cases (show u = Value.none from rx); exact PySem.W.kia_one PySem.W.kitx_none I.kIn True.intro e (fun z => nomatch z) h
  | bl y => cases (show u = Value.bool y from rx); exact PySem.W.kia_one PySem.W.kitx_bool I.kIn True.intro e (fun z => nomatch z) h
  | int i => obtain ⟨t, q⟩ := (show ∃ t, u = Value.int i t from rx); cases q; exact PySem.W.kia_one PySem.W.kitx_int I.kIn True.intro e (fun z => nomatch z) h
  | str y => obtain ⟨t, q⟩ := (show ∃ t, u = Value.str y t from rx); cases q; exact PySem.W.kia_one PySem.W.kitx_str I.kIn True.intro e (fun z => nomatch z) h
  | flt y => obtain ⟨t, q⟩ := (show ∃ t, u = Value.float y t from rx); cases q; exact PySem.W.kia_one PySem.W.kitx_float I.kIn True.intro e (fun z => nomatch z) h
  | @lst a xs ea =>
    cases (show u = Value.ref a from rx)
    obtain ⟨_, _, n, _, h1⟩ := (show ObjOk X.prog X.w H s.heap a (.lst xs) from I.hok a _ ea)
    exact PySem.W.kia_one PySem.W.kitx_list I.kIn ⟨_, h1, rfl⟩ e (fun z => nomatch z) h
  | @frz a ob xs ea =>
    cases (show u = Value.ref a from rx)
    obtain ⟨_, _, _, n, _, h1⟩ := (show ObjOk X.prog X.w H s.heap a (.frz ob (.lst xs)) from I.hok a _ ea)
    exact PySem.W.kia_one PySem.W.kitx_list I.kIn ⟨_, h1, rfl⟩ e (fun z => nomatch z) h
  | @tup a xs ea =>
    cases (show u = Value.ref a from rx)
    obtain ⟨_, _, _, p⟩ := (show ObjOk X.prog X.w H s.heap a (.tup xs) from I.hok a _ ea)
    obtain ⟨o, h1, h2, _⟩ := p
    exact PySem.W.kia_one PySem.W.kitx_tuple I.kIn ⟨o, h1, h2⟩ e (fun z => nomatch z) h
  | @dK a kvs ea =>
    cases (show u = Value.ref a from rx)
    obtain ⟨_, _, vs, _, p⟩ := (show ObjOk X.prog X.w H s.heap a (.dK kvs) from I.hok a _ ea)
    obtain ⟨o, es, ep, h1, h2, _⟩ := p
    exact PySem.W.kia_one PySem.W.kitx_dict I.kIn ⟨o, h1, h2.1⟩ e (fun z => nomatch z) h
  | @dT a kvs ea =>
    cases (show u = Value.ref a from rx)
    obtain ⟨_, _, xs, _, o, es, ep, h1, h2, _⟩ := (show ObjOk X.prog X.w H s.heap a (.dT kvs) from I.hok a _ ea)
    exact PySem.W.kia_one PySem.W.kitx_dict I.kIn ⟨o, h1, h2.1⟩ e (fun z => nomatch z) h
  | @ins a C dx fs ea cl ha hn htk hm =>
    cases (show u = Value.ref a from rx)
    obtain ⟨mA, O, _⟩ := ins_get I.hok ea
    obtain ⟨od, J, _⟩ := O.look
    exact PySem.W.kia_one (PySem.W.kitx_own (cl.get _) cl.hd ha hn htk hm) I.kIn J e (fun z => nomatch z) h
end
end L2
namespace L2
open PySem PySem.Spec PyProof.Rows
structure Room (k : Nat) (A : Around) : Prop where
  hd : A.handled = none
  dp : A.depth + 3 * k + 5 < recursionLimit
  un : A.units + 16 * k + 200 < cLine
theorem Room.mono {j k : Nat} {A : Around} (r : Room k A) (h : j ≤ k) : Room j A := ⟨r.hd, by have := r.dp; omega, by have := r.un; omega⟩
theorem Room.deeper {k : Nat} {A : Around} (r : Room (k + 1) A) (env : Env) : Room k (A.deeper env) :=
  ⟨r.hd, by have := r.dp; show A.depth + 1 + 3 * k + 5 < _; omega, by have := r.un; show A.units + 3 + 16 * k + 200 < _; omega⟩
theorem Room.in1 {k : Nat} {A : Around} (r : Room (k + 1) A) : Room k A.in1 :=
  ⟨r.hd, by have := r.dp; show A.depth + 3 * k + 5 < _; omega, by have := r.un; show A.units + 1 + 16 * k + 200 < _; omega⟩
theorem Room.depth {k : Nat} {A : Around} (r : Room k A) : A.depth < recursionLimit := by have := r.dp; omega
theorem Room.units {k : Nat} {A : Around} (r : Room k A) : A.units + 64 < cLine := by have := r.un; omega
def tNil : TA := fun _ H Q => Q [] H
def tCons (ta : TE) (tr : TA) : TA := fun σ H Q => ta σ H fun x H1 => tr σ H1 fun xs H2 => Q (x :: xs) H2
section
variable {X : Cx} {e : Expr} {es : List Expr} {te : TE} {t : TA} {pos : Pos}
theorem pa_nil : PA X [] tNil := fun _ _ _ _ H Q I h => Calls.spliced_nil ⟨[], H, I, .nil, h⟩
theorem pa_cons (ha : PE X e te) (hr : PA X es t) (hs : starEach (e :: es) X.env = (false, eval e X.env) :: starEach es X.env := by rfl) : PA X (e :: es) (tCons te t) := by
  intro pos pins s σ H Q I h
  rw [hs]
  show wpAny _ _ (spliced ((false, eval e X.env) :: backTo pos (starEach es X.env))) _ _ s
  refine Calls.spliced_cons (thn (ha pins s σ H _ I h) fun u s1 ⟨x, H1, I1, r1, q1⟩ => ?_)
  exact thn (hr pos pins s1 σ H1 _ I1 q1) fun us s2 ⟨xs, H2, I2, r2, q2⟩ => ⟨x :: xs, H2, I2, .cons r1 r2, q2⟩
def tTup (t : TA) : TE := fun σ H Q => t σ H fun xs H1 => xs.length ≤ sizeLine ∧ ∀ p, H1 p = none → Q (.ref p) (upd H1 p (.tup xs))
def tLst (t : TA) : TE := fun σ H Q => t σ H fun xs H1 => xs.length ≤ sizeLine ∧ ∀ p, H1 p = none → Q (.ref p) (upd H1 p (.lst xs))
theorem pe_tup {x1} (h : PA X es t) : PE X (.Tuple es x1 pos) (tTup t) := by
  intro pins s σ H Q I hq
  refine wpAny_Tuple_spliced (thn (h pos pins s σ H _ I hq) fun us s1 ⟨xs, H1, I1, r, z, q⟩ => ⟨by rw [← r.length]; exact z, ?_⟩)
  have hf : H1 s1.heap.objs.size = none := I1.hok.fresh (Nat.le_refl _)
  refine ⟨.ref s1.heap.objs.size, upd H1 s1.heap.objs.size (.tup xs), I1.laid (t' := s1.toks) (fun b u e => Heap.get?_push_of_some _ e) (Nat.le_refl _) ?_, rfl, q _ hf⟩
  exact ⟨z, us, r, ⟨_, Heap.get?_push_size _ rfl, rfl, _, rfl⟩⟩
theorem pe_lst (h : PA X es t) : PE X (.List es pos) (tLst t) := by
  intro pins s σ H Q I hq
  refine wpAny_List_spliced (thn (h pos pins s σ H _ I hq) fun us s1 ⟨xs, H1, I1, r, z, q⟩ => ⟨by rw [← r.length]; exact z, ?_⟩)
  have hf : H1 s1.heap.objs.size = none := I1.hok.fresh (Nat.le_refl _)
  refine ⟨.ref s1.heap.objs.size, upd H1 s1.heap.objs.size (.lst xs), I1.laid (t' := s1.toks) (fun b u e => Heap.get?_push_of_some _ e) (Nat.le_refl _) ?_, rfl, q _ hf⟩
  exact ⟨z, us, 0, r, Heap.get?_push_size _ rfl⟩
end
abbrev Sp := List V → Hp → VK → XK → Prop
abbrev CXT := List Env → Hp → Shared → XK → Value → Shared → Prop
structure Env0 (P : Program) (w : World) (K : PySem.W.Frag) (mg : Str → Option Value) (base : Heap) (A : Around) (outer : List Env) (s : Shared) (H : Hp) : Prop where
  frames : A.frames = some outer
  mod : Mod K mg base
  bs : ∀ b o, base.get? b = some o → s.heap.get? b = some o ∧ H b = none
  bsz : base.objs.size ≤ s.heap.objs.size
  funs : s.heap.FunFrames base outer
  frf : ∀ b ∈ frs outer, H b = none
  hok : HOk P w H s.heap
  bare : AllBare s.gens
def CE (outer : List Env) (P : Program) (w : World) (H : Hp) (s : Shared) (Q : VK) (u : Value) (s' : Shared) : Prop :=
  ∃ v H', s'.os = s.os ∧ AllBare s'.gens ∧ Un (frs outer) [] H H' s.heap s'.heap ∧ HOk P w H' s'.heap ∧ RelV v u ∧ Q v H'
def CR (CX : CXT) (outer : List Env) (P : Program) (w : World) (H : Hp) (s : Shared) (Q : VK) (E : XK) (r : Result) (s' : Shared) : Prop :=
  match r with
  | .ok (.ret u) => CE outer P w H s Q u s'
  | .ok _ => False
  | .error e => CX outer H s E e s'
structure FnOk (P : Program) (w : World) (K : PySem.W.Frag) (mg : Str → Option Value) (base : Heap) (CX : CXT) (k : Nat) (f : Addr) (fd : FuncData) (ps : List Str) (sp : Sp) : Prop where
  len : ∀ vs H Q E, sp vs H Q E → vs.length = ps.length
  run : ∀ (A : Around) (outer : List Env) (s : Shared) (H : Hp) (args : Args) (us : List Value) (vs : List V) (Q : VK) (E : XK), Room k A → Env0 P w K mg base A outer s H → BindsTo s fd args (ps.zip us) → Vals vs us → sp vs H Q E →
    codeAny (model P w) A (.call (.ref f) args) (CR CX outer P w H s Q E) s
theorem Env0.in1 {P : Program} {w : World} {K : PySem.W.Frag} {mg : Str → Option Value} {base : Heap} {A : Around} {outer : List Env} {s : Shared} {H : Hp} (e : Env0 P w K mg base A outer s H) :
    Env0 P w K mg base A.in1 outer s H := ⟨e.frames, e.mod, e.bs, e.bsz, e.funs, e.frf, e.hok, e.bare⟩
section
variable {X : Cx} {pins : List (Addr × Obj)} {σ : St} {H : Hp} {s s' : Shared}
theorem Inv.env0 (I : Inv X pins σ H s) : Env0 X.prog X.w X.K X.mg X.base X.A X.stack s H :=
  ⟨I.ok.frames, I.ok.mod, I.bs, Nat.le_trans I.ok.bsz I.sz, I.stack, I.stkFree, I.hok, I.bare⟩
theorem Inv.after {Q : VK} {u : Value} (I : Inv X pins σ H s) (h : CE X.stack X.prog X.w H s Q u s') : EP X pins σ Q u s' := by
  obtain ⟨v, H', os, bare, un, hok, r, q⟩ := h
  obtain ⟨hh, g, d, t, os'⟩ := s'
  obtain rfl : os' = s.os := os
  exact ⟨v, H', I.call (h' := hh) (g' := g) (d' := d) (t' := t) (ch := []) un hok bare (fun b z => absurd z (by simp)), r, q⟩
end
def tCall (sp : Sp) (dvs : List V) (E : XK) (t : TA) : TE := fun σ H Q => t σ H fun vs H1 => sp (vs ++ dvs) H1 Q E
def Binds (K : PySem.W.Frag) (fd : FuncData) (ps : List Str) (ds : List Value) : Prop :=
  ∀ (s : Shared) (us : List Value), K.In s.heap → (us ++ ds).length = ps.length → BindsTo s fd ⟨us, []⟩ (ps.zip (us ++ ds))
theorem Binds.all {K : PySem.W.Frag} {fd : FuncData} {ps : List Str} (h : ∀ us : List Value, us.length = ps.length → bindArgs fd ⟨us, []⟩ = pure (ps.zip us)) : Binds K fd ps [] := fun s us _ hl => by
  rw [List.append_nil] at hl ⊢
  exact .of_eq (h us hl)
def Passes (CX : CXT) (X : Cx) (E : XK) : Prop := ∀ (pins : List (Addr × Obj)) (σ : St) (H : Hp) (s : Shared) (e : Value) (s' : Shared), Inv X pins σ H s → CX X.stack H s E e s' → X.xe e s'
section
variable {X : Cx} {CX : CXT} {k : Nat} {f C : Addr} {fd : FuncData} {ps : List Str} {sp : Sp} {dvs : List V} {ds : List Value} {E : XK} {x m : Str} {p pos apos : Pos} {e o : Expr} {es : List Expr} {ta : TE} {t : TA}
theorem run_fn {pins : List (Addr × Obj)} {σ : St} {H : Hp} {s : Shared} {Q : VK} {us : List Value} {vs : List V} (F : FnOk X.prog X.w X.K X.mg X.base CX k f fd ps sp) (hr : Room k X.A) (hb : Binds X.K fd ps ds) (hd : Vals dvs ds) (hx : Passes CX X E)
    (I : Inv X pins σ H s) (r : Vals vs us) (h : sp (vs ++ dvs) H Q E) : wpAny (model X.prog X.w) X.A (call (.ref f) us) (EP X pins σ Q) X.xe s := by
  have r2 : Vals (vs ++ dvs) (us ++ ds) := r.append hd
  have hl : (us ++ ds).length = ps.length := by rw [← r2.length]; exact F.len _ _ _ _ h
  refine wpAny_call (codeAny_mono (F.run X.A X.stack s H ⟨us, []⟩ (us ++ ds) (vs ++ dvs) Q E hr I.env0 (hb s us I.kIn hl) r2 h) fun r s' hq => ?_)
  cases r with
  | error e => exact hx pins σ H s e s' I hq
  | ok fl =>
    cases fl with
    | ret u => exact I.after hq
    | next => exact False.elim hq
    | brk => exact False.elim hq
    | cont => exact False.elim hq
theorem pe_call (F : FnOk X.prog X.w X.K X.mg X.base CX k f fd ps sp) (hr : Room k X.A) (hg : Gl X x) (hm : X.mg x = some (.ref f)) (hk : PySem.W.keepIn X.K (.ref f) = true) (hb : Binds X.K fd ps ds) (hd : Vals dvs ds) (hx : Passes CX X E)
    (ha : PA X (e :: es) t) (hdb : (x == ("__debug__" : Str)) = false := by decide) (he : starEach (e :: es) X.env = (false, eval e X.env) :: starEach es X.env := by rfl) (hpl : (backTo pos (starEach es X.env)).any (·.1) = false := by rfl) :
    PE X (.Call (.Name x p) (e :: es) [] pos) (tCall sp dvs E t) := by
  intro pins s σ H Q I h
  refine wpAny_Call_Name_kw (ld_glob I hg hm ?_ hdb)
  refine PySem.W.callWith_K (h₀ := X.base) I.ok.mod.kin hk (thn (ha pos pins s σ H _ I h) fun us s1 ⟨vs, H1, I1, r, q⟩ => ⟨I1.kIn, ?_⟩) he hpl
  exact run_fn F hr hb hd hx I1 r q
structure Mk (K : PySem.W.Frag) (C f : Addr) : Prop where
  makes : PySem.W.makesIn K C = true
  init : PySem.W.findIn K (.ref C) "__init__" = some (some (.ref f))
  fn : PySem.W.isFn K (.ref f) = true
  kp : PySem.W.keepIn K (.ref C) = true
end
section
variable {X : Cx} {CX : CXT} {k : Nat} {f C : Addr} {fd : FuncData} {ps ks : List Str} {sp : Sp} {E : XK} {x m : Str} {p pos apos kpos : Pos} {e o : Expr} {es : List Expr} {kws : List Keyword} {te ta : TE} {t tk : TA} {nm : Option Str}
structure KBinds (K : PySem.W.Frag) (fd : FuncData) (ps ks : List Str) (g : List Value → List Value → List Value) (gV : List V → List V → List V) : Prop where
  to : ∀ (s : Shared) (us ws : List Value), K.In s.heap → (g us ws).length = ps.length → BindsTo s fd ⟨us, ks.zip ws⟩ (ps.zip (g us ws))
  rel : ∀ {vs : List V} {us : List Value} {zs : List V} {ws : List Value}, Vals vs us → Vals zs ws → Vals (gV vs zs) (g us ws)
variable {g : List Value → List Value → List Value} {gV : List V → List V → List V}
end
structure FnScope (N P : List Str) (sc : Scope) : Prop where
  kind : sc.kind = .function
  co : sc.isCoroutine = false
  gen : sc.isGenerator = false
  nd : N.Nodup
  pre : N.take P.length = P
  par : ∀ x ∈ P, sc.names.lookup x = some .local ∨ sc.names.lookup x = some .cell
  nofree : ∀ y ∈ sc.names, y.2 ≠ .free
theorem bindL_out {kindOf : Str → Option NameKind} {x : Str} : ∀ {binds : List (Str × Value)} {m : Str → Option Value}, (∀ v, (x, v) ∉ binds) → bindL kindOf binds m x = m x
  | [], _, _ => rfl
  | (n, v) :: r, m, h => by
    unfold bindL
    rw [bindL_out fun w hw => h w (List.mem_cons_of_mem _ hw)]
    split
    · have : x ≠ n := by rintro rfl; exact h v List.mem_cons_self
      simp [this]
    · rfl
theorem bindC_out {kindOf : Str → Option NameKind} {x : Str} : ∀ {binds : List (Str × Value)} {m : Str → Option Value}, (∀ v, (x, v) ∉ binds) → bindC kindOf binds m x = m x
  | [], _, _ => rfl
  | (n, v) :: r, m, h => by
    unfold bindC
    rw [bindC_out fun w hw => h w (List.mem_cons_of_mem _ hw)]
    split
    · rfl
    · have : x ≠ n := by rintro rfl; exact h v List.mem_cons_self
      simp [this]
theorem bindL_get {kindOf : Str → Option NameKind} {x : Str} {v : Value} : ∀ {P : List Str} {vs : List Value} {i : Nat} {m : Str → Option Value}, P.Nodup → P[i]? = some x → vs[i]? = some v → kindOf x = some .local →
    bindL kindOf (P.zip vs) m x = some v
  | [], _, _, _, _, h, _, _ => by simp at h
  | _ :: _, [], _, _, _, _, h, _ => by simp at h
  | p :: P, w :: vs, 0, m, nd, h1, h2, hk => by
    simp at h1 h2; subst h1; subst h2
    show bindL kindOf ((p, w) :: P.zip vs) m p = _
    unfold bindL
    rw [bindL_out fun v hv => (List.nodup_cons.mp nd).1 (List.of_mem_zip hv).1, if_pos hk]
    simp
  | p :: P, w :: vs, i + 1, m, nd, h1, h2, hk => by
    show bindL kindOf ((p, w) :: P.zip vs) m x = _
    unfold bindL
    exact bindL_get (i := i) (List.nodup_cons.mp nd).2 (by simpa using h1) (by simpa using h2) hk
theorem bindC_get {kindOf : Str → Option NameKind} {x : Str} {v : Value} : ∀ {P : List Str} {vs : List Value} {i : Nat} {m : Str → Option Value}, P.Nodup → P[i]? = some x → vs[i]? = some v → kindOf x ≠ some .local →
    bindC kindOf (P.zip vs) m x = some v
  | [], _, _, _, _, h, _, _ => by simp at h
  | _ :: _, [], _, _, _, _, h, _ => by simp at h
  | p :: P, w :: vs, 0, m, nd, h1, h2, hk => by
    simp at h1 h2; subst h1; subst h2
    show bindC kindOf ((p, w) :: P.zip vs) m p = _
    unfold bindC
    rw [bindC_out fun v hv => (List.nodup_cons.mp nd).1 (List.of_mem_zip hv).1, if_neg hk]
    simp
  | p :: P, w :: vs, i + 1, m, nd, h1, h2, hk => by
    show bindC kindOf ((p, w) :: P.zip vs) m x = _
    unfold bindC
    exact bindC_get (i := i) (List.nodup_cons.mp nd).2 (by simpa using h1) (by simpa using h2) hk
def start (N : List Str) (vs : List V) : St := vs.map some ++ List.replicate (N.length - vs.length) none
def cxOf (CX : CXT) (P : Program) (w : World) (K : PySem.W.Frag) (mg : Str → Option Value) (base : Heap) (N : List Str) (qual : Str) (scope : Scope) (f : Addr) (cd : Value) (A : Around) (outer : List Env) (s : Shared) (H : Hp) (E : XK) : Cx where
  prog := P
  w := w
  K := K
  mg := mg
  base := base
  A := A.deeper (envOfC qual scope s.heap.objs.size f cd)
  N := N
  s₀ := s
  H₀ := H
  env := envOfC qual scope s.heap.objs.size f cd
  outer := outer
  stack := envOfC qual scope s.heap.objs.size f cd :: outer
  ex := []
  calm := true
  fn := fun _ => true
  pn := []
  xe := fun e s' => wpAny (model P w) (A.deeper (envOfC qual scope s.heap.objs.size f cd)) (leaving (envOfC qual scope s.heap.objs.size f cd) e) (fun _ s'' => CX outer H s E e s'') (fun e' s'' => CX outer H s E e' s'') s'
theorem cell_has {sc : Scope} {n : Nat} {x : Str} (h : sc.names.lookup x = some .cell) : ∃ c, (cellsFrom n sc.names []).lookup x = some c := by
  have q := PySem.W.cellsFrom_some sc.names n [] (.inl h)
  exact Option.isSome_iff_exists.mp q
theorem inv_start {CX : CXT} {P : Program} {w : World} {K : PySem.W.Frag} {mg : Str → Option Value} {base : Heap} {N ps : List Str} {qual : Str} {scope : Scope} {f : Addr} {cd : Value} {A : Around} {outer : List Env} {s s1 : Shared} {H : Hp} {E : XK} {us : List Value} {vs : List V}
    (S : FnScope N ps scope) (hd : A.handled = none) (e0 : Env0 P w K mg base A outer s H) (hl : vs.length = ps.length) (r : Vals vs us)
    (x : InCallC s s.heap.objs.size (bindL (envOfC qual scope s.heap.objs.size f cd).kindOf (ps.zip us) fun _ => none) (cellsFrom (s.heap.objs.size + 1) scope.names []) (bindC (envOfC qual scope s.heap.objs.size f cd).kindOf (ps.zip us) fun _ => none) s1) :
    Inv (cxOf CX P w K mg base N qual scope f cd A outer s H E) [] (start N vs) H s1 := by
  have hpl : ps.length ≤ N.length := by have := congrArg List.length S.pre; rw [List.length_take] at this; omega
  obtain ⟨h1, tk, rfl, hk⟩ := x.done
  have noA : ∀ b : Addr, b ∉ (cxOf CX P w K mg base N qual scope f cd A outer s H E).ex := fun b z => absurd (show b ∈ ([] : List Addr) from z) (by simp)
  refine ⟨⟨e0.mod, S.kind, rfl, rfl, Nat.le_refl _, fun y z c h1 h2 => ?_, fun y hy => ?_, fun y c _ h => ?_, fun _ => hd, Around.frames_deeper e0.frames, .inr ⟨rfl, rfl⟩, fun b z => absurd z (noA b), e0.bs, e0.bsz, fun b _ _ => noA b, fun b z => absurd z (noA b), e0.funs, e0.frf⟩,
    rfl, e0.bare, Un.kept hk, ⟨_, x.toInCall.ns, fun i y v h1 h2 h3 => ?_⟩, fun y c h => ⟨_, x.cell y c h⟩, e0.hok.fresh (Nat.le_refl _), fun y c h => ?_, fun p hp => absurd (show p ∈ ([] : List (Addr × Obj)) from hp) (by simp), e0.hok.kept hk, ?_⟩
  · exact name_of_addr x.apart (PySem.mem_of_lookup h1) (PySem.mem_of_lookup h2)
  · have hy : scope.names.lookup y = some .cell ∨ scope.names.lookup y = some .free := hy
    rcases hy with hy | hy
    · exact cell_has hy
    · exact absurd rfl (S.nofree _ (PySem.mem_of_lookup hy))
  · exact Nat.le_of_lt (x.above y c (PySem.mem_of_lookup h))
  · have hi : i < vs.length := by
      unfold start at h2
      by_cases hi : i < vs.length
      · exact hi
      · rw [List.getElem?_append_right (by simpa using hi)] at h2
        rw [List.getElem?_replicate] at h2
        split at h2 <;> cases h2
    have ha : vs[i]? = some v := by
      unfold start at h2
      rw [List.getElem?_append_left (by simpa using hi), List.getElem?_map] at h2
      cases e : vs[i]? with
      | none => rw [e] at h2; cases h2
      | some a => rw [e] at h2; cases h2; rfl
    obtain ⟨u, hu, rv⟩ := r.get ha
    have hp : ps[i]? = some y := by
      rw [← S.pre, List.getElem?_take_of_lt (by omega)]; exact h1
    have ndP : ps.Nodup := by rw [← S.pre]; exact S.nd.sublist (List.take_sublist _ _)
    refine ⟨u, rv, ?_⟩
    rcases S.par y (List.mem_of_getElem? hp) with k | k
    · exact .inl ⟨k, bindL_get ndP hp hu k⟩
    · obtain ⟨c, e⟩ := cell_has (n := s.heap.objs.size + 1) k
      refine .inr ⟨.inl k, c, e, ?_⟩
      have q := x.cell y c e
      rw [bindC_get ndP hp hu (by show scope.names.lookup y ≠ _; rw [k]; decide)] at q
      exact q
  · exact e0.hok.fresh (Nat.le_of_lt (x.above y c (PySem.mem_of_lookup h)))
  · unfold start
    show _ = N.length
    rw [List.length_append, List.length_map, List.length_replicate]
    omega
theorem fn_of {CX : CXT} {P : Program} {w : World} {K : PySem.W.Frag} {mg : Str → Option Value} {base : Heap} {k : Nat} {f : Addr} {name qual : Str} {params : Arguments} {body : List Stmt} {scope : Scope} {dV kV doc pm cdv ct oc : Value} {an od : Option Addr}
    {osl : Array (Option Value)} {N ps : List Str} {sp : Sp} (lk : K.lookup f = some ⟨oc, od, .func (PySem.W.fnOf name qual params body scope dV kV doc pm an cdv ct), osl⟩) (hcd : PySem.W.codeIn K cdv qual = true) (S : FnScope N ps scope)
    (len : ∀ vs H Q E, sp vs H Q E → vs.length = ps.length)
    (hbody : ∀ (A : Around) (outer : List Env) (s : Shared) (H : Hp) (vs : List V) (Q : VK) (E : XK), Room k (A.deeper (envOfC qual scope s.heap.objs.size f cdv)) → sp vs H Q E →
      ∃ t, PSs (cxOf CX P w K mg base N qual scope f cdv A outer s H E) body t ∧ t { nx := fun _ H' => Q .non H', rt := Q } (start N vs) H) :
    FnOk P w K mg base CX (k + 1) f (PySem.W.fnOf name qual params body scope dV kV doc pm an cdv ct) ps sp := by
  refine ⟨len, fun A outer s H args us vs Q E hr e0 hb r hsp => ?_⟩
  have hl := len _ _ _ _ hsp
  have KX : K.In s.heap := e0.mod.kin.keeps fun b o e => (e0.bs b o e).1
  have lim : s.heap.NoLimit := e0.mod.nolimit.keeps fun b o e => (e0.bs b o e).1
  have hkind : ∀ y ∈ ps.zip us, scope.names.lookup y.1 = some .local ∨ (scope.names.lookup y.1 = some .cell ∧ ((cellsFrom (s.heap.objs.size + 1) scope.names []).lookup y.1).isSome = true) := fun ⟨n, v⟩ hy => by
    rcases S.par n (List.of_mem_zip hy).1 with q | q
    · exact .inl q
    · exact .inr ⟨q, PySem.W.cellsFrom_some _ _ _ (.inl q)⟩
  refine codeAny_call_function hr.depth (KX _ _ lk) rfl S.co S.gen rfl (PySem.W.codeRec_of KX hcd) (hb _ _ _ _ ?_)
  refine wpAny_newFunctionEnv_cells S.kind hkind fun env he s1 x => ?_
  subst he
  refine ⟨lim.keeps x.toInCall.keep, codeAny_func ?_⟩
  obtain ⟨t, ht, hq⟩ := hbody A outer s H vs Q E (hr.deeper _) hsp
  have I : Inv (cxOf CX P w K mg base N qual scope f cdv A outer s H E) [] (start N vs) H s1 := inv_start S hr.hd e0 hl r x
  refine wpAny_mono (ht [] s1 (start N vs) H _ I hq) (fun fl s' hs => ?_) fun e s' hs => hs
  have fin : ∀ {σ' : St} {H' : Hp} {v : V} {u : Value}, Inv (cxOf CX P w K mg base N qual scope f cdv A outer s H E) [] σ' H' s' → RelV v u → Q v H' → CE outer P w H s Q u s' :=
    fun {σ' H' v u} J rv q => ⟨v, H', J.os, J.bare, J.base, J.hok, rv, q⟩
  cases fl with
  | ret u =>
    obtain ⟨v, σ', H', J, rv, q⟩ := hs
    exact fin J rv q
  | next =>
    obtain ⟨σ', H', J, q⟩ := hs
    exact fin (v := V.non) (u := Value.none) J rfl q
  | brk =>
    obtain ⟨_, _, _, q⟩ := hs
    exact False.elim q
  | cont =>
    obtain ⟨_, _, _, q⟩ := hs
    exact False.elim q
end L2
namespace L2
open PySem PySem.Spec PyProof.Rows
section
variable {X : Cx} {x : Str} {p pos : Pos} {e : Expr} {es : List Expr} {t : TA} {id T : String} {r : List V → Hp → VK → Prop}
def tCB (r : List V → Hp → VK → Prop) (t : TA) : TE := fun σ H Q => t σ H fun vs H1 => r vs H1 Q
theorem pe_callB (hc : CallR X (.builtin id) r) (hg : Gl X x) (hm : X.mg x = none) (hv : bootBuiltins x = some (.builtin id)) (ha : PA X (e :: es) t) (hn : x ≠ "__name__" := by decide) (hdb : (x == ("__debug__" : Str)) = false := by decide)
    (he : starEach (e :: es) X.env = (false, eval e X.env) :: starEach es X.env := by rfl) (hpl : (backTo pos (starEach es X.env)).any (·.1) = false := by rfl) : PE X (.Call (.Name x p) (e :: es) [] pos) (tCB r t) := by
  intro pins s σ H Q I h
  refine wpAny_Call_Name_kw (ld_blt I hg hm hv ?_ hn hdb)
  exact PyProof.Rows.callWith_builtin1 (thn (ha pos pins s σ H _ I h) fun us s1 ⟨vs, H1, I1, r1, q1⟩ => hc pins s1 σ H1 vs us Q I1 r1 q1) he hpl
theorem pe_callTy (hc : CallR X (.type T) r) (hg : Gl X x) (hm : X.mg x = none) (hv : bootBuiltins x = some (.type T)) (ha : PA X (e :: es) t) (hn : x ≠ "__name__" := by decide) (hdb : (x == ("__debug__" : Str)) = false := by decide)
    (he : starEach (e :: es) X.env = (false, eval e X.env) :: starEach es X.env := by rfl) (hpl : (backTo pos (starEach es X.env)).any (·.1) = false := by rfl) : PE X (.Call (.Name x p) (e :: es) [] pos) (tCB r t) := by
  intro pins s σ H Q I h
  refine wpAny_Call_Name_kw (ld_blt I hg hm hv ?_ hn hdb)
  exact PyProof.Rows.callWith_type1 (thn (ha pos pins s σ H _ I h) fun us s1 ⟨vs, H1, I1, r1, q1⟩ => hc pins s1 σ H1 vs us Q I1 r1 q1) he hpl
end
end L2
namespace HT
open PySem PyProof.Rows
section
open PySem.SeqAt
open PySem.AutoSeq1 (wpAny_loadPart')
open PySem.MeetsSeq PySem.MeetsSeq2 PySem.MeetsSeq3
end
section
variable {prog : Program} {w : World} {A : Around} {E : Value → Shared → Prop} {s : Shared}
def sIx (n d : Nat) : Option Int → Nat
  | none => d
  | some v => if v < 0 then (v + (n : Int)).toNat else min v.toNat n
theorem sIx_none (n d : Nat) : sIx n d none = d := rfl
theorem sIx_nat (n d k : Nat) : sIx n d (some (k : Int)) = min k n := by
  show (if (k : Int) < 0 then ((k : Int) + (n : Int)).toNat else min (k : Int).toNat n) = min k n
  rw [if_neg (by omega), Int.toNat_natCast]
end
end HT
namespace L2
open PySem PySem.Spec PyProof.Rows
abbrev TO := St → Hp → (Option Int → Hp → Prop) → Prop
def PO (X : Cx) (e : Option Expr) (t : TO) : Prop :=
  ∀ (pins : List (Addr × Obj)) (s : Shared) (σ : St) (H : Hp) (Q : Option Int → Hp → Prop), Inv X pins σ H s → t σ H Q →
    wpAny (model X.prog X.w) X.A (evalPart e X.env) (fun u s' => ∃ o H', Inv X pins σ H' s' ∧ IsPart u o ∧ Q o H') X.xe s
def tNoPart : TO := fun _ H Q => Q none H
def tPart (t : TE) : TO := fun σ H Q => t σ H fun x H1 => ∃ i, x = .int i ∧ Q (some i) H1
section
variable {X : Cx} {e : Expr} {te : TE} {lo hi : Option Expr} {tl th : TO} {pos p2 : Pos}
theorem po_none : PO X none tNoPart := by
  intro pins s σ H Q I h
  rw [evalPart_none]
  exact wpAny_pure ⟨none, H, I, .none, h⟩
theorem po_some (h : PE X e te) : PO X (some e) (tPart te) := by
  intro pins s σ H Q I hw
  rw [evalPart_some]
  refine thn (h pins s σ H _ I hw) fun u s1 ⟨x, H1, I1, r1, q1⟩ => ?_
  obtain ⟨i, rfl, q⟩ := q1
  obtain ⟨t, rfl⟩ := r1
  exact ⟨some i, H1, I1, .int i t, q⟩
def SlR (X : Cx) (r : V → Option Int → Option Int → Hp → VK → Prop) : Prop :=
  ∀ (pins : List (Addr × Obj)) (s : Shared) (σ : St) (H : Hp) (x : V) (v vl vu : Value) (lo hi : Option Int) (sl : Addr) (Q : VK), Inv X pins σ H s → RelV x v → s.heap.IsSliceOf sl vl vu .none → IsPart vl lo → IsPart vu hi → r x lo hi H Q →
    ∃ T id, typeLookup (.type T) "__getitem__" = pure (some (.builtin id)) ∧ s.TypeIs v T ∧ wpAny (model X.prog X.w) X.A (getItem v (.ref sl)) (EP X pins σ Q) X.xe s
def tSl (r : V → Option Int → Option Int → Hp → VK → Prop) (te : TE) (tl th : TO) : TE := fun σ H Q => te σ H fun x H1 => tl σ H1 fun l H2 => th σ H2 fun u H3 => r x l u H3 Q
theorem pe_slice {r : V → Option Int → Option Int → Hp → VK → Prop} (hr : SlR X r) (he : PE X e te) (hl : PO X lo tl) (hu : PO X hi th) : PE X (.Subscript e (.Slice lo hi none p2) pos) (tSl r te tl th) := by
  intro pins s σ H Q I h
  refine Subscript_ (thn (he pins s σ H _ I h) fun v s1 ⟨x, H1, I1, r1, q1⟩ => ?_)
  refine wpAny_Slice (thn (hl pins s1 σ H1 _ I1 q1) fun vl s2 ⟨l, H2, I2, pl, q2⟩ => thn (hu pins s2 σ H2 _ I2 q2) fun vu s3 ⟨u, H3, I3, pu, q3⟩ => ?_)
  rw [evalPart_none]
  refine wpAny_pure ?_
  have I4 : Inv X pins σ H3 { s3 with heap := s3.heap.push { cls := .type "slice", data := .fields #[vl, vu, .none] } } := I3.kept (t' := s3.toks) fun b ob q => Heap.get?_push_of_some _ q
  obtain ⟨T, id, hT, ht, hg⟩ := hr pins { s3 with heap := s3.heap.push { cls := .type "slice", data := .fields #[vl, vu, .none] } } σ H3 x v vl vu l u s3.heap.objs.size Q I4 r1 (Heap.IsSliceOf.new ..) pl pu q3
  show wpAny (model X.prog X.w) X.A (subscriptTail e (.Slice lo hi none p2) v (.ref s3.heap.objs.size)) (EP X pins σ Q) X.xe { s3 with heap := s3.heap.push { cls := .type "slice", data := .fields #[vl, vu, .none] } }
  exact tail_any (ops := [.ref s3.heap.objs.size, v]) ht hT hg (by with_unfolding_all rfl)
def cutV (xs : List V) (lo hi : Option Int) : List V := (xs.drop (HT.sIx xs.length 0 lo)).take (HT.sIx xs.length xs.length hi - HT.sIx xs.length 0 lo)
theorem cutV_length (xs : List V) (lo hi : Option Int) : (cutV xs lo hi).length ≤ xs.length := by
  unfold cutV
  rw [List.length_take, List.length_drop]
  omega
end
end L2
namespace L2
open PySem PySem.Spec PyProof.Rows
def ixN (n : Nat) (i : Int) : Option Nat := if 0 ≤ i then (if i < n then some i.toNat else none) else if -(n : Int) ≤ i then some (i + n).toNat else none
def atI {α : Type} (xs : List α) (i : Int) : Option α := (ixN xs.length i).bind fun j => xs[j]?
theorem ixN_seq {n : Nat} {i : Int} {j : Nat} (h : ixN n i = some j) : seqIndex? i n = some j ∧ j < n ∧ -(n : Int) ≤ i ∧ i < n := by
  unfold ixN at h
  by_cases h0 : 0 ≤ i
  · rw [if_pos h0] at h
    by_cases h1 : i < n
    · rw [if_pos h1] at h
      have e : i.toNat = j := Option.some.inj h
      exact ⟨by rw [seqIndex_of h0 h1, e], by omega, by omega, h1⟩
    · rw [if_neg h1] at h; cases h
  · rw [if_neg h0] at h
    by_cases h1 : -(n : Int) ≤ i
    · rw [if_pos h1] at h
      have e : (i + n).toNat = j := Option.some.inj h
      exact ⟨by rw [seqIndex_neg (by omega) h1, e], by omega, h1, by omega⟩
    · rw [if_neg h1] at h; cases h
theorem atI_get {α : Type} {xs : List α} {i : Int} {v : α} (h : atI xs i = some v) : ∃ j, seqIndex? i xs.length = some j ∧ xs[j]? = some v ∧ j < xs.length ∧ -(xs.length : Int) ≤ i ∧ i < xs.length := by
  unfold atI at h
  cases e : ixN xs.length i with
  | none => rw [e] at h; cases h
  | some j =>
    rw [e] at h
    obtain ⟨h1, h2, h3, h4⟩ := ixN_seq e
    exact ⟨j, h1, h, h2, h3, h4⟩
theorem atI_nat {α : Type} {xs : List α} {j : Nat} {v : α} (h : xs[j]? = some v) : atI xs (j : Int) = some v := by
  have hj : j < xs.length := (List.getElem?_eq_some_iff.mp h).1
  have e : ixN xs.length (j : Int) = some j := by
    unfold ixN
    rw [if_pos (by omega), if_pos (by omega)]; simp
  unfold atI; rw [e]; exact h
def PlainIx (b : Expr) : Prop := ∀ o i, subscripted b false o i = operate [o, i] (getItem o i)
def IxR (X : Cx) (r : R2) : Prop :=
  ∀ (value slice : Expr) (pins : List (Addr × Obj)) (s : Shared) (σ : St) (H : Hp) (x y : V) (v u : Value) (Q : VK), Inv X pins σ H s → RelV x v → RelV y u → r x y H Q →
    subscripted slice false v u = operate [v, u] (getItem v u) → wpAny (model X.prog X.w) X.A (subscriptTail value slice v u) (EP X pins σ Q) X.xe s
def MtR (X : Cx) (id : String) (r : V → List V → Hp → VK → Prop) : Prop :=
  ∀ (pins : List (Addr × Obj)) (s : Shared) (σ : St) (H : Hp) (x : V) (xs : List V) (v : Value) (us : List Value) (Q : VK), Inv X pins σ H s → RelV x v → Vals xs us → r x xs H Q →
    wpAny (model X.prog X.w) X.A (call (.builtin id) (v :: us)) (EP X pins σ Q) X.xe s
section
variable {X : Cx} {a b : Expr} {ta tb : TE} {pos : Pos}
theorem pe_ix {r : R2} (hr : IxR X r) (ha : PE X a ta) (hb : PE X b tb) (hs : PlainIx b) : PE X (.Subscript a b pos) (tOp r ta tb) := by
  intro pins s σ H Q I h
  exact Subscript_ (binT ha hb I h fun v u s2 x y H2 I2 rx ry q => hr a b pins s2 σ H2 x y v u Q I2 rx ry q (hs _ _))
def rIxL (K : PySem.W.Frag) : R2 := fun x y H Q => ∃ p xs i v, x = .ref p ∧ y = .int i ∧ SqL K H p xs ∧ atI xs i = some v ∧ Q v H
def rIxT (K : PySem.W.Frag) : R2 := fun x y H Q => ∃ p xs i v, x = .ref p ∧ y = .int i ∧ SqT K H p xs ∧ atI xs i = some v ∧ Q v H
def rIxS : R2 := fun x y H Q => ∃ z i c, x = .str z ∧ y = .int i ∧ z.length ≤ sizeLine ∧ atI z.cps.toList i = some c ∧ Q (.str ⟨#[c]⟩) H
theorem ix_list : IxR X (rIxL X.K) := by
  intro value slice pins s σ H x y v u Q I rx ry h hs
  obtain ⟨p, xs, i, z, rfl, rfl, hq, he, q⟩ := h
  cases rx
  obtain ⟨t, rfl⟩ := ry
  obtain ⟨its, r, pl, hz⟩ := I.list hq
  obtain ⟨j, h1, h2, h3, h4, h5⟩ := atI_get he
  obtain ⟨w, ew, rw'⟩ := r.get h2
  have hl := r.length
  have hn := line63
  have fin : EP X pins σ Q w s := ⟨z, H, I, rw', q⟩
  by_cases h0 : 0 ≤ i
  · have hj : i.toNat = j := by
      rw [seqIndex_of h0 h5] at h1
      exact Option.some.inj h1
    exact item_listR pl.isList h0 (by omega) (by rw [hj]; simpa using ew) fin hs
  · have hj : (i + (its.toArray.size : Int)).toNat = j := by
      rw [seqIndex_neg (by omega) h4] at h1
      rw [List.size_toArray, ← hl]
      exact Option.some.inj h1
    exact subscriptTail_builtinR (x := w) pl.isList.typeIs slot_list_getitem.lookup
      (wpAny_getItem_list_neg (Q := fun r s' => r = w ∧ EP X pins σ Q r s') pl.isList (by omega) (by rw [List.size_toArray] <;> omega) (by omega) (by rw [hj]; simpa using ew) ⟨rfl, fin⟩) hs
theorem ix_tup : IxR X (rIxT X.K) := by
  intro value slice pins s σ H x y v u Q I rx ry h hs
  obtain ⟨p, xs, i, z, rfl, rfl, hq, he, q⟩ := h
  cases rx
  obtain ⟨t, rfl⟩ := ry
  obtain ⟨its, r, pl, hz⟩ := I.tuple hq
  obtain ⟨j, h1, h2, h3, h4, h5⟩ := atI_get he
  obtain ⟨w, ew, rw'⟩ := r.get h2
  have hl := r.length
  have hn := line63
  have fin : EP X pins σ Q w s := ⟨z, H, I, rw', q⟩
  exact subscriptTail_builtinR (x := w) pl.typeIs slot_tuple_getitem.lookup
    (getItem_tuple (j := j) (Q := fun r s' => r = w ∧ EP X pins σ Q r s') pl (by omega) (by omega) (by rw [List.size_toArray, ← hl]; exact h1) (by simpa using ew) ⟨rfl, fin⟩) hs
theorem ix_str : IxR X rIxS := by
  intro value slice pins s σ H x y v u Q I rx ry h hs
  obtain ⟨z, i, c, rfl, rfl, hz, he, q⟩ := h
  obtain ⟨t, rfl⟩ := rx
  obtain ⟨t', rfl⟩ := ry
  obtain ⟨j, h1, h2, h3, h4, h5⟩ := atI_get he
  have hl : z.cps.toList.length = z.length := by simp [Str.length]
  rw [hl] at h1 h4 h5
  have hn := line63
  exact tail_any (typeIs_str s z t) slot_str_getitem.lookup (getItem_str (c := c) (by
    have e1 : decide (i < -(2 ^ 63 : Int)) = false := decide_eq_false (by omega)
    have e2 : decide (i ≥ 2 ^ 63) = false := decide_eq_false (by omega)
    rw [e1, e2, Bool.or_false]) (by rw [h1]; simpa using h2) ⟨.str ⟨#[c]⟩, H, I.tok _, ⟨_, rfl⟩, q⟩) hs
theorem mapSeq_set (its : List Value) (n j : Nat) (u : Value) : Obj.mapSeq (·.setIfInBounds j u) { cls := .type "list", data := .seq its.toArray n } = { cls := .type "list", data := .seq (its.set j u).toArray n } := by
  simp [Obj.mapSeq]
theorem Inv.lst {pins : List (Addr × Obj)} {σ : St} {H : Hp} {s : Shared} {p : Addr} {xs : List V} (I : Inv X pins σ H s) (h : H p = some (.lst xs)) :
    ∃ (its : List Value) (n : Nat), Vals xs its ∧ s.heap.get? p = some { cls := .type "list", data := .seq its.toArray n } ∧ xs.length ≤ sizeLine := by
  obtain ⟨z, its, n, r, e⟩ := I.hok p _ h
  exact ⟨its, n, r, e, z⟩
theorem Inv.lstUpd {pins : List (Addr × Obj)} {σ : St} {H : Hp} {s : Shared} {p : Addr} {xs ys : List V} {its its' : List Value} {n n' : Nat} {f : Obj → Obj} (I : Inv X pins σ H s) (h : H p = some (.lst xs))
    (ho : s.heap.get? p = some { cls := .type "list", data := .seq its.toArray n }) (hf : f { cls := .type "list", data := .seq its.toArray n } = { cls := .type "list", data := .seq its'.toArray n' }) (r : Vals ys its') (hz : ys.length ≤ sizeLine) (t : Nat) :
    Inv X pins σ (upd H p (.lst ys)) { s with heap := s.heap.update p f, toks := t } := by
  have e : (s.heap.update p f).get? p = some { cls := .type "list", data := .seq its'.toArray n' } := by
    rw [Heap.get?_update_self f ho (by rw [hf] <;> rfl), hf]
  refine I.write (x := p) (e := p) (by rw [h]; trivial) (.inl rfl) (fun b u hb q => (Heap.get?_update_other _ _ (Ne.symm hb)).trans q) ⟨_, e⟩ ?_
  exact ⟨hz, its', n', r, e⟩
def rSetL : V → V → V → Hp → (Hp → Prop) → Prop := fun o i v H Q => ∃ p xs k j, o = .ref p ∧ i = .int k ∧ H p = some (.lst xs) ∧ ixN xs.length k = some j ∧ Q (upd H p (.lst (xs.set j v)))
theorem set_list : PSet X rSetL := by
  intro pins s σ H o i v ov iv u Q I ro ri rv h
  obtain ⟨p, xs, k, j, rfl, rfl, hp, hj, q⟩ := h
  cases ro
  obtain ⟨t, rfl⟩ := ri
  obtain ⟨its, n, r, ho, hz⟩ := I.lst hp
  obtain ⟨h1, h2, h3, h4⟩ := ixN_seq hj
  have hl := r.length
  have hn := line63
  have I' : Inv X pins σ (upd H p (.lst (xs.set j v))) { s with heap := s.heap.update p (Obj.mapSeq (·.setIfInBounds j u)) } :=
    I.lstUpd hp ho (mapSeq_set its n j u) (r.set rv j) (by rw [List.length_set]; exact hz) s.toks
  by_cases h0 : 0 ≤ k
  · have hk : k.toNat = j := by
      rw [seqIndex_of h0 h4] at h1
      exact Option.some.inj h1
    exact PySem.W.ki_setAt ho h0 (by omega) (by rw [List.size_toArray, ← hl]; exact h4) (by rw [hk]; exact ⟨_, I', q⟩)
  · have hk : (k + (its.toArray.size : Int)).toNat = j := by
      rw [seqIndex_neg (by omega) h3] at h1
      rw [List.size_toArray, ← hl]
      exact Option.some.inj h1
    exact PySem.W.ki_setBack ho (by omega) (by rw [List.size_toArray, ← hl]; exact h3) (by omega) (by rw [hk]; exact ⟨_, I', q⟩)
theorem slice_bounds (lo hi : Option Int) (n : Nat) : (sliceBounds lo hi none n).1 = ((HT.sIx n 0 lo : Nat) : Int) ∧ (sliceBounds lo hi none n).2.1 = ((HT.sIx n n hi : Nat) : Int) ∧ (sliceBounds lo hi none n).2.2 = 1 := by
  refine ⟨?_, ?_, rfl⟩
  · cases lo with
    | none => simp [sliceBounds, HT.sIx]
    | some i =>
      simp only [sliceBounds, HT.sIx, Option.getD_none, show (1 : Int) > 0 by decide, if_true]
      by_cases h : i < 0
      · simp only [h, if_true] <;> omega
      · simp only [h, if_false] <;> omega
  · cases hi with
    | none => simp [sliceBounds, HT.sIx]
    | some i =>
      simp only [sliceBounds, HT.sIx, Option.getD_none, show (1 : Int) > 0 by decide, if_true]
      by_cases h : i < 0
      · simp only [h, if_true] <;> omega
      · simp only [h, if_false] <;> omega
theorem slicePick_cut (its : List Value) (lo hi : Option Int) : slicePick its.toArray lo hi none = ((its.drop (HT.sIx its.length 0 lo)).take (HT.sIx its.length its.length hi - HT.sIx its.length 0 lo)).toArray := by
  obtain ⟨h1, h2, h3⟩ := slice_bounds lo hi its.toArray.size
  unfold slicePick
  rw [h1, h2, h3]
  simp only [sliceRange_one, pick_run, List.size_toArray] <;> rfl
def rSlL (K : PySem.W.Frag) : V → Option Int → Option Int → Hp → VK → Prop := fun x lo hi H Q => ∃ a xs, x = .ref a ∧ SqL K H a xs ∧ ∀ p, H p = none → Q (.ref p) (upd H p (.lst (cutV xs lo hi)))
theorem sl_list : SlR X (rSlL X.K) := by
  intro pins s σ H x v vl vu lo hi sl Q I rx hs pl pu h
  obtain ⟨a, xs, rfl, hx, q⟩ := h
  cases rx
  obtain ⟨its, r, ht, hz⟩ := I.list hx
  have hlen := r.length
  refine ⟨"list", _, slot_list_getitem.lookup, ht.isList.typeIs, ?_⟩
  refine wpAny_getItem_list_slice ht.isList hs pl pu .none (by simp) ?_ (by rw [List.size_toArray] <;> omega)
  rw [slicePick_cut, ← hlen]
  refine ⟨.ref s.heap.objs.size, _, I.laid (t' := s.toks) (o := .lst (cutV xs lo hi)) (fun b ob q => Heap.get?_push_of_some _ q) (Nat.le_refl _) ?_, rfl, q _ (I.hok.fresh (Nat.le_refl _))⟩
  exact ⟨Nat.le_trans (cutV_length xs lo hi) hz, _, 0, (r.drop (HT.sIx xs.length 0 lo)).take (HT.sIx xs.length xs.length hi - HT.sIx xs.length 0 lo), Heap.get?_push_size _ rfl⟩
def flatV : V → Bool
  | .non => true
  | .bl _ => true
  | .int _ => true
  | .str _ => true
  | _ => false
def eqV : V → V → Bool
  | .non, .non => true
  | .bl a, .bl b => a == b
  | .bl a, .int b => (if a then 1 else 0) == b
  | .int a, .bl b => a == (if b then 1 else 0)
  | .int a, .int b => a == b
  | .str a, .str b => a == b
  | _, _ => false
theorem eqAt_V {A : Around} {s : Shared} {y x : V} {u v : Value} (ry : RelV y u) (rx : RelV x v) (fy : flatV y = true) (fx : flatV x = true) : SeqAt.EqAt A s u v (eqV y x) := by
  cases y with
  | non =>
    cases ry
    cases x with
    | non => cases rx; exact SeqAt.EqAt.same _
    | bl b => cases rx; exact SeqAt.EqAt.none_bool b
    | int b => obtain ⟨t, rfl⟩ := rx; exact SeqAt.EqAt.none_int b t
    | str b => obtain ⟨t, rfl⟩ := rx; exact SeqAt.EqAt.none_str b t
    | _ => exact absurd (show false = true from fx) Bool.false_ne_true
  | bl a =>
    cases ry
    cases x with
    | non => cases rx; exact SeqAt.EqAt.bool_none a
    | bl b => cases rx; exact SeqAt.EqAt.bool_bool a b
    | int b => obtain ⟨t, rfl⟩ := rx; exact SeqAt.EqAt.bool_int a b t
    | str b => obtain ⟨t, rfl⟩ := rx; exact SeqAt.EqAt.bool_str a b t
    | _ => exact absurd (show false = true from fx) Bool.false_ne_true
  | int a =>
    obtain ⟨t', rfl⟩ := ry
    cases x with
    | non => cases rx; exact SeqAt.EqAt.int_none a t'
    | bl b => cases rx; exact SeqAt.EqAt.int_bool a t' b
    | int b => obtain ⟨t, rfl⟩ := rx; exact SeqAt.EqAt.int_int a t' b t
    | str b => obtain ⟨t, rfl⟩ := rx; exact SeqAt.EqAt.int_str a t' b t
    | _ => exact absurd (show false = true from fx) Bool.false_ne_true
  | str a =>
    obtain ⟨t', rfl⟩ := ry
    cases x with
    | non => cases rx; exact SeqAt.EqAt.str_none a t'
    | bl b => cases rx; exact SeqAt.EqAt.str_bool a t' b
    | int b => obtain ⟨t, rfl⟩ := rx; exact SeqAt.EqAt.str_int a t' b t
    | str b => obtain ⟨t, rfl⟩ := rx; exact SeqAt.EqAt.str_str a t' b t
    | _ => exact absurd (show false = true from fx) Bool.false_ne_true
  | _ => exact absurd (show false = true from fy) Bool.false_ne_true
def eqU (x : V) (u : Value) : Bool := match u with
  | .none => eqV .non x
  | .bool b => eqV (.bl b) x
  | .int i _ => eqV (.int i) x
  | .str z _ => eqV (.str z) x
  | _ => false
theorem eqU_of {x y : V} {u : Value} (r : RelV y u) (f : flatV y = true) : eqU x u = eqV y x := by
  cases y with
  | non => cases r; rfl
  | bl b => cases r; rfl
  | int i => obtain ⟨t, rfl⟩ := r; rfl
  | str z => obtain ⟨t, rfl⟩ := r; rfl
  | _ => exact absurd (show false = true from f) Bool.false_ne_true
theorem any_eqU {x : V} : ∀ {xs : List V} {us : List Value}, Vals xs us → xs.all flatV = true → us.any (eqU x) = xs.any fun y => eqV y x
  | _, _, .nil, _ => rfl
  | y :: xs, u :: us, .cons r t, f => by
    rw [List.all_cons, Bool.and_eq_true] at f
    rw [List.any_cons, List.any_cons, eqU_of r f.1, any_eqU t f.2]
theorem mem_eqAt {A : Around} {s : Shared} {x : V} {v : Value} (rx : RelV x v) (fx : flatV x = true) : ∀ {xs : List V} {us : List Value}, Vals xs us → xs.all flatV = true → ∀ u ∈ us, SeqAt.EqAt A s u v (eqU x u)
  | _, _, .nil, _ => fun u hu => by cases hu
  | y :: xs, u :: us, .cons r t, f => fun u' hu => by
    rw [List.all_cons, Bool.and_eq_true] at f
    rcases List.mem_cons.mp hu with rfl | hu
    · rw [eqU_of r f.1]; exact eqAt_V r rx f.1 fx
    · exact mem_eqAt rx fx t f.2 u' hu
def inV (x : V) (xs : List V) : Bool := xs.any fun y => eqV y x
def rIn (K : PySem.W.Frag) (neg : Bool) : R2 := fun x y H Q => ∃ p xs, y = .ref p ∧ (SqL K H p xs ∨ SqT K H p xs) ∧ flatV x = true ∧ xs.all flatV = true ∧ Q (.bl (if neg then !inV x xs else inV x xs)) H
theorem op_in_seq : OpR X (compareOp .In) (rIn X.K false) := by
  intro pins s σ H x y v u Q I rx ry h
  obtain ⟨p, xs, rfl, hq, fx, fs, q⟩ := h
  cases ry
  rcases hq with hq | hq
  · obtain ⟨its, r, pl, hz⟩ := I.list hq
    refine SeqAt.in_listAt (eqU x) pl.isList (fun w hw => mem_eqAt rx fx r fs w (by simpa using hw)) ⟨.bl _, H, I, rfl, ?_⟩
    rw [show its.toArray.any (eqU x) = its.any (eqU x) by simp, any_eqU r fs]
    exact q
  · obtain ⟨its, r, pl, hz⟩ := I.tuple hq
    refine SeqAt.in_tupleAt (eqU x) pl (fun w hw => mem_eqAt rx fx r fs w (by simpa using hw)) ⟨.bl _, H, I, rfl, ?_⟩
    rw [show its.toArray.any (eqU x) = its.any (eqU x) by simp, any_eqU r fs]
    exact q
theorem op_notIn_seq : OpR X (compareOp .NotIn) (rIn X.K true) := by
  intro pins s σ H x y v u Q I rx ry h
  obtain ⟨p, xs, rfl, hq, fx, fs, q⟩ := h
  cases ry
  rcases hq with hq | hq
  · obtain ⟨its, r, pl, hz⟩ := I.list hq
    refine SeqAt.notIn_listAt (eqU x) pl.isList (fun w hw => mem_eqAt rx fx r fs w (by simpa using hw)) ⟨.bl _, H, I, rfl, ?_⟩
    rw [show its.toArray.any (eqU x) = its.any (eqU x) by simp, any_eqU r fs]
    exact q
  · obtain ⟨its, r, pl, hz⟩ := I.tuple hq
    refine SeqAt.notIn_tupleAt (eqU x) pl (fun w hw => mem_eqAt rx fx r fs w (by simpa using hw)) ⟨.bl _, H, I, rfl, ?_⟩
    rw [show its.toArray.any (eqU x) = its.any (eqU x) by simp, any_eqU r fs]
    exact q
theorem call_len_seq : CallR X (.builtin "len") (fun xs H Q => ∃ p ys, xs = [.ref p] ∧ (SqL X.K H p ys ∨ SqT X.K H p ys) ∧ Q (.int ys.length) H) := by
  intro pins s σ H xs us Q I r h
  obtain ⟨p, ys, rfl, hq, q⟩ := h
  obtain ⟨u, rfl, rx⟩ := vals1 r
  cases rx
  have hn := line63
  rcases hq with hq | hq
  · obtain ⟨its, r', pl, hz⟩ := I.list hq
    have hlen := r'.length
    exact Calls.call_len_list pl.isList (by simp only [List.size_toArray] <;> omega) ⟨.int ys.length, H, I.tok _, ⟨s.toks + 1, by rw [List.size_toArray, hlen]⟩, q⟩
  · obtain ⟨its, r', pl, hz⟩ := I.tuple hq
    have hlen := r'.length
    exact len_tuple pl (by simp only [List.size_toArray] <;> omega) ⟨.int ys.length, H, I.tok _, ⟨s.toks + 1, by rw [List.size_toArray, hlen]⟩, q⟩
theorem call_list_of : CallR X (.type "list") (fun xs H Q => ∃ p ys, xs = [.ref p] ∧ (SqL X.K H p ys ∨ SqT X.K H p ys) ∧ ∀ l, H l = none → Q (.ref l) (upd H l (.lst ys))) := by
  intro pins s σ H xs us Q I r h
  obtain ⟨p, ys, rfl, hq, q⟩ := h
  obtain ⟨u, rfl, rx⟩ := vals1 r
  cases rx
  have fin : ∀ (its : List Value), Vals ys its → ys.length ≤ sizeLine → ∀ (h' : Heap) (c' : Nat), (∀ b o', s.heap.get? b = some o' → h'.get? b = some o') →
      h'.get? s.heap.objs.size = some { cls := .type "list", dict := none, data := .seq its.toArray c', slots := #[] } → EP X pins σ Q (.ref s.heap.objs.size) { s with heap := h' } := fun its r' hz h' c' kp e =>
    ⟨.ref s.heap.objs.size, _, I.laid (t' := s.toks) kp (Nat.le_refl _) (show ObjOk X.prog X.w _ h' _ (.lst ys) from ⟨hz, its, c', r', e⟩), rfl, q _ (I.hok.fresh (Nat.le_refl _))⟩
  rcases hq with hq | hq
  · obtain ⟨its, r', pl, hz⟩ := I.list hq
    have hlen := r'.length
    obtain ⟨o, ho, hc, n, hd⟩ := pl.isList
    exact call_list_seq p (.inl rfl) ho hc hd (fun h' c' kp e => fin its r' hz h' c' kp e) (by simp only [List.size_toArray] <;> omega)
  · obtain ⟨its, r', pl, hz⟩ := I.tuple hq
    have hlen := r'.length
    obtain ⟨o, ho, hc, n, hd⟩ := pl
    exact call_list_seq p (.inr rfl) ho hc hd (fun h' c' kp e => fin its r' hz h' c' kp e) (by simp only [List.size_toArray] <;> omega)
def tyV (K : PySem.W.Frag) (T : String) (x : V) (H : Hp) : Prop := match x with
  | .str _ => T = "str"
  | .int _ => T = "int"
  | .ref p => (T = "list" ∧ ∃ xs, SqL K H p xs) ∨ (T = "tuple" ∧ ∃ o, K.lookup p = some o ∧ o.cls = .type "tuple" ∧ o.dict = none) ∨
      (T = "dict" ∧ ((∃ kvs, H p = some (.dK kvs)) ∨ ∃ kvs, H p = some (.dT kvs))) ∨ (T = "set" ∧ ∃ S n, H p = some (.set S n))
  | _ => False
theorem tyV_is {pins : List (Addr × Obj)} {σ : St} {H : Hp} {s : Shared} {T : String} {x : V} {v : Value} (I : Inv X pins σ H s) (r : RelV x v) (ty : tyV X.K T x H) :
    s.TypeIs v T ∧ ∀ a, v = .ref a → ∃ ob, s.heap.get? a = some ob ∧ ob.dict = none := by
  cases x with
  | str z =>
    obtain ⟨t, rfl⟩ := r
    cases (show T = "str" from ty)
    exact ⟨typeIs_str s z t, fun _ e => nomatch e⟩
  | int i =>
    obtain ⟨t, rfl⟩ := r
    cases (show T = "int" from ty)
    exact ⟨typeIs_int s i t, fun _ e => nomatch e⟩
  | ref p =>
    cases r
    rcases ty with ⟨rfl, xs, hq⟩ | ⟨rfl, o, hk, hc, hd⟩ | ⟨rfl, hk⟩ | ⟨rfl, S, n, hk⟩
    · obtain ⟨its, _, pl, _⟩ := I.list hq
      refine ⟨pl.isList.typeIs, fun a e => ?_⟩
      cases e
      obtain ⟨o, n, e, c, hd, _⟩ := pl
      exact ⟨o, e, hd⟩
    · refine ⟨⟨o, I.kIn p o hk, hc⟩, fun a e => ?_⟩
      cases e
      exact ⟨o, I.kIn _ o hk, hd⟩
    · have z : ∃ o, s.heap.get? p = some o ∧ o.ExactDict := by
        rcases hk with ⟨kvs, hk⟩ | ⟨kvs, hk⟩
        · obtain ⟨_, _, _, _, o, _, _, e, ex, _⟩ := I.hok p _ hk
          exact ⟨o, e, ex⟩
        · obtain ⟨_, _, _, _, o, _, _, e, ex, _⟩ := I.hok p _ hk
          exact ⟨o, e, ex⟩
      obtain ⟨o, e, ex⟩ := z
      refine ⟨⟨o, e, ex.1⟩, fun a e2 => ?_⟩
      cases e2
      exact ⟨o, e, ex.2.1⟩
    · obtain ⟨o, _, _, _, e, ex, _⟩ := I.hok p _ hk
      refine ⟨⟨o, e, ex.1⟩, fun a e2 => ?_⟩
      cases e2
      exact ⟨o, e, ex.2.1⟩
  | _ => exact False.elim ty
def tBM0 (K : PySem.W.Frag) (T : String) (r : V → List V → Hp → VK → Prop) (to : TE) : TE := fun σ H Q => to σ H fun x H1 => tyV K T x H1 ∧ r x [] H1 Q
def tBM (K : PySem.W.Frag) (T : String) (r : V → List V → Hp → VK → Prop) (to : TE) (t : TA) : TE := fun σ H Q => to σ H fun x H1 => tyV K T x H1 ∧ t σ H1 fun xs H2 => r x xs H2 Q
variable {o e : Expr} {es : List Expr} {to : TE} {t : TA} {name : Str} {apos cpos : Pos} {T id : String} {r : V → List V → Hp → VK → Prop}
theorem pe_bm0 (pa : PlainAttrs T) (slot : Slot T name id) (hty : typeOf (.builtin id) = pure (.type "method_descriptor")) (hm : MtR X id r) (ho : PE X o to)
    (hbase : attributeBase o name X.env (eval o X.env) = eval o X.env := by rfl) (hline : (apos.endLine == cpos.line) = true := by rfl) : PE X (.Call (.Attribute o name apos) [] [] cpos) (tBM0 X.K T r to) := by
  intro pins s σ H Q I h
  refine wpAny_Call_method0_late hbase hline (thn (ho pins s σ H _ I h) fun v s1 ⟨x, H1, I1, r1, ty, q1⟩ => ?_)
  obtain ⟨h1, h2⟩ := tyV_is I1 r1 ty
  exact ⟨T, id, pa, slot, hty, h1, h2, Calls.callWith_builtin rfl (PySem.evalArgs_none (hm pins s1 σ H1 x [] v [] Q I1 r1 .nil q1))⟩
theorem pe_bm (pa : PlainAttrs T) (slot : Slot T name id) (hty : typeOf (.builtin id) = pure (.type "method_descriptor")) (hm : MtR X id r) (ho : PE X o to) (ha : PA X (e :: es) t)
    (hbase : attributeBase o name X.env (eval o X.env) = eval o X.env := by rfl)
    (hfew : ((backTo cpos (starEach (e :: es) X.env)).all (fun x => !x.1) && (backToKw cpos (keywordEach [] X.env)).all (fun x => x.1.isSome)
      && decide ((e :: es).length + ([] : List Keyword).length + (if ([] : List Keyword).isEmpty then 0 else 1) < 30)) = true := by rfl)
    (hline : (apos.endLine == cpos.line) = true := by rfl) (hs : starEach (e :: es) X.env = (false, eval e X.env) :: starEach es X.env := by rfl) (hplain : (backTo cpos (starEach es X.env)).any (·.1) = false := by rfl) :
    PE X (.Call (.Attribute o name apos) (e :: es) [] cpos) (tBM X.K T r to t) := by
  intro pins s σ H Q I h
  refine wpAny_Call_method_late hbase hfew hline rfl (thn (ho pins s σ H _ I h) fun v s1 ⟨x, H1, I1, r1, ty, q1⟩ => ?_)
  obtain ⟨h1, h2⟩ := tyV_is I1 r1 ty
  refine ⟨T, id, pa, slot, hty, h1, h2, ?_⟩
  have hA := ha cpos pins s1 σ H1 _ I1 q1
  rw [hs] at hA ⊢
  refine Calls.callWith_builtin (by show (false || (backTo cpos (starEach es X.env)).any (·.1)) = false; rw [hplain] <;> rfl) (Calls.evalArgs_plain ?_)
  exact thn hA fun us s2 ⟨vs, H2, I2, r2, q2⟩ => hm pins s2 σ H2 x vs v us Q I2 r1 r2 q2
/- xs.append(e), list.index on a module's tuple .. are MtR facts of 06m -/
end
end L2
namespace L2
open PySem PySem.Spec PyProof.Rows
def MtM (X : Cx) (id : String) (r : V → List V → Hp → VK → Prop) : Prop :=
  ∀ (pins : List (Addr × Obj)) (s : Shared) (σ : St) (H : Hp) (x : V) (xs : List V) (v : Value) (us : List Value) (Q : VK), Inv X pins σ H s → RelV x v → Vals xs us → r x xs H Q →
    wpAny (model X.prog X.w) X.A (call (.builtin id) (v :: us)) (EP X pins σ Q) X.xe s
theorem Vals.one : ∀ {x : V} {us : List Value}, Vals [x] us → ∃ u, us = [u] ∧ RelV x u
  | _, _, .cons r .nil => ⟨_, rfl, r⟩
theorem Vals.zero : ∀ {us : List Value}, Vals [] us → us = []
  | _, .nil => rfl
theorem Vals.eraseIdx : ∀ {xs : List V} {us : List Value} (i : Nat), Vals xs us → Vals (xs.eraseIdx i) (us.eraseIdx i)
  | _, _, _, .nil => .nil
  | _, _, 0, .cons _ t => t
  | _, _, i + 1, .cons r t => .cons r (Vals.eraseIdx i t)
theorem len_erase {α : Type} : ∀ (l : List α) (i : Nat), (l.eraseIdx i).length ≤ l.length
  | [], _ => Nat.le_refl _
  | _ :: _, 0 => Nat.le_succ _
  | _ :: r, i + 1 => Nat.succ_le_succ (len_erase r i)
theorem foldl_rep (its : List Value) : ∀ (k : Nat) (acc : List Value),
    List.foldl (fun x1 x2 => x1 ++ x2) acc.toArray (List.replicate k its.toArray) = (acc ++ (List.replicate k its).flatten).toArray
  | 0, acc => by simp
  | k + 1, acc => by
    have e : acc.toArray ++ its.toArray = (acc ++ its).toArray := by simp
    have e2 : (acc ++ its) ++ (List.replicate k its).flatten = acc ++ (List.replicate (k + 1) its).flatten := by
      rw [List.replicate_succ, List.flatten_cons, List.append_assoc]
    rw [← e2, ← foldl_rep its k (acc ++ its), ← e, List.replicate_succ, List.foldl_cons]
section
variable {X : Cx} {pins : List (Addr × Obj)} {σ : St} {H : Hp} {s : Shared} {l b : Addr} {xs ys zs : List V}
theorem Inv.lset {its its' : List Value} {n : Nat} {f : Array Value → Array Value} {t' : Nat} (I : Inv X pins σ H s) (hH : H l = some (.lst xs))
    (e : s.heap.get? l = some { cls := .type "list", data := .seq its.toArray n }) (hf : f its.toArray = its'.toArray) (hv : Vals ys its') (hz : ys.length ≤ sizeLine) :
    Inv X pins σ (upd H l (.lst ys)) { s with heap := s.heap.update l (Obj.mapSeq f), toks := t' } := by
  have q := PySem.IsL.update e f
  rw [hf] at q
  refine I.write (x := l) (e := l) (by rw [hH]; exact trivial) (.inl rfl) (fun b' u hb hu => (Heap.get?_update_other s.heap (Obj.mapSeq f) (Ne.symm hb)).trans hu) ⟨_, q⟩ ?_
  exact ⟨hz, its', _, hv, q⟩
theorem Inv.lnew {its : List Value} {t' : Nat} (I : Inv X pins σ H s) (hv : Vals ys its) (hz : ys.length ≤ sizeLine) :
    Inv X pins σ (upd H s.heap.objs.size (.lst ys)) { s with heap := s.heap.push { cls := .type "list", data := .seq its.toArray }, toks := t' } :=
  I.laid (fun _ _ q => Heap.get?_push_of_some _ q) (Nat.le_refl _) ⟨hz, its, 0, hv, Heap.get?_push_size _ rfl⟩
theorem Inv.fresh (I : Inv X pins σ H s) : H s.heap.objs.size = none := I.hok.fresh (Nat.le_refl _)
theorem Inv.lstM (I : Inv X pins σ H s) (hH : H l = some (.lst xs)) : xs.length ≤ sizeLine ∧ ∃ (its : List Value) (n : Nat), Vals xs its ∧ xs.length = its.length ∧ s.heap.get? l = some { cls := .type "list", data := .seq its.toArray n } := by
  obtain ⟨z, its, n, r, e⟩ := I.hok l _ hH
  exact ⟨z, its, n, r, r.length, e⟩
end
section
variable {X : Cx}
def rAppend : V → List V → Hp → VK → Prop := fun x vs H Q => ∃ l xs y, x = .ref l ∧ vs = [y] ∧ H l = some (.lst xs) ∧ xs.length < sizeLine ∧ Q .non (upd H l (.lst (xs ++ [y])))
theorem mt_append : MtM X "list.append" rAppend := by
  intro pins s σ H x vs v us Q I rx rv h
  obtain ⟨l, xs, y, rfl, rfl, hH, hz, q⟩ := h
  cases rx
  obtain ⟨u, rfl, ru⟩ := rv.one
  obtain ⟨z, its, n, r, hl, e⟩ := I.lstM hH
  refine call_meets F.slot_list_append ⟨_, e, rfl⟩ F.entry_list_append (F.args_list_append_2 _ _) (PySem.list_append l its.toArray n u (by rw [List.size_toArray]; omega)) ⟨e, ?_⟩
  refine ⟨.non, _, I.lset (its' := its ++ [u]) hH e (by simp) (r.append (.cons ru .nil)) ?_, rfl, q⟩
  rw [List.length_append, List.length_singleton]
  omega
def rPopAt : V → List V → Hp → VK → Prop := fun x vs H Q => ∃ l xs i k y, x = .ref l ∧ vs = [.int i] ∧ H l = some (.lst xs) ∧ -(2 ^ 63) ≤ i ∧ i < 2 ^ 63 ∧ seqIndex? i xs.length = some k ∧ xs[k]? = some y ∧ Q y (upd H l (.lst (xs.eraseIdx k)))
theorem mt_popAt : MtM X "list.pop" rPopAt := by
  intro pins s σ H x vs v us Q I rx rv h
  obtain ⟨l, xs, i, k, y, rfl, rfl, hH, h1, h2, hk, hy, q⟩ := h
  cases rx
  obtain ⟨u, rfl, ru⟩ := rv.one
  obtain ⟨t, rfl⟩ := ru
  obtain ⟨z, its, n, r, hl, e⟩ := I.lstM hH
  obtain ⟨w, hw, rw'⟩ := r.get hy
  refine call_meets F.slot_list_pop ⟨_, e, rfl⟩ F.entry_list_pop (F.args_list_pop_2 _ _)
    (MeetsSeq.list_pop_at l its.toArray n i t k w (fitsIndex_both h1 h2) (by rw [List.size_toArray, ← hl]; exact hk) (by rw [← Array.getElem?_toList]; exact hw) (by rw [List.size_toArray]; omega)) ⟨e, ?_⟩
  refine ⟨y, _, I.lset (its' := its.eraseIdx k) hH e ?_ (r.eraseIdx k) ?_, rw', q⟩
  · show its.toArray.eraseIdxIfInBounds k = (its.eraseIdx k).toArray
    rw [List.eraseIdxIfInBounds_toArray]
  · have := len_erase xs k
    omega
def rClear : V → List V → Hp → VK → Prop := fun x vs H Q => ∃ l xs, x = .ref l ∧ vs = [] ∧ H l = some (.lst xs) ∧ Q .non (upd H l (.lst []))
theorem mt_clear : MtM X "list.clear" rClear := by
  intro pins s σ H x vs v us Q I rx rv h
  obtain ⟨l, xs, rfl, rfl, hH, q⟩ := h
  cases rx
  have hus := rv.zero
  subst hus
  obtain ⟨z, its, n, r, hl, e⟩ := I.lstM hH
  refine call_meets F.slot_list_clear ⟨_, e, rfl⟩ F.entry_list_clear (F.args_list_clear_1 _) (AutoSeq1.list_clear_list_0 l its.toArray n (by rw [List.size_toArray]; omega)) ⟨e, ?_⟩
  exact ⟨.non, _, I.lset (its' := []) (ys := []) hH e rfl .nil (Nat.zero_le _), rfl, q⟩
def rCat : R2 := fun x y H Q => ∃ l b xs zs, x = .ref l ∧ y = .ref b ∧ H l = some (.lst xs) ∧ H b = some (.lst zs) ∧ xs.length + zs.length ≤ sizeLine ∧ ∀ p, H p = none → Q (.ref p) (upd H p (.lst (xs ++ zs)))
theorem op_cat : OpR X (binaryOp .Add) rCat := by
  intro pins s σ H x y v u Q I rx ry h
  obtain ⟨l, b, xs, zs, rfl, rfl, hH, hB, hz, q⟩ := h
  cases rx
  cases ry
  obtain ⟨z, its, n, r, hl, e⟩ := I.lstM hH
  obtain ⟨z2, its2, n2, r2, hl2, e2⟩ := I.lstM hB
  refine PySem.P.add_list e e2 ?_ (by rw [List.size_toArray, List.size_toArray]; omega)
  have ea : its.toArray ++ its2.toArray = (its ++ its2).toArray := by simp
  rw [ea]
  exact ⟨.ref _, _, I.lnew (t' := s.toks) (r.append r2) (by rw [List.length_append]; omega), rfl, q _ I.fresh⟩
end
section
variable {prog : Program} {w : World} {A : Around} {E : Value → Shared → Prop} {s : Shared}
end
section
variable {X : Cx}
end
end L2
namespace Att
open PySem PySem.W PySem.Calls PyProof.Rows
theorem ints_of_wellAll {P : Params} {h : Heap} : ∀ (ns : List Int) (vs : List Value), WellAll P h vs (ns.map WData.int) → IntsAre vs ns := by
  intro ns
  induction ns with
  | nil =>
    intro vs w
    rw [List.map_nil] at w
    cases w
    exact .nil
  | cons n ns ih =>
    intro vs w
    rw [List.map_cons] at w
    cases w with
    | cons a b =>
      cases a
      exact .cons _ _ (ih _ b)
theorem script_of {l : OpenLaw} {n : Nat} (hn : l.most = some n) {P : Params} {h : Heap} {args : List WData} {vals : List Value}
    (hpre : l.row.toRowW.claim.pre args = true) (hwl : WellAll P h vals args) :
    ∃ a vs ns, vals = [Value.ref a] ∧ args = [WData.list (ns.map WData.int)] ∧ h.get? a = some { cls := .type "list", data := .seq vs.toArray } ∧ IntsAre vs ns ∧ ns.length ≤ n := by
  have hsh : WShape.hasAll [] args [.list .int] = true := (pre_splitW hpre).1
  have hc : l.pre.holds [] { args := args } = true := (pre_splitW hpre).2
  obtain ⟨d, r, rfl, h1, h2⟩ := hasAllW_cons hsh
  obtain rfl := hasAllW_nil h2
  obtain ⟨xs, rfl, h3⟩ := hasW_list h1
  obtain ⟨ns, rfl⟩ := items_int h3
  have hlen : ns.length ≤ n := by
    unfold OpenLaw.pre at hc
    have h4 : (WTm.not (.lt (.lit (.int (n : Int))) (.len (.arg 0)))).holds [] { args := [.list (ns.map .int)] } = true := by
      have h4 := (holds_andW hc).1
      rw [hn] at h4
      exact h4
    have h5 := condW_of h4 (w_not (w_lt w_lit (w_len_list (w_arg rfl))))
    rw [List.length_map] at h5
    refine Nat.le_of_not_lt fun q => ?_
    have q' : (n : Int) < ((ns.length : Nat) : Int) := by omega
    first
      | (rw [decide_eq_true q'] at h5; exact absurd h5 (by decide))
      | (simp at h5; omega)
  cases hwl with
  | cons w1 w2 =>
    cases w2
    cases w1 with
    | list ho hall => exact ⟨_, _, ns, rfl, rfl, ho, ints_of_wellAll ns _ hall, hlen⟩
theorem post_true (l : OpenLaw) (args : List WData) : l.row.toRowW.claim.post args (.bool true) args = true :=
  postW_of (r := l.row.toRowW) (X := (true == true))
    (show WShape.has [] (.bool true) .bool = true by first | rfl | decide | simp [WShape.has, WShape.arms, WShape.armsAll])
    (show (WTm.eq .res (.lit (.bool true))).value [] { args := args, res := some (.bool true), after := args } = some (.bool (true == true)) from w_eq_bool (w_res rfl) w_lit) rfl
theorem attach_call {l : OpenLaw} {n : Nat} {q : Program} {loose : List Str} {XP : (Str → Option Value) → Heap → Prop} {YP : World → Heap → Prop} {d : DefRec}
    (hn : l.most = some n) (hdf : d.params.defaults = [])
    (call : ∀ (w : World) (s₀ s₁ : Shared) (mg mb : Str → Option Value) (fa : Addr) (o : Obj) (pm cd doc : Value) (a : Addr) (vs : List Value) (ns : List Int),
      Ground q loose [] XP w s₀ mg mb s₁.heap → YP w s₁.heap →
      s₁.heap.get? fa = some o → o.data = .func (docDef d.name d.params d.body d.scope pm cd doc) → s₁.heap.CodeRec cd d.name → mg d.name = some (.ref fa) →
      s₁.heap.get? a = some { cls := .type "list", data := .seq vs.toArray } → IntsAre vs ns → ns.length ≤ n → s₁.gens = #[] →
      codeAny (model l.prog w) callerA (.call (.ref fa) ⟨[.ref a], []⟩) (fun r s' => r = .ok (.ret (.bool true)) ∧ OldK s₁.heap s'.heap ∧ s'.os = s₁.os ∧ AllBare s'.gens) s₁) :
    WalkO q loose XP YP l.row.toRowW d [] (fun f vs => PySem.call f vs) := by
  intro w s₀ s₁ mg mb G Y fa o pm cd doc dV kV ho hd hcd hD hmg hg args vals as hpre hlay hrd hwl hlo
  obtain rfl : dV = .none := Dflts.none hD hdf
  obtain rfl : kV = .none := Dflts.noKw hD
  obtain ⟨a, vs, ns, rfl, rfl, hobj, hints, hlen⟩ := script_of hn hpre hwl
  refine enter_call (codeAny_mono (call w s₀ s₁ mg mb fa o pm cd doc a vs ns G Y ho (fd_plain hd) hcd hmg hobj hints hlen hg) fun r s' hq => ?_)
  obtain ⟨rfl, h2, h3, h4⟩ := hq
  exact ⟨.inl ⟨.bool true, .bool true, [], rfl, fun _ => rfl, .bool true, post_true l _, fun _ => ⟨List.Pairwise.nil, fun _ hm => (nomatch hm)⟩⟩, h2, h3, h4⟩
section
variable {prog : Program} {w : World} {A : Around} {E : Value → Shared → Prop} {s : Shared} {K : Frag}
def ledger (h : Heap) (L d : Addr) : List (Addr × Obj) := (List.range h.objs.size).filterMap fun a => if a = L ∨ a = d then none else (h.get? a).map fun o => (a, o)
end
end Att
namespace L2
open PySem PySem.Spec PyProof.Rows
theorem vals_ints : ∀ {vs : List Value} {ns : List Int}, IntsAre vs ns → Vals (ns.map V.int) vs
  | _, _, .nil => .nil
  | _, _, .cons n t h => .cons ⟨t, rfl⟩ (vals_ints h)
def Only (H : Hp) : Prop := ∀ b, H b = none ∨ ∃ o xs, H b = some (.frz o (.lst xs))
theorem law_call {P : Program} {w : World} {K : PySem.W.Frag} {mg mb : Str → Option Value} {CX : CXT} {k : Nat} {fa a : Addr} {fd : FuncData} {x : Str} {sp : Sp} {s₁ : Shared} {vs : List Value} {ns : List Int}
    (KX : K.In s₁.heap) (hns : s₁.heap.Ns mainGlobals mg) (hb : s₁.heap.Ns builtinsNs mb) (hbb : ∀ x : Str, x ≠ "__name__" → mb x = bootBuiltins x) (hlim : s₁.heap.NoLimit) (hg : s₁.gens = #[])
    (ha : s₁.heap.get? a = some { cls := .type "list", data := .seq vs.toArray }) (hi : IntsAre vs ns) (hl : ns.length ≤ sizeLine) (hr : Room k callerA)
    (F : ∀ base : Heap, K.In base → base.Ns mainGlobals mg → FnOk P w K mg base CX k fa fd [x] sp) (hbind : ∀ (s : Shared) (u : Value), BindsTo s fd ⟨[u], []⟩ [(x, u)])
    (hsp : ∀ H : Hp, Only H → SqL K H a (ns.map V.int) → sp [.ref a] H (fun v _ => v = .bl true) fun _ _ _ => False)
    (hCX : ∀ H e s', CX [] H s₁ (fun _ _ _ => False) e s' → False) :
    codeAny (model P w) callerA (.call (.ref fa) ⟨[.ref a], []⟩) (fun r s' => r = .ok (.ret (.bool true)) ∧ OldK s₁.heap s'.heap ∧ s'.os = s₁.os ∧ AllBare s'.gens) s₁ := by
  have rv := vals_ints hi
  have lenV := hi.length
  have core : ∀ H : Hp, Only H → SqL K H a (ns.map V.int) → HOk P w H s₁.heap → (∀ b, H b ≠ none → b = a) → (H a ≠ none → K.lookup a = none) →
      codeAny (model P w) callerA (.call (.ref fa) ⟨[.ref a], []⟩) (fun r s' => r = .ok (.ret (.bool true)) ∧ OldK s₁.heap s'.heap ∧ s'.os = s₁.os ∧ AllBare s'.gens) s₁ := by
    intro H hO hS hok hA hK
    have base_of : ∀ {b : Addr} {o : Obj}, s₁.heap.get? b = some o → H b = none → (hidT s₁.heap H).get? b = some o := fun e n => hidT_get e n
    have noA : ∀ {b : Addr} {o : Obj} {es : Array DictEntry} {ep : Nat}, s₁.heap.get? b = some o → o.data = .dict es ep → H b = none := fun {b o es ep} e d => by
      cases q : H b with
      | none => rfl
      | some u =>
        have e' : b = a := hA b (by rw [q]; simp)
        subst e'
        rw [ha] at e; cases e
        have d' : Data.seq vs.toArray _ = Data.dict es ep := d
        cases d'
    have nsK : ∀ {b : Addr} {m : Str → Option Value}, s₁.heap.Ns b m → (hidT s₁.heap H).Ns b m := fun {b m} ⟨o, es, ep, e, d, r⟩ => ⟨o, es, ep, base_of e (noA e d), d, r⟩
    have hKb : K.In (hidT s₁.heap H) := fun b o e => base_of (KX b o e) (by
      cases q : H b with
      | none => rfl
      | some u =>
        have e' : b = a := hA b (by rw [q]; simp)
        subst e'
        rw [hK (by rw [q]; simp)] at e; cases e)
    have hM : Mod K mg (hidT s₁.heap H) := ⟨hKb, nsK hns, ⟨mb, nsK hb, hbb⟩, let ⟨mc, h1, h2⟩ := hlim; ⟨mc, nsK h1, h2⟩⟩
    have e0 : Env0 P w K mg (hidT s₁.heap H) callerA [] s₁ H := ⟨rfl, hM, fun b o e => of_hidT e, Nat.le_of_eq (hidT_size _ _), trivial, fun b hb => absurd (show b ∈ ([] : List Addr) from hb) (by simp), hok, .of_eq hg⟩
    refine codeAny_mono ((F _ hKb (nsK hns)).run callerA [] s₁ H ⟨[.ref a], []⟩ [.ref a] [.ref a] _ _ hr e0 (hbind s₁ (.ref a)) (.cons rfl .nil) (hsp H hO hS)) fun r s' h => ?_
    cases r with
    | error e => exact (hCX H e s' h).elim
    | ok fl =>
      cases fl with
      | next => exact False.elim h
      | brk => exact False.elim h
      | cont => exact False.elim h
      | ret u =>
        obtain ⟨v, H', os, bare, un, hok', r', q⟩ := h
        have q' : v = .bl true := q
        subst q'
        obtain rfl : u = Value.bool true := r'
        refine ⟨rfl, OldK.of_keep fun b o e => ?_, os, bare⟩
        cases q : H b with
        | none => exact un.keep b o e q (by intro z; exact absurd (show b ∈ ([] : List Addr) from z) (by simp)) (by simp)
        | some u =>
          rcases hO b with z | ⟨ob, xs, z⟩
          · rw [q] at z; cases z
          · have z2 := un.frzs b ob _ z
            obtain ⟨e1, _⟩ := hok b _ z
            obtain ⟨e2, _⟩ := hok' b _ z2
            rw [e] at e1; cases e1
            exact e2
  cases hk : K.lookup a with
  | some o =>
    have e := KX a o hk
    rw [ha] at e
    cases e
    refine core (fun _ => none) (fun _ => .inl rfl) (.inr ⟨_, vs.toArray, _, hk, rfl, rfl, rfl, by rw [List.size_toArray, lenV]; exact hl, by simpa using rv⟩) (fun b u z => by have z' : (none : Option HO) = some u := z; cases z') (fun b z => absurd rfl z) fun z => absurd rfl z
  | none =>
    refine core (fun b => if b = a then some (.frz { cls := .type "list", data := .seq vs.toArray } (.lst (ns.map V.int))) else none) (fun b => ?_) (.inl (.inr ⟨{ cls := .type "list", data := .seq vs.toArray }, if_pos rfl⟩)) (fun b u z => ?_) (fun b z => ?_) fun _ => hk
    · by_cases hb : b = a
      · exact .inr ⟨_, _, if_pos hb⟩
      · exact .inl (if_neg hb)
    · by_cases hb : b = a
      · have z' := (if_pos hb).symm.trans z
        cases z'
        subst hb
        exact ⟨ha, by rw [List.length_map]; exact hl, vs, _, rv, ha⟩
      · have z' := (if_neg hb).symm.trans z
        cases z'
    · by_cases hb : b = a
      · exact hb
      · exact absurd (if_neg hb) z
end L2
namespace L2
open PySem PySem.Spec PyProof.Rows
theorem walk_of {l : PySem.W.OpenLaw} {n k : Nat} {q : Program} {loose : List Str} {XP : (Str → Option Value) → Heap → Prop} {YP : World → Heap → Prop} {d : DefRec} {K : Params → PySem.W.Frag} {CX : World → CXT} {sp : World → Sp} {x : Str}
    (hn : l.most = some n) (hn2 : n ≤ sizeLine) (hdf : d.params.defaults = []) (hr : Room k callerA)
    (hY : ∀ (w : World) (h : Heap), YP w h → (K w.params).In h)
    (F : ∀ (w : World) (mg : Str → Option Value) (fa : Addr) (h : Heap), (K w.params).In h → h.Ns mainGlobals mg → mg d.name = some (.ref fa) →
      ∃ fd : FuncData, (∀ (s : Shared) (u : Value), BindsTo s fd ⟨[u], []⟩ [(x, u)]) ∧
        ∀ base : Heap, (K w.params).In base → base.Ns mainGlobals mg → FnOk l.prog w (K w.params) mg base (CX w) k fa fd [x] (sp w))
    (hsp : ∀ (w : World) (H : Hp) (a : Addr) (ns : List Int), ns.length ≤ n → Only H → SqL (K w.params) H a (ns.map V.int) → sp w [.ref a] H (fun v _ => v = .bl true) fun _ _ _ => False)
    (hCX : ∀ (w : World) (H : Hp) (s : Shared) (e : Value) (s' : Shared), CX w [] H s (fun _ _ _ => False) e s' → False) :
    PySem.W.WalkO q loose XP YP l.row.toRowW d [] (fun f vs => PySem.call f vs) := by
  refine Att.attach_call hn hdf fun w s₀ s₁ mg mb fa o pm cd doc a vs ns G Y ho hd hcd hmg hobj hints hlen hg => ?_
  have KX := hY w _ Y
  obtain ⟨fd, hb, hF⟩ := F w mg fa _ KX G.T.g hmg
  exact law_call KX G.T.g G.T.b G.T.builtins G.T.nolimit hg hobj hints (Nat.le_trans hlen hn2) hr hF hb (fun H hO hS => hsp w H a ns hlen hO hS) fun H e s' => hCX w H s₁ e s'
end L2
/- THE LAST THEOREM (shape; LID, My.* are yours):
   My.Adr: a structure of the addresses that your layer names (classes, functions); My.Txt K t: a structure (Prop) of the equations over K;
   My.txt_mk : {K} {implicit addresses ..} (e1 : nsIn K mainGlobals "law" = some (some (.ref f))) (e2 : K.lookup f = some ⟨oc, od, .func (fnOf "law" "law" params body scope dV kV doc pm an cdv ct), sl⟩) (e3 : codeIn K cdv "law" = true) .. : ∃ t, My.Txt K t
set_option maxRecDepth 100000 in
set_option maxHeartbeats 0 in
theorem PySem.Challenge.cw_LID_holds : PySem.Challenge.rw_LID.Holds := by
  w_on; o_law; k_head; (case hw => w_witness2)
  k_fill
  refine L2.walk_of (l := PySem.Challenge.rw_LID) (n := 63) (k := 40) (x := "script") (CX := fun w => ..) (sp := fun _ => My.sp_law) rfl (by decide) rfl ⟨rfl, by decide, by decide⟩ (fun w h Y => PySem.W.kIn_of Y) ?F ?S ?C
  case F =>
    intro w mg fa h KX G hmg
    have T : ∃ t, My.Txt (L2.KOf KX) t := by
      dsimp only [L2.KOf]                          -- K must stand as «<heap const> w.params» for k_is
      refine' My.txt_mk ?e1 ?e2 ?e3 ..
      (case e1 => PySem.W.k_is)                    -- in the order: a name -> its address -> its object -> its parts
      (case e2 => PySem.W.k_is)
      ..
    obtain ⟨t, T⟩ := T
    have e0 := hmg.symm.trans (PySem.W.mg_of KX G T.law)
    cases e0                                       -- fa is the law's own address
    exact ⟨_, fun s u => .of_eq rfl, fun base kb nb => My.law_fn T kb nb⟩     -- if «.of_eq rfl» comes too early: refine' ⟨_, ?b, fun base kb nb => My.law_fn T kb nb⟩; exact fun s u => .of_eq rfl
  case S => exact fun w H a ns hl hO hS => ..
  case C => exact ..
(the tactic k_is has no namespace: write k_is) -/
namespace L2
open PySem PySem.Spec PyProof.Rows
def defArgs (s : Stmt) : Arguments := match s with
  | .FunctionDef _ a _ _ _ _ _ _ _ _ => a
  | _ => { posonlyargs := [], args := [], vararg := none, kwonlyargs := [], kw_defaults := [], kwarg := none, defaults := [] }
def defBody (s : Stmt) : List Stmt := match s with
  | .FunctionDef _ _ b _ _ _ _ _ _ _ => b
  | _ => []
def defScope (s : Stmt) : Scope := match s with
  | .FunctionDef _ _ _ _ _ _ sc _ _ _ => sc
  | _ => { kind := .function, names := [], isGenerator := false, isCoroutine := false }
abbrev CX0 : CXT := fun _ _ _ _ _ _ => False
abbrev E0 : XK := fun _ _ _ => False
theorem pass0 {X : Cx} : Passes CX0 X E0 := fun _ _ _ _ _ _ _ h => h.elim
structure Fun (K : PySem.W.Frag) (x qual : Str) (st : Stmt) (f : Addr) (fd : FuncData) : Prop where
  ex : ∃ (oc : Value) (od : Option Addr) (kV doc pm : Value) (an : Option Addr) (cdv ct : Value) (osl : Array (Option Value)),
    fd = PySem.W.fnOf x qual (defArgs st) (defBody st) (defScope st) .none kV doc pm an cdv ct ∧ K.lookup f = some ⟨oc, od, .func fd, osl⟩ ∧ PySem.W.codeIn K cdv qual = true
  kp : PySem.W.keepIn K (.ref f) = true
section
variable {P : Program} {w : World} {K : PySem.W.Frag} {mg : Str → Option Value} {base : Heap}
theorem Fun.ok {x qual : Str} {st : Stmt} {f : Addr} {fd : FuncData} {N ps : List Str} {k : Nat} {sp : Sp} (F : Fun K x qual st f fd) (S : FnScope N ps (defScope st)) (len : ∀ vs H Q E, sp vs H Q E → vs.length = ps.length)
    (hbody : ∀ (cdv : Value) (A : Around) (outer : List Env) (s : Shared) (H : Hp) (vs : List V) (Q : VK) (E : XK), Room k (A.deeper (envOfC qual (defScope st) s.heap.objs.size f cdv)) → sp vs H Q E →
      ∃ t, PSs (cxOf CX0 P w K mg base N qual (defScope st) f cdv A outer s H E).nox (defBody st) t ∧ t { nx := fun _ H' => Q .non H', rt := Q } (start N vs) H) : FnOk P w K mg base CX0 (k + 1) f fd ps sp := by
  obtain ⟨oc, od, kV, doc, pm, an, cdv, ct, osl, rfl, lk, hcd⟩ := F.ex
  refine fn_of lk hcd S len fun A outer s H vs Q E hr hsp => ?_
  obtain ⟨t, h, q⟩ := hbody cdv A outer s H vs Q E hr hsp
  exact ⟨t, h.nox, q⟩
theorem Fun.binds {x qual : Str} {st : Stmt} {f : Addr} {fd : FuncData} {ps : List Str} (F : Fun K x qual st f fd)
    (h : ∀ (kV doc pm : Value) (an : Option Addr) (cdv ct : Value) (us : List Value), us.length = ps.length → bindArgs (PySem.W.fnOf x qual (defArgs st) (defBody st) (defScope st) .none kV doc pm an cdv ct) ⟨us, []⟩ = pure (ps.zip us)) : Binds K fd ps [] := by
  obtain ⟨oc, od, kV, doc, pm, an, cdv, ct, osl, rfl, lk, hcd⟩ := F.ex
  exact .all (h kV doc pm an cdv ct)
theorem fun_mk {x qual : Str} {st : Stmt} {f : Addr} {oc : Value} {od an : Option Addr} {osl : Array (Option Value)} {kV doc pm cdv ct : Value} (l : K.lookup f = some ⟨oc, od, .func (PySem.W.fnOf x qual (defArgs st) (defBody st) (defScope st) .none kV doc pm an cdv ct), osl⟩)
    (c : PySem.W.codeIn K cdv qual = true) (k : PySem.W.keepIn K (.ref f) = true) : Fun K x qual st f (PySem.W.fnOf x qual (defArgs st) (defBody st) (defScope st) .none kV doc pm an cdv ct) := ⟨⟨oc, od, kV, doc, pm, an, cdv, ct, osl, rfl, l, c⟩, k⟩
end
theorem hu_of {A : Around} {k : Nat} (hr : Room k A) : A.units + 1 < cLine := Nat.lt_of_le_of_lt (Nat.add_le_add_left (by decide : 1 ≤ 64) _) hr.units
theorem small1000 {n : Nat} (h : n ≤ 1000) : n < sizeLine := Nat.lt_of_le_of_lt h (by decide)
section
variable {X : Cx}
theorem pv (i : Nat) {x : Str} {pos : Pos} (hN : X.N[i]? = some x := by rfl) (hv : Vis X.env.scope x := by first | exact Or.inl rfl | exact Or.inr (Or.inl rfl) | exact Or.inr (Or.inr rfl)) (hd : (x == ("__debug__" : Str)) = false := by decide)
    (hcd : (x == ("__classdict__" : Str)) = false := by decide) : PE X (.Name x pos) (tVar i) := pe_var hN hv hd hcd
end
theorem iteF {A B : Prop} (h : B) : if false = true then A else B := by
  rw [if_neg Bool.false_ne_true]
  exact h
theorem iteT {A B : Prop} (h : A) : if true = true then A else B := by
  rw [if_pos rfl]
  exact h
theorem ite2 {c A B : Prop} [Decidable c] (h1 : c → A) (h2 : ¬ c → B) : if c then A else B := by
  by_cases h : c
  · rw [if_pos h]
    exact h1 h
  · rw [if_neg h]
    exact h2 h
end L2
set_option linter.all false
namespace L2
open PySem PySem.Spec PyProof.Rows
section
variable {κ : Type} [DecidableEq κ]
def valV (kvs : List (κ × V)) (k : κ) : Option V := (kvs.find? fun kv => decide (kv.1 = k)).map (·.2)
def putK (kvs : List (κ × V)) (k : κ) (v : V) : List (κ × V) :=
  if (kvs.any fun kv => decide (kv.1 = k)) = true then kvs.map (fun kv => if kv.1 = k then (kv.1, v) else kv) else kvs ++ [(k, v)]
theorem valV_pos {p : κ × V} {r : List (κ × V)} {k : κ} (e : p.1 = k) : valV (p :: r) k = some p.2 := by simp [valV, List.find?_cons, e]
theorem valV_neg {p : κ × V} {r : List (κ × V)} {k : κ} (e : ¬ p.1 = k) : valV (p :: r) k = valV r k := by simp [valV, List.find?_cons, e]
theorem valV_any (k : κ) : ∀ kvs : List (κ × V), (kvs.any fun kv => decide (kv.1 = k)) = (valV kvs k).isSome
  | [] => rfl
  | p :: r => by
    rw [List.any_cons]
    by_cases e : p.1 = k
    · simp only [valV_pos e, decide_eq_true e, Bool.true_or, Option.isSome_some]
    · rw [valV_neg e, decide_eq_false e, Bool.false_or]; exact valV_any k r
theorem length_putK (kvs : List (κ × V)) (k : κ) (v : V) : (putK kvs k v).length ≤ kvs.length + 1 := by
  unfold putK
  split
  · rw [List.length_map]; omega
  · rw [List.length_append, List.length_cons, List.length_nil]; omega
theorem RelO.isSome_eq {o : Option V} {u : Option Value} (r : RelO o u) : o.isSome = u.isSome := by
  cases o with
  | none => cases u with
    | none => rfl
    | some _ => exact (show False from r).elim
  | some _ => cases u with
    | none => exact (show False from r).elim
    | some _ => rfl
theorem RelO.getD {o : Option V} {u : Option Value} {d : V} {d' : Value} (r : RelO o u) (rd : RelV d d') : RelV (o.getD d) (u.getD d') := by
  cases o with
  | none => cases u with
    | none => exact rd
    | some _ => exact (show False from r).elim
  | some _ => cases u with
    | none => exact (show False from r).elim
    | some _ => exact r
theorem KV.val {kvs : List (κ × V)} {vs : List (κ × Value)} (r : KV kvs vs) (k : κ) : RelO (valV kvs k) (valueAt vs k) := by
  unfold KV at r
  induction r with
  | nil => exact True.intro
  | @cons p q ps qs h t ih =>
    obtain ⟨h1, h2⟩ := h
    by_cases e : p.1 = k
    · have e' : q.1 = k := h1.symm.trans e
      have b : valueAt (q :: qs) k = some q.2 := by simp [valueAt, List.find?_cons, e']
      rw [valV_pos e, b]; exact h2
    · have e' : ¬ q.1 = k := fun z => e (h1.trans z)
      have b : valueAt (q :: qs) k = valueAt qs k := by simp [valueAt, List.find?_cons, e']
      rw [valV_neg e, b]; exact ih
theorem KV.any {kvs : List (κ × V)} {vs : List (κ × Value)} (r : KV kvs vs) (k : κ) : (kvs.any fun kv => decide (kv.1 = k)) = vs.any fun kv => decide (kv.1 = k) := by
  unfold KV at r
  induction r with
  | nil => rfl
  | cons h t ih => rw [List.any_cons, List.any_cons, ih, h.1]
theorem KV.repl {kvs : List (κ × V)} {vs : List (κ × Value)} (r : KV kvs vs) (k : κ) {y : V} {u : Value} (ry : RelV y u) :
    KV (kvs.map fun kv => if kv.1 = k then (kv.1, y) else kv) (vs.map fun kv => if kv.1 = k then (kv.1, u) else kv) := by
  unfold KV at r ⊢
  induction r with
  | nil => exact .nil
  | @cons p q ps qs h t ih =>
    rw [List.map_cons, List.map_cons]
    refine .cons ?_ ih
    obtain ⟨h1, h2⟩ := h
    by_cases e : p.1 = k
    · rw [if_pos e, if_pos (h1.symm.trans e)]; exact ⟨h1, ry⟩
    · rw [if_neg e, if_neg (fun z => e (h1.trans z))]; exact ⟨h1, h2⟩
theorem KV.put {kvs : List (κ × V)} {vs : List (κ × Value)} (r : KV kvs vs) (k : κ) {y : V} {u : Value} (ry : RelV y u) : KV (putK kvs k y) (stored vs k u) := by
  unfold putK stored
  rw [r.any k]
  by_cases e : (vs.any fun kv => decide (kv.1 = k)) = true
  · rw [if_pos e, if_pos e]; exact r.repl k ry
  · rw [if_neg e, if_neg e]; exact Paired.snoc r ⟨rfl, ry⟩
theorem KV.keys {kvs : List (κ × V)} {vs : List (κ × Value)} (r : KV kvs vs) : kvs.map (·.1) = vs.map (·.1) := by
  unfold KV at r
  induction r with
  | nil => rfl
  | cons h t ih => rw [List.map_cons, List.map_cons, ih, h.1]
theorem KV.length {kvs : List (κ × V)} {vs : List (κ × Value)} (r : KV kvs vs) : kvs.length = vs.length := Paired.length r
end
theorem kV_is {P : Program} {w : World} {k : Key} {u : Value} (r : RelV (kV k) u) : (mixKind P w).is k u = true := by
  cases k with
  | inl i => obtain ⟨t, e⟩ := (show ∃ t, u = Value.int i t from r); subst e; exact mixKind_int P w i t
  | inr x => obtain ⟨t, e⟩ := (show ∃ t, u = Value.str x t from r); subst e; exact mixKind_str P w x t
theorem items_are {P : Program} {w : World} : ∀ {ks : List Key} {us : List Value}, Vals (ks.map kV) us → ItemsAre (mixKind P w) ks us
  | [], _, r => by rw [List.map_nil] at r; cases r; exact .nil
  | k :: ks, _, r => by
    rw [List.map_cons] at r
    cases r with
    | cons h t => exact .cons (kV_is h) (items_are t)
abbrev KT (H : Hp) : List (List Key × V) → List (List Key × Addr × Value) → Prop := Paired fun p q => p.1 = q.1 ∧ H q.2.1 = some (.tup (p.1.map kV)) ∧ RelV p.2 q.2.2
theorem KT.val {H : Hp} {kvs : List (List Key × V)} {xs : List (List Key × Addr × Value)} (r : KT H kvs xs) (k : List Key) : RelO (valV kvs k) ((atKey xs k).map (·.2)) := by
  induction r with
  | nil => exact True.intro
  | @cons p q ps qs h t ih =>
    obtain ⟨h1, _, h2⟩ := h
    by_cases e : p.1 = k
    · have e' : q.1 = k := h1.symm.trans e
      have b : atKey (q :: qs) k = some q.2 := by simp [atKey, List.find?_cons, e']
      rw [valV_pos e, b]; exact h2
    · have e' : ¬ q.1 = k := fun z => e (h1.trans z)
      have b : atKey (q :: qs) k = atKey qs k := by simp [atKey, List.find?_cons, e']
      rw [valV_neg e, b]; exact ih
theorem KT.repl {H : Hp} {kvs : List (List Key × V)} {xs : List (List Key × Addr × Value)} (r : KT H kvs xs) (k : List Key) {y : V} {u : Value} (ry : RelV y u) :
    KT H (kvs.map fun kv => if kv.1 = k then (kv.1, y) else kv) (xs.map (putAt k u)) := by
  induction r with
  | nil => exact .nil
  | @cons p q ps qs h t ih =>
    rw [List.map_cons, List.map_cons]
    refine .cons ?_ ih
    obtain ⟨h1, h2, h3⟩ := h
    unfold putAt
    by_cases e : p.1 = k
    · rw [if_pos e, if_pos (h1.symm.trans e)]; exact ⟨h1, h2, ry⟩
    · rw [if_neg e, if_neg (fun z => e (h1.trans z))]; exact ⟨h1, h2, h3⟩
theorem KT.put {H : Hp} {kvs : List (List Key × V)} {xs : List (List Key × Addr × Value)} (r : KT H kvs xs) (k : List Key) {b : Addr} {y : V} {u : Value} (hb : H b = some (.tup (k.map kV))) (ry : RelV y u) :
    KT H (putK kvs k y) (storedH xs k b u) := by
  have e : (kvs.any fun kv => decide (kv.1 = k)) = (atKey xs k).isSome := by
    rw [valV_any, (r.val k).isSome_eq, Option.isSome_map]
  unfold putK storedH
  rw [e]
  by_cases q : (atKey xs k).isSome = true
  · rw [if_pos q, if_pos q]; exact r.repl k ry
  · rw [if_neg q, if_neg q]; exact Paired.snoc r ⟨rfl, hb, ry⟩
theorem KT.keeps {H H' : Hp} {kvs : List (List Key × V)} {xs : List (List Key × Addr × Value)} (r : KT H kvs xs) (ht : ∀ b ys, H b = some (.tup ys) → H' b = some (.tup ys)) : KT H' kvs xs :=
  Paired.mapP r fun _ _ z => ⟨z.1, ht _ _ z.2.1, z.2.2⟩
section
variable {P : Program} {w : World} {H : Hp} {h : Heap} {a : Addr}
theorem rd_of {u : HO} (ok : HOk P w H h) (e : Rd H a u) : ObjOk P w H h a u := e.ok ok
theorem dk_rd {kvs : List (Key × V)} (ok : HOk P w H h) (e : Rd H a (.dK kvs)) : kvs.length ≤ sizeLine ∧ (a == sysModules) = false ∧ ∃ vs, KV kvs vs ∧ h.DictOf (mixKind P w) a vs :=
  show ObjOk P w H h a (.dK kvs) from rd_of ok e
theorem dk_of {kvs : List (Key × V)} (ok : HOk P w H h) (e : H a = some (.dK kvs)) : kvs.length ≤ sizeLine ∧ (a == sysModules) = false ∧ ∃ vs, KV kvs vs ∧ h.DictOf (mixKind P w) a vs := dk_rd ok (.inl e)
theorem key_of {ks : List Key} (ok : HOk P w H h) (e : H a = some (.tup (ks.map kV))) : (tupleKind (mixKind P w)).is h ks a := by
  obtain ⟨_, its, r, o, h1, h2, n, h3⟩ := (show ObjOk P w H h a (.tup (ks.map kV)) from ok a _ e)
  exact ⟨o, its.toArray, n, h1, h2, h3, by simpa using items_are r⟩
theorem dt_rd {kvs : List (List Key × V)} (ok : HOk P w H h) (e : Rd H a (.dT kvs)) : kvs.length ≤ sizeLine ∧ (a == sysModules) = false ∧
    ∃ xs, KT H kvs xs ∧ h.DictOfH (tupleKind (mixKind P w)) a xs := by
  obtain ⟨z, y, xs, r, o, es, ep, h1, h2, h3, h4, h5⟩ := (show ObjOk P w H h a (.dT kvs) from rd_of ok e)
  refine ⟨z, y, xs, r, o, es, ep, h1, h2, h3, h4, fun x hx => ?_, h5⟩
  have all : ∀ {l : List (List Key × V)} {m : List (List Key × Addr × Value)}, KT H l m → ∀ x ∈ m, (tupleKind (mixKind P w)).is h x.1 x.2.1 := by
    intro l m q
    induction q with
    | nil => intro x hx; exact nomatch hx
    | @cons p q ps qs hq t ih =>
      intro x hx
      rcases List.mem_cons.mp hx with e | hx
      · subst e
        exact key_of ok (by rw [← hq.1]; exact hq.2.1)
      · exact ih x hx
  exact all r x hx
theorem dt_of {kvs : List (List Key × V)} (ok : HOk P w H h) (e : H a = some (.dT kvs)) : kvs.length ≤ sizeLine ∧ (a == sysModules) = false ∧
    ∃ xs, KT H kvs xs ∧ h.DictOfH (tupleKind (mixKind P w)) a xs := dt_rd ok (.inl e)
end
def DGet (H : Hp) (a : Addr) (y : V) (r : Option V) : Prop :=
  (∃ kvs k, Rd H a (.dK kvs) ∧ y = kV k ∧ r = valV kvs k) ∨ ∃ kvs k b, Rd H a (.dT kvs) ∧ y = .ref b ∧ H b = some (.tup (k.map kV)) ∧ r = valV kvs k
def DPut (H : Hp) (a : Addr) (y v : V) (H' : Hp) : Prop :=
  (∃ kvs k, H a = some (.dK kvs) ∧ y = kV k ∧ kvs.length < sizeLine ∧ H' = upd H a (.dK (putK kvs k v))) ∨
  ∃ kvs k b, H a = some (.dT kvs) ∧ y = .ref b ∧ H b = some (.tup (k.map kV)) ∧ kvs.length < sizeLine ∧ H' = upd H a (.dT (putK kvs k v))
theorem DGet.k {H : Hp} {a : Addr} {kvs : List (Key × V)} {k : Key} (e : H a = some (.dK kvs)) : DGet H a (kV k) (valV kvs k) := .inl ⟨kvs, k, .inl e, rfl, rfl⟩
theorem DPut.k {H : Hp} {a : Addr} {kvs : List (Key × V)} {k : Key} {v : V} (e : H a = some (.dK kvs)) (hl : kvs.length < sizeLine) : DPut H a (kV k) v (upd H a (.dK (putK kvs k v))) := .inl ⟨kvs, k, e, rfl, hl, rfl⟩
section
variable {X : Cx} {pins : List (Addr × Obj)} {σ : St} {H : Hp} {s : Shared} {a : Addr} {y v : V} {u r : Value} {o : Option V} {A : Around} {E : Value → Shared → Prop}
theorem Inv.big (I : Inv X pins σ H s) : sysModules < s.heap.objs.size := by
  have h : mainGlobals < s.heap.objs.size := (I.mod.glob.keeps I.bk).lt
  exact Nat.lt_trans (by decide) h
theorem d_getItem {Q : Value → Shared → Prop} (hu : A.units + 1 < cLine) (I : Inv X pins σ H s) (g : DGet H a y (some v)) (ry : RelV y u) (h : ∀ w' s', Inv X pins σ H s' → RelV v w' → Q w' s') :
    wpAny (model X.prog X.w) A (getItem (.ref a) u) Q E s := by
  rcases g with ⟨kvs, k, e, ey, l⟩ | ⟨kvs, k, b, e, ey, eb, l⟩
  · subst ey
    obtain ⟨z, hd, vs, rel, dd⟩ := dk_rd I.hok e
    obtain ⟨w', hw, rw'⟩ := RelO.some_of (v := v) (o := valueAt vs k) (by rw [l]; exact rel.val k)
    exact wpAny_getItem_of (kV_is ry) dd.mapOf hw (h w' _ (I.tok _) rw')
  · subst ey
    cases (show u = Value.ref b from ry)
    obtain ⟨z, hd, xs, rel, dd⟩ := dt_rd I.hok e
    obtain ⟨w', hw, rw'⟩ := RelO.some_of (v := v) (o := (atKey xs k).map (·.2)) (by rw [l]; exact rel.val k)
    obtain ⟨p, hp, hp2⟩ := Option.map_eq_some_iff.mp hw
    refine wpAny_getItem_heap (tupleKind_room_in1 hu) (key_of I.hok eb) dd hp ?_
    rw [hp2]
    exact h w' _ (I.tok _) rw'
theorem d_write {h' : Heap} {t' : Nat} {ob : HO} (I : Inv X pins σ H s) (mu : Mut (H a)) (hs : Heap.SameBut a s.heap h') (he : ∃ q, h'.get? a = some q) (new : ObjOk X.prog X.w (upd H a ob) h' a ob) :
    Inv X pins σ (upd H a ob) { s with heap := h', toks := t' } :=
  I.write (x := a) (e := a) mu (.inl rfl) (fun b q hb z => (hs.2 b hb).trans z) he new
theorem dk_new {P : Program} {w : World} {H' : Hp} {h' : Heap} {kvs : List (Key × V)} {vs : List (Key × Value)} (z : kvs.length ≤ sizeLine) (hd : (a == sysModules) = false) (rel : KV kvs vs) (dd : h'.DictOf (mixKind P w) a vs) :
    ObjOk P w H' h' a (.dK kvs) := ⟨z, hd, vs, rel, dd⟩
theorem d_setItem {H' : Hp} {Q : Unit → Shared → Prop} (hu : A.units + 1 < cLine) (I : Inv X pins σ H s) (g : DPut H a y v H') (ry : RelV y u) (rv : RelV v r) (h : ∀ s', Inv X pins σ H' s' → Q () s') :
    wpAny (model X.prog X.w) A (setItem (.ref a) u r) Q E s := by
  rcases g with ⟨kvs, k, e, ey, l, eH⟩ | ⟨kvs, k, b, e, ey, eb, l, eH⟩
  · subst ey eH
    obtain ⟨z, hd, vs, rel, dd⟩ := dk_of I.hok e
    have hz : vs.length ≤ sizeLine := by rw [← rel.length]; exact z
    have hl : (putK kvs k v).length ≤ sizeLine := by have := length_putK kvs k v; omega
    refine wpAny_setItem_pairs (hsz := hz) (kV_is ry) dd fun h' dd' hs => h _ ?_
    have he : ∃ q, h'.get? a = some q := let ⟨q, _, _, hq, _⟩ := dd'; ⟨q, hq⟩
    exact d_write I (by rw [e]; exact True.intro) hs he (dk_new hl hd (rel.put k rv) dd')
  · subst ey eH
    cases (show u = Value.ref b from ry)
    obtain ⟨z, hd, xs, rel, dd⟩ := dt_of I.hok e
    have hz : xs.length ≤ sizeLine := by rw [← Paired.length rel]; exact z
    have hl : (putK kvs k v).length ≤ sizeLine := by have := length_putK kvs k v; omega
    refine wpAny_setItem_heap (hsz := hz) (tupleKind_room_in1 hu) (key_of I.hok eb) dd fun h' dd' hs => h _ ?_
    obtain ⟨q, es, ep, hq, h2, h3, h4, _, h5⟩ := dd'
    refine d_write I (by rw [e]; exact True.intro) hs ⟨q, hq⟩ ⟨hl, hd, _, (rel.put k eb rv).keeps fun c ys ec => ?_, q, es, ep, hq, h2, h3, h4, h5⟩
    rw [upd_ne (ne_of ec e (fun z => nomatch z))]
    exact ec
end
section
variable {X : Cx} {pins : List (Addr × Obj)} {σ : St} {H : Hp} {s : Shared} {a : Addr} {kvs : List (Key × V)} {k : Key} {u : Value} {A : Around} {E : Value → Shared → Prop}
end
def NoSl (i : Expr) : Prop := ∀ ov iv, subscripted i false ov iv = operate [ov, iv] (getItem ov iv)
theorem subD_of {prog : Program} {w : World} {A : Around} {E : Value → Shared → Prop} {s : Shared} {env : Env} {value slice : Expr} {pos : Pos} {T id : String} {Q : Value → Shared → Prop}
    (hl : typeLookup (.type T) "__getitem__" = pure (some (.builtin id))) (hs : NoSl slice)
    (h : wpAny (model prog w) A (eval value env) (fun o s₁ => wpAny (model prog w) A (eval slice env) (fun i s₂ => s₂.TypeIs o T ∧ wpAny (model prog w) A (getItem o i) Q E s₂) E s₁) E s) :
    wpAny (model prog w) A (eval (.Subscript value slice pos) env) Q E s := by
  refine Subscript_ (wpAny_mono h (fun o s₁ h₁ => wpAny_mono h₁ (fun i s₂ h₂ => ?_) fun _ _ x => x) fun _ _ x => x)
  obtain ⟨hT, h₂⟩ := h₂
  unfold subscriptTail
  refine wpAny_bind ?_
  rw [getitemInPython_of_ne hT.not_modules]
  refine wpAny_bind (wpAny_specialOf hT hl ?_)
  have fin : wpAny (model prog w) A (subscripted slice false o i) (fun r s₃ => wpAny (model prog w) A (letTemporaryGo value o r >>= fun _ => pure r) Q E s₃) E s₂ := by
    rw [hs o i]
    exact wpAny_operating (wpAny_mono h₂ (fun r s₃ h₃ => wpAny_bind (wpAny_letTemporaryGo (wpAny_pure h₃))) fun _ _ x => x)
  first
    | exact wpAny_pure (wpAny_bind fin)
    | exact wpAny_bind (wpAny_pure (wpAny_bind fin))
    | exact wpAny_bind fin
theorem dict_typeIs {X : Cx} {pins : List (Addr × Obj)} {σ : St} {H : Hp} {s : Shared} {a : Addr} {y : V} {o : Option V} (I : Inv X pins σ H s) (g : DGet H a y o) : s.TypeIs (.ref a) "dict" := by
  rcases g with ⟨kvs, k, e, _, _⟩ | ⟨kvs, k, b, e, _, _, _⟩
  · obtain ⟨_, _, vs, _, dd⟩ := dk_rd I.hok e
    exact dd.typeIs
  · obtain ⟨_, _, xs, _, dd⟩ := dt_rd I.hok e
    exact dd.typeIs
def tDGet (td ty : TE) : TE := fun σ H Q => td σ H fun x H1 => ty σ H1 fun y H2 => ∃ a v, x = .ref a ∧ DGet H2 a y (some v) ∧ Q v H2
def sDPut (td ty tv : TE) : TS := fun D σ H => tv σ H fun v H1 => td σ H1 fun x H2 => ty σ H2 fun y H3 => ∃ a H4, x = .ref a ∧ DPut H3 a y v H4 ∧ D.nx σ H4
section
variable {X : Cx} {o i e value : Expr} {pos pos' tpos : Pos} {td ty tv : TE}
theorem pe_dget (hu : X.A.units + 1 < cLine) (ho : PE X o td) (hi : PE X i ty) (hs : NoSl i) : PE X (.Subscript o i pos) (tDGet td ty) := by
  intro pins s σ H Q I h
  refine subD_of PySem.F.slot_dict_getitem.lookup hs (thn (ho pins s σ H _ I h) fun u s1 ⟨x, H1, I1, rx, q1⟩ => thn (hi pins s1 σ H1 _ I1 q1) fun iv s2 ⟨y, H2, I2, ry, a, v, ex, g, q2⟩ => ?_)
  subst ex
  obtain rfl : u = Value.ref a := rx
  exact ⟨dict_typeIs I2 g, d_getItem hu I2 g ry fun w' s3 I3 rw' => ⟨v, H2, I3, rw', q2⟩⟩
theorem ps_dput (hu : X.A.units + 1 < cLine) (ho : PE X o td) (hi : PE X i ty) (hv : PE X value tv) (hs : swapsWith value (some (.Subscript o i pos')) pos.line X.env = pure false) :
    PS X (.Assign [.Subscript o i pos'] value pos) (sDPut td ty tv) := by
  intro pins s σ H D I h
  refine wpAny_Assign_Subscript (thn (hv pins s σ H _ I h) fun r s1 ⟨v, H1, I1, rv, q1⟩ => thn (ho pins s1 σ H1 _ I1 q1) fun u s2 ⟨x, H2, I2, rx, q2⟩ => thn (hi pins s2 σ H2 _ I2 q2) fun iv s3 ⟨y, H3, I3, ry, a, H4, ex, g, q3⟩ => ?_) hs
  subst ex
  obtain rfl : u = Value.ref a := rx
  exact d_setItem hu I3 g ry rv fun s4 I4 => ⟨σ, H4, I4, q3⟩
end
theorem dk_empty {P : Program} {w : World} {H : Hp} (h : Heap) (hb : sysModules < h.objs.size) : ObjOk P w H (h.push { cls := .type "dict", data := .dict #[] }) h.objs.size (.dK []) :=
  ⟨Nat.zero_le _, beq_eq_false_iff_ne.mpr (Ne.symm (Nat.ne_of_lt hb)), [], .nil, Heap.DictOf.new h⟩
def tDNewK : TE := fun _ H Q => ∀ p, H p = none → Q (.ref p) (upd H p (.dK []))
section
variable {X : Cx} {pos : Pos}
theorem pe_dnewK : PE X (.Dict [] [] pos) tDNewK := fun pins s σ H Q I h =>
  wpAny_Dict_empty ⟨.ref s.heap.objs.size, _, I.laid (a := s.heap.objs.size) (o := .dK []) (t' := s.toks) (fun _ _ q => Heap.get?_push_of_some _ q) (Nat.le_refl _) (dk_empty s.heap I.big), rfl, h _ (I.hok.fresh (Nat.le_refl _))⟩
end
structure M1 (X : Cx) (o : Expr) (m : Str) (apos : Pos) (e : Expr) (cpos : Pos) : Prop where
  base : attributeBase o m X.env (eval o X.env) = eval o X.env
  few : ((backTo cpos (starEach [e] X.env)).all (fun x => !x.1) && (backToKw cpos (keywordEach [] X.env)).all (fun x => x.1.isSome)
    && decide (([e] : List Expr).length + ([] : List Keyword).length + (if ([] : List Keyword).isEmpty then 0 else 1) < 30)) = true
  line : (apos.endLine == cpos.line) = true
  trees : backTo cpos (starEach [e] X.env) = [(false, eval e X.env)]
structure M2 (X : Cx) (o : Expr) (m : Str) (apos : Pos) (e f : Expr) (cpos : Pos) : Prop where
  base : attributeBase o m X.env (eval o X.env) = eval o X.env
  few : ((backTo cpos (starEach [e, f] X.env)).all (fun x => !x.1) && (backToKw cpos (keywordEach [] X.env)).all (fun x => x.1.isSome)
    && decide (([e, f] : List Expr).length + ([] : List Keyword).length + (if ([] : List Keyword).isEmpty then 0 else 1) < 30)) = true
  line : (apos.endLine == cpos.line) = true
  trees : backTo cpos (starEach [e, f] X.env) = [(false, eval e X.env), (false, eval f X.env)]
def IsD (H : Hp) (a : Addr) : Prop := (∃ kvs, Rd H a (.dK kvs)) ∨ ∃ kvs, Rd H a (.dT kvs)
theorem isD_at {X : Cx} {pins : List (Addr × Obj)} {σ : St} {H : Hp} {s : Shared} {a : Addr} (I : Inv X pins σ H s) (d : IsD H a) :
    s.TypeIs (.ref a) "dict" ∧ (∀ b, Value.ref a = .ref b → ∃ ob, s.heap.get? b = some ob ∧ ob.dict = none) ∧ (a == sysModules) = false := by
  rcases d with ⟨kvs, e⟩ | ⟨kvs, e⟩
  · obtain ⟨_, hd, vs, _, dd⟩ := dk_rd I.hok e
    refine ⟨dd.typeIs, fun b q => ?_, hd⟩
    cases q
    obtain ⟨ob, _, _, h1, h2, _⟩ := dd
    exact ⟨ob, h1, h2.2.1⟩
  · obtain ⟨_, hd, xs, _, dd⟩ := dt_rd I.hok e
    refine ⟨dd.typeIs, fun b q => ?_, hd⟩
    cases q
    obtain ⟨ob, _, _, h1, h2, _⟩ := dd
    exact ⟨ob, h1, h2.2.1⟩
section
variable {X : Cx} {pins : List (Addr × Obj)} {σ : St} {H : Hp} {s : Shared} {a : Addr} {y d : V} {u r : Value} {o : Option V} {A : Around} {E : Value → Shared → Prop}
theorem d_get2 {Q : Value → Shared → Prop} (hu : A.units + 1 < cLine) (I : Inv X pins σ H s) (g : DGet H a y o) (ry : RelV y u) (rd : RelV d r) (h : ∀ w' s', Inv X pins σ H s' → RelV (o.getD d) w' → Q w' s') :
    wpAny (model X.prog X.w) A (call (.builtin "dict.get") [.ref a, u, r]) Q E s := by
  rcases g with ⟨kvs, k, e, ey, l⟩ | ⟨kvs, k, b, e, ey, eb, l⟩
  · subst ey
    obtain ⟨z, hd, vs, rel, dd⟩ := dk_rd I.hok e
    refine call_meetsIn PySem.F.slot_dict_get dd.typeIs PySem.F.entry_dict_get (PySem.F.args_dict_get_3 _ _ _) (meets_dict_get_default (mixKind X.prog X.w) a (kV_is ry) hd r) ⟨_, dd.mapOf, h _ _ (I.tok _) ?_⟩
    rw [l]
    exact (rel.val k).getD rd
  · subst ey
    cases (show u = Value.ref b from ry)
    obtain ⟨z, hd, xs, rel, dd⟩ := dt_rd I.hok e
    refine call_meetsIn PySem.F.slot_dict_get dd.typeIs PySem.F.entry_dict_get (PySem.F.args_dict_get_3 _ _ _) (meetsH_dict_get_default (tupleKind (mixKind X.prog X.w)) a b hd r) ⟨tupleKind_room_in1 hu, k, xs, key_of I.hok eb, dd, h _ _ (I.tok _) ?_⟩
    rw [l]
    exact (rel.val k).getD rd
end
def tDGet2 (td ty tx : TE) : TE := fun σ H Q => td σ H fun x H1 => ∃ a, x = .ref a ∧ IsD H1 a ∧ ty σ H1 fun y H2 => tx σ H2 fun z H3 => ∃ o, DGet H3 a y o ∧ Q (o.getD z) H3
section
variable {X : Cx} {o e f : Expr} {apos cpos : Pos} {td ty tx : TE}
theorem pe_dget2 (hu : X.A.units + 1 < cLine) (ho : PE X o td) (he : PE X e ty) (hf : PE X f tx) (m : M2 X o "get" apos e f cpos) : PE X (.Call (.Attribute o "get" apos) [e, f] [] cpos) (tDGet2 td ty tx) := by
  intro pins s σ H Q I h
  refine wpAny_Call_method m.base m.few m.line PySem.F.plainAttrs_dict PySem.F.slot_dict_get PySem.F.type_dict_get (thn (ho pins s σ H _ I h) fun u s1 ⟨x, H1, I1, rx, a, ex, d, q1⟩ => ?_)
  subst ex
  obtain rfl : u = Value.ref a := rx
  obtain ⟨t1, t2, _⟩ := isD_at I1 d
  refine ⟨t1, t2, ?_⟩
  rw [m.trees]
  refine Calls.callWith_builtin rfl (Calls.evalArgs_plain (Calls.spliced_cons (thn (he pins s1 σ H1 _ I1 q1) fun iv s2 ⟨y, H2, I2, ry, q2⟩ =>
    Calls.spliced_cons (thn (hf pins s2 σ H2 _ I2 q2) fun fv s3 ⟨z, H3, I3, rz, ov, g, q3⟩ => Calls.spliced_nil ?_))))
  exact d_get2 hu I3 g ry rz fun w' s4 I4 rw' => ⟨_, H3, I4, rw', q3⟩
end
section
variable {X : Cx} {pins : List (Addr × Obj)} {σ : St} {H : Hp} {s : Shared} {a : Addr} {kvs : List (Key × V)} {A : Around} {E : Value → Shared → Prop}
end
section
variable {X : Cx} {pins : List (Addr × Obj)} {σ : St} {H : Hp} {s : Shared} {a : Addr} {y : V} {u : Value} {A : Around} {E : Value → Shared → Prop}
end
end L2
namespace L2
open PySem PySem.Spec PyProof.Rows
section
variable {X : Cx}
end
section
variable {κ : Type} [DecidableEq κ]
end
end L2
namespace L2
open PySem PySem.Spec PyProof.Rows
def closL (cells : List (Str × Addr)) : List (Str × NameKind) → List (Str × Addr) → List (Str × Addr)
  | [], acc => acc
  | (n, k) :: r, acc => if k == .free then closL cells r ((n, (cells.lookup n).getD 0) :: acc) else closL cells r acc
theorem clos_forIn (env : Env) (f : Str × NameKind → List (Str × Addr) → Sem (ForInStep (List (Str × Addr))))
    (hf : ∀ n k cs, f (n, k) cs = if k == .free then (do let a ← cellOf env n; pure (.yield ((n, a) :: cs))) else pure (.yield cs)) :
    ∀ (names : List (Str × NameKind)) (acc : List (Str × Addr)), (∀ x ∈ names, x.2 = .free → ∃ c, env.cells.lookup x.1 = some c) → forIn names acc f = pure (closL env.cells names acc)
  | [], acc, _ => by rw [List.forIn_nil]; rfl
  | (n, k) :: r, acc, h => by
    have ih := clos_forIn env f hf r
    rw [List.forIn_cons, hf]
    unfold closL
    by_cases hk : (k == NameKind.free) = true
    · rw [if_pos hk, if_pos hk]
      obtain ⟨c, hc⟩ := h (n, k) List.mem_cons_self (by simpa using hk)
      have e : cellOf env n = pure c := by unfold cellOf; rw [hc]
      rw [e, hc]
      exact ih _ fun x hx => h x (List.mem_cons_of_mem _ hx)
    · rw [if_neg hk, if_neg hk]
      exact ih _ fun x hx => h x (List.mem_cons_of_mem _ hx)
theorem closureFor_eq {scope : Scope} {env : Env} (h : ∀ x ∈ scope.names, x.2 = .free → ∃ c, env.cells.lookup x.1 = some c) : closureFor scope env = pure (closL env.cells scope.names []) := by
  simp only [closureFor]
  rw [clos_forIn env _ (fun n k cs => by cases hk : k == NameKind.free <;> simp [hk]) scope.names [] h]
  rfl
theorem closL_mem {cells : List (Str × Addr)} : ∀ {names : List (Str × NameKind)} {acc : List (Str × Addr)} {x : Str} {c : Addr}, (x, c) ∈ closL cells names acc → (x, c) ∈ acc ∨ ((x, NameKind.free) ∈ names ∧ c = (cells.lookup x).getD 0)
  | [], acc, x, c, h => .inl h
  | (n, k) :: r, acc, x, c, h => by
    unfold closL at h
    by_cases hk : (k == NameKind.free) = true
    · rw [if_pos hk] at h
      rcases closL_mem h with q | ⟨q, e⟩
      · rcases List.mem_cons.mp q with z | z
        · cases z
          exact .inr ⟨by rw [show NameKind.free = k from (by simpa using hk : k = NameKind.free).symm]; exact List.mem_cons_self, rfl⟩
        · exact .inl z
      · exact .inr ⟨List.mem_cons_of_mem _ q, e⟩
    · rw [if_neg hk] at h
      rcases closL_mem h with q | ⟨q, e⟩
      · exact .inl q
      · exact .inr ⟨List.mem_cons_of_mem _ q, e⟩
theorem lookup_cons_some {α : Type} {x n : Str} {c : α} {l : List (Str × α)} (h : (l.lookup x).isSome = true) : (((n, c) :: l).lookup x).isSome = true := by
  rw [List.lookup_cons]
  cases x == n <;> simp [h]
theorem closL_some {cells : List (Str × Addr)} {x : Str} : ∀ {names : List (Str × NameKind)} {acc : List (Str × Addr)}, ((x, NameKind.free) ∈ names ∨ (acc.lookup x).isSome = true) → ((closL cells names acc).lookup x).isSome = true
  | [], acc, h => by
    rcases h with h | h
    · cases h
    · exact h
  | (n, k) :: r, acc, h => by
    unfold closL
    by_cases hk : (k == NameKind.free) = true
    · rw [if_pos hk]
      refine closL_some ?_
      rcases h with h | h
      · rcases List.mem_cons.mp h with z | z
        · cases z; exact .inr (by rw [List.lookup_cons]; simp)
        · exact .inl z
      · exact .inr (lookup_cons_some h)
    · rw [if_neg hk]
      refine closL_some ?_
      rcases h with h | h
      · rcases List.mem_cons.mp h with z | z
        · cases z; exact absurd rfl hk
        · exact .inl z
      · exact .inr h
theorem cellsFrom_mem : ∀ {names : List (Str × NameKind)} {n : Nat} {acc : List (Str × Addr)} {x : Str} {c : Addr}, (x, c) ∈ cellsFrom n names acc → (x, c) ∈ acc ∨ (x, NameKind.cell) ∈ names
  | [], _, _, _, _, h => .inl h
  | (y, k) :: r, n, acc, x, c, h => by
    unfold cellsFrom at h
    by_cases hk : (k == NameKind.cell) = true
    · rw [if_pos hk] at h
      rcases cellsFrom_mem h with q | q
      · rcases List.mem_cons.mp q with z | z
        · cases z
          exact .inr (by rw [show NameKind.cell = k from (by simpa using hk : k = NameKind.cell).symm]; exact List.mem_cons_self)
        · exact .inl z
      · exact .inr (List.mem_cons_of_mem _ q)
    · rw [if_neg hk] at h
      rcases cellsFrom_mem h with q | q
      · exact .inl q
      · exact .inr (List.mem_cons_of_mem _ q)
structure CellsTwo (h : Heap) (lo : Nat) (acc cs : List (Str × Addr)) : Prop where
  part : ∀ x c, (x, c) ∈ cs → (x, c) ∈ acc ∨ (h.IsCell c none ∧ lo ≤ c)
  inj : ∀ x y c, lo ≤ c → (x, c) ∈ cs → (y, c) ∈ cs → x = y
theorem cellsFrom_two {acc0 : List (Str × Addr)} : ∀ (names : List (Str × NameKind)) (h : Heap) (lo : Nat) (acc : List (Str × Addr)), CellsTwo h lo acc0 acc → (∀ x c, (x, c) ∈ acc → c < h.objs.size) → lo ≤ h.objs.size →
    CellsTwo (pushCells h names) lo acc0 (cellsFrom h.objs.size names acc)
  | [], _, _, _, x, _, _ => x
  | (name, kind) :: r, h, lo, acc, x, hl, hlo => by
    unfold pushCells cellsFrom
    split
    · have := cellsFrom_two (acc0 := acc0) r (h.push { cls := .type "cell", data := .cell none }) lo ((name, h.objs.size) :: acc)
        ⟨fun n c hm => by
            rcases List.mem_cons.mp hm with e | hm
            · cases e; exact .inr ⟨⟨_, Heap.get?_push_size _ rfl, rfl⟩, hlo⟩
            · rcases x.part n c hm with q | q
              · exact .inl q
              · exact .inr ⟨q.1.keeps fun b o e => Heap.get?_push_of_some _ e, q.2⟩,
          fun a b c hc h1 h2 => by
            rcases List.mem_cons.mp h1 with e1 | h1 <;> rcases List.mem_cons.mp h2 with e2 | h2
            · cases e1; cases e2; rfl
            · cases e1; exact absurd (hl _ _ h2) (Nat.lt_irrefl _)
            · cases e2; exact absurd (hl _ _ h1) (Nat.lt_irrefl _)
            · exact x.inj a b c hc h1 h2⟩
        (fun n c hm => by
          rw [Heap.size_push]
          rcases List.mem_cons.mp hm with e | hm
          · cases e; exact Nat.lt_succ_self _
          · exact Nat.lt_succ_of_lt (hl n c hm)) (by rw [Heap.size_push]; omega)
      rwa [Heap.size_push] at this
    · exact cellsFrom_two r h lo acc x hl hlo
def cenvOf (env : Env) (scope : Scope) (C : Addr) : Env :=
  { scope := relabel scope env, locals := C, globals := env.globals, cells := cellsFrom (C + 1) scope.names (closL env.cells scope.names []), qual := env.qual, func := none, code := env.code, frame := env.frame, builtins := env.builtins }
theorem wpAny_compEnv {M : Model} {A : Around} {E : Value → Shared → Prop} {s : Shared} {scope : Scope} {env : Env} {cl : List (Str × Addr)} {Q : Env → Shared → Prop}
    (hQ : Q { scope := scope, locals := s.heap.objs.size, globals := env.globals, cells := cellsFrom (s.heap.objs.size + 1) scope.names cl, qual := env.qual, func := none, code := env.code, frame := env.frame, builtins := env.builtins }
      { s with heap := pushCells (s.heap.push { cls := .type "dict", data := .dict #[] }) scope.names }) :
    wpAny M A (newFunctionEnv scope env.globals cl [] env.qual none .none (some env)) Q E s := by
  simp only [newFunctionEnv, Option.isSome_some, if_true]
  refine wpAny_bind (wpAny_alloc ?_)
  refine wpAny_bind (wpAny_layCells _ (fun name kind cells => by cases hkc : kind == NameKind.cell <;> simp [hkc]) _ _ _ _ ?_)
  rw [show ({ s with heap := s.heap.push { cls := .type "dict", data := .dict #[] } } : Shared).heap.objs.size = s.heap.objs.size + 1 from Heap.size_push ..]
  rw [List.forIn_nil]
  exact wpAny_bind (wpAny_pure (wpAny_pure hQ))
theorem compLoop_any {prog : Program} {w : World} {A : Around} {R : Result → Shared → Prop} {s : Shared} {elt target iter : Expr} {ifs : List Expr} {scope : Scope} {pos : Pos} {it acc : Value} {env : Env} (I : Nat → Shared → Prop)
    (turn : ∀ n s, I n s → wpAny (model prog w) A (pyNext it) (fun r s₁ => match r with
      | none => R (.ok .next) s₁
      | some v => wpAny (model prog w) A (letOwnedTupleGo target it v) (fun _ s₁' => wpAny (model prog w) A (assign target env v) (fun _ s₂ =>
          wpAny (model prog w) A (forIn ifs true fun c r => if r = true then do let ok ← isTrue c env (eval c env); pure (ForInStep.yield ok) else pure (ForInStep.yield r)) (fun ok s₃ =>
            if ok = true then wpAny (model prog w) A (eval elt env) (fun x s₄ =>
              wpAny (model prog w) A (call (.builtin "list.append") [acc, x]) (fun _ s₅ => ∃ m, m < n ∧ I m s₅) (fun _ _ => False) s₄) (fun _ _ => False) s₃
            else ∃ m, m < n ∧ I m s₃) (fun _ _ => False) s₂) (fun _ _ => False) s₁') (fun _ _ => False) s₁) (fun _ _ => False) s)
    (n : Nat) (h : I n s) :
    codeAny (model prog w) A (.compLoop (.ListComp elt [⟨target, iter, ifs, 0⟩] scope pos) 0 it acc env) R s := by
  refine codeAny_loop rfl I (fun n s hI => ?_) n h
  show wpAny _ A ((compTurn (.ListComp elt [⟨target, iter, ifs, 0⟩] scope pos) 0 it acc env).onRaise (fun x => do noteFrame x env; theTreesLotGoes x)) _ _ s
  refine wpAny_noted ?_
  rw [compTurn_list]
  refine wpAny_bind (wpAny_standAt (wpAny_bind (wpAny_mono (turn n s hI) (fun r s₁ h₁ => ?_) fun _ _ h' => h'.elim)))
  cases r with
  | none => exact wpAny_pure h₁
  | some v =>
    refine wpAny_bind (wpAny_mono h₁ (fun _ s₁' h₁ => ?_) fun _ _ h' => h'.elim)
    refine wpAny_bind (wpAny_mono h₁ (fun _ s₂ h₂ => wpAny_bind (wpAny_mono h₂ (fun ok s₃ h₃ => ?_) fun _ _ h' => h'.elim)) fun _ _ h' => h'.elim)
    cases ok with
    | false => exact wpAny_pure ⟨rfl, h₃⟩
    | true =>
      exact wpAny_bind (wpAny_bind (wpAny_mono h₃ (fun x s₄ h₄ => wpAny_bind (wpAny_mono h₄ (fun _ s₅ h₅ => wpAny_pure (wpAny_pure ⟨rfl, h₅⟩)) fun _ _ h' => h'.elim)) fun _ _ h' => h'.elim))
end L2
namespace L2
open PySem PySem.Spec PyProof.Rows
def cmpOf (X : Cx) (scope : Scope) (N' : List Str) (C : Addr) (s : Shared) (H : Hp) (fp : List Addr) : Cx :=
  { X with N := N', s₀ := s, H₀ := H, env := cenvOf X.env scope C, outer := X.stack, stack := X.stack, ex := fp, fn := fun x => !(scope.names.lookup x == some .free), pn := [], xe := fun _ _ => False }
def subσ (sub : List (Option Nat)) (σ : St) : St := sub.map fun o => o.bind fun i => (σ[i]?).join
def cmpOkB (N : List Str) (sc : Scope) (N' : List Str) (scope : Scope) (sub : List (Option Nat)) : Bool :=
  scope.kind == .function && decide ((scope.names.map (·.1)).Nodup) && decide N'.Nodup && sub.length == N'.length &&
  (scope.names.all fun x => !(x.2 == .free) || sc.names.lookup x.1 == some .cell || sc.names.lookup x.1 == some .free) &&
  ((sub.zip N').all fun p => match p.1 with
    | none => true
    | some i => N[i]? == some p.2 && scope.names.lookup p.2 == some .free)
structure CmpOk (N : List Str) (sc : Scope) (N' : List Str) (scope : Scope) (sub : List (Option Nat)) : Prop where
  kind : scope.kind = .function
  nd : (scope.names.map (·.1)).Nodup
  nd' : N'.Nodup
  len : sub.length = N'.length
  free : ∀ x ∈ scope.names, x.2 = .free → sc.names.lookup x.1 = some .cell ∨ sc.names.lookup x.1 = some .free
  sub : ∀ (j i : Nat) (x : Str), sub[j]? = some (some i) → N'[j]? = some x → N[i]? = some x ∧ scope.names.lookup x = some .free
theorem CmpOk.of {N : List Str} {sc : Scope} {N' : List Str} {scope : Scope} {sub : List (Option Nat)} (h : cmpOkB N sc N' scope sub = true) : CmpOk N sc N' scope sub := by
  unfold cmpOkB at h
  simp only [Bool.and_eq_true] at h
  obtain ⟨⟨⟨⟨⟨h1, h2⟩, h3⟩, h4⟩, h5⟩, h6⟩ := h
  refine ⟨by simpa using h1, of_decide_eq_true h2, of_decide_eq_true h3, by simpa using h4, fun x hx hf => ?_, fun j i x hj hx => ?_⟩
  · have q := List.all_eq_true.mp h5 x hx
    rw [hf] at q
    simp only [beq_self_eq_true, Bool.not_true, Bool.false_or, Bool.or_eq_true] at q
    rcases q with q | q
    · exact .inl (by simpa using q)
    · exact .inr (by simpa using q)
  · have q := List.all_eq_true.mp h6 (some i, x) (by
      refine List.mem_of_getElem? (i := j) ?_
      rw [List.getElem?_zip_eq_some]
      exact ⟨hj, hx⟩)
    simp only [Bool.and_eq_true] at q
    exact ⟨by simpa using q.1, by simpa using q.2⟩
theorem lookup_mem_nd {α : Type} : ∀ {l : List (Str × α)} {x : Str} {c : α}, (l.map (·.1)).Nodup → (x, c) ∈ l → l.lookup x = some c
  | (y, d) :: r, x, c, nd, h => by
    rw [List.lookup_cons]
    rcases List.mem_cons.mp h with e | h
    · cases e; simp
    · have ne : x ≠ y := fun e => by
        rw [List.map_cons] at nd
        exact (List.nodup_cons.mp nd).1 (by rw [← e]; exact List.mem_map.mpr ⟨(x, c), h, rfl⟩)
      rw [show (x == y) = false from by simpa using ne]
      exact lookup_mem_nd (List.nodup_cons.mp nd).2 h
theorem lookup_relab {sc : Scope} : ∀ {names : List (Str × NameKind)} {x : Str},
    ((names.map fun (n, k) => if (k == NameKind.free && sc.kind == .function && sc.names.lookup n == some .cell) then (n, NameKind.cell) else (n, k)).lookup x) =
      (names.lookup x).map fun k => if (k == NameKind.free && sc.kind == .function && sc.names.lookup x == some .cell) then NameKind.cell else k
  | [], x => rfl
  | (n, k) :: r, x => by
    have ih := @lookup_relab sc r x
    rw [List.map_cons]
    show List.lookup x ((if (k == NameKind.free && sc.kind == .function && sc.names.lookup n == some .cell) = true then (n, NameKind.cell) else (n, k)) :: _) = _
    by_cases hc : (k == NameKind.free && sc.kind == .function && sc.names.lookup n == some .cell) = true
    · rw [if_pos hc, List.lookup_cons, List.lookup_cons]
      by_cases hx : x = n
      · subst hx
        rw [show (x == x) = true from beq_self_eq_true x]
        show some NameKind.cell = Option.map _ (some k)
        rw [Option.map_some, if_pos hc]
      · rw [show (x == n) = false by simpa using hx]
        exact ih
    · rw [if_neg hc, List.lookup_cons, List.lookup_cons]
      by_cases hx : x = n
      · subst hx
        rw [show (x == x) = true from beq_self_eq_true x]
        show some k = Option.map _ (some k)
        rw [Option.map_some, if_neg hc]
      · rw [show (x == n) = false by simpa using hx]
        exact ih
section
variable {X : Cx} {pins : List (Addr × Obj)} {σ : St} {H H' : Hp} {s : Shared}
theorem frs_sub_of (I : Inv X pins σ H s) {b : Addr} (hb : b ∈ frs X.stack) (n1 : b ≠ X.env.locals) : b ∈ X.fs := (List.mem_cons.mp (I.stkSub b hb)).elim (fun e => absurd e n1) id
theorem cells_facts {N' : List Str} {scope : Scope} {sub : List (Option Nat)} {h3 : Heap} (I : Inv X pins σ H s) (O : CmpOk X.N X.env.scope N' scope sub)
    (hk : ∀ b o, s.heap.get? b = some o → h3.get? b = some o) :
    (∀ x c, (cellsFrom (h3.objs.size + 1) scope.names (closL X.env.cells scope.names [])).lookup x = some c →
      (((pushCells (h3.push { cls := .type "dict", data := .dict #[] }) scope.names).IsCell c none ∧ h3.objs.size + 1 ≤ c ∧ (x, NameKind.cell) ∈ scope.names) ∨ ((x, NameKind.free) ∈ scope.names ∧ X.env.cells.lookup x = some c))) ∧
    (∀ x y c, (cellsFrom (h3.objs.size + 1) scope.names (closL X.env.cells scope.names [])).lookup x = some c → (cellsFrom (h3.objs.size + 1) scope.names (closL X.env.cells scope.names [])).lookup y = some c → x = y) := by
  have hin : ∀ x c, (x, c) ∈ closL X.env.cells scope.names [] → (x, NameKind.free) ∈ scope.names ∧ X.env.cells.lookup x = some c := fun x c h => by
    rcases closL_mem h with q | ⟨q, e⟩
    · cases q
    · have hx : ∃ c, X.env.cells.lookup x = some c := by
        refine I.ok.has x ?_
        rcases O.free _ q rfl with z | z
        · exact .inl z
        · exact .inr z
      obtain ⟨c', hc'⟩ := hx
      rw [hc'] at e
      exact ⟨q, by rw [hc', e]; rfl⟩
  have hlt : ∀ x c, (x, c) ∈ closL X.env.cells scope.names [] → c < h3.objs.size := fun x c h => by
    obtain ⟨v, o, ho, _⟩ := I.cell x c (hin x c h).2
    exact Heap.lt_size (hk _ _ ho)
  have two := cellsFrom_two (acc0 := closL X.env.cells scope.names []) scope.names (h3.push { cls := .type "dict", data := .dict #[] }) (h3.objs.size + 1) (closL X.env.cells scope.names [])
    ⟨fun x c h => .inl h, fun x y c hc h1 _ => absurd (hlt x c h1) (Nat.not_lt.mpr (Nat.le_of_succ_le hc))⟩ (fun x c h => by rw [Heap.size_push]; exact Nat.lt_succ_of_lt (hlt x c h)) (by rw [Heap.size_push]; exact Nat.le_refl _)
  rw [Heap.size_push] at two
  refine ⟨fun x c h => ?_, fun x y c h1 h2 => ?_⟩
  · have m := PySem.mem_of_lookup h
    rcases two.part x c m with q | q
    · exact .inr (hin x c q)
    · refine .inl ⟨q.1, q.2, ?_⟩
      rcases cellsFrom_mem m with z | z
      · exact absurd (hlt x c z) (Nat.not_lt.mpr (Nat.le_of_succ_le q.2))
      · exact z
  · have m1 := PySem.mem_of_lookup h1
    have m2 := PySem.mem_of_lookup h2
    by_cases hc : h3.objs.size + 1 ≤ c
    · exact two.inj x y c hc m1 m2
    · rcases two.part x c m1 with q1 | q1
      · rcases two.part y c m2 with q2 | q2
        · exact I.ok.inj x y c (hin x c q1).2 (hin y c q2).2
        · exact absurd q2.2 hc
      · exact absurd q1.2 hc
theorem inv_comp {N' : List Str} {scope : Scope} {sub : List (Option Nat)} {fp : List Addr} (I : Inv X pins σ H s) (O : CmpOk X.N X.env.scope N' scope sub) (hf : ∀ b ∈ fp, FpOk X pins H b)
    (hfl : ∀ b ∈ fp, b < s.heap.objs.size) :
    Inv (cmpOf X scope N' (s.heap.objs.size + 1) s H fp) [(s.heap.objs.size, { cls := .type "list", data := .seq #[] })] (subσ sub σ) H
      { s with heap := pushCells ((s.heap.push { cls := .type "list", data := .seq #[] }).push { cls := .type "dict", data := .dict #[] }) scope.names } := by
  have hk3 : ∀ b o, s.heap.get? b = some o → (s.heap.push { cls := .type "list", data := .seq #[] }).get? b = some o := fun b o e => Heap.get?_push_of_some _ e
  have sz3 : (s.heap.push { cls := .type "list", data := .seq #[] }).objs.size = s.heap.objs.size + 1 := Heap.size_push ..
  have hk : ∀ b o, s.heap.get? b = some o → (pushCells ((s.heap.push { cls := .type "list", data := .seq #[] }).push { cls := .type "dict", data := .dict #[] }) scope.names).get? b = some o :=
    fun b o e => pushCells_keeps _ _ b o (Heap.get?_push_of_some _ (hk3 b o e))
  have cf := cells_facts (h3 := s.heap.push { cls := .type "list", data := .seq #[] }) I O hk3
  rw [sz3] at cf
  have hC : H (s.heap.objs.size + 1) = none := I.hok.fresh (Nat.le_succ _)
  have nsC : (pushCells ((s.heap.push { cls := .type "list", data := .seq #[] }).push { cls := .type "dict", data := .dict #[] }) scope.names).Ns (s.heap.objs.size + 1) (fun _ => none) := by
    rw [← sz3]
    exact (Heap.Ns.new _ _).keeps (pushCells_keeps _ _)
  have has : ∀ x, (scope.names.lookup x = some .cell ∨ scope.names.lookup x = some .free) → ∃ c, (cellsFrom (s.heap.objs.size + 1 + 1) scope.names (closL X.env.cells scope.names [])).lookup x = some c := fun x hx => by
    refine Option.isSome_iff_exists.mp (PySem.W.cellsFrom_some _ _ _ ?_)
    rcases hx with z | z
    · exact .inl z
    · exact .inr (closL_some (.inl (PySem.mem_of_lookup z)))
  have kindB : ∀ x, (cenvOf X.env scope (s.heap.objs.size + 1)).kindOf x = (scope.names.lookup x).map fun k => if (k == NameKind.free && X.env.scope.kind == .function && X.env.scope.names.lookup x == some .cell) then NameKind.cell else k := fun x => lookup_relab
  have cellOk : ∀ x c, (cenvOf X.env scope (s.heap.objs.size + 1)).cells.lookup x = some c → ∃ v, (pushCells ((s.heap.push { cls := .type "list", data := .seq #[] }).push { cls := .type "dict", data := .dict #[] }) scope.names).IsCell c v := fun x c h => by
    rcases cf.1 x c h with q | q
    · exact ⟨_, q.1⟩
    · obtain ⟨v, z⟩ := I.cell x c q.2
      exact ⟨v, z.keeps hk⟩
  refine ⟨⟨I.ok.mod, O.kind, I.ok.glob, I.ok.blt, Nat.le_succ _, fun x y c h1 h2 => cf.2 x y c h1 h2, fun x hx => ?_, fun x c hx h => ?_, I.ok.hd, I.ok.frames, .inl rfl, fun b hb => ?_, fun b o e => I.bs b o e, Nat.le_trans I.ok.bsz I.sz, fun b o e hb => ?_, fun b hb => ?_, I.stack, I.stkFree⟩,
    rfl, I.bare, Un.kept hk, ⟨fun _ => none, nsC, fun i x v h1 h2 h3 => ?_⟩, cellOk, hC, fun x c h => ?_, fun p hp => ?_, I.hok.kept hk, ?_⟩
  · -- has
    refine has x ?_
    have hx : (cenvOf X.env scope (s.heap.objs.size + 1)).kindOf x = some .cell ∨ (cenvOf X.env scope (s.heap.objs.size + 1)).kindOf x = some .free := hx
    rw [kindB] at hx
    cases e : scope.names.lookup x with
    | none => rw [e] at hx; rcases hx with z | z <;> cases z
    | some k =>
      rw [e] at hx
      cases k with
      | cell => exact .inl rfl
      | free => exact .inr rfl
      | _ => exfalso; rcases hx with z | z <;> simp at z
  · -- cab
    rcases cf.1 x c h with q | q
    · have := q.2.1
      show s.heap.objs.size ≤ c
      omega
    · exfalso
      have e := lookup_mem_nd O.nd q.1
      have hx' : (!(scope.names.lookup x == some NameKind.free)) = true := hx
      rw [e] at hx'
      exact absurd hx' (by decide)
  · -- exf
    obtain ⟨f0, f1, f2, f3, f4, f5⟩ := hf b hb
    have lt := hfl b hb
    refine ⟨fun e => ?_, fun x c h e => ?_⟩
    · have e' : b = s.heap.objs.size + 1 := e
      rw [e'] at lt
      exact absurd lt (Nat.not_lt.mpr (Nat.le_succ _))
    · rcases cf.1 x c h with q | q
      · have z := q.2.1
        rw [e] at z
        exact absurd lt (Nat.not_lt.mpr (Nat.le_trans (Nat.le_trans (Nat.le_succ _) (Nat.le_succ _)) z))
      · exact f4 x c q.2 e
  · -- noex
    obtain ⟨f0, f1, f2, f3, f4, f5⟩ := hf b hb
    rcases f3 with z | z
    · exact I.ok.noex b o e z
    · exact absurd (Nat.lt_of_lt_of_le (Heap.lt_size (I.ok.bs b o e).1) z) (Nat.lt_irrefl _)
  · -- exfs
    obtain ⟨f0, f1, f2, f3, f4, f5⟩ := hf b hb
    exact fun z => f2 (frs_sub_of I z f1)
  · -- loc
    have h1' : N'[i]? = some x := h1
    have hsub : ∃ k, sub[i]? = some (some k) ∧ (σ[k]?).join = some v := by
      unfold subσ at h2
      rw [List.getElem?_map] at h2
      cases e : sub[i]? with
      | none => rw [e] at h2; cases h2
      | some o =>
        rw [e] at h2
        cases o with
        | none => cases h2
        | some k => exact ⟨k, rfl, by simpa using h2⟩
    obtain ⟨k, hk1, hk2⟩ := hsub
    obtain ⟨nk, fx⟩ := O.sub i k x hk1 h1'
    have sk : σ[k]? = some (some v) := by
      cases e : σ[k]? with
      | none => rw [e] at hk2; cases hk2
      | some o => rw [e] at hk2; cases o with
        | none => cases hk2
        | some y => cases hk2; rfl
    have cx := O.free _ (PySem.mem_of_lookup fx) rfl
    obtain ⟨m, hn, hl⟩ := I.loc
    obtain ⟨u, ru, lk⟩ := hl k x v nk sk (by
      rcases cx with z | z
      · exact .inr (.inl z)
      · exact .inr (.inr z))
    refine ⟨u, ru, .inr ⟨?_, ?_⟩⟩
    · show (cenvOf X.env scope (s.heap.objs.size + 1)).kindOf x = some .cell ∨ (cenvOf X.env scope (s.heap.objs.size + 1)).kindOf x = some .free
      rw [kindB, fx]
      by_cases hc : (NameKind.free == NameKind.free && X.env.scope.kind == .function && X.env.scope.names.lookup x == some .cell) = true
      · exact .inl (by rw [Option.map_some, if_pos hc])
      · exact .inr (by rw [Option.map_some, if_neg hc])
    · rcases lk with ⟨kl, _⟩ | ⟨_, c, hc, hcell⟩
      · exfalso
        have kl' : X.env.scope.names.lookup x = some .local := kl
        rcases cx with z | z <;> rw [kl'] at z <;> cases z
      · obtain ⟨c', hc'⟩ := has x (.inr fx)
        refine ⟨c', hc', ?_⟩
        rcases cf.1 x c' hc' with q | q
        · exfalso
          have e := lookup_mem_nd O.nd q.2.2
          rw [fx] at e; cases e
        · rw [hc] at q
          have e : c = c' := Option.some.inj q.2
          subst e
          exact hcell.keeps hk
  · -- freeC
    rcases cf.1 x c h with q | q
    · exact I.hok.fresh (by have := q.2.1; omega)
    · exact I.freeC x c q.2
  · -- pin
    have hp' : p = (s.heap.objs.size, ({ cls := .type "list", data := .seq #[] } : Obj)) := by
      have : p ∈ ([] ++ [(s.heap.objs.size, ({ cls := .type "list", data := .seq #[] } : Obj))] : List (Addr × Obj)) := hp
      simpa using this
    subst hp'
    refine ⟨pushCells_keeps _ _ _ _ (Heap.get?_push_of_some _ (Heap.get?_push_size _ rfl)), I.hok.fresh (Nat.le_refl _), Nat.ne_of_lt (Nat.lt_succ_self _), fun z => ?_, fun v z => ?_⟩
    · rcases List.mem_cons.mp (I.stkSub _ z) with e | e
      · exact absurd I.lt (by rw [← e]; exact Nat.lt_irrefl _)
      · exact I.nofs (Nat.le_refl _) e
    · cases z
  · -- len
    show (subσ sub σ).length = N'.length
    unfold subσ
    rw [List.length_map, O.len]
end
end L2
namespace L2
open PySem PySem.Spec PyProof.Rows
def Sle (σ σ2 : St) : Prop := σ2.length = σ.length ∧ ∀ (i : Nat) (v : V), σ[i]? = some (some v) → σ2[i]? = some (some v)
theorem Sle.refl (σ : St) : Sle σ σ := ⟨rfl, fun _ _ h => h⟩
theorem Sle.set {σ σ2 : St} {i : Nat} (v : V) (h : Sle σ σ2) (hi : ∀ u, σ[i]? ≠ some (some u)) : Sle σ (σ2.set i (some v)) := by
  refine ⟨by rw [List.length_set]; exact h.1, fun j u hj => ?_⟩
  have ne : i ≠ j := fun e => hi u (by rw [e]; exact hj)
  rw [List.getElem?_set_ne ne]
  exact h.2 j u hj
def PTs (X : Cx) (ifs : List Expr) (t : TT) : Prop :=
  ∀ (pins : List (Addr × Obj)) (s : Shared) (σ : St) (H : Hp) (Q : Bool → Hp → Prop), Inv X pins σ H s → t σ H Q →
    wpAny (model X.prog X.w) X.A (forIn ifs true fun c r => if r = true then do let ok ← isTrue c X.env (eval c X.env); pure (ForInStep.yield ok) else pure (ForInStep.yield r)) (TP X pins σ Q) X.xe s
def tNoTest : TT := fun _ H Q => Q true H
theorem pts_nil {X : Cx} : PTs X [] tNoTest := fun pins s σ H Q I h => wpAny_tests_nil ⟨H, I, h⟩
theorem pts_one {X : Cx} {c : Expr} {t : TT} (h : PT X c t) : PTs X [c] t := fun pins s σ H Q I hw => wpAny_tests_one (h pins s σ H Q I hw)
def cTurns (J : It) (σ0 : St) (g : TG) (tt : TT) (te : TE) (Q : List V → Hp → Prop) (H1 : Hp) : Prop :=
  ∃ W : Nat → Nat → List V → Hp → Prop, (∃ m, W 0 m [] H1) ∧ ∀ i m ys H, W i m ys H →
    (J.stop i H ∧ Q ys H) ∨
    (J.go i H ∧ ∀ x H', J.yld i H x H' → g x σ0 H' fun σ2 H2 => Sle σ0 σ2 ∧ tt σ2 H2 fun b H3 =>
      if b = true then te σ2 H3 (fun v H4 => ys.length < sizeLine ∧ ∃ m', m' < m ∧ W (i + 1) m' (ys ++ [v]) H4) else ∃ m', m' < m ∧ W (i + 1) m' ys H3)
section
variable {X : Cx} {pins : List (Addr × Obj)} {σ : St} {H : Hp} {s : Shared}
theorem comp_core {target iter elt : Expr} {ifs : List Expr} {scope : Scope} {pos : Pos} {N' : List Str} {sub : List (Option Nat)} {J : It} {fp : List Addr} {it : Addr} {tn : Nat → Heap → Prop} {g : TG} {tt : TT} {te : TE}
    {Qe : List V → Hp → Prop} {E : Value → Shared → Prop} {RR : Value → Addr → Result → Shared → Prop}
    (hc : X.calm = true) (I : Inv X pins σ H s) (O : CmpOk X.N X.env.scope N' scope sub) (T : Turn X.prog X.w X.K target J fp it tn) (st : tn 0 s.heap) (hf : ∀ b ∈ fp, FpOk X pins H b)
    (B : ∀ C s H fp, PG (cmpOf X scope N' C s H fp) target g ∧ PTs (cmpOf X scope N' C s H fp) ifs tt ∧ PE (cmpOf X scope N' C s H fp) elt te)
    (rd : cTurns J (subσ sub σ) g tt te Qe H)
    (hRR : ∀ (acc C : Addr) (ys : List V) (H' : Hp) (s' : Shared), Inv X pins σ (upd H' acc (.lst ys)) s' → FpOk X pins (upd H' acc (.lst ys)) C → (∃ m, s'.heap.Ns C m) → H' acc = none → Qe ys H' → RR (.ref acc) C (.ok .next) s') :
    wpAny (model X.prog X.w) X.A (newList []) (fun acc s₃ => wpAny (model X.prog X.w) X.A (newFunctionEnv scope X.env.globals (closL X.env.cells scope.names []) [] X.env.qual none .none (some X.env)) (fun cenv s₄ =>
      codeAny (model X.prog X.w) X.A (.compStart (.ListComp elt [⟨target, iter, ifs, 0⟩] scope pos) 0 (.ref it) acc { cenv with scope := relabel scope X.env }) (RR acc cenv.locals) s₄) E s₃) E s := by
  refine wpAny_newObj_type (wpAny_compEnv ?_)
  have hfl : ∀ b ∈ fp, b < s.heap.objs.size := fun b hb => by
    obtain ⟨o, e, _⟩ := T.obj _ _ st b hb
    exact Heap.lt_size e
  have I0 := inv_comp (sub := sub) I O hf hfl
  have sz3 : (s.heap.push { cls := .type "list", data := .seq #[] }).objs.size = s.heap.objs.size + 1 := Heap.size_push ..
  dsimp only
  show codeAny _ _ (.compStart _ 0 (.ref it) (.ref s.heap.objs.size) { scope := relabel scope X.env, locals := (s.heap.push { cls := .type "list", data := .seq #[] }).objs.size, globals := X.env.globals, cells := cellsFrom ((s.heap.push { cls := .type "list", data := .seq #[] }).objs.size + 1) scope.names (closL X.env.cells scope.names []), qual := X.env.qual, func := none, code := X.env.code, frame := X.env.frame, builtins := X.env.builtins })
    (RR (.ref s.heap.objs.size) (s.heap.push { cls := .type "list", data := .seq #[] }).objs.size) { s with heap := pushCells ((s.heap.push { cls := .type "list", data := .seq #[] }).push { cls := .type "dict", data := .dict #[] }) scope.names }
  rw [sz3]
  show codeAny _ _ (.compStart _ 0 (.ref it) (.ref s.heap.objs.size) (cenvOf X.env scope (s.heap.objs.size + 1))) (RR (.ref s.heap.objs.size) (s.heap.objs.size + 1)) _
  generalize hs0 : ({ s with heap := pushCells ((s.heap.push { cls := .type "list", data := .seq #[] }).push { cls := .type "dict", data := .dict #[] }) scope.names } : Shared) = s0 at I0 ⊢
  have hk0 : ∀ b o, s.heap.get? b = some o → s0.heap.get? b = some o := fun b o e => by
    rw [← hs0]
    exact pushCells_keeps _ _ b o (Heap.get?_push_of_some _ (Heap.get?_push_of_some _ e))
  have st0 : tn 0 s0.heap := T.keep _ _ _ st fun b hb o e => hk0 b o e
  clear hs0 sz3
  generalize hX : cmpOf X scope N' (s.heap.objs.size + 1) s H fp = X' at I0
  have xp : X'.prog = X.prog := by rw [← hX]; rfl
  have xw : X'.w = X.w := by rw [← hX]; rfl
  have xK : X'.K = X.K := by rw [← hX]; rfl
  have xA : X'.A = X.A := by rw [← hX]; rfl
  have xc : X'.calm = true := by rw [← hX]; exact hc
  have xe : X'.env = cenvOf X.env scope (s.heap.objs.size + 1) := by rw [← hX]; rfl
  have xx : X'.ex = fp := by rw [← hX]; rfl
  have xo : X'.outer = X.stack := by rw [← hX]; rfl
  have xf : X'.fs = frs X.stack := by rw [← hX]; rfl
  have xpn : X'.pn = [] := by rw [← hX]; rfl
  have x0 : X'.s₀ = s := by rw [← hX]; rfl
  have xh : X'.H₀ = H := by rw [← hX]; rfl
  have xxe : X'.xe = fun _ _ => False := by rw [← hX]; rfl
  obtain ⟨hg, ht, he⟩ := B (s.heap.objs.size + 1) s H fp
  rw [hX] at hg ht he
  clear hX
  have stat : ∀ {pl : List (Addr × Obj)} {H' : Hp}, (∀ p ∈ pl, p.1 = s.heap.objs.size) → (∀ b ∈ fp, H' b = none) → ∀ b ∈ fp, FpOk X' pl H' b := fun {pl H'} hp hn b hb => by
    obtain ⟨f0, f1, f2, f3, f4, f5⟩ := hf b hb
    refine ⟨hn b hb, (I0.ok.exf b (by rw [xx]; exact hb)).1, I0.ok.exfs b (by rw [xx]; exact hb), .inl (by rw [xx]; exact hb), (I0.ok.exf b (by rw [xx]; exact hb)).2, fun p hp' => ?_⟩
    rw [xpn, List.nil_append] at hp'
    rw [hp p hp']
    exact Nat.ne_of_gt (hfl b hb)
  obtain ⟨W, ⟨m0, w0⟩, turn⟩ := rd
  have loop : ∀ s3 : Shared, s3 = s0 → codeAny (model X.prog X.w) X.A (.compLoop (.ListComp elt [⟨target, iter, ifs, 0⟩] scope pos) 0 (.ref it) (.ref s.heap.objs.size) (cenvOf X.env scope (s.heap.objs.size + 1))) (RR (.ref s.heap.objs.size) (s.heap.objs.size + 1)) s3 := by
    intro s3 e3
    refine compLoop_any (fun n s' => ∃ (i : Nat) (ys : List V) (H' : Hp) (its : List Value) (k : Nat), Inv X' [(s.heap.objs.size, { cls := .type "list", data := .seq its.toArray k })] (subσ sub σ) H' s' ∧ Vals ys its ∧ ys.length ≤ sizeLine ∧ tn i s'.heap ∧ (∀ b ∈ fp, H' b = none) ∧ W i n ys H') ?_ m0
      ⟨0, [], H, [], 0, by rw [e3]; exact I0, .nil, Nat.zero_le _, by rw [e3]; exact st0, fun b hb => (hf b hb).1, w0⟩
    rintro n s4 ⟨i, ys, H4, its, k, I4, rv, hz, st4, fr4, w4⟩
    have pe : ∀ p ∈ ([(s.heap.objs.size, ({ cls := .type "list", data := .seq its.toArray k } : Obj))] : List (Addr × Obj)), p.1 = s.heap.objs.size := fun p hp => by
      rw [List.mem_singleton] at hp
      rw [hp]
    rcases turn i n ys H4 w4 with ⟨stop, q⟩ | ⟨go, step⟩
    · -- the end
      have td := T.done X' xp xw xK xc i _ s4 (subσ sub σ) H4 (fun _ _ => False) I4 (stat pe fr4) st4 stop
      rw [xA] at td
      refine thn td fun r s5 ⟨hr, I5⟩ => ?_
      subst hr
      have pa := I5.pin (s.heap.objs.size, { cls := .type "list", data := .seq its.toArray k }) (by rw [xpn]; simp)
      have nacc : H4 s.heap.objs.size = none := pa.2.1
      have nC : H4 (s.heap.objs.size + 1) = none := by have z := I5.free; rw [xe] at z; exact z
      have un : Un (frs X.stack) fp H H4 s.heap s5.heap := by have z := I5.base; rw [xf, xx, xh, x0] at z; exact z
      have un2 : Un (frs X.stack) fp H (upd H4 s.heap.objs.size (.lst ys)) s.heap s5.heap := by
        refine ⟨un.keep, un.slot, fun b o e n hx => ?_, un.there, fun b xs e => ?_, fun b o u e => ?_, fun b ps e => ?_⟩
        · rw [upd_ne (Nat.ne_of_lt (Heap.lt_size e))]
          exact un.free b o e n hx
        · have z := un.tups b xs e
          rw [upd_ne (ne_of_none z nacc)]; exact z
        · have z := un.frzs b o u e
          rw [upd_ne (ne_of_none z nacc)]; exact z
        · obtain ⟨more, z⟩ := un.tbls b ps e
          exact ⟨more, by rw [upd_ne (ne_of_none z nacc)]; exact z⟩
      have hok5 : HOk X.prog X.w H4 s5.heap := by have z := I5.hok; rw [xp, xw] at z; exact z
      have hok2 : HOk X.prog X.w (upd H4 s.heap.objs.size (.lst ys)) s5.heap := fun b u e => by
        by_cases hb : b = s.heap.objs.size
        · subst hb
          rw [upd_same] at e
          cases e
          exact ⟨hz, its, k, rv, pa.1⟩
        · rw [upd_ne hb] at e
          exact (hok5 b u e).stay (fun _ _ _ q => q) (fun c q => by rw [upd_ne (ne_of_none q nacc)]; exact q) fun c xs q => by rw [upd_ne (ne_of_none q nacc)]; exact q
      have os5 : s5.os = s.os := by have z := I5.os; rw [x0] at z; exact z
      have J5 : Inv X pins σ (upd H4 s.heap.objs.size (.lst ys)) s5 := I.call' os5 un2 hok2 I5.bare fun b hb => by
        obtain ⟨f0, f1, f2, f3, f4, f5⟩ := hf b hb
        exact ⟨f3, f1, f4, f5⟩
      refine hRR _ _ ys H4 s5 J5 (I.fpOk (Nat.le_succ _) ?_) ?_ nacc q
      · rw [upd_ne (Nat.succ_ne_self _)]; exact nC
      · obtain ⟨m, hn, _⟩ := I5.loc
        rw [xe] at hn
        exact ⟨m, hn⟩
    · -- one turn
      have ti := T.item X' xp xw xK xc i _ s4 (subσ sub σ) H4 (fun _ _ => False) I4 (stat pe fr4) st4 go
      rw [xA] at ti
      refine thn ti fun r s5 ⟨u, hr, h5⟩ => ?_
      subst hr
      refine thn h5 fun _ s6 ⟨x, H6, I6, r6, y6, st6, fr6⟩ => ?_
      have I6' := I6.pinned (stat pe fr6) (T.obj _ _ st6)
      have tg := hg _ s6 (subσ sub σ) H6 x u _ I6' r6 (step x H6 y6)
      rw [xp, xw, xA, xe, xxe] at tg
      refine thn tg fun _ s7 ⟨σ7, H7, I7, le7, q7⟩ => ?_
      have tts := ht _ s7 σ7 H7 _ I7 q7
      rw [xp, xw, xA, xe, xxe] at tts
      refine thn tts fun b s8 ⟨H8, I8, q8⟩ => ?_
      cases b with
      | false =>
        rw [if_neg Bool.false_ne_true] at q8 ⊢
        obtain ⟨m', hm', w8⟩ := q8
        have I9 : Inv X' ([(s.heap.objs.size, { cls := .type "list", data := .seq its.toArray k })] ++ pinsAt fp s6.heap) (subσ sub σ) H8 s8 := I8.weak le7.1.symm le7.2
        refine ⟨m', hm', i + 1, ys, H8, its, k, I9.unpinned, rv, hz, T.keep _ _ _ st6 fun b hb o e => (I9.pin (b, o) (List.mem_append_right _ (List.mem_append_right _ (mem_pinsAt hb e)))).1, fun b hb => ?_, w8⟩
        obtain ⟨o, e, d⟩ := T.obj _ _ st6 b hb
        exact (I9.pin (b, o) (List.mem_append_right _ (List.mem_append_right _ (mem_pinsAt hb e)))).2.1
      | true =>
        rw [if_pos rfl] at q8 ⊢
        have tee := he _ s8 σ7 H8 _ I8 q8
        rw [xp, xw, xA, xe, xxe] at tee
        refine thn tee fun vv s9 ⟨v, H9, I9, r9, lz, m', hm', w9⟩ => ?_
        have I10 : Inv X' ([(s.heap.objs.size, { cls := .type "list", data := .seq its.toArray k })] ++ pinsAt fp s6.heap) (subσ sub σ) H9 s9 := I9.weak le7.1.symm le7.2
        have pa := I10.pin (s.heap.objs.size, { cls := .type "list", data := .seq its.toArray k }) (by rw [xpn]; simp)
        have hlen := rv.length
        refine wpAny_list_append_plain (items := its.toArray) ⟨k, pa.1⟩ (fun h' pl sb => ?_) (by rw [List.size_toArray]; omega)
        obtain ⟨k', pl⟩ := pl
        have keepIt : ∀ b ∈ fp, ∀ o, s6.heap.get? b = some o → h'.get? b = some o := fun b hb o e => by
          have nb : b ≠ s.heap.objs.size := Nat.ne_of_lt (hfl b hb)
          exact (sb.2 b nb).trans (I10.pin (b, o) (List.mem_append_right _ (List.mem_append_right _ (mem_pinsAt hb e)))).1
        have I11 : Inv X' [] (subσ sub σ) H9 s9 := I10.pins_of fun p hp => absurd hp (by simp)
        have sacc : s.heap.objs.size ≠ X'.env.locals := pa.2.2.1
        have I12 : Inv X' [] (subσ sub σ) H9 { s9 with heap := h' } := I11.turned (t' := s9.toks) (it := s.heap.objs.size) (fun b o hb e => (sb.2 b hb).trans e) pa.2.1 sacc (.inr (by rw [x0]; exact Nat.le_refl _))
          (fun y c hy z => by
            obtain ⟨w', o', ho', hd'⟩ := I10.cell y c hy
            rw [z, pa.1] at ho'
            have z2 := Option.some.inj ho'
            rw [← z2] at hd'
            cases hd') (fun p hp => absurd hp (by rw [xpn]; simp))
        refine ⟨m', hm', i + 1, ys ++ [v], H9, its ++ [vv], k', I12.pins_of (fun p hp => ?_), rv.append (.cons r9 .nil), by rw [List.length_append, List.length_singleton]; omega, T.keep _ _ _ st6 keepIt, fun b hb => ?_, w9⟩
        · rw [List.mem_singleton] at hp
          subst hp
          refine ⟨?_, pa.2.1, sacc, pa.2.2.2.1, fun v z => by cases z⟩
          show h'.get? s.heap.objs.size = _
          rw [pl]
          simp
        · obtain ⟨o, e, d⟩ := T.obj _ _ st6 b hb
          exact (I10.pin (b, o) (List.mem_append_right _ (List.mem_append_right _ (mem_pinsAt hb e)))).2.1
  exact codeAny_compStart_list (loop _ rfl) (T.self _ 0 _ _ _ st0 (loop _ rfl))
end
end L2
namespace L2
open PySem PySem.Spec PyProof.Rows
def tComp (sub : List (Option Nat)) (wi : TI) (g : TG) (tt : TT) (te : TE) : TE := fun σ H Q => wi σ H fun J H1 =>
  cTurns J (subσ sub σ) g tt te (fun ys H' => ∀ r, H' r = none → Q (.ref r) (upd H' r (.lst ys))) H1
section
variable {X : Cx} {target iter elt : Expr} {ifs : List Expr} {scope : Scope} {pos : Pos} {N' : List Str} {sub : List (Option Nat)} {wi : TI} {g : TG} {tt : TT} {te : TE}
theorem clos_of {pins : List (Addr × Obj)} {σ : St} {H : Hp} {s : Shared} (I : Inv X pins σ H s) (O : CmpOk X.N X.env.scope N' scope sub) : closureFor scope X.env = pure (closL X.env.cells scope.names []) :=
  closureFor_eq fun x hx hf => I.ok.has x.1 (by rcases O.free x hx hf with z | z; exact .inl z; exact .inr z)
theorem names_of (O : CmpOk X.N X.env.scope N' scope sub) : ∀ y ∈ scope.names, y.2 = .local → scope.names.lookup y.1 = some .local := fun y hy e => by
  obtain ⟨n, k⟩ := y
  cases e
  exact lookup_mem_nd O.nd hy
theorem pe_comp (hc : X.calm = true) (O : CmpOk X.N X.env.scope N' scope sub) (hi : PI X target iter wi)
    (B : ∀ C s H fp, PG (cmpOf X scope N' C s H fp) target g ∧ PTs (cmpOf X scope N' C s H fp) ifs tt ∧ PE (cmpOf X scope N' C s H fp) elt te)
    (hs : ∀ x, foldedSetIterable iter X.env x = pure x := by intro _; rfl) : PE X (.ListComp elt [⟨target, iter, ifs, 0⟩] scope pos) (tComp sub wi g tt te) := by
  intro pins s σ H Q I h
  rw [eval_ListComp]
  refine wpAny_comprehension_free (use := none) rfl hs (clos_of I O) O.kind (names_of O) (thn (hi pins s σ H _ I h) fun v s1 h1 => thn h1 fun itv s2 h2 => ?_)
  obtain ⟨it, fp, tn, J, H2, e, I2, T, st2, f2, rd⟩ := h2
  subst e
  refine comp_core (RR := fun acc C => compPost (model X.prog X.w) X.A X.xe none (EP X pins σ Q) acc C) hc I2 O T st2 f2 B rd fun acc C ys H' s' I' fC hn na q => ?_
  obtain ⟨m, hn⟩ := hn
  obtain ⟨f0, f1, f3, f4, f5, f6⟩ := fC
  refine ⟨m, hn, fun h' sb => ?_⟩
  exact ⟨.ref acc, upd H' acc (.lst ys), I'.turned (t' := s'.toks) (it := C) (fun b o hb e => (sb.2 b hb).trans e) f0 f1 f4 f5 f6, rfl, q acc na⟩
theorem ps_comp {i : Nat} {y : Str} {py spos : Pos} (hc : X.calm = true) (O : CmpOk X.N X.env.scope N' scope sub) (hi : PI X target iter wi)
    (B : ∀ C s H fp, PG (cmpOf X scope N' C s H fp) target g ∧ PTs (cmpOf X scope N' C s H fp) ifs tt ∧ PE (cmpOf X scope N' C s H fp) elt te)
    (hN : X.N.Nodup) (hy : X.N[i]? = some y) (hx : Loc X.env.scope y)
    (hsw : swapsWith (.ListComp elt [⟨target, iter, ifs, 0⟩] scope pos) (some (.Name y py)) spos.line X.env = pure true)
    (hs : ∀ x, foldedSetIterable iter X.env x = pure x := by intro _; rfl) (hf : X.fn y = true ∨ X.env.scope.names.lookup y = some .local := by first | exact .inl rfl | exact .inr rfl | assumption) :
    PS X (.Assign [.Name y py] (.ListComp elt [⟨target, iter, ifs, 0⟩] scope pos) spos) (tAsg (tComp sub wi g tt te) (gName i)) := by
  intro pins s σ H D I h
  rw [exec_Assign_Name_used _ _ _ _ hsw]
  refine wpAny_bind (wpAny_standAt (wpAny_bind ?_))
  show wpAny _ _ (do let _ ← comprehension (.ListComp elt [⟨target, iter, ifs, 0⟩] scope pos) scope X.env _ (newList []) false (eval iter X.env) (some (assign (.Name y py) X.env))) _ _ s
  refine wpAny_bind (wpAny_mono (wpAny_comprehension_free (use := some (assign (.Name y py) X.env)) (Q := fun _ s' => SP X pins D .next s') rfl hs (clos_of I O) O.kind (names_of O)
    (thn (hi pins s σ H _ I h) fun v s1 h1 => thn h1 fun itv s2 h2 => ?_)) (fun _ s' hq => wpAny_pure (wpAny_pure hq)) fun _ _ e => e)
  obtain ⟨it, fp, tn, J, H2, e, I2, T, st2, f2, rd⟩ := h2
  subst e
  refine comp_core (RR := fun acc C => compPost (model X.prog X.w) X.A X.xe (some (assign (.Name y py) X.env)) (fun _ s' => SP X pins D .next s') acc C) hc I2 O T st2 f2 B rd fun acc C ys H' s' I' fC hn na q => ?_
  obtain ⟨m, hn⟩ := hn
  obtain ⟨f0, f1, f3, f4, f5, f6⟩ := fC
  show wpAny _ _ (assign (.Name y py) X.env (.ref acc)) _ _ s'
  refine wpAny_assign_Name (store_ok2 (v := .ref acc) I' hN hy hx rfl (fun s'' I'' ⟨a, sb, ha⟩ => ?_) hf)
  have nCa : C ≠ a := by
    rcases ha with z | z
    · rw [z]; exact f1
    · exact fun e => f5 _ _ z e.symm
  refine ⟨m, hn.sameBut sb nCa, fun h' sb' => ?_⟩
  exact ⟨_, upd H' acc (.lst ys), I''.turned (t' := s''.toks) (it := C) (fun b o hb e => (sb'.2 b hb).trans e) f0 f1 f4 f5 f6, q acc na⟩
end
section
variable {σ0 : St} {g : TG} {tt : TT} {te : TE} {Q : List V → Hp → Prop} {H1 : Hp}
def Nxt (n i : Nat) (Pv : Nat → List V → Hp → Prop) (ys : List V) (H : Hp) : Prop := ∃ m', m' < n - i ∧ m' = n - (i + 1) ∧ i + 1 ≤ n ∧ Pv (i + 1) ys H
theorem nxt {n i : Nat} {Pv : Nat → List V → Hp → Prop} {ys : List V} {H : Hp} (hi : i < n) (h : Pv (i + 1) ys H) : Nxt n i Pv ys H := ⟨_, by omega, rfl, hi, h⟩
theorem turns_list {K : PySem.W.Frag} {a : Addr} {xs : List V} (Pv : Nat → List V → Hp → Prop) (h0 : Pv 0 [] H1) (hl : ∀ i ys H, i ≤ xs.length → Pv i ys H → SqL K H a xs)
    (hs : ∀ i x ys H, xs[i]? = some x → Pv i ys H → g x σ0 H fun σ2 H2 => Sle σ0 σ2 ∧ tt σ2 H2 fun b H3 => if b = true then te σ2 H3 (fun v H4 => ys.length < sizeLine ∧ Nxt xs.length i Pv (ys ++ [v]) H4) else Nxt xs.length i Pv ys H3)
    (hd : ∀ ys H, Pv xs.length ys H → Q ys H) : cTurns (Itl K a) σ0 g tt te Q H1 := by
  refine ⟨fun i m ys H => m = xs.length - i ∧ i ≤ xs.length ∧ Pv i ys H, ⟨xs.length, by simp, Nat.zero_le _, h0⟩, ?_⟩
  rintro i m ys H ⟨rfl, hi, p⟩
  have q := hl i ys H hi p
  by_cases hlt : i < xs.length
  · refine .inr ⟨⟨xs, xs[i], q, by simp [hlt]⟩, fun x H' y => ?_⟩
    obtain ⟨e, y⟩ := y
    subst e
    exact hs i x ys _ (y xs q) p
  · have e : i = xs.length := by omega
    subst e
    exact .inl ⟨⟨xs, q, Nat.le_refl _⟩, hd ys H p⟩
theorem turns_range {lo : Int} {n : Nat} (Pv : Nat → List V → Hp → Prop) (h0 : Pv 0 [] H1)
    (hs : ∀ i ys H, i < n → Pv i ys H → g (.int (lo + i)) σ0 H fun σ2 H2 => Sle σ0 σ2 ∧ tt σ2 H2 fun b H3 => if b = true then te σ2 H3 (fun v H4 => ys.length < sizeLine ∧ Nxt n i Pv (ys ++ [v]) H4) else Nxt n i Pv ys H3)
    (hd : ∀ ys H, Pv n ys H → Q ys H) : cTurns (Itr lo n) σ0 g tt te Q H1 := by
  refine ⟨fun i m ys H => m = n - i ∧ i ≤ n ∧ Pv i ys H, ⟨n, by simp, Nat.zero_le _, h0⟩, ?_⟩
  rintro i m ys H ⟨rfl, hi, p⟩
  by_cases hlt : i < n
  · refine .inr ⟨hlt, fun x H' y => ?_⟩
    obtain ⟨e, y⟩ := y
    subst e y
    exact hs i ys _ hlt p
  · have e : i = n := by omega
    subst e
    exact .inl ⟨Nat.le_refl _, hd ys H p⟩
end
end L2
namespace L2
open PySem PySem.Spec PyProof.Rows PySem.SeqAt
mutual
inductive DR (K : PySem.W.Frag) (H : Hp) : V → PyData → Prop
  | non : DR K H .non .none
  | bl (b : Bool) : DR K H (.bl b) (.bool b)
  | int (i : Int) : DR K H (.int i) (.int i)
  | str (x : Str) : DR K H (.str x) (.str x)
  | lst {a : Addr} {xs : List V} {ds : List PyData} : SqL K H a xs → DRs K H xs ds → DR K H (.ref a) (.list ds)
  | tup {a : Addr} {xs : List V} {ds : List PyData} : SqT K H a xs → DRs K H xs ds → DR K H (.ref a) (.tuple ds)
inductive DRs (K : PySem.W.Frag) (H : Hp) : List V → List PyData → Prop
  | nil : DRs K H [] []
  | cons {v : V} {d : PyData} {vs : List V} {ds : List PyData} : DR K H v d → DRs K H vs ds → DRs K H (v :: vs) (d :: ds)
end
section
variable {X : Cx} {pins : List (Addr × Obj)} {σ : St} {H : Hp} {s : Shared}
mutual
theorem DR.reads (I : Inv X pins σ H s) : ∀ {v : V} {d : PyData} {u : Value}, DR X.K H v d → RelV v u → ∃ as, Reads s.heap u d as
  | _, _, _, .non, r => by cases r; exact ⟨_, .none⟩
  | _, _, _, .bl b, r => by cases r; exact ⟨_, .bool b⟩
  | _, _, _, .int i, r => by obtain ⟨t, rfl⟩ := r; exact ⟨_, .int i t⟩
  | _, _, _, .str x, r => by obtain ⟨t, rfl⟩ := r; exact ⟨_, .str x t⟩
  | _, _, _, .lst hq hd, r => by
    cases r
    obtain ⟨its, rv, ⟨o, n, e, c, _, dt⟩, _⟩ := I.list hq
    obtain ⟨as, ra⟩ := DRs.reads I hd rv
    exact ⟨_, .list e c dt ra⟩
  | _, _, _, .tup hq hd, r => by
    cases r
    obtain ⟨its, rv, ⟨o, e, c, n, dt⟩, _⟩ := I.tuple hq
    obtain ⟨as, ra⟩ := DRs.reads I hd rv
    exact ⟨_, .tuple e c dt ra⟩
theorem DRs.reads (I : Inv X pins σ H s) : ∀ {vs : List V} {ds : List PyData} {us : List Value}, DRs X.K H vs ds → Vals vs us → ∃ as, ReadsAll s.heap us ds as
  | _, _, _, .nil, r => by cases r; exact ⟨_, .nil⟩
  | _, _, _, .cons h t, r => by
    cases r with
    | cons r rr =>
      obtain ⟨a1, q1⟩ := DR.reads I h r
      obtain ⟨a2, q2⟩ := DRs.reads I t rr
      exact ⟨_, .cons q1 q2⟩
end
end
def rEqD (K : PySem.W.Frag) (neg : Bool) : R2 := fun x y H Q => ∃ dx dy, DR K H x dx ∧ DR K H y dy ∧ shaped dx = true ∧ shaped dy = true ∧ Q (.bl (if neg then !PyData.eqv dx dy else PyData.eqv dx dy)) H
section
variable {X : Cx}
theorem op_eqD (hu : X.A.units + 64 < cLine) : OpR X (compareOp .Eq) (rEqD X.K false) := by
  intro pins s σ H x y v u Q I rx ry h
  obtain ⟨dx, dy, hx, hy, sx, sy, q⟩ := h
  obtain ⟨a1, r1⟩ := DR.reads I hx rx
  obtain ⟨a2, r2⟩ := DR.reads I hy ry
  exact eq_dataH r1 r2 sx sy hu ⟨.bl (PyData.eqv dx dy), H, I, rfl, q⟩
theorem op_neD (hu : X.A.units + 64 < cLine) : OpR X (compareOp .NotEq) (rEqD X.K true) := by
  intro pins s σ H x y v u Q I rx ry h
  obtain ⟨dx, dy, hx, hy, sx, sy, q⟩ := h
  obtain ⟨a1, r1⟩ := DR.reads I hx rx
  obtain ⟨a2, r2⟩ := DR.reads I hy ry
  exact ne_dataH r1 r2 sx sy hu ⟨.bl (!PyData.eqv dx dy), H, I, rfl, q⟩
theorem strsAre_of {ss : List Str} : ∀ {us : List Value}, Vals (ss.map V.str) us → StrsAre us ss := by
  induction ss with
  | nil => intro us r; cases r; exact .nil
  | cons a l ih =>
    intro us r
    cases r with
    | cons r rr =>
      obtain ⟨t, rfl⟩ := r
      exact .cons a t (ih rr)
theorem of_strsAre {ss : List Str} : ∀ {us : List Value}, StrsAre us ss → Vals (ss.map V.str) us := by
  induction ss with
  | nil => intro us r; cases r; exact .nil
  | cons a l ih =>
    intro us r
    cases r with
    | cons _ _ r => exact .cons ⟨_, rfl⟩ (ih r)
theorem call_sortedS : CallR X (.builtin "sorted") (fun xs H Q => ∃ p ss, xs = [.ref p] ∧ SqL X.K H p (ss.map V.str) ∧ ss.length < 64 ∧ ∀ r ss', H r = none → ss'.Perm ss → sortedS ss' = true → Q (.ref r) (upd H r (.lst (ss'.map V.str)))) := by
  intro pins s σ H xs us Q I r h
  obtain ⟨p, ss, rfl, hq, h64, q⟩ := h
  obtain ⟨u, rfl, rx⟩ := vals1 r
  cases rx
  obtain ⟨its, rv, pl, hz⟩ := I.list hq
  have hl := rv.length
  rw [List.length_map] at hl
  refine sorted_strs pl.isList (strsAre_of rv) (by omega) fun out ss' h1 h2 h3 => ?_
  obtain ⟨e, he⟩ := sortedAll_at s.heap its out
  have nz : H (s.heap.objs.size + 1) = none := I.hok.fresh (Nat.le_succ _)
  refine ⟨.ref (s.heap.objs.size + 1), _, I.laid (t' := s.toks) (a := s.heap.objs.size + 1) (o := .lst (ss'.map V.str)) (fun b o eb => sortedAll_old eb) (Nat.le_succ _) ?_, rfl, q _ ss' nz h2 h3⟩
  refine ⟨?_, out.toList, e, of_strsAre h1, by simpa using he⟩
  rw [List.length_map, h2.length_eq]
  exact Nat.le_of_lt (small1000 (by omega))
end
end L2
namespace L2
open PySem PySem.Spec PyProof.Rows
section
variable {X : Cx}
theorem sl_str : SlR X (fun x lo hi H Q => ∃ z : Str, x = .str z ∧ z.length ≤ sizeLine ∧ Q (.str (Txt.slice z lo hi)) H) := by
  intro pins s σ H x v vl vu lo hi sl Q I rx hs pl pu h
  obtain ⟨z, rfl, hz, q⟩ := h
  obtain ⟨t, rfl⟩ := rx
  refine ⟨"str", _, F.slot_str_getitem.lookup, typeIs_str _ _ _, ?_⟩
  obtain ⟨o, ho, hc, hd⟩ := hs
  have fin : ∀ t' k, EP X pins σ Q (.str (Txt.slice z lo hi) t') { s with toks := k } := fun t' k => ⟨.str (Txt.slice z lo hi), H, I.tok k, ⟨t', rfl⟩, q⟩
  cases pl with
  | none =>
    cases pu with
    | none => exact wpAny_getItem_str_slice (l := none) (u := none) (st := none) ⟨o, ho, hc, hd⟩ rfl (post_val_or_str ⟨Nat.le_trans (Txt.slice_le z _ _) hz, fin⟩)
    | int j uj => exact wpAny_getItem_str_slice (l := none) (u := some (j, uj)) (st := none) ⟨o, ho, hc, hd⟩ rfl (post_val_or_str ⟨Nat.le_trans (Txt.slice_le z _ _) hz, fin⟩)
  | int i ui =>
    cases pu with
    | none => exact wpAny_getItem_str_slice (l := some (i, ui)) (u := none) (st := none) ⟨o, ho, hc, hd⟩ rfl (post_val_or_str ⟨Nat.le_trans (Txt.slice_le z _ _) hz, fin⟩)
    | int j uj => exact wpAny_getItem_str_slice (l := some (i, ui)) (u := some (j, uj)) (st := none) ⟨o, ho, hc, hd⟩ rfl (post_val_or_str ⟨Nat.le_trans (Txt.slice_le z _ _) hz, fin⟩)
theorem mulOk_small {x : Str} {n : Int} (h1 : x.length ≤ 100) (h2 : 0 ≤ n) (h3 : n ≤ 100) : PySem.MulOk x n := by
  refine ⟨?_, fun h _ => ?_, fun h _ => ?_⟩
  · rw [Bool.or_eq_false_iff]
    exact ⟨decide_eq_false (by omega), decide_eq_false (by omega)⟩
  · have e : ((2 ^ 63 - 1 : Int) / n) ≥ 100 := by
      apply Int.le_ediv_of_mul_le (by omega)
      omega
    omega
  · unfold Builtin.Str.tooLong
    have : x.length * n.toNat ≤ 100 * 100 := Nat.mul_le_mul h1 (by omega)
    exact decide_eq_false (by have : sizeLine > 10000 := by decide
                              omega)
theorem op_mul_str : OpR X (binaryOp .Mult) (fun x y H Q => ∃ (z : Str) (n : Int), x = .str z ∧ y = .int n ∧ z.length ≤ 100 ∧ 0 ≤ n ∧ n ≤ 100 ∧ Q (.str (Txt.mul z n)) H) := by
  intro pins s σ H x y v u Q I rx ry h
  obtain ⟨z, n, rfl, rfl, h1, h2, h3, q⟩ := h
  obtain ⟨t, rfl⟩ := rx
  obtain ⟨t', rfl⟩ := ry
  exact SB.mul (mulOk_small h1 h2 h3) fun t' k => ⟨.str (Txt.mul z n), H, I.tok k, ⟨t', rfl⟩, q⟩
theorem call_isinst : CallR X (.builtin "isinstance") (fun xs H Q => ∃ x t c b, xs = [x, .ty c] ∧ TyOf X.K H x t ∧ PySem.W.kitOne X.K t (.type c) = some b ∧ Q (.bl b) H) := by
  intro pins s σ H xs us Q I r h
  obtain ⟨x, t, c, b, rfl, ty, e, q⟩ := h
  obtain ⟨u, w', rfl, rx, rc⟩ := vals2 r
  cases (show w' = Value.type c from rc)
  exact isinst_ok I rx ty e fun tk => ⟨.bl b, H, I.tok tk, rfl, q⟩
def Itk (kvs : List (Key × V)) (d : Addr) (o : Obj) : It :=
  ⟨fun i H => i < kvs.length ∧ H d = some (.frz o (.dK kvs)), fun i H x H' => H' = H ∧ ∃ p, kvs[i]? = some p ∧ x = kV p.1, fun i H => kvs.length ≤ i ∧ H d = some (.frz o (.dK kvs))⟩
theorem turn_dkeys {P : Program} {w : World} {K : PySem.W.Frag} {tg : Expr} (it d : Addr) (o : Obj) (kvs : List (Key × V)) (vs : List (Key × Value)) (es : Array DictEntry) (ep : Nat)
    (hne : d ≠ it) (kv : KV kvs vs) (hx : o.ExactDict) (hd : o.data = .dict es ep) (hk : KeysOf (mixKind P w) es) (hp : Pairs (mixKind P w) es.toList vs) (nd : (vs.map (·.1)).Nodup) :
    Turn P w K tg (Itk kvs d o) [it] it (fun i h => h.IsKeyIter it d i vs.length ep) where
  mem := by simp
  obj := fun i h st b hb => by
    have e : b = it := by simpa using hb
    subst e
    obtain ⟨o, e, c, d⟩ := st
    exact ⟨o, e, fun v z => by rw [d] at z; cases z⟩
  keep := fun i h h' st k => st.at fun o e => k it (by simp) o e
  item := by
    intro X hP hw hK hc i pins s σ H E I hf st hg
    subst hP hw hK
    obtain ⟨hi, hH⟩ := hg
    have ho : s.heap.get? d = some o := (I.hok d _ hH).1
    have da : s.heap.DictAt (mixKind X.prog X.w) d vs ep := ⟨o, es, ho, hx, hd, hk, hp, nd⟩
    obtain ⟨⟨k, xv⟩, hkx⟩ : ∃ p, kvs[i]? = some p := ⟨kvs[i], by simp [hi]⟩
    have hvl : i < vs.length := by have := kv.length; omega
    obtain ⟨⟨k', uv⟩, hkv⟩ : ∃ p, vs[i]? = some p := ⟨vs[i], by simp [hvl]⟩
    have ek : k = k' := by
      have e := congrArg (fun l => l[i]?) kv.keys
      simp only [List.getElem?_map, hkx, hkv] at e
      exact Option.some.inj e
    subst ek
    obtain ⟨f0, f1, f2, f3, f4, f5⟩ := hf it (by simp)
    refine wpAny_pyNext_dict_item st da hkv fun key h' hkey hit' hs' => ?_
    have I1 : Inv X pins σ H { s with heap := h' } := I.turned (t' := s.toks) (fun b o hb e => (hs'.2 b hb).trans e) f0 f1 f3 f4 f5
    obtain ⟨oo, e, c, dd⟩ := id hit'
    refine ⟨key, rfl, go_of (s := { s with heap := h' }) e c dd (by decide) ⟨kV k, H, I1, ?_, ⟨rfl, (k, xv), hkx, rfl⟩, hit', fun b hb => (hf b hb).1⟩⟩
    rcases keyIs_shape (show keyIs k key = true from hkey) with ⟨j, t, rfl, rfl⟩ | ⟨x, t, rfl, rfl⟩
    · exact ⟨t, rfl⟩
    · exact ⟨t, rfl⟩
  done := by
    intro X hP hw hK hc i pins s σ H E I hf st hg
    subst hP hw hK
    obtain ⟨hi, hH⟩ := hg
    have ho : s.heap.get? d = some o := (I.hok d _ hH).1
    have da : s.heap.DictAt (mixKind X.prog X.w) d vs ep := ⟨o, es, ho, hx, hd, hk, hp, nd⟩
    obtain ⟨f0, f1, f2, f3, f4, f5⟩ := hf it (by simp)
    have hl := kv.length
    exact wpAny_pyNext_dict_end (I.ok.hd hc) st da (by simp; omega) fun h' eb => ⟨rfl, I.turned (t' := s.toks) (fun b o hb e => eb b o hb e) f0 f1 f3 f4 f5⟩
  self := fun _ _ _ _ _ st h => wpAny_pyIter_keyiter st h
def iKeys (td : TE) : TI := fun σ H R => td σ H fun x H1 => ∃ d kvs, x = .ref d ∧ H1 d = some (.dK kvs) ∧ ∀ o, R (Itk kvs d o) (upd H1 d (.frz o (.dK kvs)))
theorem pi_keys {e tg : Expr} {td : TE} (he : PE X e td) : PI X tg e (iKeys td) := by
  intro pins s σ H R I h
  refine thn (he pins s σ H _ I h) fun v s1 ⟨x, H1, I1, r1, q1⟩ => ?_
  obtain ⟨d, kvs, e, hH, q⟩ := q1
  subst e
  cases r1
  obtain ⟨hz, hsm, vs, kv, o, es, ep, ho, hx, hd, hk, hp, nd⟩ := dk_of I1.hok hH
  have I2 : Inv X pins σ (upd H1 d (.frz o (.dK kvs))) s1 := by
    refine I1.write (t' := s1.toks) (h' := s1.heap) (x := d) (e := d) (by rw [hH]; trivial) (.inl rfl) (fun _ _ _ q => q) ⟨o, ho⟩ ⟨ho, ?_⟩
    exact ⟨hz, hsm, vs, kv, o, es, ep, ho, hx, hd, hk, hp, nd⟩
  have da : s1.heap.DictAt (mixKind X.prog X.w) d vs ep := ⟨o, es, ho, hx, hd, hk, hp, nd⟩
  refine wpAny_pyIter_dict hsm da ?_
  have hne : d ≠ s1.heap.objs.size := Nat.ne_of_lt (Heap.lt_size ho)
  refine ⟨s1.heap.objs.size, [s1.heap.objs.size], _, _, _, rfl, I2.kept (t' := s1.toks) fun b o e => Heap.get?_push_of_some _ e, turn_dkeys s1.heap.objs.size d o kvs vs es ep hne kv hx hd hk hp nd, ⟨_, Heap.get?_push_size _ rfl, rfl, rfl⟩, fun b hb => ?_, q o⟩
  have e : b = s1.heap.objs.size := by simpa using hb
  subst e
  exact I2.fpOk (Nat.le_refl _) (by rw [upd_ne (Ne.symm hne)]; exact I1.hok.fresh (Nat.le_refl _))
theorem turns_keys {σ0 : St} {g : TG} {tt : TT} {te : TE} {Q : List V → Hp → Prop} {H1 : Hp} {kvs : List (Key × V)} {d : Addr} {o : Obj} (Pv : Nat → List V → Hp → Prop) (h0 : Pv 0 [] H1)
    (hl : ∀ i ys H, i ≤ kvs.length → Pv i ys H → H d = some (.frz o (.dK kvs)))
    (hs : ∀ i p ys H, kvs[i]? = some p → Pv i ys H → g (kV p.1) σ0 H fun σ2 H2 => Sle σ0 σ2 ∧ tt σ2 H2 fun b H3 => if b = true then te σ2 H3 (fun v H4 => ys.length < sizeLine ∧ Nxt kvs.length i Pv (ys ++ [v]) H4) else Nxt kvs.length i Pv ys H3)
    (hd : ∀ ys H, Pv kvs.length ys H → Q ys H) : cTurns (Itk kvs d o) σ0 g tt te Q H1 := by
  refine ⟨fun i m ys H => m = kvs.length - i ∧ i ≤ kvs.length ∧ Pv i ys H, ⟨kvs.length, by simp, Nat.zero_le _, h0⟩, ?_⟩
  rintro i m ys H ⟨rfl, hi, p⟩
  have q := hl i ys H hi p
  by_cases hlt : i < kvs.length
  · refine .inr ⟨⟨hlt, q⟩, fun x H' y => ?_⟩
    obtain ⟨e, pr, hpr, rfl⟩ := y
    subst e
    exact hs i pr ys _ hpr p
  · have e : i = kvs.length := by omega
    subst e
    exact .inl ⟨⟨Nat.le_refl _, q⟩, hd ys H p⟩
end
end L2
namespace L2
open PySem PySem.Spec PyProof.Rows
section
variable {X : Cx}
end
end L2
namespace L2
open PySem PySem.Spec PyProof.Rows
theorem orstand_led (t : SetTable) (n : Nat) : (t.orStandIn n).led = t.led := by
  unfold SetTable.orStandIn
  split <;> rfl
theorem laynew_led (t : SetTable) (es : Array (Int × Value)) (h : Int) (x : Value) : (layNew t es h x).2.1.led = t.led := by
  unfold layNew
  split
  · exact orstand_led _ _
  · rfl
theorem relay_led (t : SetTable) (es : Array (Int × Value)) (k : Nat) : (relayAll t es k).2.1.led = t.led := by
  unfold relayAll
  split
  · rename_i u order e
    have eu : u.led = t.led := by
      unfold SetTable.relaid SetTable.laid at e
      cases hc : SetTable.layClean (SetTable.sizeAbove k - 1) (es.map (·.1)) with
      | none => rw [hc] at e; cases e
      | some o =>
        rw [hc] at e
        injection e with e
        injection e with e1 e2
        rw [← e1]
    dsimp only
    split
    · exact eu
    · rfl
  · rfl
theorem relay_plain (t : SetTable) (es : Array (Int × Value)) (k : Nat) (hp : t.plain = false) : (relayAll t es k).2.1.plain = false := by
  unfold relayAll
  split
  · rename_i u order e
    have eu : u.plain = t.plain := by
      unfold SetTable.relaid SetTable.laid at e
      cases hc : SetTable.layClean (SetTable.sizeAbove k - 1) (es.map (·.1)) with
      | none => rw [hc] at e; cases e
      | some o =>
        rw [hc] at e
        injection e with e
        injection e with e1 e2
        rw [← e1]
    dsimp only
    split
    · exact eu.trans hp
    · rfl
  · rfl
def StrSet (P : Program) (w : World) (h : Heap) (a : Addr) (ss : List Str) : Prop :=
  ∃ (es : Array (Int × Value)) (ep : Nat) (t : SetTable), h.get? a = some { cls := .type "set", dict := none, data := .set es ep t, slots := #[] } ∧ ElemsOf (PySem.strKind P w) es.toList ∧
    StrsAre (es.toList.map (·.2)) ss ∧ es.size < scanBound ∧ t.fits es.size = true ∧ t.led = !w.params.followText "set-order" ∧ (es.size ≠ 0 → t.plain = false)
theorem strs_mem {x : Str} : ∀ {vs : List Value} {ss : List Str}, StrsAre vs ss → ((∃ v ∈ vs, Value.isStrOf x v = true) ↔ x ∈ ss)
  | _, _, .nil => by simp
  | _, _, .cons y t r => by
    have ih := strs_mem (x := x) r
    have hy : Value.isStrOf x (.str y t) = true ↔ x = y := by
      constructor
      · intro h
        obtain ⟨u, e⟩ := Value.isStrOf_shape h
        cases e; rfl
      · rintro rfl; simp [Value.isStrOf]
    constructor
    · rintro ⟨v, hv, hp⟩
      rcases List.mem_cons.mp hv with rfl | hv
      · rw [hy.mp hp]; exact List.mem_cons_self
      · exact List.mem_cons_of_mem _ (ih.mp ⟨v, hv, hp⟩)
    · intro h
      rcases List.mem_cons.mp h with h | h
      · exact ⟨_, List.mem_cons_self, hy.mpr h⟩
      · obtain ⟨v, hv, hp⟩ := ih.mpr h
        exact ⟨v, List.mem_cons_of_mem _ hv, hp⟩
theorem strs_perm {es es1 : List (Int × Value)} {ss : List Str} {k : Int} {x : Str} {t : Tok} (hS : StrsAre (es.map (·.2)) ss) (p : es1.Perm (es ++ [(k, .str x t)])) : ∃ ss1, StrsAre (es1.map (·.2)) ss1 ∧ ss1.Perm (ss ++ [x]) := by
  have hall : ∀ v, v ∈ es1.map (·.2) → ∃ y u, v = .str y u := by
    intro v hv
    obtain ⟨e, he, rfl⟩ := List.mem_map.mp hv
    rcases List.mem_append.mp (p.mem_iff.mp he) with z | z
    · exact hS.all _ (List.mem_map_of_mem z)
    · rw [List.mem_singleton] at z; subst z; exact ⟨x, t, rfl⟩
  refine ⟨_, strsAre_map _ hall, ?_⟩
  have q := (p.map (·.2)).map strOf
  rw [List.map_append, List.map_append, hS.strs] at q
  exact q
theorem strs_perm' {es es1 : List (Int × Value)} {ss : List Str} (hS : StrsAre (es.map (·.2)) ss) (p : es1.Perm es) : ∃ ss1, StrsAre (es1.map (·.2)) ss1 ∧ ss1.Perm ss := by
  have hall : ∀ v, v ∈ es1.map (·.2) → ∃ y u, v = .str y u := by
    intro v hv
    obtain ⟨e, he, rfl⟩ := List.mem_map.mp hv
    exact hS.all _ (List.mem_map_of_mem (p.mem_iff.mp he))
  refine ⟨_, strsAre_map _ hall, ?_⟩
  have q := (p.map (·.2)).map strOf
  rw [hS.strs] at q
  exact q
section
variable {P : Program} {w : World} {A : Around} {E : Value → Shared → Prop} {s : Shared} {a : Addr} {ss : List Str}
theorem tset_store {es es' : Array (Int × Value)} {ep : Nat} {t t' : SetTable} (ho : s.heap.get? a = some { cls := .type "set", dict := none, data := .set es ep t, slots := #[] }) :
    (s.heap.update a (Obj.putSet es' t')).get? a = some { cls := .type "set", dict := none, data := .set es' (ep + 1) t', slots := #[] } := by
  have q := Heap.get?_update_self (Obj.putSet es' t') ho (by rw [putSet_of es' t' rfl]; rfl)
  rw [putSet_of es' t' rfl] at q
  exact q
theorem tset_tail {g : Bool → Sem Unit} (hg : ∀ (b : Bool) (s1 : Shared) (Q' : Unit → Shared → Prop), Q' () s1 → wpAny (model P w) A (g b) Q' E s1) {es es1 : Array (Int × Value)} {ep : Nat} {t t2 : SetTable} {ss1 : List Str}
    (ho : s.heap.get? a = some { cls := .type "set", dict := none, data := .set es ep t, slots := #[] }) (e1 : ElemsOf (PySem.strKind P w) es1.toList) (e2 : StrsAre (es1.toList.map (·.2)) ss1) (e3 : es1.size < scanBound) (e4 : t2.fits es1.size = true)
    (e5 : t2.led = !w.params.followText "set-order") (e6 : t2.plain = false) {wasD : Bool} {R : Option Bool → Shared → Prop} (h : ∀ h' ss', Heap.SameBut a s.heap h' → StrSet P w h' a ss' → ss'.Perm ss1 → R (some true) { s with heap := h' }) :
    wpAny (model P w) A (do
        storeSet a es1 t2
        if (!wasD && t2.tooFull) = true then do
            g (relayAll t2 es1 (SetTable.grown es1.size)).2.2
            storeSet a (relayAll t2 es1 (SetTable.grown es1.size)).1 (relayAll t2 es1 (SetTable.grown es1.size)).2.1
            pure (some true)
          else pure (some true)) R E s := by
  refine wpAny_bind (wpAny_storeSet_of ho rfl ?_ (fits_of_scanBound e3))
  have o1 : (s.heap.update a (Obj.putSet es1 t2)).get? a = _ := tset_store (s := s) ho
  have b1 := Heap.SameBut.update s.heap a (Obj.putSet es1 t2)
  split
  · have p := relayAll_perm t2 es1 (SetTable.grown es1.size)
    have f := relayAll_fits t2 es1 (SetTable.grown es1.size)
    have l := relay_led t2 es1 (SetTable.grown es1.size)
    have pl := relay_plain t2 es1 (SetTable.grown es1.size) e6
    generalize relayAll t2 es1 (SetTable.grown es1.size) = Rl at p f l pl ⊢
    obtain ⟨es2, t3, gv⟩ := Rl
    dsimp only at p f l pl ⊢
    have z2 : es2.size = es1.size := by rw [← Array.length_toList, p.length_eq, Array.length_toList]
    obtain ⟨ss2, q1, q2⟩ := strs_perm' e2 p
    refine wpAny_bind (hg _ _ _ (wpAny_bind (wpAny_storeSet_of o1 rfl ?_ (fits_of_scanBound (by rw [z2]; exact e3)))))
    have o2 : ((s.heap.update a (Obj.putSet es1 t2)).update a (Obj.putSet es2 t3)).get? a = _ := tset_store (s := { s with heap := s.heap.update a (Obj.putSet es1 t2) }) o1
    exact wpAny_pure (h _ ss2 (b1.trans (Heap.SameBut.update _ a _)) ⟨es2, _, t3, o2, e1.perm p, q1, by rw [z2]; exact e3, f, l.trans e5, fun _ => pl⟩ q2)
  · exact wpAny_pure (h _ ss1 b1 ⟨es1, _, t2, o1, e1, e2, e3, e4, e5, fun _ => e6⟩ (List.Perm.refl _))
theorem tset_add {x : Str} {tk : Tok} {Q : Bool → Shared → Prop} (hS : StrSet P w s.heap a ss) (room : ss.length + 1 < scanBound)
    (h : ∀ h' ss', Heap.SameBut a s.heap h' → StrSet P w h' a ss' → (if x ∈ ss then ss' = ss else ss'.Perm (ss ++ [x])) → Q (!decide (x ∈ ss)) { s with heap := h' }) :
    wpAny (model P w) A (setAddHashed a (.str x tk) ((PySem.strKind P w).hash x)) Q E s := by
  obtain ⟨es, ep, t, ho, e1, e2, e3, e4, e5, e6⟩ := hS
  have hk : (PySem.strKind P w).is x (.str x tk) = true := strKind_is P w x tk
  have hsc : Value.scannable (.str x tk) = true := rfl
  have hz : ss.length = es.size := by rw [← e2.strs, List.length_map, List.length_map, Array.length_toList]
  unfold setAddHashed setAddHashedIn
  refine wpAny_holding (wpAny_bind (wpAny_setState_of ho rfl e4 ?_))
  dsimp only
  rw [byScan_of hsc e3 e1, if_pos rfl]
  unfold setAddByScan
  refine wpAny_bind (wpAny_bind (wpAny_rule (wpAny_bind (wpAny_setScan_of hk ho rfl e4 e1 ?_))))
  cases hr : List.findIdx? (fun e => (PySem.strKind P w).is x e.2) es.toList with
  | some j =>
    dsimp only
    obtain ⟨hj, hp, _⟩ := List.findIdx?_eq_some_iff_getElem.mp hr
    have hm : x ∈ ss := (strs_mem e2).mp ⟨_, List.mem_map_of_mem (List.getElem_mem hj), hp⟩
    have q := h s.heap ss (Heap.SameBut.refl a _) ⟨es, ep, t, ho, e1, e2, e3, e4, e5, e6⟩ (by rw [if_pos hm])
    rw [decide_eq_true hm] at q
    exact wpAny_pure (wpAny_pure q)
  | none =>
    dsimp only
    have hm : ¬ x ∈ ss := fun z => by
      obtain ⟨v, hv, hp⟩ := (strs_mem e2).mpr z
      obtain ⟨e, he, rfl⟩ := List.mem_map.mp hv
      have q := List.findIdx?_eq_none_iff.mp hr e he
      rw [show (PySem.strKind P w).is x e.2 = true from hp] at q
      cases q
    have gw : ∀ (b : Bool) (s1 : Shared) (Q' : Unit → Shared → Prop), Q' () s1 → wpAny (model P w) A (match b with | true => rule "set.scan.the-table-gave-way" | false => pure ()) Q' E s1 := fun b s1 Q' hq => by
      cases b
      · exact wpAny_pure hq
      · exact wpAny_rule hq
    have p := layNew_perm t es ((PySem.strKind P w).hash x) (.str x tk)
    have f := layNew_fits t es ((PySem.strKind P w).hash x) (.str x tk)
    have l := laynew_led t es ((PySem.strKind P w).hash x) (.str x tk)
    generalize layNew t es ((PySem.strKind P w).hash x) (.str x tk) = L at p f l ⊢
    obtain ⟨es1, t1, wasD, gv⟩ := L
    dsimp only at p f l ⊢
    rw [Array.toList_push] at p
    have d1 : ElemsOf (PySem.strKind P w) es1.toList := (e1.push hk hsc).perm p
    obtain ⟨ss1, d2, d3⟩ := strs_perm e2 p
    have z1 : es1.size = es.size + 1 := by rw [← Array.length_toList, p.length_eq, List.length_append, Array.length_toList]; rfl
    have d4 : es1.size < scanBound := by rw [z1, ← hz]; exact room
    have fin : ∀ h' ss', Heap.SameBut a s.heap h' → StrSet P w h' a ss' → ss'.Perm ss1 → Q true { s with heap := h' } := fun h' ss' b1 b2 b3 => by
      have q := h h' ss' b1 b2 (by rw [if_neg hm]; exact b3.trans d3)
      rw [decide_eq_false hm] at q
      exact q
    refine wpAny_bind (gw _ _ _ ?_)
    split
    · rename_i hpl
      refine wpAny_bind ?_
      rw [hashByValue_scannable 8 hsc]
      refine wpAny_pure ?_
      refine tset_tail gw ho d1 d2 d4 (SetTable.fits_plain_off f) (l.trans e5) rfl fun h' ss' b1 b2 b3 => ?_
      exact wpAny_pure (fin h' ss' b1 b2 b3)
    · rename_i hpl
      refine wpAny_bind (wpAny_pure ?_)
      rw [if_pos rfl]
      refine tset_tail gw ho d1 d2 d4 f (l.trans e5) (by simpa using hpl) fun h' ss' b1 b2 b3 => ?_
      exact wpAny_pure (fin h' ss' b1 b2 b3)
end
end L2
namespace L2
open PySem PySem.Spec PyProof.Rows
theorem StrSet.at {P : Program} {w : World} {h h' : Heap} {a : Addr} {ss : List Str} (x : StrSet P w h a ss) (k : ∀ o, h.get? a = some o → h'.get? a = some o) : StrSet P w h' a ss := by
  obtain ⟨es, ep, t, ho, r⟩ := x
  exact ⟨es, ep, t, k _ ho, r⟩
def Once (val : Nat → Str) (i : Nat) (ss : List Str) : Prop := ss.Nodup ∧ ss.length ≤ i ∧ ∀ x, x ∈ ss ↔ ∃ j, j < i ∧ val j = x
theorem Once.zero (val : Nat → Str) : Once val 0 [] := ⟨List.nodup_nil, Nat.le_refl _, fun x => by simp⟩
theorem Once.next {val : Nat → Str} {i : Nat} {ss ss' : List Str} (h : Once val i ss) (e : if val i ∈ ss then ss' = ss else ss'.Perm (ss ++ [val i])) : Once val (i + 1) ss' := by
  obtain ⟨h1, h2, h3⟩ := h
  by_cases hm : val i ∈ ss
  · rw [if_pos hm] at e
    subst e
    refine ⟨h1, by omega, fun x => (h3 x).trans ⟨fun ⟨j, a, b⟩ => ⟨j, by omega, b⟩, fun ⟨j, a, b⟩ => ?_⟩⟩
    by_cases hj : j < i
    · exact ⟨j, hj, b⟩
    · have : j = i := by omega
      subst this
      subst b
      exact (h3 _).mp hm
  · rw [if_neg hm] at e
    refine ⟨e.nodup_iff.mpr ?_, ?_, fun x => ?_⟩
    · rw [List.nodup_append]
      exact ⟨h1, by simp, fun y hy z hz => by rw [List.mem_singleton] at hz; subst hz; rintro rfl; exact hm hy⟩
    · rw [e.length_eq, List.length_append]
      simpa using h2
    · rw [e.mem_iff, List.mem_append, h3 x, List.mem_singleton]
      constructor
      · rintro (⟨j, a, b⟩ | rfl)
        · exact ⟨j, by omega, b⟩
        · exact ⟨i, by omega, rfl⟩
      · rintro ⟨j, a, b⟩
        by_cases hj : j < i
        · exact .inl ⟨j, hj, b⟩
        · have : j = i := by omega
          subst this
          exact .inr b.symm
section
variable {P : Program} {w : World} {A : Around} {R : Result → Shared → Prop} {I : Addr} {fp wr : List Addr} {G : Array GenState → Array GenState → Prop} {n : Nat} {Pv : Nat → Value → Prop} {St : Nat → Shared → Prop}
theorem tset_loop (W : WalksS P w A.in1 I fp wr G n Pv St) (S : Addr) (nS : S ∉ fp) (val : Nat → Str) (hv : ∀ i v, Pv i v → ∃ t, v = .str (val i) t) (nb : n + 1 < scanBound) : ∀ (k i : Nat) (s : Shared) (ss : List Str), n - i = k → i ≤ n → St i s → StrSet P w s.heap S ss → Once val i ss →
    (∀ s' ss', Moved (S :: wr) G s s' → StrSet P w s'.heap S ss' → Once val n ss' → R (.ok (.ret .none)) s') → codeAny (model P w) A (.builtin "set.update.loop" ⟨[.ref S, .ref I], []⟩) R s := by
  have nw : S ∉ wr := fun z => nS (W.sub _ z)
  have sub : ∀ b ∈ wr, b ∈ S :: wr := fun b z => List.mem_cons_of_mem _ z
  intro k
  induction k with
  | zero =>
    intro i s ss hk hi st hS ho r
    have e : i = n := by omega
    subst e
    refine codeAny_builtin PyProof.Rows.F.entry_set_update_loop ?_
    rw [Around.under_plainId PyProof.Rows.F.plain_set_update_loop _]
    show wpAny _ A.in1 (pyNext (.ref I) >>= _) _ _ _
    refine wpAny_bind (W.done s _ _ st fun s1 m1 => wpAny_pure (r s1 ss (m1.mono sub) (hS.at fun o z => m1.heap S o nw z) ho))
  | succ k ih =>
    intro i s ss hk hi st hS ho r
    have lt : i < n := by omega
    refine codeAny_builtin PyProof.Rows.F.entry_set_update_loop ?_
    rw [Around.under_plainId PyProof.Rows.F.plain_set_update_loop _]
    show wpAny _ A.in1 (pyNext (.ref I) >>= _) _ _ _
    refine wpAny_bind (W.item i s _ _ lt st fun v s1 pv st1 m1 => ?_)
    obtain ⟨t, rfl⟩ := hv i v pv
    have hS1 : StrSet P w s1.heap S ss := hS.at fun o z => m1.heap S o nw z
    show wpAny _ A.in1 (holding [Value.str (val i) t] (setAdd S (.str (val i) t)) >>= _) _ _ s1
    refine wpAny_bind (wpAny_holding ?_)
    unfold setAdd
    refine wpAny_holding (wpAny_bind ((PySem.strKind P w).pyHash (strKind_is P w _ _) ?_))
    refine tset_add (s := { s1 with toks := s1.toks + 1 }) hS1 (by have := ho.2.1; omega) fun h2 ss2 sb2 hS2 q2 => ?_
    refine wpAny_pure ⟨plainId_quiet PyProof.Rows.F.plain_set_update_loop _, ih (i + 1) _ ss2 (by omega) lt (W.frame _ s1 _ _ st1 (Nat.le_succ _) fun b hb o e => ?_) hS2 (ho.next q2) fun s3 ss3 m3 hS3 o3 => ?_⟩
    · rw [sb2.2 b (fun z : b = S => nS (by rw [← z]; exact hb))]; exact e
    · refine r s3 ss3 (Moved.trans W.gtrans ((m1.mono sub).then_heap (Nat.le_succ _) fun b o hb e => ?_) m3) hS3 o3
      rw [sb2.2 b (fun z : b = S => hb (by rw [z]; exact List.mem_cons_self))]; exact e
end
section
variable {P : Program} {w : World} {A : Around} {E : Value → Shared → Prop} {s : Shared}
abbrev setO (w : World) : Obj := { cls := .type "set", dict := none, data := .set #[] 0 (.fresh 0 0 (!w.params.followText "set-order")), slots := #[] }
theorem setO_ok (P : Program) (w : World) {h : Heap} {a : Addr} (e : h.get? a = some (setO w)) : StrSet P w h a [] := ⟨#[], 0, _, e, fun e he => by simp at he, .nil, by show 0 < scanBound; decide, by rfl, rfl, fun z => absurd rfl z⟩
theorem code_setT (v : Value) {Q1 : Value → Shared → Prop} (h : Q1 (.ref s.heap.objs.size) { s with heap := s.heap.push (setO w) }) : codeAny (model P w) A (.call (.builtin "set.__new__") ⟨[.type "set", v], []⟩) (wants Q1 E) s := by
  refine codeAny_of_tree ?_
  show wpAny _ A.in1 (do checkBuiltinCall "set.__new__" ⟨[.type "set", v], []⟩; again (.builtin "set.__new__" ⟨[.type "set", v], []⟩)) _ _ s
  refine wpAny_bind (wpAny_of_eq (PySem.F.newCall_set_1 v) (wpAny_pure ⟨plainId_quiet PySem.F.plain_set_new _, codeAny_builtin PySem.F.entry_set_new ?_⟩))
  rw [Around.under_plainId PySem.F.plain_set_new _]
  unfold Builtin.«set.__new__» Builtin.Frozenset.newClass
  have hsub := sub_set_self
  obtain ⟨hp, g, d, tk, os⟩ := s
  dsimp only
  wp_walk
  refine wpAny_askSetting (wpAny_pure ?_)
  dsimp only
  simp only [newObj]
  exact wpAny_bind (wpAny_alloc (wpAny_pure (wpAny_pure h)))
set_option maxHeartbeats 3200000 in
theorem call_setT {l : Addr} {items : Array Value} {ss0 : List Str} {Q : Value → Shared → Prop} (hh : A.handled = none) (hl : s.heap.IsList l items) (hi : StrsAre items.toList ss0) (hb : items.size + 1 < scanBound)
    (h : ∀ (h' : Heap) (tk : Nat) (ss : List Str), StrSet P w h' s.heap.objs.size ss → Once (fun i => ss0.getD i default) items.size ss → (∀ b o, b < s.heap.objs.size → s.heap.get? b = some o → h'.get? b = some o) → Q (.ref s.heap.objs.size) { s with heap := h', toks := tk }) :
    wpAny (model P w) A (call (.type "set") [.ref l]) Q E s := by
  obtain ⟨c, tl, hmro⟩ := PySem.F.called_set.mro
  have hmade := PySem.F.called_set.made
  have hsub := PySem.F.called_set.sub
  refine wpAny_call (codeAny_of_tree ?_)
  show wpAny _ _ (callAny (.type "set") _) _ _ _
  refine wpAny_pure ⟨Code.quiet_builtin _ (by decide +kernel), codeAny_builtin PySem.F.entry_type_call ?_⟩
  rw [Around.under_plain (weight_type_call_type "set" [.ref l] []) rfl]
  have h1 := PySem.F.called_set.notType
  have h2 := PySem.F.called_set.canCreate
  have hct := PySem.F.typeCall_set_1 (.ref l)
  repeat (any_goals (first | assumption | wp_step))
  refine codeAny_mono (code_setT (.ref l) (E := E) (Q1 := fun obj s1 => obj = .ref s.heap.objs.size ∧ s1 = { s with heap := s.heap.push (setO w) }) ⟨rfl, rfl⟩) fun r s1 hr => ?_
  cases r with
  | error e => exact hr
  | ok fl =>
    cases fl with
    | ret obj =>
      obtain ⟨rfl, rfl⟩ := hr
      have hS : (s.heap.push (setO w)).get? s.heap.objs.size = some (setO w) := Heap.get?_push_size _ rfl
      have hT : Shared.TypeIs { s with heap := s.heap.push (setO w) } (.ref s.heap.objs.size) "set" := ⟨_, hS, rfl⟩
      have hli := PySem.F.called_set.init.lookup
      have hbi := PySem.F.called_set.init.bind (.ref s.heap.objs.size)
      repeat (any_goals (first | assumption | wp_step))
      refine codeAny_mono (codeAny_call_builtin (R := wants (fun r s2 => r = .none ∧ ∃ h' tk ss, s2 = { s with heap := h', toks := tk } ∧ StrSet P w h' s.heap.objs.size ss ∧ Once (fun i => ss0.getD i default) items.size ss ∧
          (∀ b o, b < s.heap.objs.size → s.heap.get? b = some o → h'.get? b = some o)) E) PySem.F.called_set.init.plain PySem.F.entry_set_init (check_set_init_1 hT ?_)) fun r2 s2 hr2 => ?_
      · obtain ⟨ol, hol, hcl, nl, hdl⟩ := hl
        obtain ⟨ocls, odict, odata, oslots⟩ := ol
        simp only at hcl hdl
        subst hcl; subst hdl
        have hol' : (s.heap.push (setO w)).get? l = some { cls := .type "list", dict := odict, data := .seq items nl, slots := oslots } := Heap.get?_push_of_some _ hol
        have hsls := PySem.F.sub_list_set
        have hslf := PySem.F.sub_list_frozenset
        have hne : (Value.type "list" == Value.type "dict") = false := by decide
        have hl1 : (s.heap.push (setO w)).IsList l items := ⟨_, hol', rfl, nl, rfl⟩
        unfold Builtin.«set.__init__» noKeywords Builtin.Frozenset.updateFrom
        generalize hPI : pyIter = PI
        wp_walk
        subst hPI
        refine wpAny_pyIter_list hl1 (wpAny_bind (wpAny_runValue ?_))
        have lS : l < s.heap.objs.size := Heap.lt_size hol
        have h3 : A.in1.in1.in1.handled = none := by simp [hh]
        have nI : l ≠ (s.heap.push (setO w)).objs.size := by
          rw [Heap.size_push]; exact Nat.ne_of_lt (Nat.lt_succ_of_lt lS)
        have nF : s.heap.objs.size ∉ [(s.heap.push (setO w)).objs.size, l] := by
          rw [Heap.size_push]; simp only [List.mem_cons, List.mem_singleton, List.not_mem_nil, or_false, not_or]
          exact ⟨Nat.ne_of_lt (Nat.lt_succ_self _), Nat.ne_of_gt lS⟩
        have hval : ∀ (i : Nat) (v : Value), items[i]? = some v → ∃ t, v = .str ((fun i => ss0.getD i default) i) t := fun i v hv => by
          have hv' : items.toList[i]? = some v := by rw [Array.getElem?_toList]; exact hv
          obtain ⟨x, t, rfl⟩ := hi.all v (List.mem_of_getElem? hv')
          refine ⟨t, ?_⟩
          have e := congrArg (fun z => z[i]?) hi.strs
          simp only [List.getElem?_map, hv'] at e
          show Value.str x t = Value.str (ss0.getD i default) t
          rw [List.getD_eq_getElem?_getD, ← e]
          rfl
        refine tset_loop ((Walks.list h3 _ l nI items).toS) s.heap.objs.size nF (fun i => ss0.getD i default) hval hb (items.size - 0) 0 _ [] (by omega) (Nat.zero_le _) ⟨⟨_, Heap.get?_push_size _ rfl, rfl, rfl⟩, (hl1.push _)⟩ (setO_ok P w (Heap.get?_push_of_some _ hS)) (Once.zero _) fun s' ss' hm hS' hO => ?_
        obtain ⟨h', g', d', tk', os'⟩ := s'
        cases (show g' = s.gens from hm.gens)
        cases (show d' = s.drawn from hm.drawn)
        cases (show os' = s.os from hm.os)
        show wpAny _ _ _ _ _ _
        refine wpAny_pure ?_
        show wpAny _ _ (ret Value.none) _ _ _
        refine wpAny_pure ⟨rfl, h', tk', ss', rfl, hS', hO, fun b o hb e => ?_⟩
        have b1 : b ≠ s.heap.objs.size := Nat.ne_of_lt hb
        have b2 : b ≠ (s.heap.push (setO w)).objs.size := by
          rw [Heap.size_push]; exact Nat.ne_of_lt (Nat.lt_succ_of_lt hb)
        exact hm.heap b o (by simp only [List.mem_cons, List.mem_singleton, List.not_mem_nil, or_false, not_or]; exact ⟨b1, b2⟩) (Heap.get?_push_of_some _ (Heap.get?_push_of_some _ e))
      · cases r2 with
        | error e => exact hr2
        | ok fl2 =>
          cases fl2 with
          | ret r =>
            obtain ⟨rfl, h', tk, ss, rfl, hS', hO, hk'⟩ := hr2
            repeat (any_goals (first | assumption | wp_step))
            exact h _ _ _ hS' hO hk'
          | _ => exact hr2.elim
    | _ => exact hr.elim
end
end L2
namespace L2
open PySem PySem.Spec PyProof.Rows
namespace FS
theorem entry_set_iter' : entryFor table "set.__iter__" = some Builtin.«frozenset.__iter__» := entryFor_alias (id' := "frozenset.__iter__") (by kernel_rfl) rfl (by decide +kernel) (by kernel_rfl)
theorem slot_sin : Slot "set_iterator" "__next__" "set_iterator.__next__" := .of (owner := "set_iterator") (n := "__next__") (by rw [typeLookup_type, builtinLookup_eq_fast]; kernel_rfl) (by decide +kernel) (by decide +kernel) (by decide +kernel) (by first | exact .inl (by decide +kernel) | exact .inr (by decide +kernel)) (by rw [isSubtype_type]; kernel_rfl)
theorem entry_sin : entryFor table "set_iterator.__next__" = some Builtin.«set_iterator.__next__» := entryFor_of_tree (by kernel_rfl)
theorem owner_si : Manifest.owners.lookup (String.ofList ['r', 'o', 't', 'a', 'r', 'e', 't', 'i', '_', 't', 'e', 's'].reverse) = some Manifest.sig_set_iterator := by kernel_rfl
theorem args_sin (a : Value) : argsOk "set_iterator.__next__" ⟨[a], []⟩ := by
  unfold argsOk; rw [signature?_of (id := "set_iterator.__next__") (n := ['_', '_', 't', 'x', 'e', 'n', '_', '_']) (o := ['r', 'o', 't', 'a', 'r', 'e', 't', 'i', '_', 't', 'e', 's']) (by kernel_rfl) owner_si]; kernel_rfl
theorem slot_sii : Slot "set_iterator" "__iter__" "set_iterator.__iter__" := .of (owner := "set_iterator") (n := "__iter__") (by rw [typeLookup_type, builtinLookup_eq_fast]; kernel_rfl) (by decide +kernel) (by decide +kernel) (by decide +kernel) (by first | exact .inl (by decide +kernel) | exact .inr (by decide +kernel)) (by rw [isSubtype_type]; kernel_rfl)
theorem entry_sii : entryFor table "set_iterator.__iter__" = some Builtin.«dict_keyiterator.__iter__» := entryFor_alias (id' := "dict_keyiterator.__iter__") (by kernel_rfl) (by first | rfl | decide +kernel | (unfold String.splitOn; simp +decide [String.splitOnAux])) (by decide +kernel) (by kernel_rfl)
theorem args_sii (a : Value) : argsOk "set_iterator.__iter__" ⟨[a], []⟩ := by
  unfold argsOk; rw [signature?_of (id := "set_iterator.__iter__") (n := ['_', '_', 'r', 'e', 't', 'i', '_', '_']) (o := ['r', 'o', 't', 'a', 'r', 'e', 't', 'i', '_', 't', 'e', 's']) (by kernel_rfl) owner_si]; kernel_rfl
end FS
theorem erase_perm {α : Type} : ∀ (l : List α) (i : Nat) (x : α), l[i]? = some x → (x :: l.eraseIdx i).Perm l
  | [], i, x, h => by simp at h
  | y :: l, 0, x, h => by simp at h; subst h; exact List.Perm.refl _
  | y :: l, i + 1, x, h => by
    have q := erase_perm l i x (by simpa using h)
    rw [List.eraseIdx_cons_succ]
    exact (List.Perm.swap y x _).trans (q.cons y)
section
variable {M : Model} {A : Around} {E : Value → Shared → Prop} {s : Shared}
theorem wp_choose {src : Source} {n : Nat} {Q : Nat → Shared → Prop} (hn : n ≠ 0) (h : ∀ i d, i < n → Q i { s with drawn := d }) : wpAny M A (choose src n) Q E s := fun Γ p _ => ⟨hn, h _ _ (Nat.mod_lt _ (Nat.pos_of_ne_zero hn))⟩
theorem wp_drawOrder {α : Type} : ∀ (n : Nat) (xs : List α) (s : Shared) (Q : List α → Shared → Prop), xs.length = n → (∀ ys d, ys.Perm xs → Q ys { s with drawn := d }) → wpAny M A (drawOrder n xs) Q E s
  | 0, xs, s, Q, hl, h => by
    have e : xs = [] := List.length_eq_zero_iff.mp hl
    subst e
    exact wpAny_pure (h [] s.drawn (List.Perm.refl _))
  | n + 1, [], s, Q, hl, h => by simp at hl
  | n + 1, y :: ys, s, Q, hl, h => by
    show wpAny M A (choose .order (y :: ys).length >>= _) Q E s
    refine wpAny_bind (wp_choose (by simp) fun i d hi => ?_)
    have e : (y :: ys)[i]? = some (y :: ys)[i] := List.getElem?_eq_getElem hi
    rw [e]
    dsimp only
    have p := erase_perm (y :: ys) i _ e
    refine wpAny_bind (wp_drawOrder n ((y :: ys).eraseIdx i) _ _ ?_ fun zs d2 pz => wpAny_pure (h _ d2 ((pz.cons _).trans p)))
    have := p.length_eq
    simp only [List.length_cons] at this hl ⊢
    omega
end
theorem pick_go {α : Type} (next : Nat → Nat) : ∀ (n k : Nat) (left : List α) (out : Array α), left.length = n → (pickOrder.go next n k left out).toList.Perm (out.toList ++ left)
  | 0, k, left, out, hl => by
    have e : left = [] := List.length_eq_zero_iff.mp hl
    subst e
    rw [pickOrder.go, List.append_nil]
  | n + 1, k, left, out, hl => by
    rw [pickOrder.go]
    have hi : next k % left.length < left.length := Nat.mod_lt _ (by omega)
    have e : left[next k % left.length]? = some left[next k % left.length] := List.getElem?_eq_getElem hi
    rw [e]
    dsimp only
    have p := erase_perm left _ _ e
    have l := p.length_eq
    simp only [List.length_cons] at l
    refine (pick_go next n (k + 1) _ _ (by omega)).trans ?_
    rw [Array.toList_push, List.append_assoc]
    exact List.Perm.append_left _ p
theorem pick_perm {α : Type} (next : Nat → Nat) (xs : Array α) : (pickOrder next xs).toList.Perm xs.toList := by
  have q := pick_go next xs.size 0 xs.toList #[] (by simp)
  simpa [pickOrder] using q
section
variable {P : Program} {w : World} {A : Around} {E : Value → Shared → Prop} {s : Shared} {a : Addr} {es : Array (Int × Value)} {ep : Nat} {t : SetTable}
theorem wp_setDrawn {Q : Bool → Shared → Prop} (ho : s.heap.get? a = some { cls := .type "set", dict := none, data := .set es ep t, slots := #[] }) (hf : t.fits es.size = true) (h : Q (!w.params.followText "set-order" && (!t.plain && decide (es.size > 1))) s) : wpAny (model P w) A (setDrawn a) Q E s := by
  unfold setDrawn
  refine wpAny_bind (wpAny_setState_of ho rfl hf ?_)
  unfold setsByText
  exact wpAny_bind (wpAny_bind (wpAny_askSetting (wpAny_pure (wpAny_pure h))))
theorem wp_setNextT {slot i : Nat} {Q : Option (Value × Nat) → Shared → Prop} (ho : s.heap.get? a = some { cls := .type "set", dict := none, data := .set es ep t, slots := #[] }) (hf : t.fits es.size = true) (hb : w.params.followText "set-order" = true)
    (h : Q (((pickOrder (w.params.setOrder a ep) es)[i]?).map fun e => (e.2, slot)) s) : wpAny (model P w) A (setNext a slot i ep) Q E s := by
  unfold setNext
  refine wpAny_bind (wpAny_setState_of ho rfl hf ?_)
  unfold setsByText
  refine wpAny_bind (wpAny_bind (wpAny_askSetting (wpAny_pure ?_)))
  show wpAny _ _ (if (w.params.followText "set-order") = true then _ else _) _ _ _
  rw [if_pos hb]
  rw [if_neg (by simp)]
  unfold setWalk
  refine wpAny_bind (wpAny_bind (wpAny_setState_of ho rfl hf ?_))
  unfold setsByText
  refine wpAny_bind (wpAny_bind (wpAny_askSetting (wpAny_pure ?_)))
  show wpAny _ _ (if (w.params.followText "set-order") = true then _ else _) _ _ _
  rw [if_pos hb]
  exact wpAny_bind (wpAny_askSetting (wpAny_pure (wpAny_pure h)))
theorem wp_setNext1 {slot i : Nat} {Q : Option (Value × Nat) → Shared → Prop} (ho : s.heap.get? a = some { cls := .type "set", dict := none, data := .set es ep t, slots := #[] }) (hf : t.fits es.size = true) (hb : w.params.followText "set-order" = false) (h1 : es.size ≤ 1) (hl : t.led = true)
    (h : Q (match es[SetTable.below t.place slot]?, t.place[SetTable.below t.place slot]? with | some (_, x), some j => some (x, j + 1) | _, _ => none) s) : wpAny (model P w) A (setNext a slot i ep) Q E s := by
  unfold setNext
  refine wpAny_bind (wpAny_setState_of ho rfl hf ?_)
  unfold setsByText
  refine wpAny_bind (wpAny_bind (wpAny_askSetting (wpAny_pure ?_)))
  show wpAny _ _ (if (w.params.followText "set-order") = true then _ else _) _ _ _
  rw [if_neg (by rw [hb]; exact Bool.false_ne_true)]
  show wpAny _ _ (if (!t.plain && decide (es.size > 1)) = true then _ else _) _ _ _
  rw [if_neg (by rw [Bool.and_eq_true]; rintro ⟨_, z⟩; have := of_decide_eq_true z; omega)]
  refine wpAny_bind ?_
  show wpAny _ _ (if (!t.led && !es.isEmpty) = true then _ else _) _ _ _
  rw [if_neg (by rw [hl]; simp)]
  exact wpAny_pure (wpAny_pure h)
end
end L2
namespace L2
open PySem PySem.Spec PyProof.Rows
abbrev sIt (a : Addr) (f0 : Value) (i n ep : Nat) : Obj := { cls := .type "set_iterator", dict := none, data := .fields #[f0, rawInt i, .ref a, rawInt n, rawInt ep], slots := #[] }
abbrev sOb (es : Array (Int × Value)) (ep : Nat) (t : SetTable) : Obj := { cls := .type "set", dict := none, data := .set es ep t, slots := #[] }
section
variable {P : Program} {w : World} {A : Around} {E : Value → Shared → Prop} {s : Shared} {a I : Addr} {es : Array (Int × Value)} {ep : Nat} {t : SetTable}
theorem sit_stop {T : Obj} {Q : Fin → Shared → Prop} {f0 : Value} {i n : Nat} {pre : Sem Unit} (hh : A.handled = none) (hI : s.heap.get? I = some (sIt a f0 i n ep))
    (hp : ∀ {Q' : Unit → Shared → Prop}, (∀ h1, Heap.SameBut I s.heap h1 → (∃ g0, h1.get? I = some (sIt a g0 i n ep)) → Q' () { s with heap := h1 }) → wpAny (model P w) A pre Q' E s)
    (hE : ∀ h' e, Heap.ExtBut I s.heap h' → (∃ o, h'.get? e = some o ∧ o.cls = .type "StopIteration") → E (.ref e) { s with heap := h' }) :
    wpAny (model P w) A (do pre; setField (.ref I) 2 .none; raiseNew (← newExc (.type "StopIteration") [])) Q E s := by
  refine wpAny_bind (hp fun h1 b1 hg => ?_)
  obtain ⟨g0, hI1⟩ := hg
  refine wpAny_bind (wpAny_setField_rec hI1 (by simp) fun h2 hI2 b2 => ?_)
  show wpAny _ _ (newExc (.type "StopIteration") [] >>= fun e => raiseNew e) _ _ _
  refine wpAny_bind ?_
  simp only [newExc, newTuple]
  refine wpAny_bind (wpAny_newObj_type ?_ (by size_fits))
  refine wpAny_bind (m := firstArgMember _ _) (wpAny_of_eq (a := Value.none) (by first | rfl | (simp only [firstArgMember]; rfl)) ?_)
  refine wpAny_newObj_type ?_ (by size_fits)
  simp only [raiseNew]
  refine wpAny_bind (wpAny_handled ?_)
  rw [hh]
  exact wpAny_bind (wpAny_pure (wpAny_throw (hE _ _ (((b1.trans b2).extBut.push _).push _) ⟨_, Heap.get?_push_size _ rfl, rfl⟩)))
end
section
variable {P : Program} {w : World} {a I : Addr} {es : Array (Int × Value)} {ep : Nat} {t : SetTable}
theorem walk_setI (hne : a ≠ I) (hf : t.fits es.size = true) (order : List Value) (sl : Nat → Nat)
    (nx : ∀ (A : Around) (E : Value → Shared → Prop) (s : Shared) (Q : Option (Value × Nat) → Shared → Prop) (i : Nat), i ≤ order.length → s.heap.get? a = some (sOb es ep t) → Q ((order[i]?).map fun x => (x, sl (i + 1))) s → wpAny (model P w) A (setNext a (sl i) i ep) Q E s) :
    ∀ A : Around, A.handled = none → Walks P w A I [I, a] [I] order.length (fun i v => order[i]? = some v) (fun i h => h.get? I = some (sIt a (rawInt (sl i)) i es.size ep) ∧ h.get? a = some (sOb es ep t)) := fun A hh => {
  sub := fun b hb => by simp at hb ⊢; exact .inl hb
  frame := fun i h h' st k => ⟨k I (by simp) _ st.1, k a (by simp) _ st.2⟩
  item := fun i s Q E hi st hQ => by
    obtain ⟨hI, ho⟩ := st
    have hT : s.TypeIs (.ref I) "set_iterator" := ⟨_, hI, rfl⟩
    unfold pyNext
    refine wpAny_bind (wpAny_attempt (wpAny_callSpecial?_slot (name := Str.ofString "__next__") hT FS.slot_sin (wpAny_call_entry FS.slot_sin hT FS.entry_sin ?_ (FS.args_sin _))))
    unfold Builtin.«set_iterator.__next__»
    refine wpAny_bind (wpAny_pure (wpAny_bind (wpAny_fieldsOf hI rfl ?_)))
    show wpAny _ _ (setEntries a >>= _) _ _ _
    refine wpAny_bind (wpAny_setEntries_of ho rfl hf ?_)
    rw [if_neg (by simp)]
    show wpAny _ _ (setNext a (sl i) i ep >>= _) _ _ _
    refine wpAny_bind (nx _ _ s _ i (Nat.le_of_lt hi) ho ?_)
    rw [List.getElem?_eq_getElem hi]
    show wpAny _ _ (setField (.ref I) 0 (rawInt (sl (i + 1))) >>= _) _ _ _
    refine wpAny_bind (wpAny_setField_rec hI (by simp) fun h1 hI1 b1 => wpAny_bind (wpAny_setField_rec hI1 (by simp) fun h2 hI2 b2 => ?_))
    refine wpAny_pure ⟨_, rfl, wpAny_pure (hQ _ h2 s.toks (List.getElem?_eq_getElem hi) ⟨hI2, ?_⟩ fun b o hb e => ?_)⟩
    · exact b2.extBut _ _ hne (b1.extBut _ _ hne ho)
    · have nb : b ≠ I := by simpa using hb
      exact b2.extBut _ _ nb (b1.extBut _ _ nb e)
  done := fun s Q E st hQ => by
    obtain ⟨hI, ho⟩ := st
    have hT : s.TypeIs (.ref I) "set_iterator" := ⟨_, hI, rfl⟩
    unfold pyNext
    refine wpAny_bind (wpAny_attempt (wpAny_callSpecial?_slot (name := Str.ofString "__next__") hT FS.slot_sin (wpAny_call_entry FS.slot_sin hT FS.entry_sin ?_ (FS.args_sin _))))
    unfold Builtin.«set_iterator.__next__»
    refine wpAny_bind (wpAny_pure (wpAny_bind (wpAny_fieldsOf hI rfl ?_)))
    show wpAny _ _ (setEntries a >>= _) _ _ _
    refine wpAny_bind (wpAny_setEntries_of ho rfl hf ?_)
    rw [if_neg (by simp)]
    show wpAny _ _ (setNext a (sl order.length) order.length ep >>= _) _ _ _
    refine wpAny_bind (nx _ _ s _ order.length (Nat.le_refl _) ho ?_)
    rw [List.getElem?_eq_none (Nat.le_refl _)]
    refine sit_stop (pre := pure ()) (T := sOb es ep t) (by exact hh) hI (fun q => wpAny_pure (q _ (Heap.SameBut.refl ..) ⟨_, hI⟩)) fun h' e k he => ?_
    obtain ⟨oe, h1, h2⟩ := he
    refine wpAny_bind (wpAny_isInstance (T := "StopIteration") (b := true) ⟨oe, h1, h2⟩ isSubtype_stop (wpAny_pure (hQ _ s.toks fun b o hb e => k _ _ (by simpa using hb) e)))
  self := fun i s Q E st hQ => by
    have hT : s.TypeIs (.ref I) "set_iterator" := ⟨_, st.1, rfl⟩
    refine wpAny_pyIter_slot hT FS.slot_sii (wpAny_call_entry FS.slot_sii hT FS.entry_sii ?_ (FS.args_sii _))
    exact wpAny_pure ⟨_, rfl, "set_iterator", _, hT, FS.slot_sin.lookup, hQ⟩ }
end
end L2
namespace L2
open PySem PySem.Spec PyProof.Rows
abbrev tOb (xs : Array Value) : Obj := { cls := .type "tuple", data := .seq xs }
section
variable {P : Program} {w : World} {a I T : Addr} {es : Array (Int × Value)} {ep : Nat} {t : SetTable}
theorem walk_setD (hne : a ≠ I) (hT0 : T ≠ I) (hf : t.fits es.size = true) (ps : List Nat) (order : List Value) (hl : order.length = ps.length) (hp : ∀ (i p : Nat), ps[i]? = some p → ∃ k x, es[p]? = some (k, x) ∧ order[i]? = some x) :
    ∀ A : Around, A.handled = none → Walks P w A I [I, a, T] [I] order.length (fun i v => order[i]? = some v) (fun i h => h.get? I = some (sIt a (.ref T) i es.size ep) ∧ h.get? a = some (sOb es ep t) ∧ h.get? T = some (tOb (ps.map fun (p : Nat) => rawInt p).toArray)) := fun A hh => {
  sub := fun b hb => by simp at hb ⊢; exact .inl hb
  frame := fun i h h' st k => ⟨k I (by simp) _ st.1, k a (by simp) _ st.2.1, k T (by simp) _ st.2.2⟩
  item := fun i s Q E hi st hQ => by
    obtain ⟨hI, ho, hTt⟩ := st
    have hT : s.TypeIs (.ref I) "set_iterator" := ⟨_, hI, rfl⟩
    unfold pyNext
    refine wpAny_bind (wpAny_attempt (wpAny_callSpecial?_slot (name := Str.ofString "__next__") hT FS.slot_sin (wpAny_call_entry FS.slot_sin hT FS.entry_sin ?_ (FS.args_sin _))))
    unfold Builtin.«set_iterator.__next__»
    refine wpAny_bind (wpAny_pure (wpAny_bind (wpAny_fieldsOf hI rfl ?_)))
    show wpAny _ _ (setEntries a >>= _) _ _ _
    refine wpAny_bind (wpAny_setEntries_of ho rfl hf ?_)
    rw [if_neg (by simp)]
    show wpAny _ _ (seqItems? (.ref T) >>= _) _ _ _
    refine wpAny_bind (wpAny_seqItems hTt rfl ?_)
    have hip : i < ps.length := by rw [← hl]; exact hi
    obtain ⟨k, x, h1, h2⟩ := hp i _ (List.getElem?_eq_getElem hip)
    have e1 : ((ps.map fun (p : Nat) => rawInt p).toArray)[i]? = some (rawInt ((ps[i] : Nat) : Int)) := by simp [hip]
    show wpAny _ _ (match ((ps.map fun (p : Nat) => rawInt p).toArray)[((i : Int)).toNat]? with | some (.int place _) => _ | some _ => _ | none => _) _ _ _
    rw [Int.toNat_natCast, e1]
    show wpAny _ _ (setNextDrawn a ps[i] ep >>= _) _ _ _
    unfold setNextDrawn
    refine wpAny_bind (wpAny_bind (wpAny_setState_of ho rfl hf ?_))
    dsimp only
    rw [if_neg (by simp), h1]
    refine wpAny_pure (wpAny_bind (wpAny_setField_rec hI (by simp) fun h3 hI3 b3 => ?_))
    refine wpAny_pure ⟨_, rfl, wpAny_pure (hQ _ h3 s.toks h2 ⟨hI3, b3.extBut _ _ hne ho, b3.extBut _ _ hT0 hTt⟩ fun b o hb e => b3.extBut _ _ (by simpa using hb) e)⟩
  done := fun s Q E st hQ => by
    obtain ⟨hI, ho, hTt⟩ := st
    have hT : s.TypeIs (.ref I) "set_iterator" := ⟨_, hI, rfl⟩
    unfold pyNext
    refine wpAny_bind (wpAny_attempt (wpAny_callSpecial?_slot (name := Str.ofString "__next__") hT FS.slot_sin (wpAny_call_entry FS.slot_sin hT FS.entry_sin ?_ (FS.args_sin _))))
    unfold Builtin.«set_iterator.__next__»
    refine wpAny_bind (wpAny_pure (wpAny_bind (wpAny_fieldsOf hI rfl ?_)))
    show wpAny _ _ (setEntries a >>= _) _ _ _
    refine wpAny_bind (wpAny_setEntries_of ho rfl hf ?_)
    rw [if_neg (by simp)]
    show wpAny _ _ (seqItems? (.ref T) >>= _) _ _ _
    refine wpAny_bind (wpAny_seqItems hTt rfl ?_)
    have e1 : ((ps.map fun (p : Nat) => rawInt p).toArray)[order.length]? = none := by simp [hl]
    show wpAny _ _ (match ((ps.map fun (p : Nat) => rawInt p).toArray)[((order.length : Int)).toNat]? with | some (.int place _) => _ | some _ => _ | none => _) _ _ _
    rw [Int.toNat_natCast, e1]
    refine sit_stop (pre := setField (.ref I) 0 (rawInt 0)) (T := sOb es ep t) (by exact hh) hI (fun q => wpAny_setField_rec hI (by simp) fun h1 hI1 b1 => q _ b1 ⟨_, hI1⟩) fun h' e k he => ?_
    obtain ⟨oe, h1, h2⟩ := he
    refine wpAny_bind (wpAny_isInstance (T := "StopIteration") (b := true) ⟨oe, h1, h2⟩ isSubtype_stop (wpAny_pure (hQ _ s.toks fun b o hb e => k _ _ (by simpa using hb) e)))
  self := fun i s Q E st hQ => by
    have hT : s.TypeIs (.ref I) "set_iterator" := ⟨_, st.1, rfl⟩
    refine wpAny_pyIter_slot hT FS.slot_sii (wpAny_call_entry FS.slot_sii hT FS.entry_sii ?_ (FS.args_sii _))
    exact wpAny_pure ⟨_, rfl, "set_iterator", _, hT, FS.slot_sin.lookup, hQ⟩ }
end
theorem below_lt {p j : Nat} (h : j ≤ p) : SetTable.below #[p] j = 0 := by
  unfold SetTable.below
  show SetTable.below.go #[p] j 1 0 1 = 0
  unfold SetTable.below.go
  have e : ¬ (#[p] : Array Nat).getD ((0 + 1) / 2) j < j := by show ¬ p < j; omega
  rw [if_pos (by decide)]
  dsimp only
  rw [if_neg e]
  rfl
theorem below_ge {p j : Nat} (h : p < j) : SetTable.below #[p] j = 1 := by
  unfold SetTable.below
  show SetTable.below.go #[p] j 1 0 1 = 1
  unfold SetTable.below.go
  have e : (#[p] : Array Nat).getD ((0 + 1) / 2) j < j := by show p < j; omega
  rw [if_pos (by decide)]
  dsimp only
  rw [if_pos e]
  rfl
theorem below_nil (j : Nat) : SetTable.below #[] j = 0 := rfl
section
variable {P : Program} {w : World} {A : Around} {E : Value → Shared → Prop} {s : Shared} {a : Addr} {ss : List Str}
theorem iter_setT {Q : Value → Shared → Prop} (hS : StrSet P w s.heap a ss)
    (h : ∀ (I : Addr) (fp : List Addr) (vs : List Value) (ss1 : List Str) (St : Nat → Heap → Prop) (h1 : Heap) (d : Drawn), StrsAre vs ss1 → ss1.Perm ss → (∀ b o, s.heap.get? b = some o → h1.get? b = some o) → (∀ A : Around, A.handled = none → Walks P w A I fp [I] vs.length (fun i v => vs[i]? = some v) St) →
      St 0 h1 → I ∈ fp → (∀ b ∈ fp, b < h1.objs.size ∧ (b = a ∨ s.heap.objs.size ≤ b)) → s.heap.objs.size ≤ I → s.heap.objs.size ≤ h1.objs.size → Q (.ref I) { s with heap := h1, drawn := d }) : wpAny (model P w) A (pyIter (.ref a)) Q E s := by
  obtain ⟨es, ep, t, ho, e1, e2, e3, e4, e5, e6⟩ := hS
  have hT : s.TypeIs (.ref a) "set" := ⟨_, ho, rfl⟩
  have ha : a < s.heap.objs.size := Heap.lt_size ho
  have hp4 : t.place.size = es.size := by
    unfold SetTable.fits at e4
    rw [Bool.and_eq_true] at e4
    exact eq_of_beq e4.1
  refine wpAny_pyIter_slot hT PySem.F.slot_set_iter (wpAny_call_entry PySem.F.slot_set_iter hT FS.entry_set_iter' ?_ (PySem.F.args_set_iter_1 _))
  unfold Builtin.«frozenset.__iter__» Builtin.Frozenset.slot0
  refine wpAny_bind (wpAny_bind (wpAny_pure (wpAny_pure ?_)))
  unfold Builtin.Frozenset.sizeOf
  refine wpAny_bind (wpAny_bind (wpAny_setEntries_of ho rfl e4 (wpAny_pure ?_)))
  refine wpAny_bind (wp_setDrawn ho e4 ?_)
  dsimp only
  cases hb : w.params.followText "set-order" with
  | true =>
    rw [if_neg (by simp)]
    refine wpAny_bind (wpAny_pure (wpAny_bind (wpAny_setEpoch_of ho rfl e4 ?_)))
    show wpAny _ _ (newFields "set_iterator" _ >>= _) _ _ _
    refine wpAny_bind (wpAny_newObj_type (wpAny_pure ⟨_, rfl, "set_iterator", _, ⟨_, Heap.get?_push_size _ rfl, rfl⟩, FS.slot_sin.lookup, ?_⟩) (by show 5 ≤ _; decide))
    have p := pick_perm (w.params.setOrder a ep) es
    obtain ⟨ss1, q1, q2⟩ := strs_perm' e2 p
    refine h s.heap.objs.size [s.heap.objs.size, a] _ ss1 _ _ s.drawn q1 q2 (fun b o e => Heap.get?_push_of_some _ e) (walk_setI (ep := ep) (es := es) (t := t) (Nat.ne_of_lt ha) e4 _ (fun _ => 0) ?_) ⟨Heap.get?_push_size _ rfl, Heap.get?_push_of_some _ ho⟩ (by simp) ?_ (Nat.le_refl _) (by rw [Heap.size_push]; exact Nat.le_succ _)
    · intro A' E' s' Q' i hi ho' hq
      refine wp_setNextT ho' e4 hb ?_
      rw [List.getElem?_map, Array.getElem?_toList, Option.map_map] at hq
      exact hq
    · intro b hbm
      rw [Heap.size_push]
      simp at hbm
      rcases hbm with rfl | rfl
      · exact ⟨Nat.lt_succ_self _, .inr (Nat.le_refl _)⟩
      · exact ⟨Nat.lt_succ_of_lt ha, .inl rfl⟩
  | false =>
    have led : t.led = true := by rw [e5, hb]; rfl
    by_cases hz : es.size > 1
    · have pl : t.plain = false := e6 (by omega)
      rw [if_pos (by rw [pl, decide_eq_true hz]; rfl)]
      refine wpAny_bind (wp_drawOrder es.size (List.range es.size) s _ (by simp) fun ps d pp => ?_)
      refine wpAny_bind (wpAny_newTuple (s := { s with drawn := d }) ?_ (by rw [List.length_map, pp.length_eq, List.length_range]; exact fits_of_scanBound e3))
      have ho1 : (s.heap.push (tOb (ps.map fun (p : Nat) => rawInt p).toArray)).get? a = some (sOb es ep t) := Heap.get?_push_of_some _ ho
      refine wpAny_bind (wpAny_setEpoch_of (s := { s with heap := s.heap.push (tOb (ps.map fun (p : Nat) => rawInt p).toArray), drawn := d }) ho1 rfl e4 ?_)
      show wpAny _ _ (newFields "set_iterator" _ >>= _) _ _ _
      refine wpAny_bind (wpAny_newObj_type (wpAny_pure ⟨_, rfl, "set_iterator", _, ⟨_, Heap.get?_push_size _ rfl, rfl⟩, FS.slot_sin.lookup, ?_⟩) (by show 5 ≤ _; decide))
      have hlt : ∀ p ∈ ps, p < es.size := fun p hm => List.mem_range.mp (pp.mem_iff.mp hm)
      have ep1 : (ps.filterMap fun p => es[p]?).Perm es.toList := by
        have q := pp.filterMap fun p => es[p]?
        rw [filterMap_getElem?_range] at q
        exact q
      have hfm : ∀ l : List Nat, (∀ p ∈ l, p < es.size) → (l.filterMap fun p => es[p]?).length = l.length ∧ ∀ (i p : Nat), l[i]? = some p → ∃ k x, es[p]? = some (k, x) ∧ ((l.filterMap fun p => es[p]?).map (·.2))[i]? = some x := by
        intro l
        induction l with
        | nil => intro _; exact ⟨rfl, fun i p z => by simp at z⟩
        | cons c l ih =>
          intro hm
          obtain ⟨i1, i2⟩ := ih fun p hp => hm p (List.mem_cons_of_mem _ hp)
          have hcl : c < es.size := hm c List.mem_cons_self
          have hc : es[c]? = some es[c] := Array.getElem?_eq_getElem hcl
          rw [List.filterMap_cons, hc]
          refine ⟨by simp [i1], fun i p z => ?_⟩
          cases i with
          | zero =>
            have e : c = p := by simpa using z
            subst e
            exact ⟨_, _, hc, by simp⟩
          | succ i =>
            obtain ⟨k, x, a1, a2⟩ := i2 i p (by simpa using z)
            exact ⟨k, x, a1, by simpa using a2⟩
      obtain ⟨f1, f2⟩ := hfm ps hlt
      obtain ⟨ss1, q1, q2⟩ := strs_perm' e2 ep1
      have sz1 : (s.heap.push (tOb (ps.map fun (p : Nat) => rawInt p).toArray)).objs.size = s.heap.objs.size + 1 := Heap.size_push ..
      refine h (s.heap.push (tOb (ps.map fun (p : Nat) => rawInt p).toArray)).objs.size [(s.heap.push (tOb (ps.map fun (p : Nat) => rawInt p).toArray)).objs.size, a, s.heap.objs.size] _ ss1 _ _ d q1 q2 (fun b o e => Heap.get?_push_of_some _ (Heap.get?_push_of_some _ e))
        (walk_setD (ep := ep) (es := es) (t := t) (T := s.heap.objs.size) ?_ ?_ e4 ps _ (by rw [List.length_map, f1]) f2) ⟨Heap.get?_push_size _ rfl, Heap.get?_push_of_some _ ho1, Heap.get?_push_of_some _ (Heap.get?_push_size _ rfl)⟩ (by simp) ?_ ?_ ?_
      · rw [sz1]; exact Nat.ne_of_lt (Nat.lt_succ_of_lt ha)
      · rw [sz1]; exact Nat.ne_of_lt (Nat.lt_succ_self _)
      · intro b hbm
        rw [Heap.size_push, sz1]
        rw [sz1] at hbm
        simp at hbm
        rcases hbm with rfl | rfl | rfl
        · exact ⟨Nat.lt_succ_self _, .inr (Nat.le_succ _)⟩
        · exact ⟨Nat.lt_succ_of_lt (Nat.lt_succ_of_lt ha), .inl rfl⟩
        · exact ⟨Nat.lt_succ_of_lt (Nat.lt_succ_self _), .inr (Nat.le_refl _)⟩
      · rw [sz1]; exact Nat.le_succ _
      · rw [Heap.size_push, sz1]; exact Nat.le_succ_of_le (Nat.le_succ _)
    · rw [if_neg (by rw [decide_eq_false hz]; simp)]
      refine wpAny_bind (wpAny_pure (wpAny_bind (wpAny_setEpoch_of ho rfl e4 ?_)))
      show wpAny _ _ (newFields "set_iterator" _ >>= _) _ _ _
      refine wpAny_bind (wpAny_newObj_type (wpAny_pure ⟨_, rfl, "set_iterator", _, ⟨_, Heap.get?_push_size _ rfl, rfl⟩, FS.slot_sin.lookup, ?_⟩) (by show 5 ≤ _; decide))
      refine h s.heap.objs.size [s.heap.objs.size, a] _ ss _ _ s.drawn e2 (List.Perm.refl _) (fun b o e => Heap.get?_push_of_some _ e) (walk_setI (ep := ep) (es := es) (t := t) (Nat.ne_of_lt ha) e4 _ (fun i => if i = 0 then 0 else t.place.getD 0 0 + 1) ?_) ⟨Heap.get?_push_size _ rfl, Heap.get?_push_of_some _ ho⟩ (by simp) ?_ (Nat.le_refl _) (by rw [Heap.size_push]; exact Nat.le_succ _)
      · intro A' E' s' Q' i hi ho' hq
        refine wp_setNext1 ho' e4 hb (by omega) led ?_
        rw [List.length_map, Array.length_toList] at hi
        rcases Nat.lt_or_ge es.size 1 with z0 | z1
        · have e0 : es = #[] := Array.eq_empty_of_size_eq_zero (by omega)
          have p0 : t.place = #[] := Array.eq_empty_of_size_eq_zero (by omega)
          subst e0
          rw [p0] at hq ⊢
          rw [below_nil]
          simpa using hq
        · have z : es.size = 1 := by omega
          obtain ⟨x, e0⟩ : ∃ x, es = #[x] := by
            have := Array.size_eq_one_iff.mp z
            exact this
          obtain ⟨p, p0⟩ : ∃ p, t.place = #[p] := Array.size_eq_one_iff.mp (by omega)
          subst e0
          rw [p0] at hq ⊢
          obtain ⟨k, x⟩ := x
          by_cases i0 : i = 0
          · subst i0
            rw [if_pos rfl, below_lt (Nat.zero_le _)]
            simpa using hq
          · have i1 : i = 1 := by simp at hi; omega
            subst i1
            rw [if_neg (by decide)]
            show Q' (match (#[(k, x)] : Array (Int × Value))[SetTable.below #[p] (p + 1)]?, (#[p] : Array Nat)[SetTable.below #[p] (p + 1)]? with | some (_, x), some j => some (x, j + 1) | _, _ => none) s'
            rw [below_ge (Nat.lt_succ_self _)]
            simpa using hq
      · intro b hbm
        rw [Heap.size_push]
        simp at hbm
        rcases hbm with rfl | rfl
        · exact ⟨Nat.lt_succ_self _, .inr (Nat.le_refl _)⟩
        · exact ⟨Nat.lt_succ_of_lt ha, .inl rfl⟩
end
end L2
namespace L2
open PySem PySem.Spec PyProof.Rows
section
variable {X : Cx} {pins : List (Addr × Obj)} {σ : St} {H : Hp} {s : Shared} {h' : Heap}
theorem Inv.turnedT {t' : Nat} {d' : Drawn} {ch : List Addr} {a : Addr} {o : HO} (I : Inv X pins σ H s) (k : ∀ b u, b ∉ ch → s.heap.get? b = some u → h'.get? b = some u) (f : ∀ b ∈ ch, FpOk X pins H b) (hp : s.heap.objs.size ≤ a) (new : ObjOk X.prog X.w (upd H a o) h' a o) :
    Inv X pins σ (upd H a o) { s with heap := h', toks := t', drawn := d' } := by
  have nit : ∀ b u, H b = some u → b ∉ ch := fun b u e z => by rw [(f b z).1] at e; cases e
  have hn : H a = none := I.hok.fresh hp
  refine I.step (g' := s.gens) (d' := d') (ch := ch) (fun b hb => ?_) (fun b u _ _ hc e _ => k b u hc e) (fun b u _ _ hc e _ => ⟨u.slots, k b u hc e⟩) (fun b u _ e n => ?_) (fun b u hc e => ⟨u, k b u hc e⟩) (fun b xs q => by rw [upd_ne (ne_of_none q hn)]; exact q) (fun b u v q => by rw [upd_ne (ne_of_none q hn)]; exact q)
    (fun b ps q => ⟨#[], by rw [upd_ne (ne_of_none q hn), q]; simp⟩) (fun m hm => ?_) (fun b u e => ?_) I.bare
  · obtain ⟨_, f1, _, f3, f4, f5⟩ := f b hb
    exact ⟨f3, f1, f4, f5⟩
  · rw [upd_ne (Nat.ne_of_lt (Nat.lt_of_lt_of_le (Heap.lt_size e) hp))]; exact n
  · obtain ⟨ob, es, ep, ho, r⟩ := hm
    exact ⟨ob, es, ep, k _ ob (fun z => (f _ z).2.1 rfl) ho, r⟩
  · by_cases hb : b = a
    · subst hb; rw [upd_same] at e; cases e; exact new
    · rw [upd_ne hb] at e
      refine (I.hok b u e).stay (fun c v hc q => k c v ?_ q) (fun c q => by rw [upd_ne (ne_of_none q hn)]; exact q) fun c xs q => by rw [upd_ne (ne_of_none q hn)]; exact q
      rcases hc with z | z
      · rw [z]; exact nit b u e
      · exact nit c _ z
end
section
variable {P : Program} {w : World} {A : Around} {E : Value → Shared → Prop} {s : Shared} {a : Addr} {ss : List Str}
theorem collect_setT {Q : List Value → Shared → Prop} (hh : A.handled = none) (hS : StrSet P w s.heap a ss)
    (h : ∀ (vs : List Value) (ss1 : List Str) (h1 : Heap) (tk : Nat) (d : Drawn), StrsAre vs ss1 → ss1.Perm ss → (∀ b o, s.heap.get? b = some o → h1.get? b = some o) → s.heap.objs.size ≤ h1.objs.size → Q vs { s with heap := h1, toks := tk, drawn := d }) : wpAny (model P w) A (collect (.ref a)) Q E s := by
  unfold collect
  refine wpAny_bind (wpAny_runValue (codeAny_builtin PySem.F.entry_proto_collect ?_))
  rw [Around.under_plainId PySem.F.plain_proto_collect _]
  show wpAny _ A.in1 (newList [] >>= fun l => again (.builtin "list.__iadd__" ⟨[l, .ref a], []⟩)) _ _ _
  refine wpAny_bind (wpAny_newObj_type ?_)
  refine wpAny_pure ⟨plainId_quiet PySem.F.plain_list_iadd _, codeAny_builtin PySem.F.entry_list_iadd ?_⟩
  rw [Around.under_plainId PySem.F.plain_list_iadd _]
  have hS1 : StrSet P w (s.heap.push (seqObj "list" #[] 0)) a ss := hS.at fun o e => Heap.get?_push_of_some _ e
  have hL1 : (s.heap.push (seqObj "list" #[] 0)).get? s.heap.objs.size = some (seqObj "list" #[] 0) := Heap.get?_push_size _ rfl
  have hT : ∀ s' : Shared, StrSet P w s'.heap a ss → s'.TypeIs (.ref a) "set" := fun s' z => by
    obtain ⟨es, ep, t, ho, _⟩ := z
    exact ⟨_, ho, rfl⟩
  have ha : a < s.heap.objs.size := by
    obtain ⟨es, ep, t, ho, _⟩ := hS
    exact Heap.lt_size ho
  have hz : ss.length < scanBound := by
    obtain ⟨es, ep, t, _, _, e2, e3, _⟩ := hS
    rw [← e2.strs, List.length_map, List.length_map, Array.length_toList]
    exact e3
  have hne : Builtin.List.listSameRef (.ref s.heap.objs.size) (.ref a) = false := by
    show (s.heap.objs.size == a) = false
    exact beq_eq_false_iff_ne.mpr (Nat.ne_of_gt ha)
  show wpAny _ A.in1 (Builtin.List.listExtendWith (.ref s.heap.objs.size) (.ref a) (.ref s.heap.objs.size)) _ _ { s with heap := s.heap.push (seqObj "list" #[] 0) }
  unfold Builtin.List.listExtendWith
  refine wpAny_bind (wpAny_typeOf (hT _ hS1) ?_)
  rw [if_neg (by rw [hne]; decide)]
  refine wpAny_bind (iter_setT hS1 fun I fp vs ss1 St h1 d q1 q2 q3 W st hI hfp hge hsz => ?_)
  have hS2 : StrSet P w h1 a ss := hS1.at fun o e => q3 _ _ e
  have hL2 : h1.get? s.heap.objs.size = some (seqObj "list" #[] 0) := q3 _ _ hL1
  refine wpAny_bind (wpAny_holding ?_)
  unfold Builtin.List.listLengthHint
  refine wpAny_bind (wpAny_specialOf (hT { s with heap := h1, drawn := d } hS2) PySem.F.slot_set_len.lookup ?_)
  dsimp only
  rw [show splitId "set.__len__" = some ("set", "__len__") from by decide +kernel]
  dsimp only
  refine wpAny_bind (wpAny_isInstance (b := true) (hT { s with heap := h1, drawn := d } hS2) sub_set_self ?_)
  rw [if_neg (by decide), if_pos (by decide +kernel)]
  refine wpAny_bind (wpAny_typeOf (hT { s with heap := h1, drawn := d } hS2) (wpAny_pure ?_))
  rw [if_pos (by decide +kernel)]
  refine wpAny_bind (wpAny_rule ?_)
  unfold Builtin.List.listTouch
  have hL3 := get?_update_seq hL2 (·.push .none)
  have hL4 := get?_update_seq hL3 (·.pop)
  refine wpAny_bind (wpAny_bind (listUpdate_at (s := { s with heap := h1, drawn := d }) hL2 rfl (listUpdate_at (s := { s with heap := h1.update s.heap.objs.size (Obj.mapSeq (·.push .none)), drawn := d }) hL3 rfl ?_)))
  have nS : s.heap.objs.size ∉ fp := fun z => by
    rcases (hfp _ z).2 with e | e
    · exact absurd e (Nat.ne_of_gt ha)
    · rw [size_push'] at e
      exact absurd e (Nat.not_succ_le_self _)
  have upd2 : ∀ b o, b ≠ s.heap.objs.size → h1.get? b = some o → ((h1.update s.heap.objs.size (Obj.mapSeq (·.push .none))).update s.heap.objs.size (Obj.mapSeq (·.pop))).get? b = some o := fun b o hb e => by
    rw [Heap.get?_update_ne _ _ _ _ hb, Heap.get?_update_ne _ _ _ _ hb]; exact e
  have hv : vs.length ≤ sizeLine := by
    have e1 := q2.length_eq
    have e2 : vs.length = ss1.length := by rw [← q1.strs, List.length_map]
    rw [e2, e1]
    exact fits_of_scanBound hz
  have st3 := (W A.in1.in1.in1 (by exact hh)).frame 0 _ ((h1.update s.heap.objs.size (Obj.mapSeq (·.push .none))).update s.heap.objs.size (Obj.mapSeq (·.pop))) st fun b hb o e => upd2 b o (fun z => nS (z ▸ hb)) e
  refine wpAny_pure ⟨plainId_quiet PySem.F.plain_extend_loop _, codeAny_extend_loopS ((W _ (by exact hh)).toS) hv _ nS _ vs.length 0 _ _ _ rfl (Nat.zero_le _) st3 hL4 (ItemsOf.nil _) fun s' acc' c' hm hS' hacc => ?_⟩
  show wpAny _ A (load s.heap.objs.size >>= _) _ _ s'
  refine wpAny_bind (wpAny_load hS' ?_)
  have eacc : acc'.toList = vs := by
    refine List.ext_getElem? fun i => ?_
    by_cases hi : i < vs.length
    · have hi' : i < acc'.size := by rw [hacc.1]; exact hi
      rw [Array.getElem?_toList, Array.getElem?_eq_getElem hi']
      exact (hacc.2 i _ (Array.getElem?_eq_getElem hi')).symm
    · rw [Array.getElem?_toList, Array.getElem?_eq_none (by rw [hacc.1]; omega), List.getElem?_eq_none (by omega)]
  show wpAny _ A (pure acc'.toList) _ _ s'
  rw [eacc]
  obtain ⟨h5, g5, d5, tk5, os5⟩ := s'
  cases (show g5 = s.gens from hm.gens)
  cases (show d5 = d from hm.drawn)
  cases (show os5 = s.os from hm.os)
  have keep : ∀ b o, h1.get? b = some o → b ≠ s.heap.objs.size → b ≠ I → h5.get? b = some o := fun b o e n1 n2 => hm.heap b o (by simp only [List.mem_cons, List.not_mem_nil, or_false, not_or]; exact ⟨n1, n2⟩) (upd2 b o n1 e)
  refine wpAny_pure (h vs ss1 h5 tk5 d q1 q2 (fun b o e => ?_) ?_)
  · have lt := Heap.lt_size e
    refine keep b o (q3 b o (Heap.get?_push_of_some _ e)) (Nat.ne_of_lt lt) (Nat.ne_of_lt (Nat.lt_of_lt_of_le lt ?_))
    rw [size_push'] at hge
    exact Nat.le_of_succ_le hge
  · exact Nat.le_of_lt (Heap.lt_size hS')
end
def SetS (P : Program) (w : World) (a : Addr) (ss : List Str) : HO := .ext fun h => StrSet P w h a ss
section
variable {X : Cx}
theorem call_setS (hc : X.calm = true) : CallR X (.type "set") (fun xs H Q => ∃ (p : Addr) (ss0 : List Str), xs = [.ref p] ∧ SqL X.K H p (ss0.map V.str) ∧ ss0.length < 1000 ∧ ∀ (r : Addr) (ss : List Str), H r = none → ss.Nodup → ss.length ≤ ss0.length → (∀ x, x ∈ ss ↔ x ∈ ss0) → Q (.ref r) (upd H r (SetS X.prog X.w r ss))) := by
  intro pins s σ H xs us Q I r h
  obtain ⟨p, ss0, rfl, hq, hl, q⟩ := h
  obtain ⟨u, rfl, rx⟩ := vals1 r
  cases rx
  obtain ⟨its, rv, pl, hz⟩ := I.list hq
  have hlen := rv.length
  rw [List.length_map] at hlen
  refine call_setT (I.ok.hd hc) pl.isList (by simpa using strsAre_of rv) (by have : scanBound = 4096 := rfl; simp; omega) fun h' tk ss hS hO hk => ?_
  obtain ⟨o1, o2, o3⟩ := hO
  rw [List.size_toArray, ← hlen] at o2 o3
  refine ⟨.ref s.heap.objs.size, _, I.laid (t' := tk) (a := s.heap.objs.size) (o := SetS X.prog X.w s.heap.objs.size ss) (fun b o e => hk b o (Heap.lt_size e) e) (Nat.le_refl _) ⟨hS, ?_, fun h1 h2 z k => z.at k⟩, rfl, q _ ss (I.hok.fresh (Nat.le_refl _)) o1 o2 fun x => ?_⟩
  · obtain ⟨es, ep, t, ho, _⟩ := hS
    exact ⟨_, ho⟩
  · rw [o3 x, List.mem_iff_getElem?]
    constructor
    · rintro ⟨j, hj, rfl⟩
      exact ⟨j, by show ss0[j]? = some (ss0.getD j default); rw [List.getD_eq_getElem?_getD, List.getElem?_eq_getElem hj]; rfl⟩
    · rintro ⟨j, hj⟩
      exact ⟨j, (List.getElem?_eq_some_iff.mp hj).1, by show ss0.getD j default = x; rw [List.getD_eq_getElem?_getD, hj]; rfl⟩
theorem call_sortedSet (hc : X.calm = true) : CallR X (.builtin "sorted") (fun xs H Q => ∃ (p : Addr) (ss : List Str), xs = [.ref p] ∧ H p = some (SetS X.prog X.w p ss) ∧ ss.length < 64 ∧ ∀ (r : Addr) (ss' : List Str), H r = none → ss'.Perm ss → sortedS ss' = true → Q (.ref r) (upd H r (.lst (ss'.map V.str)))) := by
  intro pins s σ H xs us Q I r h
  obtain ⟨p, ss, rfl, hp, h64, q⟩ := h
  obtain ⟨u, rfl, rx⟩ := vals1 r
  cases rx
  have hS : StrSet X.prog X.w s.heap p ss := (I.hok p _ hp).1
  refine Calls.call_function_entry kind_sorted plain_sorted entry_sorted (args_sorted1 _) ?_
  unfold Builtin.«sorted»
  refine wpAny_bind (m := checkCount "sorted" 1 1 _) (wpAny_pure (wpAny_bind (collect_setT (I.ok.hd hc) hS fun vs ss1 h1 tk d a1 a2 a3 a4 => ?_)))
  have hvl : vs.length = ss1.length := by rw [← a1.strs, List.length_map]
  have hl64 : vs.length < 64 := by rw [hvl, a2.length_eq]; exact h64
  refine wpAny_bind (wpAny_newList ?_ (by have : sizeLine > 64 := by decide
                                          omega))
  have hoL : (h1.push (seqObj "list" vs.toArray 0)).get? h1.objs.size = some (seqObj "list" vs.toArray 0) := Heap.get?_push_size _ rfl
  refine wpAny_bind (wpAny_holding (wpAny_call_entry slot_list_sort ⟨_, hoL, rfl⟩ entry_list_sort (list_sort_treeK strKind_oneLt hoL a1.keysOf (fun v1 v2 rest e => keyKind_strs (by rw [← e]; exact a1)) hl64 fun st' b1 b2 => ⟨_, rfl, ?_⟩) (args_list_sort _)))
  obtain ⟨ss', c1, c2, c3⟩ := sorted_out_str a1 b1 b2
  refine wpAny_pure ⟨_, rfl, ?_⟩
  have nz : H h1.objs.size = none := I.hok.fresh a4
  obtain ⟨e, he⟩ := sortedHeap_at (out := (arrOf st').map (·.2)) hoL
  refine ⟨.ref h1.objs.size, _, I.turnedT (t' := tk) (d' := d) (ch := []) (a := h1.objs.size) (o := .lst (ss'.map V.str)) (fun b o _ eb => ?_) (fun b z => nomatch z) a4 ?_, rfl, q _ ss' nz (c2.trans a2) c3⟩
  · have e1 := a3 b o eb
    have lt := Heap.lt_size e1
    rw [sortedHeap_old (Nat.ne_of_lt lt) (by rw [size_push']; exact Nat.lt_succ_of_lt lt)]
    exact Heap.get?_push_of_some _ e1
  · refine ⟨?_, ((arrOf st').map (·.2)).toList, e, of_strsAre c1, he⟩
    rw [List.length_map, c2.length_eq, a2.length_eq]
    exact Nat.le_of_lt (small1000 (by omega))
end
end L2
namespace L2
open PySem PySem.Spec PyProof.Rows
section
variable {X : Cx} {pins : List (Addr × Obj)} {σ : St} {H : Hp} {s : Shared} {h' : Heap}
theorem Inv.turnedL {t' : Nat} {ch : List Addr} (I : Inv X pins σ H s) (k : ∀ b u, b ∉ ch → s.heap.get? b = some u → h'.get? b = some u) (f : ∀ b ∈ ch, FpOk X pins H b) : Inv X pins σ H { s with heap := h', toks := t' } := by
  have nit : ∀ b u, H b = some u → b ∉ ch := fun b u e z => by rw [(f b z).1] at e; cases e
  refine I.step (g' := s.gens) (d' := s.drawn) (ch := ch) (fun b hb => ?_) (fun b u _ _ hc e _ => k b u hc e) (fun b u _ _ hc e _ => ⟨u.slots, k b u hc e⟩) (fun b u _ e n => n) (fun b u hc e => ⟨u, k b u hc e⟩) (fun b xs q => q) (fun b u v q => q) (fun b ps q => ⟨#[], by rw [q]; simp⟩) (fun m hm => ?_) (fun b u e => ?_) I.bare
  · obtain ⟨_, f1, _, f3, f4, f5⟩ := f b hb
    exact ⟨f3, f1, f4, f5⟩
  · obtain ⟨ob, es, ep, ho, r⟩ := hm
    exact ⟨ob, es, ep, k _ ob (fun z => (f _ z).2.1 rfl) ho, r⟩
  · refine (I.hok b u e).stay (fun c v hc q => k c v ?_ q) (fun c q => q) fun c xs q => q
    rcases hc with z | z
    · rw [z]; exact nit b u e
    · exact nit c _ z
end
def Itp (n : Nat) (Ls : Hp → Prop) (xv : Nat → List V) : It := ⟨fun i H => Ls H ∧ i < n, fun i H x H' => ∃ T, H T = none ∧ H' = upd H T (.tup (xv i)) ∧ x = .ref T, fun i H => Ls H ∧ i = n⟩
theorem turn_walkT {P : Program} {w : World} {K : PySem.W.Frag} {elts : List Expr} {ct : Nat} {pos : Pos} (it : Addr) (fp fpW wr : List Addr) (n : Nat) (Ls : Hp → Prop) (xv : Nat → List V) (tn : Nat → Heap → Prop)
    (hit : it ∈ fp) (hwr : ∀ b ∈ wr, b ∈ fp) (hobj : ∀ i h, tn i h → ∀ b ∈ fp, ∃ o, h.get? b = some o ∧ ∀ v, o.data ≠ .cell v) (hkeep : ∀ i h h', tn i h → (∀ b ∈ fp, ∀ o, h.get? b = some o → h'.get? b = some o) → tn i h')
    (hx : ∀ i, (xv i).length ≤ sizeLine)
    (W : ∀ (X : Cx), X.prog = P → X.w = w → X.K = K → X.calm = true → ∀ (pins : List (Addr × Obj)) (s : Shared) (σ : L2.St) (H : Hp), Inv X pins σ H s → Ls H → ∃ (Pt : Nat → Array Value → Prop) (St : Nat → Heap → Prop) (Mid : Nat → Addr → Heap → Prop), WalksT P w X.A it fpW wr n Pt St Mid ∧ (∀ i, tn i s.heap → St i s.heap) ∧ (∀ i h, St i h → tn i h) ∧
      (∀ i vals, Pt i vals → Vals (xv i) vals.toList))
    (hself : ∀ (A : Around) (i : Nat) (s : Shared) (Q : Value → Shared → Prop) (E : Value → Shared → Prop), tn i s.heap → Q (.ref it) s → wpAny (model P w) A (pyIter (.ref it)) Q E s) : Turn P w K (.Tuple elts ct pos) (Itp n Ls xv) fp it tn where
  mem := hit
  obj := hobj
  keep := hkeep
  item := by
    intro X hP hw hK hc i pins s σ H E I hf st hg
    obtain ⟨hL, hi⟩ := hg
    obtain ⟨Pt, St, Mid, Wt, w1, w2, w3⟩ := W X hP hw hK hc pins s σ H I hL
    subst hP hw hK
    refine Wt.item i s _ _ hi (w1 i st) fun T vals h1 tk pv hT ht mid k1 => ?_
    have hTw : T ∉ wr := Wt.apart i T h1 mid
    refine ⟨_, rfl, Wt.go elts ct pos i T _ _ _ mid fun h2 st2 k2 => ?_⟩
    have ht2 : IsTup h2 T (vals.toList).toArray := by
      obtain ⟨o, a1, a2, nn, a3⟩ := ht
      exact ⟨o, k2 _ _ hTw a1, a2, nn, by simpa using a3⟩
    refine ⟨.ref T, upd H T (.tup (xv i)), I.turnedT (t' := tk) (d' := s.drawn) (ch := wr) (fun b u hb e => k2 b u hb (k1 b u hb e)) (fun b hb => hf b (hwr b hb)) hT ⟨hx i, vals.toList, w3 i vals pv, ht2⟩, rfl, ⟨T, I.hok.fresh hT, rfl, rfl⟩, w2 _ _ st2, fun b hb => ?_⟩
    have e : b ≠ T := by
      obtain ⟨o, ho, _⟩ := hobj i _ st b hb
      exact Nat.ne_of_lt (Nat.lt_of_lt_of_le (Heap.lt_size ho) hT)
    rw [upd_ne e]
    exact (hf b hb).1
  done := by
    intro X hP hw hK hc i pins s σ H E I hf st hg
    obtain ⟨hL, hi⟩ := hg
    obtain ⟨Pt, St, Mid, Wt, w1, w2, w3⟩ := W X hP hw hK hc pins s σ H I hL
    subst hP hw hK hi
    exact Wt.done s _ _ (w1 _ st) fun h1 tk k1 => ⟨rfl, I.turnedL (ch := wr) (fun b u hb e => k1 b u hb e) fun b hb => hf b (hwr b hb)⟩
  self := hself
section
variable {X : Cx}
end
section
variable {σ0 : St} {g : TG} {tt : TT} {te : TE} {Q : List V → Hp → Prop} {H1 : Hp}
theorem turns_tup {n : Nat} {Ls : Hp → Prop} {xv : Nat → List V} (Pv : Nat → List V → Hp → Prop) (h0 : Pv 0 [] H1) (hl : ∀ i ys H, i ≤ n → Pv i ys H → Ls H)
    (hs : ∀ i ys H T, i < n → Pv i ys H → H T = none → g (.ref T) σ0 (upd H T (.tup (xv i))) fun σ2 H2 => Sle σ0 σ2 ∧ tt σ2 H2 fun b H3 => if b = true then te σ2 H3 (fun v H4 => ys.length < sizeLine ∧ Nxt n i Pv (ys ++ [v]) H4) else Nxt n i Pv ys H3)
    (hd : ∀ ys H, Pv n ys H → Q ys H) : cTurns (Itp n Ls xv) σ0 g tt te Q H1 := by
  refine ⟨fun i m ys H => m = n - i ∧ i ≤ n ∧ Pv i ys H, ⟨n, by simp, Nat.zero_le _, h0⟩, ?_⟩
  rintro i m ys H ⟨rfl, hi, p⟩
  have q := hl i ys H hi p
  by_cases hlt : i < n
  · refine .inr ⟨⟨q, hlt⟩, fun x H' y => ?_⟩
    obtain ⟨T, e1, e2, e3⟩ := y
    subst e2 e3
    exact hs i ys H T hlt p e1
  · have e : i = n := by omega
    subst e
    exact .inl ⟨⟨q, rfl⟩, hd ys H p⟩
end
end L2
namespace L2
open PySem PySem.Spec PyProof.Rows
section
variable {X : Cx} {pins : List (Addr × Obj)} {σ : St} {H H' : Hp} {s : Shared}
end
def compShape (tpos : Pos) (it : Value) (target : Expr) (env : Env) (ifs : List Expr) (body : Sem Unit) (k : Sem Fin) : Sem Fin := do
  standAt tpos
  match ← pyNext it with
  | none => pure (.done .next)
  | some v =>
    letOwnedTupleGo target it v
    assign target env v
    let mut ok := true
    for c in ifs do
      if ok then ok ← isTrue c env (eval c env)
    if ok then
      body
    k
section
variable {AS : Type}
abbrev TB (AS : Type) := AS → St → Hp → (AS → St → Hp → Prop) → Prop
end
end L2
namespace L2
open PySem PySem.Spec PyProof.Rows
section
variable {X : Cx} {pins : List (Addr × Obj)} {σ : St} {H : Hp} {s : Shared} {AS : Type}
end
end L2
namespace L2
open PySem PySem.Spec PyProof.Rows
end L2
namespace L2
open PySem PySem.Spec PyProof.Rows
structure GC (P : Program) (w : World) {AS : Type} (e target iter : Expr) (ifs : List Expr) (scope : Scope) (tpos : Pos) (newAcc : Sem Value) (body : Addr → Env → Sem Unit) (o0 : Obj) (a0 : AS) (AO : AS → Obj → Prop) (HOf : Addr → AS → HO) : Prop where
  new : ∀ (A : Around) (s : Shared) (Q : Value → Shared → Prop) (E : Value → Shared → Prop), Q (.ref s.heap.objs.size) { s with heap := s.heap.push o0 } → wpAny (model P w) A newAcc Q E s
  nf : o0.isFreed = false
  nc : ∀ a o, AO a o → ∀ v, o.data ≠ .cell v
  hA0 : AO a0 o0
  hHO : ∀ (H' : Hp) (h : Heap) (acc : Addr) (a : AS) (o : Obj), sysModules < acc → AO a o → h.get? acc = some o → ObjOk P w H' h acc (HOf acc a)
  cl : ∃ gs, clausesOf e = ⟨target, iter, ifs, 0⟩ :: gs
  dnS : ∀ (it acc : Value) (env : Env) (A : Around) (Q : PySem.Fin → Shared → Prop) (E : Value → Shared → Prop) (s : Shared), wpAny (model P w) A ((compStart e 0 it acc env).onRaise (fun x => do noteFrame x env; standAt theWindowsPlace)) Q E s → wpAny (model P w) (A.under (.compStart e 0 it acc env)) ((model P w).den (.compStart e 0 it acc env)) Q E s
  dnL : ∀ (it acc : Value) (env : Env) (A : Around) (Q : PySem.Fin → Shared → Prop) (E : Value → Shared → Prop) (s : Shared), wpAny (model P w) A ((compTurn e 0 it acc env).onRaise (fun x => do noteFrame x env; theTreesLotGoes x)) Q E s → wpAny (model P w) (A.under (.compLoop e 0 it acc env)) ((model P w).den (.compLoop e 0 it acc env)) Q E s
  q : ∀ it acc env, (Code.compLoop e 0 it acc env).quiet = true
  sh : ∀ (it acc : Addr) (env : Env), compTurn e 0 (.ref it) (.ref acc) env = compShape tpos (.ref it) target env ifs (body acc env) (again (.compLoop e 0 (.ref it) (.ref acc) env))
section
variable {X : Cx} {AS : Type} {e target iter : Expr} {ifs : List Expr} {scope sc : Scope} {pos tpos cpos : Pos} {N N' : List Str} {sub : List (Option Nat)} {wi : TI} {g : TG} {tt : TT} {tb : TB AS} {newAcc : Sem Value} {body : Addr → Env → Sem Unit} {o0 : Obj} {a0 : AS} {AO : AS → Obj → Prop} {HOf : Addr → AS → HO}
end
section
variable {P : Program} {w : World} {target iter target2 iter2 elt kx vx : Expr} {ifs ifs2 : List Expr} {scope : Scope} {pos : Pos}
end
end L2
namespace L2
open PySem PySem.Spec PyProof.Rows
end L2
namespace L2
open PySem PySem.Spec PyProof.Rows
end L2
namespace L2
open PySem PySem.Spec PyProof.Rows
section
variable {X : Cx}
end
end L2
namespace L2
open PySem PySem.Spec PyProof.Rows PySem.W
abbrev Rng (n : Nat) : Array Nat := List.toArray (List.range n)
def Gd (n : Nat) (p : Array Nat) : Prop := p.Perm (Rng n)
section
variable {n : Nat} {cmp : Nat → Nat → (Bool → Shared → Prop) → Shared → Prop} {s : Shared} (hask : ∀ i j C, i < n → j < n → (∀ b, C b s) → cmp i j C s) (h0 : 0 < n)
include hask h0
end
section
variable {P : Program} {w : World} {A : Around} {E : Value → Shared → Prop} {s : Shared}
end
end L2
namespace L2
open PySem PySem.Spec PyProof.Rows PySem.W
section
variable {X : Cx}
end
end L2
namespace L2
open PySem PySem.Spec PyProof.Rows PySem.W
section
variable {AS : Type} {g : TG} {tt : TT} {tb : TB AS} {Q : AS → St → Hp → Prop} {a0 : AS} {σ0 : St} {H0 : Hp}
end
section
variable {X : Cx}
theorem call_range1' : CallR X (.type "range") (fun xs H Q => ∃ j : Int, xs = [.int j] ∧ 0 ≤ j ∧ j ≤ 1000 ∧ ∀ r, H r = none → Q (.ref r) (upd H r (.rng 0 j))) := by
  intro pins s σ H xs us Q I r h
  obtain ⟨j, rfl, h0, h1, q⟩ := h
  obtain ⟨u, rfl, t, rfl⟩ := vals1 r
  refine call_range_1 ?_
  exact ⟨.ref s.heap.objs.size, _, I.laid (a := s.heap.objs.size) (o := .rng 0 j) (fun b o e => Heap.get?_push_of_some _ e) (Nat.le_refl _) ⟨_, _, _, Heap.get?_push_size _ rfl⟩, rfl, q _ (I.hok.fresh (Nat.le_refl _))⟩
theorem ints_vals : ∀ {its : List Value} {n : Nat} (k : Nat), its.length = n → (∀ i v, its[i]? = some v → ∃ t, v = Value.int ((k + i : Nat) : Int) t) → Vals ((List.range' k n).map fun (i : Nat) => V.int (i : Int)) its
  | [], n, k, hl, _ => by
    have e : n = 0 := hl.symm
    subst e; exact .nil
  | v :: r, n, k, hl, h => by
    obtain ⟨m, rfl⟩ : ∃ m, n = m + 1 := ⟨n - 1, by simp at hl; omega⟩
    rw [List.range'_succ, List.map_cons]
    refine .cons ?_ (ints_vals (k + 1) (by simpa using hl) fun i v hv => ?_)
    · obtain ⟨t, e⟩ := h 0 v rfl
      exact ⟨t, by rw [e, Nat.add_zero]⟩
    · obtain ⟨t, e⟩ := h (i + 1) v (by simpa using hv)
      exact ⟨t, by rw [e, show k + (i + 1) = k + 1 + i by omega]⟩
theorem call_list_rng (hc : X.calm = true) : CallR X (.type "list") (fun xs H Q => ∃ (r : Addr) (j : Int), xs = [.ref r] ∧ H r = some (.rng 0 j) ∧ 0 ≤ j ∧ j ≤ 1000 ∧ ∀ l, H l = none → Q (.ref l) (upd H l (.lst ((List.range j.toNat).map fun (i : Nat) => V.int (i : Int))))) := by
  intro pins s σ H xs us Q I r h
  obtain ⟨p, j, rfl, hp, h0, h1, q⟩ := h
  obtain ⟨u, rfl, rx⟩ := vals1 r
  cases rx
  obtain ⟨t, u, v, e⟩ := I.hok p _ hp
  refine call_list_range (n := j.toNat) (a := 0) (b := j) (c := 1) (I.ok.hd hc) e (small_one (by decide) (by decide) (by omega) (by omega)) (by rw [rangeSize_one]; split <;> omega) (by omega) fun h' tk acc' c' hk hS hacc => ?_
  refine ⟨.ref s.heap.objs.size, _, I.laid (t' := tk) (a := s.heap.objs.size) (o := .lst ((List.range j.toNat).map fun (i : Nat) => V.int (i : Int))) (fun b o e => hk b o e) (Nat.le_refl _) ⟨?_, acc'.toList, c', ?_, by rw [Array.toArray_toList]; exact hS⟩, rfl, q _ (I.hok.fresh (Nat.le_refl _))⟩
  · rw [List.length_map, List.length_range]
    exact Nat.le_of_lt (small1000 (by omega))
  · rw [List.range_eq_range']
    refine ints_vals 0 (by rw [Array.length_toList]; exact hacc.1) fun i v hv => ?_
    obtain ⟨t, e⟩ := hacc.2 i v (by rw [← Array.getElem?_toList]; exact hv)
    exact ⟨t, by rw [e]; congr 1; omega⟩
end
end L2
namespace L2
open PySem PySem.Spec PyProof.Rows PySem.W
structure Ordr (lt : Nat → Nat → Bool) : Prop where
  asym : ∀ a b, lt a b = true → lt b a = false
  tr : ∀ a b c, lt b a = false → lt c b = false → lt c a = false
section
variable {lt : Nat → Nat → Bool} (o : Ordr lt)
include o
variable {n : Nat} {cmp : Nat → Nat → (Bool → Shared → Prop) → Shared → Prop} {s : Shared} (hask : ∀ i j C, i < n → j < n → C (lt i j) s → cmp i j C s) (h0 : 0 < n)
include hask h0
end
end L2
namespace L2
open PySem PySem.Spec PyProof.Rows PySem.W
theorem txTri : ∀ a b : List Nat, a < b ∨ a = b ∨ b < a
  | [], [] => .inr (.inl rfl)
  | [], _ :: _ => .inl (List.nil_lt_cons _ _)
  | _ :: _, [] => .inr (.inr (List.nil_lt_cons _ _))
  | x :: a, y :: b => by
    rcases Nat.lt_trichotomy x y with h | h | h
    · exact .inl (List.cons_lt_cons_iff.mpr (.inl h))
    · subst h
      rcases txTri a b with h | h | h
      · exact .inl (List.cons_lt_cons_iff.mpr (.inr ⟨rfl, h⟩))
      · exact .inr (.inl (by rw [h]))
      · exact .inr (.inr (List.cons_lt_cons_iff.mpr (.inr ⟨rfl, h⟩)))
    · exact .inr (.inr (List.cons_lt_cons_iff.mpr (.inl h)))
theorem txExt {x y : Str} (h : x.cps.toList = y.cps.toList) : x = y := by
  cases x; cases y
  simp only [Str.mk.injEq]
  exact Array.toList_inj.mp h
def sLtB (x y : Str) : Bool := decide (x.cps.toList < y.cps.toList)
theorem sLtB_irr (x : Str) : sLtB x x = false := decide_eq_false (List.lt_irrefl _)
theorem sLtB_trans {x y z : Str} (h : sLtB x y = true) (h' : sLtB y z = true) : sLtB x z = true := decide_eq_true (List.lt_trans (of_decide_eq_true h) (of_decide_eq_true h'))
theorem sLtB_tri (x y : Str) : sLtB x y = true ∨ x = y ∨ sLtB y x = true := by
  rcases txTri x.cps.toList y.cps.toList with h | h | h
  · exact .inl (decide_eq_true h)
  · exact .inr (.inl (txExt h))
  · exact .inr (.inr (decide_eq_true h))
section
variable {P : Program} {w : World} {A : Around} {E : Value → Shared → Prop} {s : Shared}
end
end L2
namespace L2
open PySem PySem.Spec PyProof.Rows PySem.W
section
variable {X : Cx}
end
end L2
namespace L2
open PySem PySem.Spec PyProof.Rows PySem.W
open AutoSeq1 (wpAny_loadPart')
open MeetsSeq MeetsSeq2 MeetsSeq3 SeqRoads2
end L2
namespace L2
open PySem PySem.Spec PyProof.Rows PySem.W
section
variable {P : Program} {w : World} {A : Around} {E : Value → Shared → Prop} {s : Shared}
end
section
variable {X : Cx}
end
end L2
namespace L2
open PySem PySem.Spec PyProof.Rows
section
variable {P : Program} {w : World} {target iter target2 iter2 elt : Expr} {ifs ifs2 : List Expr} {scope : Scope} {pos : Pos}
end
end L2
namespace L2
open PySem PySem.Spec PyProof.Rows PySem.W
end L2
namespace L2
open PySem PySem.Spec PyProof.Rows
section
variable {X : Cx}
theorem ints_of {ns : List Int} : ∀ {us : List Value}, Vals (ns.map V.int) us → ∃ xs : List (Int × Tok), us = xs.map (fun p => Value.int p.1 p.2) ∧ xs.map (·.1) = ns := by
  induction ns with
  | nil => intro us r; cases r; exact ⟨[], rfl, rfl⟩
  | cons a l ih =>
    intro us r
    cases r with
    | cons r rr =>
      obtain ⟨t, rfl⟩ := r
      obtain ⟨xs, rfl, rfl⟩ := ih rr
      exact ⟨(a, t) :: xs, rfl, rfl⟩
theorem call_sumI (hc : X.calm = true) : CallR X (.builtin "sum") (fun xs H Q => ∃ (p : Addr) (ns : List Int), xs = [.ref p] ∧ SqL X.K H p (ns.map V.int) ∧ Q (.int ns.sum) H) := by
  intro pins s σ H xs us Q I r h
  obtain ⟨p, ns, rfl, hq, q⟩ := h
  obtain ⟨u, rfl, rx⟩ := vals1 r
  cases rx
  obtain ⟨its, rv, pl, hz⟩ := I.list hq
  obtain ⟨ys, rfl, rfl⟩ := ints_of rv
  have e : (ys.map (fun p => Value.int p.1 p.2)).toArray = intItems ys.toArray := by unfold intItems; simp
  have pl' := pl.isList
  rw [e] at pl'
  refine sum_intListG (I.ok.hd hc) pl' fun h' tk t' hk => ⟨.int _, H, I.kept (t' := tk) hk, ⟨t', rfl⟩, ?_⟩
  rw [preSum_eq, List.take_of_length_le (by simp)]
  exact q
theorem intsAre_ofV {ns : List Int} : ∀ {us : List Value}, Vals (ns.map V.int) us → IntsAre us ns := by
  induction ns with
  | nil => intro us r; cases r; exact .nil
  | cons a l ih =>
    intro us r
    cases r with
    | cons r rr =>
      obtain ⟨t, rfl⟩ := r
      exact .cons a t (ih rr)
theorem of_intsAre {ns : List Int} : ∀ {us : List Value}, IntsAre us ns → Vals (ns.map V.int) us := by
  induction ns with
  | nil => intro us r; cases r; exact .nil
  | cons a l ih =>
    intro us r
    cases r with
    | cons _ _ r => exact .cons ⟨_, rfl⟩ (ih r)
def tSortRev (K : PySem.W.Frag) (t : TA) : TE := fun σ H Q => t σ H fun vs H1 => ∃ (p : Addr) (ns : List Int), vs = [.ref p] ∧ SqL K H1 p (ns.map V.int) ∧ ns.length < 64 ∧ ∀ (r : Addr) (ns' : List Int), H1 r = none → ns'.Perm ns → Ordered true ns' → Q (.ref r) (upd H1 r (.lst (ns'.map V.int)))
theorem pe_sortRev {e : Expr} {t : TA} {p pos kp cp : Pos} {j : Nat} (hg : Gl X "sorted") (hm : X.mg "sorted" = none) (ha : PA X [e] t)
    (he : backTo pos (starEach [e] X.env) = (false, eval e X.env) :: backTo pos (starEach [] X.env) := by rfl)
    (hplain : (backTo pos (starEach [e] X.env)).any (·.1) = false := by rfl) : PE X (.Call (.Name "sorted" p) [e] [⟨some "reverse", .Constant (.bool true) j cp, kp⟩] pos) (tSortRev X.K t) := by
  intro pins s σ H Q I h
  refine wpAny_Call_Name_kw (ld_blt I hg hm (by decide +kernel : bootBuiltins "sorted" = some (.builtin "sorted")) ?_ (by decide) (by decide))
  refine PyProof.Rows.callWith_kw (thn (ha pos pins s σ H _ I h) fun us s1 ⟨vs, H1, I1, r1, q1⟩ => ?_) he hplain
  obtain ⟨a, ns, rfl, hq, h64, q⟩ := q1
  obtain ⟨u, rfl, rx⟩ := vals1 r1
  cases rx
  refine PyProof.Rows.kws_cons (Constant_bool (PyProof.Rows.kws_nil ?_))
  obtain ⟨its, rv, pl, hz⟩ := I1.list hq
  have hl := rv.length
  rw [List.length_map] at hl
  refine sorted_ints_rev (b := true) pl.isList (intsAre_ofV rv) (by omega) fun out ns' h1 h2 h3 => ?_
  obtain ⟨e, he⟩ := sortedAll_at s1.heap its out
  have nz : H1 (s1.heap.objs.size + 1) = none := I1.hok.fresh (Nat.le_succ _)
  refine ⟨.ref (s1.heap.objs.size + 1), _, I1.laid (t' := s1.toks) (a := s1.heap.objs.size + 1) (o := .lst (ns'.map V.int)) (fun b o eb => sortedAll_old eb) (Nat.le_succ _) ?_, rfl, q _ ns' nz h2 h3⟩
  refine ⟨?_, out.toList, e, of_intsAre h1, by simpa using he⟩
  rw [List.length_map, h2.length_eq]
  exact Nat.le_of_lt (small1000 (by omega))
def rBits : V → List V → Hp → VK → Prop := fun x vs H Q => ∃ i : Int, x = .int i ∧ vs = [] ∧ Q (.int (Builtin.Int.intBits i : Nat)) H
theorem mt_bits : MtR X "int.bit_length" rBits := by
  intro pins s σ H x vs v us Q I rx rv h
  obtain ⟨i, rfl, rfl, q⟩ := h
  obtain ⟨t, rfl⟩ := rx
  have hus := rv.zero
  subst hus
  exact call_int_bit_length ⟨.int _, H, I.tok _, ⟨_, rfl⟩, q⟩
def rIndex (K : PySem.W.Frag) : V → List V → Hp → VK → Prop := fun x vs H Q => ∃ (l : Addr) (ss : List Str) (z : Str) (j : Nat), x = .ref l ∧ vs = [.str z] ∧ H l = some (.lst (ss.map V.str)) ∧ ss[j]? = some z ∧ (∀ k, k < j → ss[k]? ≠ some z) ∧ j < 1000 ∧ Q (.int (j : Nat)) H
theorem mt_index : MtR X "list.index" (rIndex X.K) := by
  intro pins s σ H x vs v us Q I rx rv h
  obtain ⟨l, ss, z, j, rfl, rfl, hH, hj, hno, hsm, q⟩ := h
  cases rx
  obtain ⟨u, rfl, ru⟩ := rv.one
  obtain ⟨t, rfl⟩ := ru
  obtain ⟨zz, its, n, r, hl, e⟩ := I.lstM hH
  have at_ : ∀ k (hk : k < its.length), ∃ y t', ss[k]? = some y ∧ its[k] = Value.str y t' := fun k hk => by
    have hk' : k < ss.length := by rw [List.length_map] at hl; omega
    obtain ⟨w, hw, rw'⟩ := r.get (i := k) (x := V.str ss[k]) (by rw [List.getElem?_map, List.getElem?_eq_getElem hk']; rfl)
    obtain ⟨t', rfl⟩ := rw'
    rw [List.getElem?_eq_getElem hk] at hw
    exact ⟨ss[k], t', List.getElem?_eq_getElem hk', Option.some.inj hw⟩
  have jl : j < its.length := by
    have := (List.getElem?_eq_some_iff.mp hj).1
    rw [List.length_map] at hl; omega
  refine call_meets F.slot_list_index ⟨_, e, rfl⟩ F.entry_list_index (F.args_list_index_2 _ _)
    (MeetsSeq.list_index l its.toArray n (.str z t) (fun y => match y with | .str y _ => y == z | _ => false) (fun y hy => ?_) j (by rw [List.size_toArray]; exact jl) (by omega) ?_ (fun m hm hmj => ?_)) ⟨e, ⟨.int _, H, I.tok _, ⟨_, rfl⟩, q⟩⟩
  · have hy' : y ∈ its := by simpa using hy
    obtain ⟨k, hk, rfl⟩ := List.getElem_of_mem hy'
    obtain ⟨y, t', _, e2⟩ := at_ k hk
    rw [e2]
    exact eqGives_str y z t' t
  · obtain ⟨y, t', h1, e2⟩ := at_ j jl
    have : its.toArray[j] = Value.str y t' := by simpa using e2
    rw [this]
    rw [hj] at h1
    cases h1
    exact beq_self_eq_true _
  · have hm' : m < its.length := by simpa using hm
    obtain ⟨y, t', h1, e2⟩ := at_ m hm'
    have : its.toArray[m] = Value.str y t' := by simpa using e2
    rw [this]
    show (y == z) = false
    rw [beq_eq_false_iff_ne]
    intro w
    exact hno m hmj (by rw [h1, w])
end
end L2
namespace L2
open PySem PySem.Spec PyProof.Rows
section
variable {X : Cx}
def iEnum (K : PySem.W.Frag) (ta : TA) : TI := fun σ H R => ta σ H fun vs H1 => ∃ (a : Addr) (xs : List V), vs = [.ref a] ∧ SqL K H1 a xs ∧ R (Itp xs.length (fun H => SqL K H a xs) (fun i => [.int (i : Nat), xs.getD i .non])) H1
theorem boot_enum : bootBuiltins "enumerate" = some (.type "enumerate") := by decide +kernel
theorem pi_enum {a : Expr} {ta : TA} {p pos tpos : Pos} {elts : List Expr} {ct : Nat} (hg : Gl X "enumerate") (hm : X.mg "enumerate" = none) (ha : PA X [a] ta) (hs : starEach [a] X.env = [(false, eval a X.env)] := by rfl) :
    PI X (.Tuple elts ct tpos) (.Call (.Name "enumerate" p) [a] [] pos) (iEnum X.K ta) := by
  intro pins s σ H R I h
  refine Call_ (ld_blt I hg hm boot_enum (PyProof.Rows.callWith_type1 (thn (ha pos pins s σ H _ I h) fun us s1 ⟨vs, H1, I1, r1, q1⟩ => ?_) (by rw [hs]; rfl) (by rfl)))
  obtain ⟨l, xs, e, hx, q⟩ := q1
  subst e
  obtain ⟨u, rfl, rx⟩ := vals1 r1
  cases rx
  obtain ⟨it1, rv1, pl1, hz1⟩ := I1.list hx
  have b1 : l < s1.heap.objs.size := by obtain ⟨o, n, e, _⟩ := pl1; exact Heap.lt_size e
  refine call_enumerate_list pl1.isList fun h1 z1 z2 z3 z7 => ?_
  refine wpAny_pyIter_enum z1 ?_
  have hfp : ∀ b ∈ [s1.heap.objs.size + 1, s1.heap.objs.size], s1.heap.objs.size ≤ b := fun b hb => by
    simp only [List.mem_cons, List.not_mem_nil, or_false] at hb
    rcases hb with rfl | rfl
    · exact Nat.le_add_right _ _
    · exact Nat.le_refl _
  refine ⟨s1.heap.objs.size + 1, [s1.heap.objs.size + 1, s1.heap.objs.size],
    fun i h => (∃ old, IsEnum h (s1.heap.objs.size + 1) s1.heap.objs.size i old) ∧ h.IsListIter s1.heap.objs.size l i,
    _, H1, rfl, I1.kept (t' := s1.toks) z7,
    turn_walkT (s1.heap.objs.size + 1) _ [s1.heap.objs.size + 1, s1.heap.objs.size, l] [s1.heap.objs.size + 1, s1.heap.objs.size] _ _ _ _ (by simp) (fun b hb => hb) (fun i h st b hb => ?_) (fun i h h' st k => ?_) (fun i => by show 2 ≤ sizeLine; decide) ?_ (fun A i s' Q E st hQ => by
      obtain ⟨⟨old, he⟩, _⟩ := st
      exact wpAny_pyIter_enum he hQ),
    ⟨⟨_, z1⟩, z2⟩, fun b hb => I1.fpOk (hfp b hb) (I1.hok.fresh (hfp b hb)), q⟩
  · obtain ⟨⟨old, a1⟩, ⟨o4, a4, c4, d4⟩⟩ := st
    simp only [List.mem_cons, List.not_mem_nil, or_false] at hb
    rcases hb with rfl | rfl
    · exact ⟨_, a1, fun v z => by cases z⟩
    · exact ⟨_, a4, fun v z => by rw [d4] at z; cases z⟩
  · obtain ⟨⟨old, a1⟩, a4⟩ := st
    exact ⟨⟨old, k _ (by simp) _ a1⟩, a4.at fun o e => k _ (by simp) o e⟩
  · intro X' hP hw hK hc pins' s' σ' H' I' hL
    rw [← hK] at hL
    obtain ⟨jt1, sv1, ql1, _⟩ := I'.list hL
    have m1 := sv1.length
    have ne1 : l ≠ s1.heap.objs.size := Nat.ne_of_lt b1
    have Wz := WalksT.enumerateD (A := X'.A) (Draws.list (prog := X.prog) (w := X.w) (A := X'.A.in1) (I'.ok.hd hc) s1.heap.objs.size l ne1 jt1.toArray) (s1.heap.objs.size + 1) (Nat.succ_ne_self _) (fun z => by
      simp only [List.mem_cons, List.not_mem_nil, or_false] at z
      rcases z with z | z
      · exact Nat.succ_ne_self _ z
      · exact absurd b1 (by rw [← z]; exact Nat.not_lt_of_le (Nat.le_succ _))) (by simp)
    rw [show jt1.toArray.size = xs.length by show jt1.length = _; rw [m1]] at Wz
    refine ⟨_, _, _, Wz, fun i st => ?_, fun i h st => ?_, fun i vals pv => ?_⟩
    · exact ⟨st.1, st.2, ql1.isList⟩
    · exact ⟨st.1, st.2.1⟩
    · obtain ⟨t, x, e1, rfl⟩ := pv
      have e1 : jt1[i]? = some x := by simpa using e1
      have c1 : i < xs.length := by rw [m1]; exact (List.getElem?_eq_some_iff.mp e1).1
      obtain ⟨u, d1, d2⟩ := sv1.get (List.getElem?_eq_getElem c1)
      rw [e1] at d1
      cases d1
      show Vals [.int (i : Nat), xs.getD i .non] [.int i t, x]
      rw [List.getD_eq_getElem?_getD, List.getElem?_eq_getElem c1]
      exact .cons ⟨t, rfl⟩ (.cons d2 .nil)
end
end L2
namespace L2
open PySem PySem.Spec PyProof.Rows
section
variable {X : Cx}
end
end L2
namespace L2
open PySem PySem.Spec PyProof.Rows PySem.SeqAt PySem.MeetsSeq
section
variable {X : Cx}
end
end L2
namespace L2
open PySem PySem.Spec PyProof.Rows
section
variable {X : Cx} {k : Nat} {f : Addr} {fd : FuncData} {ps : List Str} {sp : Sp} {E : XK}
theorem run_fn2 {pins : List (Addr × Obj)} {σ : St} {H : Hp} {s : Shared} {Q : VK} {us : List Value} {vs : List V} {E' : Value → Shared → Prop} (F : FnOk X.prog X.w X.K X.mg X.base CX0 k f fd ps sp) (hr : Room (k + 2) X.A) (hb : Binds X.K fd ps [])
    (I : Inv X pins σ H s) (r : Vals vs us) (h : sp vs H Q E) : wpAny (model X.prog X.w) X.A.in1.in1 (call (.ref f) us) (EP X pins σ Q) E' s := by
  have hl : (us ++ []).length = ps.length := by rw [List.append_nil, ← r.length]; exact F.len _ _ _ _ h
  have hb' := hb s us I.kIn hl
  rw [List.append_nil] at hb'
  refine wpAny_call (codeAny_mono (F.run X.A.in1.in1 X.stack s H ⟨us, []⟩ us vs Q E (Room.in1 (Room.in1 hr)) I.env0.in1.in1 hb' r h) fun r s' hq => ?_)
  cases r with
  | error e => exact False.elim hq
  | ok fl =>
    cases fl with
    | ret u => exact I.after hq
    | next => exact False.elim hq
    | brk => exact False.elim hq
    | cont => exact False.elim hq
structure Aw (X : Cx) (pins : List (Addr × Obj)) (a : Addr) : Prop where
  loc : a ≠ X.env.locals
  ab : X.s₀.heap.objs.size ≤ a
  cel : ∀ x c, X.env.cells.lookup x = some c → c ≠ a
  pin : ∀ p ∈ X.pn ++ pins, p.1 ≠ a
  fs : a ∉ X.fs
theorem Inv.aw {pins : List (Addr × Obj)} {σ : St} {H : Hp} {s : Shared} (I : Inv X pins σ H s) {a : Addr} (h : s.heap.objs.size ≤ a) : Aw X pins a := by
  refine ⟨Nat.ne_of_gt (Nat.lt_of_lt_of_le I.lt h), Nat.le_trans I.sz h, fun x c e => ?_, fun p hp => ?_, I.nofs h⟩
  · obtain ⟨v, o, ho, _⟩ := I.cell x c e
    exact Nat.ne_of_lt (Nat.lt_of_lt_of_le (Heap.lt_size ho) h)
  · exact Nat.ne_of_lt (Nat.lt_of_lt_of_le (Heap.lt_size (I.pin p hp).1) h)
theorem Inv.adopt {pins : List (Addr × Obj)} {σ : St} {H : Hp} {s : Shared} {a : Addr} {ys : List V} {its : List Value} {n : Nat} (I : Inv X pins σ H s) (w : Aw X pins a) (hn : H a = none) (hv : Vals ys its) (hz : ys.length ≤ sizeLine)
    (e : s.heap.get? a = some { cls := .type "list", data := .seq its.toArray n }) : Inv X pins σ (upd H a (.lst ys)) s := by
  refine ⟨I.ok, I.os, I.bare, ⟨I.base.keep, I.base.slot, fun b o q n' hx => ?_, I.base.there, fun b xs q => ?_, fun b o u q => ?_, fun b ps q => ?_⟩, I.loc, I.cell, ?_, fun x c q => ?_, fun p hp => ?_, fun b u q => ?_, I.len⟩
  · rw [upd_ne (Nat.ne_of_lt (Nat.lt_of_lt_of_le (Heap.lt_size q) w.ab))]; exact I.base.free b o q n' hx
  · have := I.base.tups b xs q
    rw [upd_ne (ne_of_none this hn)]; exact this
  · have := I.base.frzs b o u q
    rw [upd_ne (ne_of_none this hn)]; exact this
  · obtain ⟨m, this⟩ := I.base.tbls b ps q
    exact ⟨m, by rw [upd_ne (ne_of_none this hn)]; exact this⟩
  · rw [upd_ne (Ne.symm w.loc)]; exact I.free
  · rw [upd_ne (w.cel x c q)]; exact I.freeC x c q
  · obtain ⟨h1, h2, h3⟩ := I.pin p hp
    exact ⟨h1, by rw [upd_ne (w.pin p hp)]; exact h2, h3⟩
  · by_cases hb : b = a
    · subst hb
      rw [upd_same] at q; cases q
      exact ⟨hz, its, n, hv, e⟩
    · rw [upd_ne hb] at q
      exact (I.hok b u q).stay (fun c v _ r => r) (fun c r => by rw [upd_ne (ne_of_none r hn)]; exact r) fun c xs r => by rw [upd_ne (ne_of_none r hn)]; exact r
theorem Inv.repinL {pins : List (Addr × Obj)} {σ : St} {H : Hp} {s : Shared} {a : Addr} {its : Array Value} {n : Nat} (f : Array Value → Array Value) (I : Inv X pins σ H s) (w : Aw X pins a) (hn : H a = none) (e : s.heap.get? a = some (seqObj "list" its n)) :
    ∃ n', Inv X pins σ H { s with heap := s.heap.update a (Obj.mapSeq f) } ∧ (s.heap.update a (Obj.mapSeq f)).get? a = some (seqObj "list" (f its) n') := by
  obtain ⟨c, hc⟩ : ∃ c, (s.heap.update a (Obj.mapSeq f)).get? a = some (seqObj "list" (f its) c) := ⟨_, get?_update_seq e f⟩
  refine ⟨c, ?_, hc⟩
  exact I.turned (t' := s.toks) (it := a) (fun b o hb q => (Heap.get?_update_other s.heap _ (Ne.symm hb)).trans q) hn w.loc (.inr w.ab) w.cel w.pin
theorem Inv.pinL {pins : List (Addr × Obj)} {σ : St} {H : Hp} {s : Shared} {a : Addr} {its : Array Value} {n : Nat} (I : Inv X pins σ H s) (w : Aw X pins a) (hn : H a = none) (e : s.heap.get? a = some (seqObj "list" its n)) :
    Inv X ((a, seqObj "list" its n) :: pins) σ H s := I.pins_of fun p hp => by
  rcases List.mem_cons.mp hp with rfl | hp
  · exact ⟨e, hn, w.loc, w.fs, fun v q => by cases q⟩
  · exact I.pin p (List.mem_append_right _ hp)
theorem Inv.unpin {pins : List (Addr × Obj)} {σ : St} {H : Hp} {s : Shared} {q : Addr × Obj} (I : Inv X (q :: pins) σ H s) : Inv X pins σ H s := I.pins_of fun p hp => I.pin p (List.mem_append_right _ (List.mem_cons_of_mem _ hp))
theorem Aw.cons {pins : List (Addr × Obj)} {a b : Addr} {o : Obj} (w : Aw X pins a) (h : b ≠ a) : Aw X ((b, o) :: pins) a := ⟨w.loc, w.ab, w.cel, fun p hp => by
  rcases List.mem_append.mp hp with q | q
  · exact w.pin p (List.mem_append_left _ q)
  · rcases List.mem_cons.mp q with rfl | q
    · exact h
    · exact w.pin p (List.mem_append_right _ q), w.fs⟩
theorem sk_end {pins : List (Addr × Obj)} {σ : St} {H : Hp} {s : Shared} {a kS : Addr} {e1 : Nat} {vs keys : List Value} {ns kz : List Int} {g : Int → Int} {P : PySem.Fin → Shared → Prop} {A : Around} {E' : Value → Shared → Prop} {en : Nat}
    (I : Inv X ((kS, seqObj "list" keys.toArray en) :: (a, seqObj "list" #[] e1) :: pins) σ H s) (hk : kS ≠ a) (Hk : H kS = none) (Ha : H a = none) (wa : Aw X pins a) (wk : Aw X pins kS)
    (hz : IntsAre keys kz) (hv : IntsAre vs ns) (hg : kz = ns.map g) (h64 : ns.length < 64)
    (h : ∀ (s' : Shared) (ns' : List Int), ns'.Perm ns → ns'.Pairwise (fun x y => g x ≤ g y) → Inv X pins σ (upd H a (.lst (ns'.map V.int))) s' → P (.done (.ret .none)) s') :
    wpAny (model X.prog X.w) A (ksk_end a false vs.toArray e1 (.ref kS) keys.toArray) P E' s := by
  have lv := hv.length
  have lk := hz.length
  have lg : kz.length = ns.length := by rw [hg, List.length_map]
  have hsz : keys.toArray.size = vs.length := by rw [List.size_toArray]; omega
  have hzs : (keys.toArray.zip vs.toArray).size = vs.length := by rw [Array.size_zip, hsz, List.size_toArray, Nat.min_self]
  have hz' : IntsAre keys.toArray.toList kz := by simpa using hz
  have ok : s.heap.get? kS = some (seqObj "list" keys.toArray en) := (I.pin (kS, _) (List.mem_append_right _ (.head _))).1
  have fin : ∀ st : SortSt, (arrOf st).Perm (keys.toArray.zip vs.toArray) → SortedTo (arrOf st) (arrOf st).size → failedOf st = none → wpAny (model X.prog X.w) A (ksk_tail a false e1 (.ref kS) st) P E' s := by
    intro st hp hs hf
    have hsz2 : (arrOf st).size = vs.length := by rw [hp.size_eq, hzs]
    obtain ⟨ps, h1, h2, h3⟩ := ksk_out (b := false) hz' hp hs
    obtain ⟨n1, I1, _⟩ := Inv.repinL (fun _ => (#[] : Array Value)) I.unpin (wk.cons (Ne.symm hk)) Hk ok
    have oa1 : (s.heap.update kS (Obj.mapSeq fun _ => (#[] : Array Value))).get? a = some (seqObj "list" #[] e1) := (I1.pin (a, _) (List.mem_append_right _ (.head _))).1
    obtain ⟨n2, I2, oa2⟩ := Inv.repinL (s := { s with heap := s.heap.update kS (Obj.mapSeq fun _ => (#[] : Array Value)) }) (fun _ => (arrOf st).map (·.2)) I1.unpin wa Ha oa1
    unfold ksk_tail
    try dsimp only
    refine wpAny_bind (listUpdate_at ok rfl ?_ (by rw [hsz, sizeLine_eq]; omega) (Nat.zero_le _))
    refine wpAny_bind (wpAny_letGo ?_)
    refine wpAny_bind (seqEpoch_at oa1 rfl ?_)
    refine wpAny_bind (listUpdate_at oa1 rfl ?_ (Nat.zero_le _) (by simp only [Bool.false_eq_true, if_false, Array.size_map]; rw [hsz2, sizeLine_eq]; omega))
    rw [hf]
    simp only [bne_self_eq_false, Bool.false_eq_true, if_false]
    have hrel : ∀ p, p ∈ kz.zip vs → p.1 = g (numOf p.2) ∧ p.2 ∈ vs := by
      rw [hg, ← hv.nums, List.map_map, List.zip_map_left]
      intro p hp
      obtain ⟨⟨u, v⟩, hq, rfl⟩ := List.mem_map.mp hp
      have h1 : u = v ∧ u ∈ vs := mem_zip_self hq
      refine ⟨?_, ?_⟩
      · show g (numOf u) = g (numOf v)
        rw [h1.1]
      · show v ∈ vs
        rw [← h1.1]
        exact h1.2
    have hI : IntsAre (ps.map Prod.snd) ((ps.map Prod.snd).map numOf) := intsAre_map _ fun v hv' => by
      obtain ⟨p, hp', rfl⟩ := List.mem_map.mp hv'
      exact hv.all _ (hrel p (h1.mem_iff.mp hp')).2
    have hP : ((ps.map Prod.snd).map numOf).Perm ns := by
      have h1' := (h1.map Prod.snd).map numOf
      rw [List.map_snd_zip (by omega), hv.nums] at h1'
      exact h1'
    have hO : ((ps.map Prod.snd).map numOf).Pairwise (fun x y => g x ≤ g y) := by
      rw [List.pairwise_map, List.pairwise_map]
      refine h3.imp_of_mem fun {p q} hp' hq' hr => ?_
      have hr' : p.1 ≤ q.1 := hr
      rw [(hrel p (h1.mem_iff.mp hp')).1, (hrel q (h1.mem_iff.mp hq')).1] at hr'
      exact hr'
    rw [← h2] at hI hP hO
    simp only [Bool.false_eq_true, if_false] at hI hP hO
    refine wpAny_pure (h _ _ hP hO ?_)
    exact I2.adopt (its := ((arrOf st).map (·.2)).toList) (n := n2) wa Ha (of_intsAre hI) (by rw [List.length_map, hP.length_eq, sizeLine_eq]; omega) (by rw [Array.toArray_toList]; exact oa2)
  unfold ksk_end
  try dsimp only
  simp only [Bool.false_eq_true, if_false]
  by_cases h2 : vs.toArray.size < 2
  · rw [if_pos h2, if_pos h2]
    refine wpAny_bind (wpAny_pure ?_)
    rw [StateT.run_pure]
    refine wpAny_bind (wpAny_pure ?_)
    try dsimp only
    refine fin (SortSt.mk' general' (keys.toArray.zip vs.toArray) #[] 7 none) (Array.Perm.refl _) ?_ rfl
    intro i j hij hj
    have hj2 : j < (keys.toArray.zip vs.toArray).size := hj
    rw [hzs] at hj2
    rw [List.size_toArray] at h2
    have : i = j := by omega
    subst this
    exact Int.le_refl _
  · rw [if_neg h2, if_neg h2]
    rw [List.size_toArray] at h2
    rw [ksk_kind hz' (by rw [hsz]; omega)]
    refine wpAny_bind (wpAny_pure ?_)
    refine wpAny_bind (wpAny_mono (wpS_sortRuns (a₀ := keys.toArray.zip vs.toArray) (st := SortSt.mk' oneType' (keys.toArray.zip vs.toArray) #[] 7 none)
      (Q := fun _ st' => (arrOf st').Perm (keys.toArray.zip vs.toArray) ∧ failedOf st' = none ∧ SortedTo (arrOf st') (keys.toArray.zip vs.toArray).size)
      (ksk_intKeys hz') ⟨Array.Perm.refl _, rfl, rfl, rfl⟩ (by rw [hzs]; omega) (by rw [hzs]; omega) fun st' a1 a2 a3 => ⟨a1, a2, a3⟩) ?_ fun _ _ e => e)
    rintro ⟨⟨⟩, st'⟩ s' ⟨rfl, hp, hf, hs⟩
    try dsimp only
    exact fin _ hp (by rw [hp.size_eq]; exact hs) hf
def tSortKey (K : PySem.W.Frag) (sp : Sp) (E : XK) (g : Int → Int) (t : TA) : TE := fun σ H Q => t σ H fun vs H1 => ∃ (p : Addr) (ns : List Int), vs = [.ref p] ∧ SqL K H1 p (ns.map V.int) ∧ ns.length < 64 ∧
  (∀ n ∈ ns, ∀ H (Q : VK), Q (.int (g n)) H → sp [.int n] H Q E) ∧ ∀ (r : Addr) (ns' : List Int), H1 r = none → ns'.Perm ns → ns'.Pairwise (fun x y => g x ≤ g y) → Q (.ref r) (upd H1 r (.lst (ns'.map V.int)))
theorem pe_sortKey {e : Expr} {t : TA} {p pos kp cp : Pos} {x : Str} {g : Int → Int} (F : FnOk X.prog X.w X.K X.mg X.base CX0 k f fd ps sp) (hr : Room (k + 2) X.A) (hb : Binds X.K fd ps []) (hg : Gl X "sorted") (hm : X.mg "sorted" = none) (hgx : Gl X x) (hmx : X.mg x = some (.ref f)) (ha : PA X [e] t)
    (hdb : (x == ("__debug__" : Str)) = false := by decide)
    (he : backTo pos (starEach [e] X.env) = (false, eval e X.env) :: backTo pos (starEach [] X.env) := by rfl)
    (hplain : (backTo pos (starEach [e] X.env)).any (·.1) = false := by rfl) : PE X (.Call (.Name "sorted" p) [e] [⟨some "key", .Name x cp, kp⟩] pos) (tSortKey X.K sp E g t) := by
  intro pins s σ H Q I h
  refine wpAny_Call_Name_kw (ld_blt I hg hm (by decide +kernel : bootBuiltins "sorted" = some (.builtin "sorted")) ?_ (by decide) (by decide))
  refine PyProof.Rows.callWith_kw (thn (ha pos pins s σ H _ I h) fun us s1 ⟨vs, H1, I1, r1, q1⟩ => ?_) he hplain
  obtain ⟨l, ns, rfl, hq, h64, hf, q⟩ := q1
  obtain ⟨u, rfl, rx⟩ := vals1 r1
  cases rx
  refine PyProof.Rows.kws_cons (ld_glob I1 hgx hmx (PyProof.Rows.kws_nil ?_) hdb)
  show wpAny _ _ (call (.builtin "sorted") [.ref l] [(Str.ofString "key", .ref f)]) _ _ _
  obtain ⟨its, rv, pl, hz⟩ := I1.list hq
  have hi := intsAre_ofV rv
  have hl := hi.length
  refine call_function_entry_kw kind_sorted plain_sorted entry_sorted (ksk_s1 _ _) ?_
  unfold Builtin.«sorted»
  refine wpAny_bind (m := checkCount "sorted" 1 1 _) (wpAny_pure ?_)
  refine wpAny_bind (collect_list pl.isList ?_ (by rw [sizeLine_eq]; omega))
  refine wpAny_bind (wpAny_newList ?_ (by rw [sizeLine_eq]; omega))
  have hsz : ((s1.heap.push (seqObj "list" #[] 0)).update s1.heap.objs.size (Obj.mapSeq (· ++ its.toArray))).objs.size = s1.heap.objs.size + 1 := by
    rw [Heap.size_update, size_push']
  have keep : ∀ b o, s1.heap.get? b = some o → ((s1.heap.push (seqObj "list" #[] 0)).update s1.heap.objs.size (Obj.mapSeq (· ++ its.toArray))).get? b = some o := fun b o q => by
    have hlt : b < s1.heap.objs.size := Heap.lt_size q
    rw [Heap.get?_update_ne _ _ _ _ (Nat.ne_of_lt hlt), Heap.get?_push_ne _ _ _ (Nat.ne_of_lt hlt)]
    exact q
  have hoL : (((s1.heap.push (seqObj "list" #[] 0)).update s1.heap.objs.size (Obj.mapSeq (· ++ its.toArray))).push (seqObj "list" its.toArray 0)).get? (s1.heap.objs.size + 1) = some (seqObj "list" its.toArray 0) := by
    rw [← hsz]; exact Heap.get?_push_size _ rfl
  have I2 : Inv X pins σ H1 { s1 with heap := ((s1.heap.push (seqObj "list" #[] 0)).update s1.heap.objs.size (Obj.mapSeq (· ++ its.toArray))).push (seqObj "list" its.toArray 0) } :=
    I1.kept (t' := s1.toks) fun b o q => Heap.get?_push_of_some _ (keep b o q)
  show wpAny _ _ _ _ _ { s1 with heap := ((s1.heap.push (seqObj "list" #[] 0)).update s1.heap.objs.size (Obj.mapSeq (· ++ its.toArray))).push (seqObj "list" its.toArray 0) }
  rw [hsz]
  have nA : H1 (s1.heap.objs.size + 1) = none := I1.hok.fresh (Nat.le_succ _)
  have wA : Aw X pins (s1.heap.objs.size + 1) := I1.aw (Nat.le_succ _)
  generalize s1.heap.objs.size + 1 = a at hoL nA wA
  generalize hS : ({ s1 with heap := ((s1.heap.push (seqObj "list" #[] 0)).update s1.heap.objs.size (Obj.mapSeq (· ++ its.toArray))).push (seqObj "list" its.toArray 0) } : Shared) = s2 at I2
  have ho2 : s2.heap.get? a = some (seqObj "list" its.toArray 0) := by rw [← hS]; exact hoL
  clear hoL hS
  refine wpAny_bind (wpAny_holding (wpAny_call_entry_kw slot_list_sort ⟨_, ho2, rfl⟩ entry_list_sort ?body (ksk_l1 _ _)))
  show wpAny (model X.prog X.w) X.A.in1.in1 (Builtin.«list.sort» ⟨[.ref a], [(Str.ofString "key", .ref f)]⟩) _ _ _
  rw [ksk_t1]
  unfold ksk_tree
  have hi0 : its.length < 64 := by omega
  refine wpAny_bind (listItems_at ho2 rfl ?_)
  refine wpAny_bind (listUpdate_at ho2 rfl ?_ (by rw [List.size_toArray, sizeLine_eq]; omega) (Nat.zero_le _))
  obtain ⟨e1, I3, ho3⟩ := I2.repinL (fun _ => #[]) wA nA ho2
  refine wpAny_bind (seqEpoch_at ho3 rfl ?_)
  refine wpAny_bind (wpAny_newTuple ?_ (by show its.length ≤ _; rw [sizeLine_eq]; omega))
  refine wpAny_bind (wpAny_newList ?_ (Nat.zero_le _))
  refine wpAny_holding ?_
  have I4 : Inv X pins σ H1 { s2 with heap := ((s2.heap.update a (Obj.mapSeq fun _ => (#[] : Array Value))).push (seqObj "tuple" its.toArray 0)) } := I3.kept (t' := s2.toks) fun b o q => Heap.get?_push_of_some _ q
  have nK := I4.fresh
  have wK := I4.aw (Nat.le_refl _)
  have ho4 : ((s2.heap.update a (Obj.mapSeq fun _ => (#[] : Array Value))).push (seqObj "tuple" its.toArray 0)).get? a = some (seqObj "list" #[] e1) := Heap.get?_push_of_some _ ho3
  have nka : ((s2.heap.update a (Obj.mapSeq fun _ => (#[] : Array Value))).push (seqObj "tuple" its.toArray 0)).objs.size ≠ a := Nat.ne_of_gt (Heap.lt_size ho4)
  have I5 : Inv X pins σ H1 { s2 with heap := ((s2.heap.update a (Obj.mapSeq fun _ => (#[] : Array Value))).push (seqObj "tuple" its.toArray 0)).push (seqObj "list" #[] 0) } := I4.kept (t' := s2.toks) fun b o q => Heap.get?_push_of_some _ q
  have ho5 : (((s2.heap.update a (Obj.mapSeq fun _ => (#[] : Array Value))).push (seqObj "tuple" its.toArray 0)).push (seqObj "list" #[] 0)).get? a = some (seqObj "list" #[] e1) := Heap.get?_push_of_some _ ho4
  have hk5 : (((s2.heap.update a (Obj.mapSeq fun _ => (#[] : Array Value))).push (seqObj "tuple" its.toArray 0)).push (seqObj "list" #[] 0)).get? ((s2.heap.update a (Obj.mapSeq fun _ => (#[] : Array Value))).push (seqObj "tuple" its.toArray 0)).objs.size = some (seqObj "list" #[] 0) := Heap.get?_push_size _ rfl
  show wpAny _ _ (ksk_rest a (.ref f) false its.toArray e1 (.ref ((s2.heap.update a (Obj.mapSeq fun _ => (#[] : Array Value))).push (seqObj "tuple" its.toArray 0)).objs.size)) _ _ { s2 with heap := ((s2.heap.update a (Obj.mapSeq fun _ => (#[] : Array Value))).push (seqObj "tuple" its.toArray 0)).push (seqObj "list" #[] 0) }
  change H1 ((s2.heap.update a (Obj.mapSeq fun _ => (#[] : Array Value))).push (seqObj "tuple" its.toArray 0)).objs.size = none at nK
  change Aw X pins ((s2.heap.update a (Obj.mapSeq fun _ => (#[] : Array Value))).push (seqObj "tuple" its.toArray 0)).objs.size at wK
  have I6 := (I5.pinL wA nA ho5).pinL (wK.cons (Ne.symm nka)) nK hk5
  generalize ((s2.heap.update a (Obj.mapSeq fun _ => (#[] : Array Value))).push (seqObj "tuple" its.toArray 0)).objs.size = kS at nK wK nka I6 ⊢
  generalize ({ s2 with heap := ((s2.heap.update a (Obj.mapSeq fun _ => (#[] : Array Value))).push (seqObj "tuple" its.toArray 0)).push (seqObj "list" #[] 0) } : Shared) = s6 at I6 ⊢
  unfold ksk_rest
  refine wpAny_bind (wpAny_rule ?_)
  first
    | rw [List.forIn_toArray]
    | (rw [← Array.forIn_toList]; simp only [List.toList_toArray])
    | rw [← Array.forIn_toList]
  refine wpAny_bind (ksk_fold (fun i s' => ∃ (kA : List Value) (e : Nat), Inv X ((kS, seqObj "list" kA.toArray e) :: (a, seqObj "list" #[] e1) :: pins) σ H1 s' ∧ IntsAre kA ((ns.map g).take i)) its 0 s6 ⟨[], 0, I6, by simpa using IntsAre.nil⟩ ?step ?done)
  case step =>
    rintro j x s' hx ⟨kA, e, I', hk⟩
    simp only [Nat.zero_add] at hk ⊢
    have hj : j < its.length := (List.getElem?_eq_some_iff.mp hx).1
    have hjn : j < ns.length := by omega
    obtain ⟨t, ht⟩ := hi.get j ns[j] (List.getElem?_eq_getElem hjn)
    rw [hx] at ht
    cases ht
    have hz : kA.length ≤ its.length := by
      have h1 := hk.length
      rw [List.length_take, List.length_map] at h1
      omega
    refine wpAny_bind (wpAny_attempt (wpAny_mono (run_fn2 (E := E) (vs := [.int ns[j]]) (Q := fun v H => v = .int (g ns[j]) ∧ H = H1) F hr hb I' (.cons ⟨t, rfl⟩ .nil) (hf ns[j] (List.getElem_mem hjn) H1 _ ⟨rfl, rfl⟩)) (fun v s'' he => ?_) fun _ _ (hF : False) => hF.elim))
    obtain ⟨w, H', I8, rw', rfl, e8⟩ := he
    rw [e8] at I8
    obtain ⟨t2, rfl⟩ := rw'
    try dsimp only
    have ok2 : s''.heap.get? kS = some (seqObj "list" kA.toArray e) := (I8.pin (kS, _) (List.mem_append_right _ (.head _))).1
    obtain ⟨n3, I3, ok3⟩ := I8.unpin.repinL (·.push (.int (g ns[j]) t2)) (wK.cons (Ne.symm nka)) nK ok2
    have ek : (ns.map g).take (j + 1) = (ns.map g).take j ++ [g ns[j]] := by rw [List.take_add_one, List.getElem?_map, List.getElem?_eq_getElem hjn]; simp
    refine wpAny_bind (listUpdate_at ok2 rfl ?_ (by rw [List.size_toArray, sizeLine_eq]; omega) (Nat.le_trans (Nat.le_of_eq (Array.size_push ..)) (by rw [List.size_toArray, sizeLine_eq]; omega)))
    have ea : kA.toArray.push (Value.int (g ns[j]) t2) = (kA ++ [Value.int (g ns[j]) t2]).toArray := by simp
    rw [ea] at ok3
    exact wpAny_pure ⟨rfl, kA ++ [.int (g ns[j]) t2], n3, I3.pinL (wK.cons (Ne.symm nka)) nK ok3, by rw [ek]; exact ksk_snoc hk⟩
  case done =>
    rintro s' ⟨kA, e, I', hk⟩
    have hk' : IntsAre kA (ns.map g) := by
      have e3 : (ns.map g).take (0 + its.length) = ns.map g := List.take_of_length_le (by rw [List.length_map]; omega)
      rw [e3] at hk
      exact hk
    have ok2 : s'.heap.get? kS = some (seqObj "list" kA.toArray e) := (I'.pin (kS, _) (List.mem_append_right _ (.head _))).1
    try dsimp only
    refine wpAny_bind (listItems_at ok2 rfl ?_)
    refine sk_end (g := g) I' nka nK nA wA wK hk' hi rfl h64 fun s7 ns' hp ho I7 => ⟨_, rfl, ?_⟩
    exact wpAny_pure ⟨_, rfl, ⟨.ref a, _, I7, rfl, q a ns' nA hp ho⟩⟩
end
end L2
namespace L2
open PySem PySem.Spec PyProof.Rows
def SetI (P : Program) (w : World) (a : Addr) (n : Nat) : HO := .ext fun h => ∃ S, h.SetOf (intKind P w) a S n
section
variable {X : Cx}
theorem call_setI (hc : X.calm = true) : CallR X (.type "set") (fun xs H Q => ∃ (p : Addr) (ns : List Int), xs = [.ref p] ∧ SqL X.K H p (ns.map V.int) ∧ ns.length < 1000 ∧ ∀ (r : Addr) (n : Nat), H r = none → n ≤ ns.length → Q (.ref r) (upd H r (SetI X.prog X.w r n))) := by
  intro pins s σ H xs us Q I r h
  obtain ⟨p, ns, rfl, hq, hl, q⟩ := h
  obtain ⟨u, rfl, rx⟩ := vals1 r
  cases rx
  obtain ⟨its, rv, pl, hz⟩ := I.list hq
  have hi := intsAre_ofV rv
  have hlen := hi.length
  refine call_set_list (I.ok.hd hc) pl.isList (by simpa using hi) (by have : scanBound = 4096 := rfl; simp; omega) fun h' tk hS hk => ?_
  have hle := firstMet_length_le (fun i => ns.getD i 0) its.toArray.size
  have hle2 : (firstMet (fun i => ns.getD i 0) its.toArray.size).length ≤ ns.length := by rw [List.size_toArray] at hle ⊢; omega
  refine ⟨.ref s.heap.objs.size, _, I.laid (t' := tk) (a := s.heap.objs.size) (o := SetI X.prog X.w s.heap.objs.size _) (fun b o e => hk b o (Heap.lt_size e) e) (Nat.le_refl _) ⟨⟨_, hS⟩, ?_, fun h1 h2 z k => ?_⟩, rfl, q _ _ (I.hok.fresh (Nat.le_refl _)) hle2⟩
  · obtain ⟨o, es, ep, t, ho, _⟩ := hS
    exact ⟨_, ho⟩
  · obtain ⟨S, o, es, ep, t, ho, rest⟩ := z
    exact ⟨S, o, es, ep, t, k o ho, rest⟩
theorem call_lenSI : CallR X (.builtin "len") (fun xs H Q => ∃ (p : Addr) (n : Nat), xs = [.ref p] ∧ H p = some (SetI X.prog X.w p n) ∧ n < 1000 ∧ Q (.int (n : Nat)) H) := by
  intro pins s σ H xs us Q I r h
  obtain ⟨p, n, rfl, hp, hn, q⟩ := h
  obtain ⟨u, rfl, rx⟩ := vals1 r
  cases rx
  obtain ⟨⟨S, hS⟩, _⟩ := I.hok p _ hp
  obtain ⟨o, ho, hso⟩ := hS.objOf
  obtain ⟨hex, es, ep, t, hd, _, _, hn', hf⟩ := hso
  subst hn'
  exact call_len_set ho hex hd hf (by omega) ⟨.int _, H, I.tok _, ⟨_, rfl⟩, q⟩
end
end L2
namespace L2
open PySem PySem.Spec PyProof.Rows
section
variable {X : Cx} {e st : Expr} {te ts : TE} {p2 pos : Pos}
end
end L2
namespace L2
open PySem PySem.Spec PyProof.Rows
def Ris (xs : Array Nat) : Prop := xs.toList.Pairwise (· < ·)
theorem Ris.lt {xs : Array Nat} (h : Ris xs) {i j : Nat} (hij : i < j) (hj : j < xs.size) : xs.getD i 0 < xs.getD j 0 := by
  have hi : i < xs.size := by omega
  have e := List.pairwise_iff_getElem.mp h i j (by simpa using hi) (by simpa using hj) hij
  simp only [Array.getElem_toList] at e
  rw [Array.getD_eq_getD_getElem?, Array.getD_eq_getD_getElem?, Array.getElem?_eq_getElem hi, Array.getElem?_eq_getElem hj]
  exact e
theorem getD_an {xs : Array Nat} {i : Nat} (hi : i < xs.size) (a b : Nat) : xs.getD i a = xs.getD i b := by
  rw [Array.getD_eq_getD_getElem?, Array.getD_eq_getD_getElem?, Array.getElem?_eq_getElem hi]; rfl
theorem below_go {xs : Array Nat} (hr : Ris xs) (j : Nat) : ∀ fuel lo hi, hi ≤ xs.size → hi - lo ≤ fuel → lo ≤ hi → (∀ i, i < lo → xs.getD i 0 < j) → (∀ i, hi ≤ i → i < xs.size → j ≤ xs.getD i 0) →
    SetTable.below.go xs j fuel lo hi ≤ xs.size ∧ (∀ i, i < SetTable.below.go xs j fuel lo hi → xs.getD i 0 < j) ∧ ∀ i, SetTable.below.go xs j fuel lo hi ≤ i → i < xs.size → j ≤ xs.getD i 0
  | 0, lo, hi, h1, h2, h3, a, b => by
    have e : lo = hi := by omega
    subst e
    exact ⟨h1, a, b⟩
  | fuel + 1, lo, hi, h1, h2, h3, a, b => by
    unfold SetTable.below.go
    by_cases c : lo < hi
    · rw [if_pos c]
      dsimp only
      have hm : (lo + hi) / 2 < xs.size := by omega
      rw [getD_an hm j 0]
      by_cases d : xs.getD ((lo + hi) / 2) 0 < j
      · rw [if_pos d]
        refine below_go hr j fuel _ hi h1 (by omega) (by omega) (fun i hi' => ?_) b
        rcases Nat.lt_or_ge i ((lo + hi) / 2) with z | z
        · exact Nat.lt_trans (hr.lt z hm) d
        · have : i = (lo + hi) / 2 := by omega
          rw [this]; exact d
      · rw [if_neg d]
        refine below_go hr j fuel lo _ (by omega) (by omega) (by omega) a fun i hi' hs => ?_
        rcases Nat.lt_or_ge ((lo + hi) / 2) i with z | z
        · exact Nat.le_trans (Nat.le_of_not_lt d) (Nat.le_of_lt (hr.lt z hs))
        · have : i = (lo + hi) / 2 := by omega
          rw [this]; exact Nat.le_of_not_lt d
    · rw [if_neg c]
      have e : lo = hi := by omega
      subst e
      exact ⟨h1, a, b⟩
theorem below_spec {xs : Array Nat} (hr : Ris xs) (j : Nat) : SetTable.below xs j ≤ xs.size ∧ (∀ i, i < SetTable.below xs j → xs.getD i 0 < j) ∧ ∀ i, SetTable.below xs j ≤ i → i < xs.size → j ≤ xs.getD i 0 :=
  below_go hr j xs.size 0 xs.size (Nat.le_refl _) (by omega) (Nat.zero_le _) (fun i h => absurd h (Nat.not_lt_zero _)) fun i h1 h2 => by omega
theorem below_zero {xs : Array Nat} (hr : Ris xs) : SetTable.below xs 0 = 0 := by
  obtain ⟨_, a, _⟩ := below_spec hr 0
  rcases Nat.eq_zero_or_pos (SetTable.below xs 0) with z | z
  · exact z
  · exact absurd (a 0 z) (Nat.not_lt_zero _)
theorem below_next {xs : Array Nat} (hr : Ris xs) {i : Nat} (hi : i < xs.size) : SetTable.below xs (xs.getD i 0 + 1) = i + 1 := by
  obtain ⟨p, a, b⟩ := below_spec hr (xs.getD i 0 + 1)
  rcases Nat.lt_trichotomy (SetTable.below xs (xs.getD i 0 + 1)) (i + 1) with z | z | z
  · have := b i (by omega) hi; omega
  · exact z
  · have h1 := a (i + 1) z
    have h2 := hr.lt (show i < i + 1 by omega) (show i + 1 < xs.size by omega)
    omega
theorem Ris.put {xs : Array Nat} (hr : Ris xs) {j : Nat} (n : xs[SetTable.below xs j]? ≠ some j) : Ris (SetTable.insertAt xs (SetTable.below xs j) j) := by
  obtain ⟨p, a, b⟩ := below_spec hr j
  generalize SetTable.below xs j = k at *
  unfold Ris
  rw [SetTable.toList_insertAt]
  have gx : ∀ i, i < xs.size → xs.toList[i]? = some (xs.getD i 0) := fun i hi => by
    rw [Array.getElem?_toList, Array.getD_eq_getD_getElem?, Array.getElem?_eq_getElem hi]; rfl
  have dr : ∀ y ∈ xs.toList.drop k, j < y := fun y hy => by
    obtain ⟨i, hi⟩ := List.mem_iff_getElem?.mp hy
    rw [List.getElem?_drop] at hi
    have hl : k + i < xs.size := by
      have := (List.getElem?_eq_some_iff.mp hi).1
      simpa using this
    rw [gx _ hl] at hi
    have e := Option.some.inj hi
    have h1 := b (k + i) (Nat.le_add_right _ _) hl
    rcases Nat.eq_zero_or_pos i with z | z
    · subst z
      rcases Nat.lt_or_ge j y with q | q
      · exact q
      · exfalso
        refine n ?_
        have hk : k < xs.size := by omega
        have := gx k hk
        rw [Array.getElem?_toList] at this
        rw [this]
        have e2 : xs.getD (k + 0) 0 = xs.getD k 0 := rfl
        exact congrArg some (by omega)
    · have := hr.lt (show k < k + i by omega) hl
      have := b k (Nat.le_refl _) (by omega)
      omega
  have tk : ∀ y ∈ xs.toList.take k, y < j := fun y hy => by
    obtain ⟨i, hi⟩ := List.mem_iff_getElem?.mp hy
    rw [List.getElem?_take] at hi
    by_cases c : i < k
    · rw [if_pos c] at hi
      rw [gx _ (by omega)] at hi
      have e := Option.some.inj hi
      have := a i c
      omega
    · rw [if_neg c] at hi; cases hi
  refine List.pairwise_append.mpr ⟨hr.sublist (List.take_sublist _ _), List.pairwise_cons.mpr ⟨dr, hr.sublist (List.drop_sublist _ _)⟩, fun x hx y hy => ?_⟩
  rcases List.mem_cons.mp hy with rfl | hy
  · exact tk x hx
  · exact Nat.lt_trans (tk x hx) (dr y hy)
theorem Ris.range (n : Nat) : Ris (Array.range n) := by
  unfold Ris
  rw [Array.toList_range]
  exact List.pairwise_lt_range
theorem Ris.stand {t : SetTable} {n : Nat} (h : Ris t.place) : Ris (t.orStandIn n).place := by
  unfold SetTable.orStandIn
  split
  · exact h
  · exact Ris.range n
theorem advance_dummy (t : SetTable) (p : SetTable.Probe) : (t.advance p).dummy = p.dummy := by
  unfold SetTable.advance
  split <;> rfl
theorem probe_free {t : SetTable} {f : Nat → Int} {h : Int} {j : Nat} {dm : Option Nat} : ∀ (fuel : Nat) (p : SetTable.Probe), (∀ d, p.dummy = some d → t.slot d = .dummy) → SetTable.probe.go t f h fuel p = some (.empty j dm) → t.slot j = .empty ∧ ∀ d, dm = some d → t.slot d = .dummy
  | 0, p, _, e => by cases e
  | fuel + 1, p, hd, e => by
    unfold SetTable.probe.go at e
    cases hs : t.slot p.j with
    | empty =>
      rw [hs] at e
      injection e with e
      injection e with e1 e2
      subst e1 e2
      exact ⟨hs, hd⟩
    | dummy =>
      rw [hs] at e
      refine probe_free fuel _ (fun d q => ?_) e
      rw [advance_dummy] at q
      have q' : p.j = d := Option.some.inj q
      rw [← q']; exact hs
    | live i =>
      rw [hs] at e
      dsimp only at e
      split at e
      · cases e
      · refine probe_free fuel _ (fun d q => ?_) e
        rw [advance_dummy] at q
        exact hd d q
theorem slot_not {t : SetTable} {j : Nat} (h : ∀ i, t.slot j ≠ .live i) : t.place[SetTable.below t.place j]? ≠ some j := fun e => by
  refine h (SetTable.below t.place j) ?_
  unfold SetTable.slot
  dsimp only
  rw [if_pos (by rw [e]; exact beq_self_eq_true _)]
theorem free_not {t : SetTable} {h : Int} {j : Nat} {b : Bool} (e : t.freeSlot h = some (j, b)) : t.place[SetTable.below t.place j]? ≠ some j := by
  unfold SetTable.freeSlot at e
  split at e
  · rename_i k dm q
    obtain ⟨a1, a2⟩ := probe_free _ _ (fun d z => by cases z) q
    injection e with e
    injection e with e1 e2
    cases dm with
    | none =>
      have : k = j := e1
      subst this
      exact slot_not fun i z => by rw [a1] at z; cases z
    | some d =>
      have : d = j := e1
      subst this
      exact slot_not fun i z => by rw [a2 d rfl] at z; cases z
  · cases e
theorem laynew_ris {t : SetTable} (hr : Ris t.place) (es : Array (Int × Value)) (h : Int) (x : Value) : Ris (layNew t es h x).2.1.place := by
  unfold layNew
  split
  · rename_i sl wd q
    exact Ris.stand (hr.put (free_not q))
  · exact Ris.range _
theorem relay_ris {t : SetTable} (es : Array (Int × Value)) (k : Nat) : Ris (relayAll t es k).2.1.place := by
  unfold relayAll
  split
  · rename_i u order e
    have eu : Ris u.place := by
      unfold SetTable.relaid SetTable.laid at e
      cases hc : SetTable.layClean (SetTable.sizeAbove k - 1) (es.map (·.1)) with
      | none => rw [hc] at e; cases e
      | some o =>
        rw [hc] at e
        injection e with e
        injection e with e1 e2
        rw [← e1]
        unfold Ris
        dsimp only
        rw [List.pairwise_map]
        refine List.pairwise_filterMap.mpr (List.pairwise_lt_range.imp fun {a b} lt c hc d hd => ?_)
        cases oa : o.getD a none with
        | none => rw [oa] at hc; cases hc
        | some va =>
          cases ob : o.getD b none with
          | none => rw [ob] at hd; cases hd
          | some vb =>
            rw [oa] at hc
            rw [ob] at hd
            cases hc
            cases hd
            exact lt
    dsimp only
    split
    · exact eu
    · exact Ris.range _
  · exact Ris.range _
def IntSet (P : Program) (w : World) (h : Heap) (a : Addr) (ss : List Int) : Prop :=
  ∃ (es : Array (Int × Value)) (ep : Nat) (t : SetTable), h.get? a = some { cls := .type "set", dict := none, data := .set es ep t, slots := #[] } ∧ ElemsOf (PySem.intKind P w) es.toList ∧
    IntsAre (es.toList.map (·.2)) ss ∧ es.size < scanBound ∧ t.fits es.size = true ∧ t.led = !w.params.followText "set-order" ∧ Ris t.place
theorem ints_mem {x : Int} : ∀ {vs : List Value} {ss : List Int}, IntsAre vs ss → ((∃ v ∈ vs, Value.isInt x v = true) ↔ x ∈ ss)
  | _, _, .nil => by simp
  | _, _, .cons y t r => by
    have ih := ints_mem (x := x) r
    have hy : Value.isInt x (.int y t) = true ↔ x = y := by
      constructor
      · intro h
        obtain ⟨u, e⟩ := Value.isInt_shape h
        cases e; rfl
      · rintro rfl; simp [Value.isInt]
    constructor
    · rintro ⟨v, hv, hp⟩
      rcases List.mem_cons.mp hv with rfl | hv
      · rw [hy.mp hp]; exact List.mem_cons_self
      · exact List.mem_cons_of_mem _ (ih.mp ⟨v, hv, hp⟩)
    · intro h
      rcases List.mem_cons.mp h with h | h
      · exact ⟨_, List.mem_cons_self, hy.mpr h⟩
      · obtain ⟨v, hv, hp⟩ := ih.mpr h
        exact ⟨v, List.mem_cons_of_mem _ hv, hp⟩
theorem ints_perm {es es1 : List (Int × Value)} {ss : List Int} {k : Int} {x : Int} {t : Tok} (hS : IntsAre (es.map (·.2)) ss) (p : es1.Perm (es ++ [(k, .int x t)])) : ∃ ss1, IntsAre (es1.map (·.2)) ss1 ∧ ss1.Perm (ss ++ [x]) := by
  have hall : ∀ v, v ∈ es1.map (·.2) → ∃ y u, v = .int y u := by
    intro v hv
    obtain ⟨e, he, rfl⟩ := List.mem_map.mp hv
    rcases List.mem_append.mp (p.mem_iff.mp he) with z | z
    · exact hS.all _ (List.mem_map_of_mem z)
    · rw [List.mem_singleton] at z; subst z; exact ⟨x, t, rfl⟩
  refine ⟨_, intsAre_map _ hall, ?_⟩
  have q := (p.map (·.2)).map numOf
  rw [List.map_append, List.map_append, hS.nums] at q
  exact q
theorem ints_perm' {es es1 : List (Int × Value)} {ss : List Int} (hS : IntsAre (es.map (·.2)) ss) (p : es1.Perm es) : ∃ ss1, IntsAre (es1.map (·.2)) ss1 ∧ ss1.Perm ss := by
  have hall : ∀ v, v ∈ es1.map (·.2) → ∃ y u, v = .int y u := by
    intro v hv
    obtain ⟨e, he, rfl⟩ := List.mem_map.mp hv
    exact hS.all _ (List.mem_map_of_mem (p.mem_iff.mp he))
  refine ⟨_, intsAre_map _ hall, ?_⟩
  have q := (p.map (·.2)).map numOf
  rw [hS.nums] at q
  exact q
section
variable {P : Program} {w : World} {A : Around} {E : Value → Shared → Prop} {s : Shared} {a : Addr} {ss : List Int}
theorem iset_store {es es' : Array (Int × Value)} {ep : Nat} {t t' : SetTable} (ho : s.heap.get? a = some { cls := .type "set", dict := none, data := .set es ep t, slots := #[] }) :
    (s.heap.update a (Obj.putSet es' t')).get? a = some { cls := .type "set", dict := none, data := .set es' (ep + 1) t', slots := #[] } := by
  have q := Heap.get?_update_self (Obj.putSet es' t') ho (by rw [putSet_of es' t' rfl]; rfl)
  rw [putSet_of es' t' rfl] at q
  exact q
theorem iset_tail {g : Bool → Sem Unit} (hg : ∀ (b : Bool) (s1 : Shared) (Q' : Unit → Shared → Prop), Q' () s1 → wpAny (model P w) A (g b) Q' E s1) {es es1 : Array (Int × Value)} {ep : Nat} {t t2 : SetTable} {ss1 : List Int}
    (ho : s.heap.get? a = some { cls := .type "set", dict := none, data := .set es ep t, slots := #[] }) (e1 : ElemsOf (PySem.intKind P w) es1.toList) (e2 : IntsAre (es1.toList.map (·.2)) ss1) (e3 : es1.size < scanBound) (e4 : t2.fits es1.size = true)
    (e5 : t2.led = !w.params.followText "set-order") (e6 : Ris t2.place) {wasD : Bool} {R : Option Bool → Shared → Prop} (h : ∀ h' ss', Heap.SameBut a s.heap h' → IntSet P w h' a ss' → ss'.Perm ss1 → R (some true) { s with heap := h' }) :
    wpAny (model P w) A (do
        storeSet a es1 t2
        if (!wasD && t2.tooFull) = true then do
            g (relayAll t2 es1 (SetTable.grown es1.size)).2.2
            storeSet a (relayAll t2 es1 (SetTable.grown es1.size)).1 (relayAll t2 es1 (SetTable.grown es1.size)).2.1
            pure (some true)
          else pure (some true)) R E s := by
  refine wpAny_bind (wpAny_storeSet_of ho rfl ?_ (fits_of_scanBound e3))
  have o1 : (s.heap.update a (Obj.putSet es1 t2)).get? a = _ := iset_store (s := s) ho
  have b1 := Heap.SameBut.update s.heap a (Obj.putSet es1 t2)
  split
  · have p := relayAll_perm t2 es1 (SetTable.grown es1.size)
    have f := relayAll_fits t2 es1 (SetTable.grown es1.size)
    have l := relay_led t2 es1 (SetTable.grown es1.size)
    have pl := relay_ris (t := t2) es1 (SetTable.grown es1.size)
    generalize relayAll t2 es1 (SetTable.grown es1.size) = Rl at p f l pl ⊢
    obtain ⟨es2, t3, gv⟩ := Rl
    dsimp only at p f l pl ⊢
    have z2 : es2.size = es1.size := by rw [← Array.length_toList, p.length_eq, Array.length_toList]
    obtain ⟨ss2, q1, q2⟩ := ints_perm' e2 p
    refine wpAny_bind (hg _ _ _ (wpAny_bind (wpAny_storeSet_of o1 rfl ?_ (fits_of_scanBound (by rw [z2]; exact e3)))))
    have o2 : ((s.heap.update a (Obj.putSet es1 t2)).update a (Obj.putSet es2 t3)).get? a = _ := iset_store (s := { s with heap := s.heap.update a (Obj.putSet es1 t2) }) o1
    exact wpAny_pure (h _ ss2 (b1.trans (Heap.SameBut.update _ a _)) ⟨es2, _, t3, o2, e1.perm p, q1, by rw [z2]; exact e3, f, l.trans e5, pl⟩ q2)
  · exact wpAny_pure (h _ ss1 b1 ⟨es1, _, t2, o1, e1, e2, e3, e4, e5, e6⟩ (List.Perm.refl _))
theorem iset_add {x : Int} {tk : Tok} {Q : Bool → Shared → Prop} (hS : IntSet P w s.heap a ss) (room : ss.length + 1 < scanBound)
    (h : ∀ h' ss', Heap.SameBut a s.heap h' → IntSet P w h' a ss' → (if x ∈ ss then ss' = ss else ss'.Perm (ss ++ [x])) → Q (!decide (x ∈ ss)) { s with heap := h' }) :
    wpAny (model P w) A (setAddHashed a (.int x tk) ((PySem.intKind P w).hash x)) Q E s := by
  obtain ⟨es, ep, t, ho, e1, e2, e3, e4, e5, e6⟩ := hS
  have hk : (PySem.intKind P w).is x (.int x tk) = true := intKind_is P w x tk
  have hsc : Value.scannable (.int x tk) = true := rfl
  have hz : ss.length = es.size := by rw [← e2.nums, List.length_map, List.length_map, Array.length_toList]
  unfold setAddHashed setAddHashedIn
  refine wpAny_holding (wpAny_bind (wpAny_setState_of ho rfl e4 ?_))
  dsimp only
  rw [byScan_of hsc e3 e1, if_pos rfl]
  unfold setAddByScan
  refine wpAny_bind (wpAny_bind (wpAny_rule (wpAny_bind (wpAny_setScan_of hk ho rfl e4 e1 ?_))))
  cases hr : List.findIdx? (fun e => (PySem.intKind P w).is x e.2) es.toList with
  | some j =>
    dsimp only
    obtain ⟨hj, hp, _⟩ := List.findIdx?_eq_some_iff_getElem.mp hr
    have hm : x ∈ ss := (ints_mem e2).mp ⟨_, List.mem_map_of_mem (List.getElem_mem hj), hp⟩
    have q := h s.heap ss (Heap.SameBut.refl a _) ⟨es, ep, t, ho, e1, e2, e3, e4, e5, e6⟩ (by rw [if_pos hm])
    rw [decide_eq_true hm] at q
    exact wpAny_pure (wpAny_pure q)
  | none =>
    dsimp only
    have hm : ¬ x ∈ ss := fun z => by
      obtain ⟨v, hv, hp⟩ := (ints_mem e2).mpr z
      obtain ⟨e, he, rfl⟩ := List.mem_map.mp hv
      have q := List.findIdx?_eq_none_iff.mp hr e he
      rw [show (PySem.intKind P w).is x e.2 = true from hp] at q
      cases q
    have gw : ∀ (b : Bool) (s1 : Shared) (Q' : Unit → Shared → Prop), Q' () s1 → wpAny (model P w) A (match b with | true => rule "set.scan.the-table-gave-way" | false => pure ()) Q' E s1 := fun b s1 Q' hq => by
      cases b
      · exact wpAny_pure hq
      · exact wpAny_rule hq
    have p := layNew_perm t es ((PySem.intKind P w).hash x) (.int x tk)
    have f := layNew_fits t es ((PySem.intKind P w).hash x) (.int x tk)
    have rs := laynew_ris e6 es ((PySem.intKind P w).hash x) (.int x tk)
    have l := laynew_led t es ((PySem.intKind P w).hash x) (.int x tk)
    generalize layNew t es ((PySem.intKind P w).hash x) (.int x tk) = L at p f l rs ⊢
    obtain ⟨es1, t1, wasD, gv⟩ := L
    dsimp only at p f l rs ⊢
    rw [Array.toList_push] at p
    have d1 : ElemsOf (PySem.intKind P w) es1.toList := (e1.push hk hsc).perm p
    obtain ⟨ss1, d2, d3⟩ := ints_perm e2 p
    have z1 : es1.size = es.size + 1 := by rw [← Array.length_toList, p.length_eq, List.length_append, Array.length_toList]; rfl
    have d4 : es1.size < scanBound := by rw [z1, ← hz]; exact room
    have fin : ∀ h' ss', Heap.SameBut a s.heap h' → IntSet P w h' a ss' → ss'.Perm ss1 → Q true { s with heap := h' } := fun h' ss' b1 b2 b3 => by
      have q := h h' ss' b1 b2 (by rw [if_neg hm]; exact b3.trans d3)
      rw [decide_eq_false hm] at q
      exact q
    refine wpAny_bind (gw _ _ _ ?_)
    split
    · rename_i hpl
      refine wpAny_bind ?_
      rw [hashByValue_scannable 8 hsc]
      refine wpAny_pure ?_
      rw [show plainKind (.int x tk) = true from rfl, if_pos rfl]
      refine iset_tail gw ho d1 d2 d4 f (l.trans e5) rs fun h' ss' b1 b2 b3 => ?_
      exact wpAny_pure (fin h' ss' b1 b2 b3)
    · rename_i hpl
      refine wpAny_bind (wpAny_pure ?_)
      rw [if_pos rfl]
      refine iset_tail gw ho d1 d2 d4 f (l.trans e5) rs fun h' ss' b1 b2 b3 => ?_
      exact wpAny_pure (fin h' ss' b1 b2 b3)
end
theorem IntSet.at {P : Program} {w : World} {h h' : Heap} {a : Addr} {ss : List Int} (x : IntSet P w h a ss) (k : ∀ o, h.get? a = some o → h'.get? a = some o) : IntSet P w h' a ss := by
  obtain ⟨es, ep, t, ho, r⟩ := x
  exact ⟨es, ep, t, k _ ho, r⟩
def OnceI (val : Nat → Int) (i : Nat) (ss : List Int) : Prop := ss.Nodup ∧ ss.length ≤ i ∧ ∀ x, x ∈ ss ↔ ∃ j, j < i ∧ val j = x
theorem OnceI.zero (val : Nat → Int) : OnceI val 0 [] := ⟨List.nodup_nil, Nat.le_refl _, fun x => by simp⟩
theorem OnceI.next {val : Nat → Int} {i : Nat} {ss ss' : List Int} (h : OnceI val i ss) (e : if val i ∈ ss then ss' = ss else ss'.Perm (ss ++ [val i])) : OnceI val (i + 1) ss' := by
  obtain ⟨h1, h2, h3⟩ := h
  by_cases hm : val i ∈ ss
  · rw [if_pos hm] at e
    subst e
    refine ⟨h1, by omega, fun x => (h3 x).trans ⟨fun ⟨j, a, b⟩ => ⟨j, by omega, b⟩, fun ⟨j, a, b⟩ => ?_⟩⟩
    by_cases hj : j < i
    · exact ⟨j, hj, b⟩
    · have : j = i := by omega
      subst this
      subst b
      exact (h3 _).mp hm
  · rw [if_neg hm] at e
    refine ⟨e.nodup_iff.mpr ?_, ?_, fun x => ?_⟩
    · rw [List.nodup_append]
      exact ⟨h1, by simp, fun y hy z hz => by rw [List.mem_singleton] at hz; subst hz; rintro rfl; exact hm hy⟩
    · rw [e.length_eq, List.length_append]
      simpa using h2
    · rw [e.mem_iff, List.mem_append, h3 x, List.mem_singleton]
      constructor
      · rintro (⟨j, a, b⟩ | rfl)
        · exact ⟨j, by omega, b⟩
        · exact ⟨i, by omega, rfl⟩
      · rintro ⟨j, a, b⟩
        by_cases hj : j < i
        · exact .inl ⟨j, hj, b⟩
        · have : j = i := by omega
          subst this
          exact .inr b.symm
section
variable {P : Program} {w : World} {A : Around} {R : Result → Shared → Prop} {I : Addr} {fp wr : List Addr} {G : Array GenState → Array GenState → Prop} {n : Nat} {Pv : Nat → Value → Prop} {St : Nat → Shared → Prop}
theorem iset_loop (W : WalksS P w A.in1 I fp wr G n Pv St) (S : Addr) (nS : S ∉ fp) (val : Nat → Int) (hv : ∀ i v, Pv i v → ∃ t, v = .int (val i) t) (nb : n + 1 < scanBound) : ∀ (k i : Nat) (s : Shared) (ss : List Int), n - i = k → i ≤ n → St i s → IntSet P w s.heap S ss → OnceI val i ss →
    (∀ s' ss', Moved (S :: wr) G s s' → IntSet P w s'.heap S ss' → OnceI val n ss' → R (.ok (.ret .none)) s') → codeAny (model P w) A (.builtin "set.update.loop" ⟨[.ref S, .ref I], []⟩) R s := by
  have nw : S ∉ wr := fun z => nS (W.sub _ z)
  have sub : ∀ b ∈ wr, b ∈ S :: wr := fun b z => List.mem_cons_of_mem _ z
  intro k
  induction k with
  | zero =>
    intro i s ss hk hi st hS ho r
    have e : i = n := by omega
    subst e
    refine codeAny_builtin PyProof.Rows.F.entry_set_update_loop ?_
    rw [Around.under_plainId PyProof.Rows.F.plain_set_update_loop _]
    show wpAny _ A.in1 (pyNext (.ref I) >>= _) _ _ _
    refine wpAny_bind (W.done s _ _ st fun s1 m1 => wpAny_pure (r s1 ss (m1.mono sub) (hS.at fun o z => m1.heap S o nw z) ho))
  | succ k ih =>
    intro i s ss hk hi st hS ho r
    have lt : i < n := by omega
    refine codeAny_builtin PyProof.Rows.F.entry_set_update_loop ?_
    rw [Around.under_plainId PyProof.Rows.F.plain_set_update_loop _]
    show wpAny _ A.in1 (pyNext (.ref I) >>= _) _ _ _
    refine wpAny_bind (W.item i s _ _ lt st fun v s1 pv st1 m1 => ?_)
    obtain ⟨t, rfl⟩ := hv i v pv
    have hS1 : IntSet P w s1.heap S ss := hS.at fun o z => m1.heap S o nw z
    show wpAny _ A.in1 (holding [Value.int (val i) t] (setAdd S (.int (val i) t)) >>= _) _ _ s1
    refine wpAny_bind (wpAny_holding ?_)
    unfold setAdd
    refine wpAny_holding (wpAny_bind ((PySem.intKind P w).pyHash (intKind_is P w _ _) ?_))
    refine iset_add (s := { s1 with toks := s1.toks + 1 }) hS1 (by have := ho.2.1; omega) fun h2 ss2 sb2 hS2 q2 => ?_
    refine wpAny_pure ⟨plainId_quiet PyProof.Rows.F.plain_set_update_loop _, ih (i + 1) _ ss2 (by omega) lt (W.frame _ s1 _ _ st1 (Nat.le_succ _) fun b hb o e => ?_) hS2 (ho.next q2) fun s3 ss3 m3 hS3 o3 => ?_⟩
    · rw [sb2.2 b (fun z : b = S => nS (by rw [← z]; exact hb))]; exact e
    · refine r s3 ss3 (Moved.trans W.gtrans ((m1.mono sub).then_heap (Nat.le_succ _) fun b o hb e => ?_) m3) hS3 o3
      rw [sb2.2 b (fun z : b = S => hb (by rw [z]; exact List.mem_cons_self))]; exact e
end
section
variable {P : Program} {w : World} {A : Around} {E : Value → Shared → Prop} {s : Shared}
theorem setOi_ok (P : Program) (w : World) {h : Heap} {a : Addr} (e : h.get? a = some (setO w)) : IntSet P w h a [] := ⟨#[], 0, _, e, fun e he => by simp at he, .nil, by show 0 < scanBound; decide, by rfl, rfl, List.Pairwise.nil⟩
set_option maxHeartbeats 3200000 in
theorem call_setTi {l : Addr} {items : Array Value} {ss0 : List Int} {Q : Value → Shared → Prop} (hh : A.handled = none) (hl : s.heap.IsList l items) (hi : IntsAre items.toList ss0) (hb : items.size + 1 < scanBound)
    (h : ∀ (h' : Heap) (tk : Nat) (ss : List Int), IntSet P w h' s.heap.objs.size ss → OnceI (fun i => ss0.getD i 0) items.size ss → (∀ b o, b < s.heap.objs.size → s.heap.get? b = some o → h'.get? b = some o) → Q (.ref s.heap.objs.size) { s with heap := h', toks := tk }) :
    wpAny (model P w) A (call (.type "set") [.ref l]) Q E s := by
  obtain ⟨c, tl, hmro⟩ := PySem.F.called_set.mro
  have hmade := PySem.F.called_set.made
  have hsub := PySem.F.called_set.sub
  refine wpAny_call (codeAny_of_tree ?_)
  show wpAny _ _ (callAny (.type "set") _) _ _ _
  refine wpAny_pure ⟨Code.quiet_builtin _ (by decide +kernel), codeAny_builtin PySem.F.entry_type_call ?_⟩
  rw [Around.under_plain (weight_type_call_type "set" [.ref l] []) rfl]
  have h1 := PySem.F.called_set.notType
  have h2 := PySem.F.called_set.canCreate
  have hct := PySem.F.typeCall_set_1 (.ref l)
  repeat (any_goals (first | assumption | wp_step))
  refine codeAny_mono (code_setT (.ref l) (E := E) (Q1 := fun obj s1 => obj = .ref s.heap.objs.size ∧ s1 = { s with heap := s.heap.push (setO w) }) ⟨rfl, rfl⟩) fun r s1 hr => ?_
  cases r with
  | error e => exact hr
  | ok fl =>
    cases fl with
    | ret obj =>
      obtain ⟨rfl, rfl⟩ := hr
      have hS : (s.heap.push (setO w)).get? s.heap.objs.size = some (setO w) := Heap.get?_push_size _ rfl
      have hT : Shared.TypeIs { s with heap := s.heap.push (setO w) } (.ref s.heap.objs.size) "set" := ⟨_, hS, rfl⟩
      have hli := PySem.F.called_set.init.lookup
      have hbi := PySem.F.called_set.init.bind (.ref s.heap.objs.size)
      repeat (any_goals (first | assumption | wp_step))
      refine codeAny_mono (codeAny_call_builtin (R := wants (fun r s2 => r = .none ∧ ∃ h' tk ss, s2 = { s with heap := h', toks := tk } ∧ IntSet P w h' s.heap.objs.size ss ∧ OnceI (fun i => ss0.getD i 0) items.size ss ∧
          (∀ b o, b < s.heap.objs.size → s.heap.get? b = some o → h'.get? b = some o)) E) PySem.F.called_set.init.plain PySem.F.entry_set_init (check_set_init_1 hT ?_)) fun r2 s2 hr2 => ?_
      · obtain ⟨ol, hol, hcl, nl, hdl⟩ := hl
        obtain ⟨ocls, odict, odata, oslots⟩ := ol
        simp only at hcl hdl
        subst hcl; subst hdl
        have hol' : (s.heap.push (setO w)).get? l = some { cls := .type "list", dict := odict, data := .seq items nl, slots := oslots } := Heap.get?_push_of_some _ hol
        have hsls := PySem.F.sub_list_set
        have hslf := PySem.F.sub_list_frozenset
        have hne : (Value.type "list" == Value.type "dict") = false := by decide
        have hl1 : (s.heap.push (setO w)).IsList l items := ⟨_, hol', rfl, nl, rfl⟩
        unfold Builtin.«set.__init__» noKeywords Builtin.Frozenset.updateFrom
        generalize hPI : pyIter = PI
        wp_walk
        subst hPI
        refine wpAny_pyIter_list hl1 (wpAny_bind (wpAny_runValue ?_))
        have lS : l < s.heap.objs.size := Heap.lt_size hol
        have h3 : A.in1.in1.in1.handled = none := by simp [hh]
        have nI : l ≠ (s.heap.push (setO w)).objs.size := by
          rw [Heap.size_push]; exact Nat.ne_of_lt (Nat.lt_succ_of_lt lS)
        have nF : s.heap.objs.size ∉ [(s.heap.push (setO w)).objs.size, l] := by
          rw [Heap.size_push]; simp only [List.mem_cons, List.mem_singleton, List.not_mem_nil, or_false, not_or]
          exact ⟨Nat.ne_of_lt (Nat.lt_succ_self _), Nat.ne_of_gt lS⟩
        have hval : ∀ (i : Nat) (v : Value), items[i]? = some v → ∃ t, v = .int ((fun i => ss0.getD i 0) i) t := fun i v hv => by
          have hv' : items.toList[i]? = some v := by rw [Array.getElem?_toList]; exact hv
          obtain ⟨x, t, rfl⟩ := hi.all v (List.mem_of_getElem? hv')
          refine ⟨t, ?_⟩
          have e := congrArg (fun z => z[i]?) hi.nums
          simp only [List.getElem?_map, hv'] at e
          show Value.int x t = Value.int (ss0.getD i 0) t
          rw [List.getD_eq_getElem?_getD, ← e]
          rfl
        refine iset_loop ((Walks.list h3 _ l nI items).toS) s.heap.objs.size nF (fun i => ss0.getD i 0) hval hb (items.size - 0) 0 _ [] (by omega) (Nat.zero_le _) ⟨⟨_, Heap.get?_push_size _ rfl, rfl, rfl⟩, (hl1.push _)⟩ (setOi_ok P w (Heap.get?_push_of_some _ hS)) (OnceI.zero _) fun s' ss' hm hS' hO => ?_
        obtain ⟨h', g', d', tk', os'⟩ := s'
        cases (show g' = s.gens from hm.gens)
        cases (show d' = s.drawn from hm.drawn)
        cases (show os' = s.os from hm.os)
        show wpAny _ _ _ _ _ _
        refine wpAny_pure ?_
        show wpAny _ _ (ret Value.none) _ _ _
        refine wpAny_pure ⟨rfl, h', tk', ss', rfl, hS', hO, fun b o hb e => ?_⟩
        have b1 : b ≠ s.heap.objs.size := Nat.ne_of_lt hb
        have b2 : b ≠ (s.heap.push (setO w)).objs.size := by
          rw [Heap.size_push]; exact Nat.ne_of_lt (Nat.lt_succ_of_lt hb)
        exact hm.heap b o (by simp only [List.mem_cons, List.mem_singleton, List.not_mem_nil, or_false, not_or]; exact ⟨b1, b2⟩) (Heap.get?_push_of_some _ (Heap.get?_push_of_some _ e))
      · cases r2 with
        | error e => exact hr2
        | ok fl2 =>
          cases fl2 with
          | ret r =>
            obtain ⟨rfl, h', tk, ss, rfl, hS', hO, hk'⟩ := hr2
            repeat (any_goals (first | assumption | wp_step))
            exact h _ _ _ hS' hO hk'
          | _ => exact hr2.elim
    | _ => exact hr.elim
end
section
variable {P : Program} {w : World} {A : Around} {E : Value → Shared → Prop} {s : Shared} {a : Addr} {es : Array (Int × Value)} {ep : Nat} {t : SetTable}
theorem wp_setNextP {slot i : Nat} {Q : Option (Value × Nat) → Shared → Prop} (ho : s.heap.get? a = some { cls := .type "set", dict := none, data := .set es ep t, slots := #[] }) (hf : t.fits es.size = true) (hb : w.params.followText "set-order" = false) (h1 : ¬ (!t.plain && decide (es.size > 1)) = true) (hl : t.led = true)
    (h : Q (match es[SetTable.below t.place slot]?, t.place[SetTable.below t.place slot]? with | some (_, x), some j => some (x, j + 1) | _, _ => none) s) : wpAny (model P w) A (setNext a slot i ep) Q E s := by
  unfold setNext
  refine wpAny_bind (wpAny_setState_of ho rfl hf ?_)
  unfold setsByText
  refine wpAny_bind (wpAny_bind (wpAny_askSetting (wpAny_pure ?_)))
  show wpAny _ _ (if (w.params.followText "set-order") = true then _ else _) _ _ _
  rw [if_neg (by rw [hb]; exact Bool.false_ne_true)]
  show wpAny _ _ (if (!t.plain && decide (es.size > 1)) = true then _ else _) _ _ _
  rw [if_neg h1]
  refine wpAny_bind ?_
  show wpAny _ _ (if (!t.led && !es.isEmpty) = true then _ else _) _ _ _
  rw [if_neg (by rw [hl]; simp)]
  exact wpAny_pure (wpAny_pure h)
end
section
variable {P : Program} {w : World} {A : Around} {E : Value → Shared → Prop} {s : Shared} {a : Addr} {ss : List Int}
theorem iter_setTi {Q : Value → Shared → Prop} (hS : IntSet P w s.heap a ss)
    (h : ∀ (I : Addr) (fp : List Addr) (vs : List Value) (ss1 : List Int) (St : Nat → Heap → Prop) (h1 : Heap) (d : Drawn), IntsAre vs ss1 → ss1.Perm ss → (∀ b o, s.heap.get? b = some o → h1.get? b = some o) → (∀ A : Around, A.handled = none → Walks P w A I fp [I] vs.length (fun i v => vs[i]? = some v) St) →
      St 0 h1 → I ∈ fp → (∀ b ∈ fp, b < h1.objs.size ∧ (b = a ∨ s.heap.objs.size ≤ b)) → s.heap.objs.size ≤ I → s.heap.objs.size ≤ h1.objs.size → Q (.ref I) { s with heap := h1, drawn := d }) : wpAny (model P w) A (pyIter (.ref a)) Q E s := by
  obtain ⟨es, ep, t, ho, e1, e2, e3, e4, e5, e6⟩ := hS
  have hT : s.TypeIs (.ref a) "set" := ⟨_, ho, rfl⟩
  have ha : a < s.heap.objs.size := Heap.lt_size ho
  have hp4 : t.place.size = es.size := by
    unfold SetTable.fits at e4
    rw [Bool.and_eq_true] at e4
    exact eq_of_beq e4.1
  refine wpAny_pyIter_slot hT PySem.F.slot_set_iter (wpAny_call_entry PySem.F.slot_set_iter hT FS.entry_set_iter' ?_ (PySem.F.args_set_iter_1 _))
  unfold Builtin.«frozenset.__iter__» Builtin.Frozenset.slot0
  refine wpAny_bind (wpAny_bind (wpAny_pure (wpAny_pure ?_)))
  unfold Builtin.Frozenset.sizeOf
  refine wpAny_bind (wpAny_bind (wpAny_setEntries_of ho rfl e4 (wpAny_pure ?_)))
  refine wpAny_bind (wp_setDrawn ho e4 ?_)
  dsimp only
  cases hb : w.params.followText "set-order" with
  | true =>
    rw [if_neg (by simp)]
    refine wpAny_bind (wpAny_pure (wpAny_bind (wpAny_setEpoch_of ho rfl e4 ?_)))
    show wpAny _ _ (newFields "set_iterator" _ >>= _) _ _ _
    refine wpAny_bind (wpAny_newObj_type (wpAny_pure ⟨_, rfl, "set_iterator", _, ⟨_, Heap.get?_push_size _ rfl, rfl⟩, FS.slot_sin.lookup, ?_⟩) (by show 5 ≤ _; decide))
    have p := pick_perm (w.params.setOrder a ep) es
    obtain ⟨ss1, q1, q2⟩ := ints_perm' e2 p
    refine h s.heap.objs.size [s.heap.objs.size, a] _ ss1 _ _ s.drawn q1 q2 (fun b o e => Heap.get?_push_of_some _ e) (walk_setI (ep := ep) (es := es) (t := t) (Nat.ne_of_lt ha) e4 _ (fun _ => 0) ?_) ⟨Heap.get?_push_size _ rfl, Heap.get?_push_of_some _ ho⟩ (by simp) ?_ (Nat.le_refl _) (by rw [Heap.size_push]; exact Nat.le_succ _)
    · intro A' E' s' Q' i hi ho' hq
      refine wp_setNextT ho' e4 hb ?_
      rw [List.getElem?_map, Array.getElem?_toList, Option.map_map] at hq
      exact hq
    · intro b hbm
      rw [Heap.size_push]
      simp at hbm
      rcases hbm with rfl | rfl
      · exact ⟨Nat.lt_succ_self _, .inr (Nat.le_refl _)⟩
      · exact ⟨Nat.lt_succ_of_lt ha, .inl rfl⟩
  | false =>
    have led : t.led = true := by rw [e5, hb]; rfl
    by_cases hz : (!t.plain && decide (es.size > 1)) = true
    · rw [if_pos (by rw [Bool.not_false, Bool.true_and]; exact hz)]
      refine wpAny_bind (wp_drawOrder es.size (List.range es.size) s _ (by simp) fun ps d pp => ?_)
      refine wpAny_bind (wpAny_newTuple (s := { s with drawn := d }) ?_ (by rw [List.length_map, pp.length_eq, List.length_range]; exact fits_of_scanBound e3))
      have ho1 : (s.heap.push (tOb (ps.map fun (p : Nat) => rawInt p).toArray)).get? a = some (sOb es ep t) := Heap.get?_push_of_some _ ho
      refine wpAny_bind (wpAny_setEpoch_of (s := { s with heap := s.heap.push (tOb (ps.map fun (p : Nat) => rawInt p).toArray), drawn := d }) ho1 rfl e4 ?_)
      show wpAny _ _ (newFields "set_iterator" _ >>= _) _ _ _
      refine wpAny_bind (wpAny_newObj_type (wpAny_pure ⟨_, rfl, "set_iterator", _, ⟨_, Heap.get?_push_size _ rfl, rfl⟩, FS.slot_sin.lookup, ?_⟩) (by show 5 ≤ _; decide))
      have hlt : ∀ p ∈ ps, p < es.size := fun p hm => List.mem_range.mp (pp.mem_iff.mp hm)
      have ep1 : (ps.filterMap fun p => es[p]?).Perm es.toList := by
        have q := pp.filterMap fun p => es[p]?
        rw [filterMap_getElem?_range] at q
        exact q
      have hfm : ∀ l : List Nat, (∀ p ∈ l, p < es.size) → (l.filterMap fun p => es[p]?).length = l.length ∧ ∀ (i p : Nat), l[i]? = some p → ∃ k x, es[p]? = some (k, x) ∧ ((l.filterMap fun p => es[p]?).map (·.2))[i]? = some x := by
        intro l
        induction l with
        | nil => intro _; exact ⟨rfl, fun i p z => by simp at z⟩
        | cons c l ih =>
          intro hm
          obtain ⟨i1, i2⟩ := ih fun p hp => hm p (List.mem_cons_of_mem _ hp)
          have hcl : c < es.size := hm c List.mem_cons_self
          have hc : es[c]? = some es[c] := Array.getElem?_eq_getElem hcl
          rw [List.filterMap_cons, hc]
          refine ⟨by simp [i1], fun i p z => ?_⟩
          cases i with
          | zero =>
            have e : c = p := by simpa using z
            subst e
            exact ⟨_, _, hc, by simp⟩
          | succ i =>
            obtain ⟨k, x, a1, a2⟩ := i2 i p (by simpa using z)
            exact ⟨k, x, a1, by simpa using a2⟩
      obtain ⟨f1, f2⟩ := hfm ps hlt
      obtain ⟨ss1, q1, q2⟩ := ints_perm' e2 ep1
      have sz1 : (s.heap.push (tOb (ps.map fun (p : Nat) => rawInt p).toArray)).objs.size = s.heap.objs.size + 1 := Heap.size_push ..
      refine h (s.heap.push (tOb (ps.map fun (p : Nat) => rawInt p).toArray)).objs.size [(s.heap.push (tOb (ps.map fun (p : Nat) => rawInt p).toArray)).objs.size, a, s.heap.objs.size] _ ss1 _ _ d q1 q2 (fun b o e => Heap.get?_push_of_some _ (Heap.get?_push_of_some _ e))
        (walk_setD (ep := ep) (es := es) (t := t) (T := s.heap.objs.size) ?_ ?_ e4 ps _ (by rw [List.length_map, f1]) f2) ⟨Heap.get?_push_size _ rfl, Heap.get?_push_of_some _ ho1, Heap.get?_push_of_some _ (Heap.get?_push_size _ rfl)⟩ (by simp) ?_ ?_ ?_
      · rw [sz1]; exact Nat.ne_of_lt (Nat.lt_succ_of_lt ha)
      · rw [sz1]; exact Nat.ne_of_lt (Nat.lt_succ_self _)
      · intro b hbm
        rw [Heap.size_push, sz1]
        rw [sz1] at hbm
        simp at hbm
        rcases hbm with rfl | rfl | rfl
        · exact ⟨Nat.lt_succ_self _, .inr (Nat.le_succ _)⟩
        · exact ⟨Nat.lt_succ_of_lt (Nat.lt_succ_of_lt ha), .inl rfl⟩
        · exact ⟨Nat.lt_succ_of_lt (Nat.lt_succ_self _), .inr (Nat.le_refl _)⟩
      · rw [sz1]; exact Nat.le_succ _
      · rw [Heap.size_push, sz1]; exact Nat.le_succ_of_le (Nat.le_succ _)
    · rw [if_neg (by rw [Bool.not_false, Bool.true_and]; exact hz)]
      refine wpAny_bind (wpAny_pure (wpAny_bind (wpAny_setEpoch_of ho rfl e4 ?_)))
      show wpAny _ _ (newFields "set_iterator" _ >>= _) _ _ _
      refine wpAny_bind (wpAny_newObj_type (wpAny_pure ⟨_, rfl, "set_iterator", _, ⟨_, Heap.get?_push_size _ rfl, rfl⟩, FS.slot_sin.lookup, ?_⟩) (by show 5 ≤ _; decide))
      refine h s.heap.objs.size [s.heap.objs.size, a] _ ss _ _ s.drawn e2 (List.Perm.refl _) (fun b o e => Heap.get?_push_of_some _ e) (walk_setI (ep := ep) (es := es) (t := t) (Nat.ne_of_lt ha) e4 _ (fun i => if i = 0 then 0 else t.place.getD (i - 1) 0 + 1) ?_) ⟨Heap.get?_push_size _ rfl, Heap.get?_push_of_some _ ho⟩ (by simp) ?_ (Nat.le_refl _) (by rw [Heap.size_push]; exact Nat.le_succ _)
      · intro A' E' s' Q' i hi ho' hq
        refine wp_setNextP ho' e4 hb hz led ?_
        rw [List.length_map, Array.length_toList] at hi
        have eb : SetTable.below t.place (if i = 0 then 0 else t.place.getD (i - 1) 0 + 1) = i := by
          by_cases i0 : i = 0
          · subst i0
            rw [if_pos rfl]; exact below_zero e6
          · rw [if_neg i0, below_next e6 (by omega)]; omega
        rw [eb]
        by_cases c : i < es.size
        · have c2 : i < t.place.size := by omega
          rw [Array.getElem?_eq_getElem c, Array.getElem?_eq_getElem c2]
          rw [List.getElem?_map, Array.getElem?_toList, Array.getElem?_eq_getElem c] at hq
          have eg : (if i + 1 = 0 then 0 else t.place.getD (i + 1 - 1) 0 + 1) = t.place[i] + 1 := by
            rw [if_neg (Nat.succ_ne_zero i), Nat.add_sub_cancel, Array.getD_eq_getD_getElem?, Array.getElem?_eq_getElem c2]; rfl
          rw [eg] at hq
          exact hq
        · rw [Array.getElem?_eq_none (by omega)]
          rw [List.getElem?_map, Array.getElem?_toList, Array.getElem?_eq_none (by omega)] at hq
          exact hq
      · intro b hbm
        rw [Heap.size_push]
        simp at hbm
        rcases hbm with rfl | rfl
        · exact ⟨Nat.lt_succ_self _, .inr (Nat.le_refl _)⟩
        · exact ⟨Nat.lt_succ_of_lt ha, .inl rfl⟩
end
section
variable {P : Program} {w : World} {A : Around} {E : Value → Shared → Prop} {s : Shared} {a : Addr} {ss : List Int}
theorem collect_setTi {Q : List Value → Shared → Prop} (hh : A.handled = none) (hS : IntSet P w s.heap a ss)
    (h : ∀ (vs : List Value) (ss1 : List Int) (h1 : Heap) (tk : Nat) (d : Drawn), IntsAre vs ss1 → ss1.Perm ss → (∀ b o, s.heap.get? b = some o → h1.get? b = some o) → s.heap.objs.size ≤ h1.objs.size → Q vs { s with heap := h1, toks := tk, drawn := d }) : wpAny (model P w) A (collect (.ref a)) Q E s := by
  unfold collect
  refine wpAny_bind (wpAny_runValue (codeAny_builtin PySem.F.entry_proto_collect ?_))
  rw [Around.under_plainId PySem.F.plain_proto_collect _]
  show wpAny _ A.in1 (newList [] >>= fun l => again (.builtin "list.__iadd__" ⟨[l, .ref a], []⟩)) _ _ _
  refine wpAny_bind (wpAny_newObj_type ?_)
  refine wpAny_pure ⟨plainId_quiet PySem.F.plain_list_iadd _, codeAny_builtin PySem.F.entry_list_iadd ?_⟩
  rw [Around.under_plainId PySem.F.plain_list_iadd _]
  have hS1 : IntSet P w (s.heap.push (seqObj "list" #[] 0)) a ss := hS.at fun o e => Heap.get?_push_of_some _ e
  have hL1 : (s.heap.push (seqObj "list" #[] 0)).get? s.heap.objs.size = some (seqObj "list" #[] 0) := Heap.get?_push_size _ rfl
  have hT : ∀ s' : Shared, IntSet P w s'.heap a ss → s'.TypeIs (.ref a) "set" := fun s' z => by
    obtain ⟨es, ep, t, ho, _⟩ := z
    exact ⟨_, ho, rfl⟩
  have ha : a < s.heap.objs.size := by
    obtain ⟨es, ep, t, ho, _⟩ := hS
    exact Heap.lt_size ho
  have hz : ss.length < scanBound := by
    obtain ⟨es, ep, t, _, _, e2, e3, _⟩ := hS
    rw [← e2.nums, List.length_map, List.length_map, Array.length_toList]
    exact e3
  have hne : Builtin.List.listSameRef (.ref s.heap.objs.size) (.ref a) = false := by
    show (s.heap.objs.size == a) = false
    exact beq_eq_false_iff_ne.mpr (Nat.ne_of_gt ha)
  show wpAny _ A.in1 (Builtin.List.listExtendWith (.ref s.heap.objs.size) (.ref a) (.ref s.heap.objs.size)) _ _ { s with heap := s.heap.push (seqObj "list" #[] 0) }
  unfold Builtin.List.listExtendWith
  refine wpAny_bind (wpAny_typeOf (hT _ hS1) ?_)
  rw [if_neg (by rw [hne]; decide)]
  refine wpAny_bind (iter_setTi hS1 fun I fp vs ss1 St h1 d q1 q2 q3 W st hI hfp hge hsz => ?_)
  have hS2 : IntSet P w h1 a ss := hS1.at fun o e => q3 _ _ e
  have hL2 : h1.get? s.heap.objs.size = some (seqObj "list" #[] 0) := q3 _ _ hL1
  refine wpAny_bind (wpAny_holding ?_)
  unfold Builtin.List.listLengthHint
  refine wpAny_bind (wpAny_specialOf (hT { s with heap := h1, drawn := d } hS2) PySem.F.slot_set_len.lookup ?_)
  dsimp only
  rw [show splitId "set.__len__" = some ("set", "__len__") from by decide +kernel]
  dsimp only
  refine wpAny_bind (wpAny_isInstance (b := true) (hT { s with heap := h1, drawn := d } hS2) sub_set_self ?_)
  rw [if_neg (by decide), if_pos (by decide +kernel)]
  refine wpAny_bind (wpAny_typeOf (hT { s with heap := h1, drawn := d } hS2) (wpAny_pure ?_))
  rw [if_pos (by decide +kernel)]
  refine wpAny_bind (wpAny_rule ?_)
  unfold Builtin.List.listTouch
  have hL3 := get?_update_seq hL2 (·.push .none)
  have hL4 := get?_update_seq hL3 (·.pop)
  refine wpAny_bind (wpAny_bind (listUpdate_at (s := { s with heap := h1, drawn := d }) hL2 rfl (listUpdate_at (s := { s with heap := h1.update s.heap.objs.size (Obj.mapSeq (·.push .none)), drawn := d }) hL3 rfl ?_)))
  have nS : s.heap.objs.size ∉ fp := fun z => by
    rcases (hfp _ z).2 with e | e
    · exact absurd e (Nat.ne_of_gt ha)
    · rw [size_push'] at e
      exact absurd e (Nat.not_succ_le_self _)
  have upd2 : ∀ b o, b ≠ s.heap.objs.size → h1.get? b = some o → ((h1.update s.heap.objs.size (Obj.mapSeq (·.push .none))).update s.heap.objs.size (Obj.mapSeq (·.pop))).get? b = some o := fun b o hb e => by
    rw [Heap.get?_update_ne _ _ _ _ hb, Heap.get?_update_ne _ _ _ _ hb]; exact e
  have hv : vs.length ≤ sizeLine := by
    have e1 := q2.length_eq
    have e2 : vs.length = ss1.length := by rw [← q1.nums, List.length_map]
    rw [e2, e1]
    exact fits_of_scanBound hz
  have st3 := (W A.in1.in1.in1 (by exact hh)).frame 0 _ ((h1.update s.heap.objs.size (Obj.mapSeq (·.push .none))).update s.heap.objs.size (Obj.mapSeq (·.pop))) st fun b hb o e => upd2 b o (fun z => nS (z ▸ hb)) e
  refine wpAny_pure ⟨plainId_quiet PySem.F.plain_extend_loop _, codeAny_extend_loopS ((W _ (by exact hh)).toS) hv _ nS _ vs.length 0 _ _ _ rfl (Nat.zero_le _) st3 hL4 (ItemsOf.nil _) fun s' acc' c' hm hS' hacc => ?_⟩
  show wpAny _ A (load s.heap.objs.size >>= _) _ _ s'
  refine wpAny_bind (wpAny_load hS' ?_)
  have eacc : acc'.toList = vs := by
    refine List.ext_getElem? fun i => ?_
    by_cases hi : i < vs.length
    · have hi' : i < acc'.size := by rw [hacc.1]; exact hi
      rw [Array.getElem?_toList, Array.getElem?_eq_getElem hi']
      exact (hacc.2 i _ (Array.getElem?_eq_getElem hi')).symm
    · rw [Array.getElem?_toList, Array.getElem?_eq_none (by rw [hacc.1]; omega), List.getElem?_eq_none (by omega)]
  show wpAny _ A (pure acc'.toList) _ _ s'
  rw [eacc]
  obtain ⟨h5, g5, d5, tk5, os5⟩ := s'
  cases (show g5 = s.gens from hm.gens)
  cases (show d5 = d from hm.drawn)
  cases (show os5 = s.os from hm.os)
  have keep : ∀ b o, h1.get? b = some o → b ≠ s.heap.objs.size → b ≠ I → h5.get? b = some o := fun b o e n1 n2 => hm.heap b o (by simp only [List.mem_cons, List.not_mem_nil, or_false, not_or]; exact ⟨n1, n2⟩) (upd2 b o n1 e)
  refine wpAny_pure (h vs ss1 h5 tk5 d q1 q2 (fun b o e => ?_) ?_)
  · have lt := Heap.lt_size e
    refine keep b o (q3 b o (Heap.get?_push_of_some _ e)) (Nat.ne_of_lt lt) (Nat.ne_of_lt (Nat.lt_of_lt_of_le lt ?_))
    rw [size_push'] at hge
    exact Nat.le_of_succ_le hge
  · exact Nat.le_of_lt (Heap.lt_size hS')
end
def SetZ (P : Program) (w : World) (a : Addr) (ss : List Int) : HO := .ext fun h => IntSet P w h a ss
section
variable {X : Cx}
theorem call_setZ (hc : X.calm = true) : CallR X (.type "set") (fun xs H Q => ∃ (p : Addr) (ss0 : List Int), xs = [.ref p] ∧ SqL X.K H p (ss0.map V.int) ∧ ss0.length < 1000 ∧ ∀ (r : Addr) (ss : List Int), H r = none → ss.Nodup → ss.length ≤ ss0.length → (∀ x, x ∈ ss ↔ x ∈ ss0) → Q (.ref r) (upd H r (SetZ X.prog X.w r ss))) := by
  intro pins s σ H xs us Q I r h
  obtain ⟨p, ss0, rfl, hq, hl, q⟩ := h
  obtain ⟨u, rfl, rx⟩ := vals1 r
  cases rx
  obtain ⟨its, rv, pl, hz⟩ := I.list hq
  have hlen := rv.length
  rw [List.length_map] at hlen
  refine call_setTi (I.ok.hd hc) pl.isList (by simpa using intsAre_ofV rv) (by have : scanBound = 4096 := rfl; simp; omega) fun h' tk ss hS hO hk => ?_
  obtain ⟨o1, o2, o3⟩ := hO
  rw [List.size_toArray, ← hlen] at o2 o3
  refine ⟨.ref s.heap.objs.size, _, I.laid (t' := tk) (a := s.heap.objs.size) (o := SetZ X.prog X.w s.heap.objs.size ss) (fun b o e => hk b o (Heap.lt_size e) e) (Nat.le_refl _) ⟨hS, ?_, fun h1 h2 z k => z.at k⟩, rfl, q _ ss (I.hok.fresh (Nat.le_refl _)) o1 o2 fun x => ?_⟩
  · obtain ⟨es, ep, t, ho, _⟩ := hS
    exact ⟨_, ho⟩
  · rw [o3 x, List.mem_iff_getElem?]
    constructor
    · rintro ⟨j, hj, rfl⟩
      exact ⟨j, by show ss0[j]? = some (ss0.getD j 0); rw [List.getD_eq_getElem?_getD, List.getElem?_eq_getElem hj]; rfl⟩
    · rintro ⟨j, hj⟩
      exact ⟨j, (List.getElem?_eq_some_iff.mp hj).1, by show ss0.getD j 0 = x; rw [List.getD_eq_getElem?_getD, hj]; rfl⟩
theorem call_sortedZ (hc : X.calm = true) : CallR X (.builtin "sorted") (fun xs H Q => ∃ (p : Addr) (ss : List Int), xs = [.ref p] ∧ H p = some (SetZ X.prog X.w p ss) ∧ ss.length < 64 ∧ ∀ (r : Addr) (ss' : List Int), H r = none → ss'.Perm ss → ss'.Pairwise (· ≤ ·) → Q (.ref r) (upd H r (.lst (ss'.map V.int)))) := by
  intro pins s σ H xs us Q I r h
  obtain ⟨p, ss, rfl, hp, h64, q⟩ := h
  obtain ⟨u, rfl, rx⟩ := vals1 r
  cases rx
  have hS : IntSet X.prog X.w s.heap p ss := (I.hok p _ hp).1
  refine Calls.call_function_entry kind_sorted plain_sorted entry_sorted (args_sorted1 _) ?_
  unfold Builtin.«sorted»
  refine wpAny_bind (m := checkCount "sorted" 1 1 _) (wpAny_pure (wpAny_bind (collect_setTi (I.ok.hd hc) hS fun vs ss1 h1 tk d a1 a2 a3 a4 => ?_)))
  have hvl : vs.length = ss1.length := by rw [← a1.nums, List.length_map]
  have hl64 : vs.length < 64 := by rw [hvl, a2.length_eq]; exact h64
  refine wpAny_bind (wpAny_newList ?_ (by have : sizeLine > 64 := by decide
                                          omega))
  have hoL : (h1.push (seqObj "list" vs.toArray 0)).get? h1.objs.size = some (seqObj "list" vs.toArray 0) := Heap.get?_push_size _ rfl
  refine wpAny_bind (wpAny_holding (wpAny_call_entry slot_list_sort ⟨_, hoL, rfl⟩ entry_list_sort (list_sort_tree hoL a1 hl64 fun out ss' c1 c2 c3 => ⟨_, rfl, ?_⟩) (args_list_sort _)))
  refine wpAny_pure ⟨_, rfl, ?_⟩
  have nz : H h1.objs.size = none := I.hok.fresh a4
  obtain ⟨e, he⟩ := sortedHeap_at (out := out) hoL
  refine ⟨.ref h1.objs.size, _, I.turnedT (t' := tk) (d' := d) (ch := []) (a := h1.objs.size) (o := .lst (ss'.map V.int)) (fun b o _ eb => ?_) (fun b z => nomatch z) a4 ?_, rfl, q _ ss' nz (c2.trans a2) c3⟩
  · have e1 := a3 b o eb
    have lt := Heap.lt_size e1
    rw [sortedHeap_old (Nat.ne_of_lt lt) (by rw [size_push']; exact Nat.lt_succ_of_lt lt)]
    exact Heap.get?_push_of_some _ e1
  · refine ⟨?_, out.toList, e, of_intsAre c1, he⟩
    rw [List.length_map, c2.length_eq, a2.length_eq]
    exact Nat.le_of_lt (small1000 (by omega))
end
end L2
namespace L2
open PySem PySem.Spec PyProof.Rows
theorem pe_lc {X : Cx} {target iter elt : Expr} {ifs : List Expr} {scope sc : Scope} {pos : Pos} {N N' : List Str} {sub : List (Option Nat)} {wi : TI} {g : TG} {tt : TT} {te : TE} (hN : X.N = N) (hsc : X.env.scope = sc)
    (O : CmpOk N sc N' scope sub) (hc : X.calm = true) (hi : PI X target iter wi)
    (B : ∀ C s H fp, PG (cmpOf X scope N' C s H fp) target g ∧ PTs (cmpOf X scope N' C s H fp) ifs tt ∧ PE (cmpOf X scope N' C s H fp) elt te)
    (hs : ∀ x, foldedSetIterable iter X.env x = pure x := by intro _; rfl) : PE X (.ListComp elt [⟨target, iter, ifs, 0⟩] scope pos) (tComp sub wi g tt te) :=
  pe_comp hc (by rw [hN, hsc]; exact O) hi B hs
theorem ps_lc {X : Cx} {target iter elt : Expr} {ifs : List Expr} {scope sc : Scope} {pos : Pos} {N N' : List Str} {sub : List (Option Nat)} {wi : TI} {g : TG} {tt : TT} {te : TE} {i : Nat} {y : Str} {py spos : Pos} (hN : X.N = N) (hsc : X.env.scope = sc)
    (O : CmpOk N sc N' scope sub) (hc : X.calm = true) (hi : PI X target iter wi)
    (B : ∀ C s H fp, PG (cmpOf X scope N' C s H fp) target g ∧ PTs (cmpOf X scope N' C s H fp) ifs tt ∧ PE (cmpOf X scope N' C s H fp) elt te)
    (nd : X.N.Nodup) (hy : X.N[i]? = some y) (hx : Loc X.env.scope y)
    (hsw : swapsWith (.ListComp elt [⟨target, iter, ifs, 0⟩] scope pos) (some (.Name y py)) spos.line X.env = pure true := by rfl)
    (hs : ∀ x, foldedSetIterable iter X.env x = pure x := by intro _; rfl) (hf : X.fn y = true ∨ X.env.scope.names.lookup y = some .local := by first | exact .inl rfl | exact .inr rfl | assumption) :
    PS X (.Assign [.Name y py] (.ListComp elt [⟨target, iter, ifs, 0⟩] scope pos) spos) (tAsg (tComp sub wi g tt te) (gName i)) :=
  ps_comp hc (by rw [hN, hsc]; exact O) hi B nd hy hx hsw hs hf
end L2
namespace My
open PySem L2
def top (i : Nat) : Stmt := PySem.Challenge.pw_roundsalone_k05_within_or_without.main.body.getD i (.Pass ⟨0, 0, 0, 0⟩)
abbrev sMask : Stmt := top 1
abbrev sRowOf : Stmt := top 2
abbrev sLess : Stmt := top 3
abbrev sRedu : Stmt := top 4
abbrev sLead : Stmt := top 5
abbrev sCrM : Stmt := top 6
abbrev sTabF : Stmt := top 7
abbrev sMeet : Stmt := top 9
abbrev sStepM : Stmt := top 11
abbrev sCross : Stmt := top 12
abbrev sWin : Stmt := top 13
abbrev sOdd : Stmt := top 14
abbrev sCell : Stmt := top 16
abbrev sPurse : Stmt := top 17
abbrev sTake : Stmt := top 18
abbrev sNames : Stmt := top 19
abbrev sLLd : Stmt := top 20
abbrev sLSt : Stmt := top 21
abbrev sSpa : Stmt := top 22
abbrev sLCr : Stmt := top 23
abbrev sBou : Stmt := top 24
abbrev sTies : Stmt := top 25
abbrev sStM : Stmt := top 26
abbrev sSma : Stmt := top 27
abbrev sMor : Stmt := top 28
abbrev sMix : Stmt := top 29
abbrev sHou : Stmt := top 30
abbrev sLRow : Stmt := top 31
abbrev sTab : Stmt := top 32
abbrev sLCop : Stmt := top 33
abbrev sLMs : Stmt := top 34
abbrev sPap : Stmt := top 35
abbrev sLaw : Stmt := top 36
def Ext (H H' : Hp) : Prop := ∀ b o, H b = some o → H' b = some o
theorem Ext.refl (H : Hp) : Ext H H := fun _ _ h => h
theorem Ext.trans {H H1 H2 : Hp} (a : Ext H H1) (b : Ext H1 H2) : Ext H H2 := fun c o h => b c o (a c o h)
theorem Ext.new {H : Hp} {p : Addr} (h : H p = none) (o : HO) : Ext H (upd H p o) := fun b u q => by rw [upd_ne (ne_of_none q h)]; exact q
theorem Ext.none {H H' : Hp} (e : Ext H H') {p : Addr} (h : H' p = none) : H p = none := by
  cases q : H p with
  | none => rfl
  | some o => rw [e p o q] at h; cases h
def spCell (K : PySem.W.Frag) : Sp := fun vs H Q _ => ∃ (a : Addr) (ns : List Int) (k : Int), vs = [.ref a, .int k] ∧ SqL K H a (ns.map V.int) ∧ 0 ≤ k ∧ ∀ v, Q (.int v) H
section
variable {P : Program} {w : World} {K : PySem.W.Frag} {mg : Str → Option Value} {base : Heap} {f f1 : Addr} {fd fd1 : FuncData}
theorem scCell : FnScope ["_law_script", "_law_k"] ["_law_script", "_law_k"] (defScope sCell) := ⟨rfl, rfl, rfl, by decide +kernel, rfl, by decide +kernel, by decide +kernel⟩
theorem ok_cell (F : Fun K "_law_cell_at" "_law_cell_at" sCell f fd) (ml : mg "len" = none) : FnOk P w K mg base CX0 1 f fd ["_law_script", "_law_k"] (spCell K) := by
  refine F.ok scCell (fun vs H Q E h => ?_) (fun cdv A outer s H vs Q E hr h => ?_)
  · obtain ⟨a, ns, k, rfl, _⟩ := h
    rfl
  obtain ⟨a, ns, k, rfl, hS, h0, q⟩ := h
  refine ⟨_, pss_cons (ps_if (pt_cmpR op_lt (pv 1) (pe_callB call_len_seq rfl ml PySem.boot_len (pa_cons (pv 0) pa_nil)) (nomark _)) (pss_one (ps_ret (pe_ix ix_list (pv 0) (pv 1) (fun _ _ => rfl)))) pss_nil) (pss_one (ps_ret pe_int)), ?_⟩
  refine ⟨_, rfl, _, rfl, a, _, rfl, .inl hS, _, _, rfl, rfl, _, rfl, ?_⟩
  refine ite2 (fun c => ?_) (fun c => q 0)
  have c' : k < (((ns.map V.int).length : Nat) : Int) := of_decide_eq_true c
  rw [List.length_map] at c'
  have hk : k.toNat < ns.length := by omega
  have hv : atI (ns.map V.int) ((k.toNat : Nat) : Int) = some (.int ns[k.toNat]) := atI_nat (by rw [List.getElem?_map, List.getElem?_eq_getElem hk] <;> rfl)
  rw [Int.toNat_of_nonneg h0] at hv
  exact ⟨_, rfl, _, rfl, a, _, _, _, rfl, rfl, hS, hv, q _⟩
end
end My
namespace My
open PySem L2
theorem boot_bool' : bootBuiltins "bool" = some (.type "bool") := by decide +kernel
theorem boot_isinst : bootBuiltins "isinstance" = some (.builtin "isinstance") := by decide +kernel
theorem kit_same (K : PySem.W.Frag) (t : Value) : PySem.W.kitOne K t t = some true := by unfold PySem.W.kitOne; rw [if_pos (beq_self_eq_true t)]
theorem boot_range' : bootBuiltins "range" = some (.type "range") := by decide +kernel
end My
namespace My
open PySem L2
section
variable {σ0 : St} {g : TG} {tt : TT} {te : TE} {Q : List V → Hp → Prop} {H1 : Hp}
theorem turns_pure {K : PySem.W.Frag} {a : Addr} {xs : List V} (f : V → Option V) (hS : SqL K H1 a xs) (hz : xs.length ≤ sizeLine)
    (hs : ∀ x ∈ xs, ∀ C : Option V → Hp → Prop, C (f x) H1 → g x σ0 H1 fun σ2 H2 => Sle σ0 σ2 ∧ tt σ2 H2 fun b H3 => if b = true then te σ2 H3 (fun v H4 => C (some v) H4) else C none H3)
    (hd : Q (xs.filterMap f) H1) : cTurns (Itl K a) σ0 g tt te Q H1 := by
  refine turns_list (xs := xs) (fun i ys H => H = H1 ∧ ys = (xs.take i).filterMap f) ⟨rfl, by simp⟩ (fun i ys H _ h => by rw [h.1]; exact hS) ?_ ?_
  · rintro i x ys H hx ⟨rfl, rfl⟩
    have hi : i < xs.length := (List.getElem?_eq_some_iff.mp hx).1
    have hm : x ∈ xs := List.mem_of_getElem? hx
    have tk : (xs.take (i + 1)).filterMap f = (xs.take i).filterMap f ++ (f x).toList := by
      rw [List.take_add_one, hx, List.filterMap_append]
      cases e : f x <;> simp [e]
    have hl : ((xs.take i).filterMap f).length < sizeLine := by
      have h1 := List.length_filterMap_le f (xs.take i)
      rw [List.length_take] at h1
      omega
    refine hs x hm (fun o H4 => match o with | some v => ((xs.take i).filterMap f).length < sizeLine ∧ Nxt xs.length i _ ((xs.take i).filterMap f ++ [v]) H4 | none => Nxt xs.length i _ ((xs.take i).filterMap f) H4) ?_
    cases e : f x with
    | none => exact nxt hi ⟨rfl, by rw [tk, e]; simp⟩
    | some v => exact ⟨hl, nxt hi ⟨rfl, by rw [tk, e]; simp⟩⟩
  · rintro ys H ⟨rfl, rfl⟩
    rw [List.take_of_length_le (Nat.le_refl _)]
    exact hd
end
theorem inV_str (n : Str) : ∀ other : List Str, inV (.str n) (other.map V.str) = decide (n ∈ other)
  | [] => by simp [inV]
  | x :: r => by
    have ih := inV_str n r
    unfold inV at ih ⊢
    rw [List.map_cons, List.any_cons, ih]
    show (x == n || decide (n ∈ r)) = _
    by_cases e : n = x
    · subst e; simp
    · have e' : ¬ x = n := fun z => e z.symm
      simp [e, e']
theorem flat_strs : ∀ other : List Str, (other.map V.str).all flatV = true := fun other => by
  rw [List.all_eq_true]
  intro x hx
  obtain ⟨y, _, rfl⟩ := List.mem_map.mp hx
  rfl
def LsS (H : Hp) (a : Addr) (ss : List Str) : Prop := H a = some (.lst (ss.map V.str))
end My
namespace My
open PySem L2
abbrev sg : Str := "abcdefghijklmnopqrstuvwxyz0123456789"
def sgC (n : Nat) : Nat := sg.cps.toList.getD n 0
theorem sg_len : sg.cps.toList.length = 36 := by decide +kernel
theorem sg_nd : sg.cps.toList.Nodup := by decide +kernel
theorem sg_small : ∀ c ∈ sg.cps.toList, c < 128 := by decide +kernel
theorem sg_at {i : Int} (h0 : 0 ≤ i) (h1 : i < 36) : atI sg.cps.toList i = some (sgC i.toNat) := by
  have hk : i.toNat < sg.cps.toList.length := by rw [sg_len]; omega
  have := atI_nat (xs := sg.cps.toList) (j := i.toNat) (v := sgC i.toNat) (by
    unfold sgC
    rw [List.getD_eq_getElem?_getD, List.getElem?_eq_getElem hk]; rfl)
  rw [Int.toNat_of_nonneg h0] at this
  exact this
theorem sgC_inj {i j : Nat} (hi : i < 36) (hj : j < 36) (e : sgC i = sgC j) : i = j := by
  have hi' : i < sg.cps.toList.length := by rw [sg_len]; exact hi
  have hj' : j < sg.cps.toList.length := by rw [sg_len]; exact hj
  unfold sgC at e
  rw [List.getD_eq_getElem?_getD, List.getD_eq_getElem?_getD, List.getElem?_eq_getElem hi', List.getElem?_eq_getElem hj'] at e
  exact (List.getElem_inj sg_nd).mp e
theorem sgC_small {i : Nat} (hi : i < 36) : sgC i < 128 := by
  have hi' : i < sg.cps.toList.length := by rw [sg_len]; exact hi
  unfold sgC
  rw [List.getD_eq_getElem?_getD, List.getElem?_eq_getElem hi']
  exact sg_small _ (List.getElem_mem hi')
def Sm (x : Str) : Prop := ∀ c ∈ x.cps.toList, c < 128
theorem Sm.ok {x : Str} (h : Sm x) : PyData.strOk x = true := by
  unfold PyData.strOk
  rw [Array.all_eq_true_iff_forall_mem]
  intro c hc
  have := h c (by simpa using hc)
  exact decide_eq_true (by omega)
theorem Sm.app {x y : Str} (h : Sm x) (h' : Sm y) : Sm (x ++ y) := fun c hc => by
  rw [Str.cps_append, Array.toList_append, List.mem_append] at hc
  exact hc.elim (h c) (h' c)
theorem Sm.one {c : Nat} (h : c < 128) : Sm ⟨#[c]⟩ := fun d hd => by
  have : d = c := by simpa using hd
  omega
theorem Sm.nil : Sm "" := fun c hc => by
  have : c ∈ ([] : List Nat) := hc
  cases this
theorem Sm.slice {x : Str} (h : Sm x) (l u : Option Int) : Sm (Txt.slice x l u) := fun c hc => by
  unfold Txt.slice at hc
  split at hc
  · exact h c hc
  · simp only [List.mem_filterMap] at hc
    obtain ⟨i, _, hi⟩ := hc
    exact h c (by simpa using Array.mem_of_getElem? hi)
end My
namespace My
open PySem L2
def rowD (r : List Str) : PyData := .list (r.map .str)
def rowsD (F : List (List Str)) : PyData := .list (F.map rowD)
theorem eqv_strs : ∀ a b : List Str, PyData.eqvAll (a.map .str) (b.map .str) = decide (a = b)
  | [], [] => rfl
  | [], _ :: _ => rfl
  | _ :: _, [] => rfl
  | x :: a, y :: b => by
    show (x == y && PyData.eqvAll (a.map .str) (b.map .str)) = _
    rw [eqv_strs a b]
    by_cases e : x = y
    · subst e; simp
    · simp [e]
theorem eqv_row (a b : List Str) : PyData.eqv (rowD a) (rowD b) = decide (a = b) := eqv_strs a b
def SOk (r : List Str) : Prop := ∀ x ∈ r, PyData.strOk x = true
theorem lay_strs : ∀ {r : List Str}, SOk r → PyData.canLayAll0 (r.map .str) = true ∧ PyData.depthAll (r.map .str) = 0
  | [], _ => ⟨rfl, rfl⟩
  | x :: r, h => by
    obtain ⟨h1, h2⟩ := lay_strs (r := r) fun y hy => h y (List.mem_cons_of_mem _ hy)
    refine ⟨?_, ?_⟩
    · show (PyData.strOk x && PyData.canLayAll0 (r.map .str)) = true
      rw [h1, h x List.mem_cons_self]; rfl
    · show max 0 (PyData.depthAll (r.map .str)) = 0
      rw [h2]; rfl
theorem shaped_row {r : List Str} (h : SOk r) : SeqAt.shaped (rowD r) = true := by
  obtain ⟨h3, h4⟩ := lay_strs h
  show (PyData.canLayAll0 (r.map .str) && decide (PyData.depthAll (r.map .str) + 1 ≤ 64)) = true
  rw [h3, h4]; rfl
theorem dr_strs {K : PySem.W.Frag} {H : Hp} : ∀ r : List Str, DRs K H (r.map V.str) (r.map .str)
  | [] => .nil
  | x :: r => .cons (.str x) (dr_strs r)
theorem dr_row {K : PySem.W.Frag} {H : Hp} {a : Addr} {r : List Str} (h : LsS H a r) : DR K H (.ref a) (rowD r) := .lst (SqL.of h) (dr_strs r)
end My
namespace My
open PySem L2
theorem room64 {k : Nat} {A : Around} (hr : Room k A) : A.units + 64 < cLine := by have := hr.un; omega
theorem boot_list' : bootBuiltins "list" = some (.type "list") := by decide +kernel
theorem boot_sorted' : bootBuiltins "sorted" = some (.builtin "sorted") := by decide +kernel
theorem boot_set' : bootBuiltins "set" = some (.type "set") := by decide +kernel
theorem boot_tuple' : bootBuiltins "tuple" = some (.type "tuple") := by decide +kernel
end My
namespace L2
open PySem PySem.Spec PyProof.Rows
end L2
namespace My
open PySem L2
theorem snoc_ind {α : Type} {P : List α → Prop} (h0 : P []) (hs : ∀ l t, P l → P (l ++ [t])) (l : List α) : P l := by
  have : ∀ r : List α, P r.reverse := fun r => by
    induction r with
    | nil => exact h0
    | cons a r ih => rw [List.reverse_cons]; exact hs _ _ ih
  have q := this l.reverse
  rwa [List.reverse_reverse] at q
abbrev Tr := Str × Str × Str
abbrev lab (f : Str → Str) (t : Tr) : Str → Str := fun p => if f p = f t.2.2 then f t.2.1 else f p
def homF (net : List Tr) : Str → Str := net.foldl lab id
def isPt (net : List Tr) (x : Str) : Prop := ∃ t ∈ net, x = t.2.1 ∨ x = t.2.2
def wStep (kept : List Tr) (t : Tr) : List Tr := if homF kept t.2.1 = homF kept t.2.2 then kept else kept ++ [t]
def woodF (net : List Tr) : List Tr := net.foldl wStep []
end My
namespace My
open PySem L2
abbrev Rise (l : List Str) : Prop := l.Pairwise fun a b => sLtB a b = true
theorem rise_ext : ∀ {a b : List Str}, Rise a → Rise b → (∀ x, x ∈ a ↔ x ∈ b) → a = b
  | [], [], _, _, _ => rfl
  | [], y :: b, _, _, h => by have := (h y).mpr List.mem_cons_self; cases this
  | x :: a, [], _, _, h => by have := (h x).mp List.mem_cons_self; cases this
  | x :: a, y :: b, ha, hb, h => by
    obtain ⟨a1, a2⟩ := List.pairwise_cons.mp ha
    obtain ⟨b1, b2⟩ := List.pairwise_cons.mp hb
    have e : x = y := by
      rcases List.mem_cons.mp ((h x).mp List.mem_cons_self) with z | z
      · exact z
      · rcases List.mem_cons.mp ((h y).mpr List.mem_cons_self) with w | w
        · exact w.symm
        · have q := sLtB_trans (b1 x z) (a1 y w)
          rw [sLtB_irr] at q; cases q
    subst e
    refine congrArg _ (rise_ext a2 b2 fun z => ⟨fun hz => ?_, fun hz => ?_⟩)
    · rcases List.mem_cons.mp ((h z).mp (List.mem_cons_of_mem _ hz)) with w | w
      · have := a1 z hz; rw [w, sLtB_irr] at this; cases this
      · exact w
    · rcases List.mem_cons.mp ((h z).mpr (List.mem_cons_of_mem _ hz)) with w | w
      · have := b1 z hz; rw [w, sLtB_irr] at this; cases this
      · exact w
end My
namespace My
open PySem L2
theorem paired_get {α β : Type} {R : α → β → Prop} : ∀ {as : List α} {bs : List β} {i : Nat} {a : α}, Paired R as bs → as[i]? = some a → ∃ b, bs[i]? = some b ∧ R a b
  | _, _, _, _, .nil, e => by simp at e
  | _, _, 0, _, .cons h _, e => by simp at e; subst e; exact ⟨_, rfl, h⟩
  | _, _, i + 1, _, .cons _ t, e => by
    obtain ⟨b, h1, h2⟩ := paired_get (i := i) t (by simpa using e)
    exact ⟨b, by simpa using h1, h2⟩
theorem take_snoc {α : Type} {l : List α} {i : Nat} {t : α} (h : l[i]? = some t) : l.take (i + 1) = l.take i ++ [t] := by rw [List.take_add_one, h]; rfl
theorem at_lt {α : Type} {l : List α} {i : Nat} {t : α} (h : l[i]? = some t) : i < l.length := (List.getElem?_eq_some_iff.mp h).1
theorem rise_go : ∀ (l : List Str) (p : Str), PyProof.Rows.risingS p l = true → (p :: l).Nodup → Rise (p :: l)
  | [], p, _, _ => List.pairwise_singleton _ _
  | x :: r, p, h, nd => by
    have h' : (!PySem.Spec.ltCps x.cps.toList p.cps.toList && PyProof.Rows.risingS x r) = true := h
    rw [Bool.and_eq_true] at h'
    have nd' := List.nodup_cons.mp nd
    have ih := rise_go r x h'.2 nd'.2
    have px : sLtB p x = true := by
      have z := h'.1
      rw [PyProof.Rows.ltCps_eq] at z
      rcases sLtB_tri p x with t | t | t
      · exact t
      · exact absurd t (fun e => nd'.1 (by rw [e]; exact List.mem_cons_self))
      · rw [decide_eq_true (of_decide_eq_true t)] at z; cases z
    refine List.pairwise_cons.mpr ⟨fun y hy => ?_, ih⟩
    rcases List.mem_cons.mp hy with e | hy
    · rw [e]; exact px
    · exact sLtB_trans px ((List.pairwise_cons.mp ih).1 y hy)
theorem rise_of {l : List Str} (h : PyProof.Rows.sortedS l = true) (nd : l.Nodup) : Rise l := by
  cases l with
  | nil => exact List.Pairwise.nil
  | cons x r => exact rise_go r x h nd
def PtsOk (net : List Tr) (ps : List Str) : Prop := ps.Nodup ∧ ∀ x, x ∈ ps ↔ isPt net x
section
variable {P : Program} {w : World} {K : PySem.W.Frag} {mg : Str → Option Value} {base : Heap} {f f1 : Addr} {fd fd1 : FuncData}
end
end My
namespace My
open PySem L2
theorem Ext.over {H H' : Hp} {d : Addr} (e : Ext H H') (h : H d = Option.none) (o : HO) : Ext H (upd H' d o) := fun b u q => by rw [upd_ne (ne_of_none q h)]; exact e b u q
def hD (ps : List Str) (f : Str → Str) : List (Key × V) := ps.map fun p => (Sum.inr p, V.str (f p))
section
variable {P : Program} {w : World} {K : PySem.W.Frag} {mg : Str → Option Value} {base : Heap} {f f1 : Addr} {fd fd1 : FuncData}
end
end My
namespace My
open PySem L2
def RowsAt (H : Hp) (p : Addr) (F : List (List Str)) : Prop := ∃ as : List Addr, H p = some (.lst (as.map V.ref)) ∧ Paired (LsS H) as F
theorem RowsAt.ext {H H' : Hp} {p : Addr} {F : List (List Str)} (h : RowsAt H p F) (e : Ext H H') : RowsAt H' p F := by
  obtain ⟨as, h1, h2⟩ := h
  exact ⟨as, e _ _ h1, Paired.mapP h2 fun a r z => e _ _ z⟩
def RowsY (H0 H : Hp) (fo : Addr) (F : List (List Str)) : Prop := ∃ as : List Addr, H fo = some (.lst (as.map V.ref)) ∧ Paired (fun a r => LsS H a r ∧ H0 a = none ∧ a ≠ fo) as F
theorem getD_rangeA (as : List Addr) : (List.range as.length).map (fun i => as.getD i 0) = as := by
  refine List.ext_getElem? fun i => ?_
  by_cases hi : i < as.length
  · rw [List.getElem?_map, List.getElem?_range hi, List.getElem?_eq_getElem hi]
    show some (as.getD i 0) = _
    rw [List.getD_eq_getElem?_getD, List.getElem?_eq_getElem hi]; rfl
  · rw [List.getElem?_eq_none (by simp; omega), List.getElem?_eq_none (by omega)]
theorem pick_perm {as : List Addr} {o : Array Nat} (g : Gd as.length o) : (o.toList.map fun i => as.getD i 0).Perm as :=
  ((Array.perm_iff_toList_perm.mp g).map fun i => as.getD i 0).trans (List.Perm.of_eq (getD_rangeA as))
end My
namespace My
open PySem L2
section
variable {P : Program} {w : World} {K : PySem.W.Frag} {mg : Str → Option Value} {base : Heap} {f f1 f2 : Addr} {fd fd1 fd2 : FuncData}
end
end My
namespace My
open PySem L2
abbrev enV (e : Int × Int) : List V := [.int e.1, .int e.2]
def EndsAt (H : Hp) (p : Addr) (es : List (Int × Int)) : Prop := ∃ as : List Addr, H p = some (.lst (as.map V.ref)) ∧ Paired (fun a e => H a = some (.tup (enV e))) as es
def InSp (sp : Int) (e : Int × Int) : Prop := (0 ≤ e.1 ∧ e.1 < sp) ∧ 0 ≤ e.2 ∧ e.2 < sp
section
variable {P : Program} {w : World} {K : PySem.W.Frag} {mg : Str → Option Value} {base : Heap} {f f1 f2 : Addr} {fd fd1 fd2 : FuncData}
structure EI (H : Hp) (sp n : Int) (i : Nat) (σ : St) (H' : Hp) (b' h : Int) (hp fo : Addr) (hs : List Int) (es : List (Int × Int)) : Prop where
  st : ∃ x6 x7 x8 x9 : Option V, σ = [some (.int b'), some (.int n), some (.int sp), some (.ref hp), some (.ref fo), some (.int h), x6, x7, x8, x9]
  ext : Ext H H'
  fo0 : H fo = none
  ne : hp ≠ fo
  hsA : H' hp = some (.lst (hs.map V.int))
  hsl : (hs.length : Int) = sp
  esA : EndsAt H' fo es
  esl : es.length ≤ i
  esi : ∀ e ∈ es, InSp sp e
end
end My
namespace L2
open PySem PySem.Spec PyProof.Rows
theorem for_pairs {n : Nat} {Ls : Hp → Prop} {xv : Nat → List V} {g : TG} {tb : TS} {D : Ends} {σ : St} {H : Hp} (Pv : Nat → St → Hp → Prop) (h0 : Pv 0 σ H) (hl : ∀ i σ H, i ≤ n → Pv i σ H → Ls H)
    (hs : ∀ i σ H T, i < n → Pv i σ H → H T = none → g (.ref T) σ (upd H T (.tup (xv i))) fun σ2 H2 => tb { D with nx := Pv (i + 1), ct := Pv (i + 1), bk := D.nx } σ2 H2) (hd : ∀ σ H, Pv n σ H → D.nx σ H) :
    ∃ W : Nat → Nat → St → Hp → Prop, (∃ m, W 0 m σ H) ∧ ∀ i m σ H, W i m σ H →
      ((Itp n Ls xv).stop i H ∧ D.nx σ H) ∨ ((Itp n Ls xv).go i H ∧ ∃ N : St → Hp → Prop, (∀ σ' H', N σ' H' → ∃ m', m' < m ∧ W (i + 1) m' σ' H') ∧ ∀ x H', (Itp n Ls xv).yld i H x H' → g x σ H' fun σ2 H2 => tb { D with nx := N, ct := N, bk := D.nx } σ2 H2) := by
  refine ⟨fun i m σ H => m = n - i ∧ i ≤ n ∧ Pv i σ H, ⟨n, by simp, Nat.zero_le _, h0⟩, ?_⟩
  rintro i m σ H ⟨rfl, hi, p⟩
  have q := hl i σ H hi p
  by_cases hlt : i < n
  · refine .inr ⟨⟨q, hlt⟩, Pv (i + 1), fun σ' H' p' => ⟨n - (i + 1), by omega, rfl, hlt, p'⟩, fun x H' y => ?_⟩
    obtain ⟨T, e1, e2, e3⟩ := y
    subst e2 e3
    exact hs i σ H T hlt p e1
  · have e : i = n := by omega
    subst e
    exact .inl ⟨⟨q, rfl⟩, hd σ H p⟩
end L2
namespace My
open PySem L2
def t0 : Tr := ("", "", "")
section
variable {P : Program} {w : World} {K : PySem.W.Frag} {mg : Str → Option Value} {base : Heap} {f f1 f2 f3 : Addr} {fd fd1 fd2 fd3 : FuncData}
end
end My
namespace My
open PySem L2
section
variable {K : PySem.W.Frag}
end
end My
namespace My
theorem tb_hi {x i : Nat} (h : x < 2 ^ i) {j : Nat} (hj : i ≤ j) : x.testBit j = false :=
  Nat.testBit_lt_two_pow (Nat.lt_of_lt_of_le h (Nat.pow_le_pow_right (by decide) hj))
theorem tb_ge {x i : Nat} (h : x.testBit i = true) : 2 ^ i ≤ x := by
  rcases Nat.lt_or_ge x (2 ^ i) with z | z
  · rw [Nat.testBit_lt_two_pow z] at h; cases h
  · exact z
theorem log2_of {x i : Nat} (h1 : x.testBit i = true) (h2 : x < 2 ^ (i + 1)) : x.log2 = i := by
  have g := tb_ge h1
  have nz : x ≠ 0 := fun z => by subst z; simp at h1
  have a := (Nat.log2_lt nz).mpr h2
  have b := (Nat.le_log2 nz).mpr g
  omega
theorem tb_le {x i : Nat} (h : x.testBit i = true) : i ≤ x.log2 := by
  have nz : x ≠ 0 := fun z => by subst z; simp at h
  exact (Nat.le_log2 nz).mpr (tb_ge h)
theorem tb_above {x i : Nat} (h : x.log2 < i) : x.testBit i = false := tb_hi Nat.lt_log2_self h
theorem xor_one_even {n : Nat} (h : n % 2 = 0) : n ^^^ 1 = n + 1 := by
  have d : (n ^^^ 1) / 2 = n / 2 := by rw [Nat.xor_div_two]; simp
  have b : (n ^^^ 1).testBit 0 = true := by rw [Nat.testBit_xor, Nat.testBit_zero, Nat.testBit_zero]; simp [h]
  rw [Nat.testBit_zero] at b
  have b' := of_decide_eq_true b
  omega
theorem xor_one_odd {n : Nat} (h : n % 2 = 1) : n ^^^ 1 = n - 1 := by
  have d : (n ^^^ 1) / 2 = n / 2 := by rw [Nat.xor_div_two]; simp
  have b : (n ^^^ 1).testBit 0 = false := by rw [Nat.testBit_xor, Nat.testBit_zero, Nat.testBit_zero]; simp [h]
  rw [Nat.testBit_zero] at b
  have b' := of_decide_eq_false b
  omega
theorem shr_log2 {s : Nat} (hs : s ≠ 0) : s >>> s.log2 = 1 := by
  rw [Nat.shiftRight_eq_div_pow]
  have a := Nat.log2_self_le hs
  have b : s < 2 ^ (s.log2 + 1) := Nat.lt_log2_self
  rw [Nat.pow_succ] at b
  have p : 0 < 2 ^ s.log2 := Nat.pow_pos (by decide)
  exact Nat.div_eq_of_lt_le (by omega) (by omega)
theorem xor_lt_iff (x : Nat) {s : Nat} (hs : s ≠ 0) : x ^^^ s < x ↔ x.testBit s.log2 = true := by
  have e : (x ^^^ s) >>> s.log2 = (x >>> s.log2) ^^^ 1 := by rw [Nat.shiftRight_xor_distrib, shr_log2 hs]
  have tb : x.testBit s.log2 = decide ((x >>> s.log2) % 2 = 1) := by rw [Nat.testBit_eq_decide_div_mod_eq, Nat.shiftRight_eq_div_pow]
  rw [tb]
  have lt : ∀ {a b : Nat}, a >>> s.log2 < b >>> s.log2 → a < b := fun {a b} h => by
    rw [Nat.shiftRight_eq_div_pow, Nat.shiftRight_eq_div_pow] at h
    rcases Nat.lt_or_ge a b with z | z
    · exact z
    · have := Nat.div_le_div_right (c := 2 ^ s.log2) z
      omega
  rcases Nat.mod_two_eq_zero_or_one (x >>> s.log2) with h | h
  · rw [xor_one_even h] at e
    have : x < x ^^^ s := lt (by omega)
    constructor
    · intro z; omega
    · intro z; rw [h] at z; simp at z
  · rw [xor_one_odd h] at e
    have : x ^^^ s < x := lt (by rw [e]; exact Nat.sub_one_lt fun z => by rw [z] at h; cases h)
    exact ⟨fun _ => by simp [h], fun _ => this⟩
def rd1 (x s : Nat) : Nat := if x.testBit s.log2 = true then x ^^^ s else x
theorem min_rd1 (x : Nat) {s : Nat} (hs : s ≠ 0) : (if x ^^^ s < x then x ^^^ s else x) = rd1 x s := by
  unfold rd1
  by_cases h : x.testBit s.log2 = true
  · rw [if_pos h, if_pos ((xor_lt_iff x hs).mpr h)]
  · rw [if_neg h, if_neg (fun z => h ((xor_lt_iff x hs).mp z))]
theorem rd1_bit (x s i : Nat) : (rd1 x s).testBit i = (x.testBit i ^^ (x.testBit s.log2 && s.testBit i)) := by
  unfold rd1
  by_cases h : x.testBit s.log2 = true
  · rw [if_pos h, Nat.testBit_xor, h, Bool.true_and]
  · rw [if_neg h]
    have : x.testBit s.log2 = false := by simpa using h
    rw [this]; simp
theorem rd1_zero (s : Nat) : rd1 0 s = 0 := by unfold rd1; simp
theorem rd1_lin (x y s : Nat) : rd1 (x ^^^ y) s = rd1 x s ^^^ rd1 y s := by
  refine Nat.eq_of_testBit_eq fun i => ?_
  rw [rd1_bit, Nat.testBit_xor, Nat.testBit_xor, Nat.testBit_xor, rd1_bit, rd1_bit]
  cases x.testBit i <;> cases y.testBit i <;> cases x.testBit s.log2 <;> cases y.testBit s.log2 <;> cases s.testBit i <;> rfl
def red1 (k : List Nat) (x : Nat) : Nat := k.foldl rd1 x
theorem red1_zero : ∀ k : List Nat, red1 k 0 = 0
  | [] => rfl
  | s :: k => by show red1 k (rd1 0 s) = 0; rw [rd1_zero]; exact red1_zero k
theorem red1_lin : ∀ (k : List Nat) (x y : Nat), red1 k (x ^^^ y) = red1 k x ^^^ red1 k y
  | [], _, _ => rfl
  | s :: k, x, y => by show red1 k (rd1 (x ^^^ y) s) = red1 k (rd1 x s) ^^^ red1 k (rd1 y s); rw [rd1_lin]; exact red1_lin k _ _
structure RR (k : List Nat) : Prop where
  nz : ∀ s ∈ k, s ≠ 0
  ap : k.Pairwise fun s t => t.testBit s.log2 = false ∧ s.testBit t.log2 = false
theorem RR.nil : RR [] := ⟨fun s h => (by cases h), .nil⟩
theorem RR.tl {s : Nat} {k : List Nat} (h : RR (s :: k)) : RR k := ⟨fun t ht => h.nz t (List.mem_cons_of_mem _ ht), (List.pairwise_cons.mp h.ap).2⟩
theorem RR.hd {s : Nat} {k : List Nat} (h : RR (s :: k)) : ∀ t ∈ k, t.testBit s.log2 = false ∧ s.testBit t.log2 = false := (List.pairwise_cons.mp h.ap).1
theorem RR.ne : ∀ {k : List Nat}, RR k → ∀ {s t : Nat}, s ∈ k → t ∈ k → s ≠ t → s.testBit t.log2 = false
  | [], _, _, _, hs, _, _ => by cases hs
  | a :: k, h, s, t, hs, ht, e => by
    rcases List.mem_cons.mp hs with rfl | zs
    · rcases List.mem_cons.mp ht with rfl | zt
      · exact absurd rfl e
      · exact (h.hd t zt).2
    · rcases List.mem_cons.mp ht with rfl | zt
      · exact (h.hd s zs).1
      · exact RR.ne h.tl zs zt e
theorem RR.self {k : List Nat} (h : RR k) {s : Nat} (hs : s ∈ k) : s.testBit s.log2 = true := Nat.testBit_log2 (h.nz s hs)
theorem RR.nd {k : List Nat} (h : RR k) : k.Nodup := by
  have : ∀ {k : List Nat}, RR k → k.Nodup := fun {k} h => by
    induction k with
    | nil => exact List.nodup_nil
    | cons s k ih =>
      refine List.nodup_cons.mpr ⟨fun z => ?_, ih h.tl⟩
      have := (h.hd s z).1
      rw [h.self List.mem_cons_self] at this; cases this
  exact this h
theorem red1_keep : ∀ {k : List Nat} {x i : Nat}, RR k → (∀ s ∈ k, x.testBit s.log2 = true → s.testBit i = false) → (red1 k x).testBit i = x.testBit i
  | [], _, _, _, _ => rfl
  | s :: k, x, i, h, hx => by
    show (red1 k (rd1 x s)).testBit i = _
    have b1 : (rd1 x s).testBit i = x.testBit i := by
      rw [rd1_bit]
      cases q : x.testBit s.log2 with
      | false => simp
      | true => rw [hx s List.mem_cons_self q]; simp
    rw [red1_keep h.tl fun t ht hb => ?_, b1]
    refine hx t (List.mem_cons_of_mem _ ht) ?_
    rw [rd1_bit, (h.hd t ht).2] at hb
    simpa using hb
theorem red1_lead : ∀ {k : List Nat} {x : Nat}, RR k → ∀ s ∈ k, (red1 k x).testBit s.log2 = false
  | [], _, _, _, hs => by cases hs
  | a :: k, x, h, s, hs => by
    show (red1 k (rd1 x a)).testBit s.log2 = false
    rcases List.mem_cons.mp hs with rfl | z
    · rw [red1_keep h.tl fun t ht _ => (h.hd t ht).1, rd1_bit, h.self List.mem_cons_self]
      cases x.testBit s.log2 <;> rfl
    · exact red1_lead h.tl s z
theorem red1_mem : ∀ {k : List Nat}, RR k → ∀ s ∈ k, red1 k s = 0
  | [], _, _, hs => by cases hs
  | a :: k, h, s, hs => by
    show red1 k (rd1 s a) = 0
    rcases List.mem_cons.mp hs with rfl | z
    · have : rd1 s s = 0 := by unfold rd1; rw [if_pos (h.self List.mem_cons_self), Nat.xor_self]
      rw [this]; exact red1_zero k
    · have : rd1 s a = s := by unfold rd1; rw [if_neg (by rw [(h.hd s z).1]; decide)]
      rw [this]; exact red1_mem h.tl s z
theorem red1_none {k : List Nat} (h : RR k) {x : Nat} (hx : ∀ s ∈ k, x.testBit s.log2 = false) : red1 k x = x :=
  Nat.eq_of_testBit_eq fun i => red1_keep h fun s hs z => by rw [hx s hs] at z; cases z
inductive Spn (l : List Nat) : Nat → Prop
  | zero : Spn l 0
  | add {x y : Nat} : x ∈ l → Spn l y → Spn l (x ^^^ y)
theorem Spn.mem {l : List Nat} {x : Nat} (h : x ∈ l) : Spn l x := by
  have := Spn.add h Spn.zero
  rwa [Nat.xor_zero] at this
theorem Spn.xor {l : List Nat} {x y : Nat} (h : Spn l x) (h' : Spn l y) : Spn l (x ^^^ y) := by
  induction h with
  | zero => rwa [Nat.zero_xor]
  | add m _ ih => rw [Nat.xor_assoc]; exact .add m ih
theorem Spn.mono {l l' : List Nat} (h : ∀ x ∈ l, Spn l' x) {y : Nat} (hy : Spn l y) : Spn l' y := by
  induction hy with
  | zero => exact .zero
  | add m _ ih => exact (h _ m).xor ih
theorem Spn.lt {l : List Nat} {m : Nat} (h : ∀ x ∈ l, x < 2 ^ m) {y : Nat} (hy : Spn l y) : y < 2 ^ m := by
  induction hy with
  | zero => exact Nat.pow_pos (by decide)
  | add hm _ ih => exact Nat.xor_lt_two_pow (h _ hm) ih
theorem xor_back (x y : Nat) : (x ^^^ y) ^^^ y = x := by rw [Nat.xor_assoc, Nat.xor_self, Nat.xor_zero]
theorem rd1_spn {k : List Nat} {x s : Nat} (hs : s ∈ k) : Spn k (rd1 x s ^^^ x) := by
  unfold rd1
  split
  · rw [Nat.xor_comm x s, xor_back]; exact .mem hs
  · rw [Nat.xor_self]; exact .zero
theorem red1_spn (k : List Nat) : ∀ (k' : List Nat), (∀ s ∈ k', s ∈ k) → ∀ x, Spn k (red1 k' x ^^^ x)
  | [], _, x => by show Spn k (x ^^^ x); rw [Nat.xor_self]; exact .zero
  | s :: k', h, x => by
    have a := red1_spn k k' (fun t ht => h t (List.mem_cons_of_mem _ ht)) (rd1 x s)
    have b := rd1_spn (x := x) (h s List.mem_cons_self)
    have c := a.xor b
    rw [← Nat.xor_assoc, xor_back] at c
    exact c
theorem spn_red1 {k : List Nat} (h : RR k) {y : Nat} (hy : Spn k y) : red1 k y = 0 := by
  induction hy with
  | zero => exact red1_zero k
  | add m _ ih => rw [red1_lin, red1_mem h _ m, ih]; rfl
theorem spn_zero {k : List Nat} (h : RR k) {y : Nat} (hy : Spn k y) (hx : ∀ s ∈ k, y.testBit s.log2 = false) : y = 0 := (red1_none h hx).symm.trans (spn_red1 h hy)
theorem spn_lead {k : List Nat} (h : RR k) {y : Nat} (hy : Spn k y) (nz : y ≠ 0) : ∃ s ∈ k, s.log2 = y.log2 := by
  refine Classical.byContradiction fun no => ?_
  have e : (red1 k y).testBit y.log2 = y.testBit y.log2 := red1_keep h fun s hs hb => by
    have le := tb_le hb
    have ne : s.log2 ≠ y.log2 := fun z => no ⟨s, hs, z⟩
    exact tb_above (by omega)
  rw [spn_red1 h hy, Nat.testBit_log2 nz] at e
  simp at e
theorem rr_uniq {a b : List Nat} (ha : RR a) (hb : RR b) (h : ∀ y, Spn a y ↔ Spn b y) : ∀ s ∈ a, s ∈ b := fun s hs => by
  obtain ⟨t, ht, e⟩ := spn_lead hb ((h s).mp (.mem hs)) (ha.nz s hs)
  have d : s ^^^ t = 0 := by
    refine spn_zero ha ((Spn.mem hs).xor ((h t).mpr (.mem ht))) fun u hu => ?_
    rw [Nat.testBit_xor]
    by_cases z : u = s
    · subst z
      have h2 := hb.self ht
      rw [e] at h2
      rw [ha.self hs, h2]; rfl
    · have s1 := ha.ne hs hu (fun w => z w.symm)
      obtain ⟨v, hv, ev⟩ := spn_lead hb ((h u).mp (.mem hu)) (ha.nz u hu)
      have us := ha.ne hu hs z
      have vt : t ≠ v := fun w => by
        have h3 := ha.self hu
        rw [← ev, ← w, e] at h3
        rw [h3] at us; cases us
      have t1 := hb.ne ht hv vt
      rw [ev] at t1
      rw [s1, t1]; rfl
  have : s = t := by
    have q := xor_back s t
    rw [d, Nat.zero_xor] at q
    exact q.symm
  rw [this]; exact ht
def redS (k : List Nat) (x : Nat) : List Nat := if red1 k x = 0 then k else k.map (fun s => rd1 s (red1 k x)) ++ [red1 k x]
def red (xs : List Nat) : List Nat := xs.foldl redS []
theorem red_snoc (xs : List Nat) (x : Nat) : red (xs ++ [x]) = redS (red xs) x := by unfold red; rw [List.foldl_append]; rfl
theorem rd1_log2 {s f : Nat} (hs : s ≠ 0) (hf : f ≠ 0) (h : f.testBit s.log2 = false) : (rd1 s f).log2 = s.log2 ∧ rd1 s f ≠ 0 := by
  have ss := Nat.testBit_log2 hs
  have bit : (rd1 s f).testBit s.log2 = true := by rw [rd1_bit, ss, h]; simp
  refine ⟨log2_of bit ?_, fun z => by rw [z] at bit; simp at bit⟩
  unfold rd1
  split
  · rename_i q
    have le := tb_le q
    exact Nat.xor_lt_two_pow Nat.lt_log2_self (Nat.lt_of_lt_of_le Nat.lt_log2_self (Nat.pow_le_pow_right (by decide) (by omega)))
  · exact Nat.lt_log2_self
theorem RR.step {k : List Nat} (h : RR k) (x : Nat) : RR (redS k x) := by
  unfold redS
  by_cases z : red1 k x = 0
  · rw [if_pos z]; exact h
  rw [if_neg z]
  have ld := fun s hs => red1_lead (x := x) h s hs
  generalize red1 k x = f at z ld
  have l2 : ∀ s ∈ k, (rd1 s f).log2 = s.log2 ∧ rd1 s f ≠ 0 := fun s hs => rd1_log2 (h.nz s hs) z (ld s hs)
  have ff := Nat.testBit_log2 z
  refine ⟨fun s hs => ?_, ?_⟩
  · rcases List.mem_append.mp hs with w | w
    · obtain ⟨u, hu, rfl⟩ := List.mem_map.mp w
      exact (l2 u hu).2
    · rw [List.mem_singleton] at w; rw [w]; exact z
  · rw [List.pairwise_append]
    refine ⟨?_, List.pairwise_singleton _ _, fun a ha b hb => ?_⟩
    · rw [List.pairwise_map]
      refine List.Pairwise.imp_of_mem (fun {a b} ha hb r => ?_) h.ap
      rw [(l2 a ha).1, (l2 b hb).1, rd1_bit, rd1_bit, r.1, r.2, ld a ha, ld b hb]
      simp
    · rw [List.mem_singleton] at hb
      obtain ⟨u, hu, rfl⟩ := List.mem_map.mp ha
      subst hb
      refine ⟨by rw [(l2 u hu).1]; exact ld u hu, ?_⟩
      rw [rd1_bit, ff]
      cases u.testBit b.log2 <;> rfl
theorem redS_spn {k : List Nat} (x y : Nat) : Spn (redS k x) y ↔ Spn (k ++ [x]) y := by
  have rx := red1_spn k k (fun _ h => h) x
  unfold redS
  have inl : ∀ {z}, Spn k z → Spn (k ++ [x]) z := fun {z} hz => hz.mono fun u hu => .mem (List.mem_append_left _ hu)
  have xm : Spn (k ++ [x]) x := .mem (by simp)
  by_cases z : red1 k x = 0
  · rw [if_pos z]
    rw [z, Nat.zero_xor] at rx
    refine ⟨inl, fun h => h.mono fun u hu => ?_⟩
    rcases List.mem_append.mp hu with w | w
    · exact .mem w
    · rw [List.mem_singleton] at w; rw [w]; exact rx
  rw [if_neg z]
  have fm : Spn (k ++ [x]) (red1 k x) := by
    have := (inl rx).xor xm
    rwa [xor_back] at this
  revert rx fm
  generalize red1 k x = f
  intro rx fm
  have ff : Spn (k.map (fun s => rd1 s f) ++ [f]) f := .mem (by simp)
  have sk : ∀ s ∈ k, Spn (k.map (fun s => rd1 s f) ++ [f]) s := fun s hs => by
    have a : Spn (k.map (fun s => rd1 s f) ++ [f]) (rd1 s f) := .mem (List.mem_append_left _ (List.mem_map_of_mem (f := fun s => rd1 s f) hs))
    by_cases q : s.testBit f.log2 = true
    · have b := a.xor ff
      rw [show rd1 s f = s ^^^ f from if_pos q, xor_back] at b
      exact b
    · rw [show rd1 s f = s from if_neg q] at a
      exact a
  constructor
  · intro h
    refine h.mono fun u hu => ?_
    rcases List.mem_append.mp hu with w | w
    · obtain ⟨s, hs, rfl⟩ := List.mem_map.mp w
      unfold rd1
      split
      · exact (inl (.mem hs)).xor fm
      · exact inl (.mem hs)
    · rw [List.mem_singleton] at w; rw [w]; exact fm
  · intro h
    refine h.mono fun u hu => ?_
    rcases List.mem_append.mp hu with w | w
    · exact sk u w
    · rw [List.mem_singleton] at w
      subst w
      have b := ff.xor (rx.mono sk)
      rw [← Nat.xor_assoc, Nat.xor_self, Nat.zero_xor] at b
      exact b
theorem snocN {P : List Nat → Prop} (h0 : P []) (hs : ∀ l t, P l → P (l ++ [t])) (l : List Nat) : P l := by
  have : ∀ r : List Nat, P r.reverse := fun r => by
    induction r with
    | nil => exact h0
    | cons a r ih => rw [List.reverse_cons]; exact hs _ _ ih
  have q := this l.reverse
  rwa [List.reverse_reverse] at q
theorem red_rr (xs : List Nat) : RR (red xs) := snocN (P := fun xs => RR (red xs)) RR.nil (fun l t ih => by rw [red_snoc]; exact ih.step t) xs
theorem red_spn (xs : List Nat) : ∀ y, Spn (red xs) y ↔ Spn xs y := by
  refine snocN (P := fun xs => ∀ y, Spn (red xs) y ↔ Spn xs y) (fun y => Iff.rfl) (fun l t ih y => ?_) xs
  rw [red_snoc, redS_spn]
  constructor
  · exact fun h => h.mono fun u hu => by
      rcases List.mem_append.mp hu with w | w
      · exact ((ih u).mp (.mem w)).mono fun v hv => .mem (List.mem_append_left _ hv)
      · exact .mem (List.mem_append_right _ w)
  · exact fun h => h.mono fun u hu => by
      rcases List.mem_append.mp hu with w | w
      · exact ((ih u).mpr (.mem w)).mono fun v hv => .mem (List.mem_append_left _ hv)
      · exact .mem (List.mem_append_right _ w)
theorem red_lt {xs : List Nat} {m : Nat} (h : ∀ x ∈ xs, x < 2 ^ m) : ∀ s ∈ red xs, s < 2 ^ m := fun s hs => Spn.lt h ((red_spn xs s).mp (.mem hs))
def Fsh (xs : List Nat) : Prop := ∀ i x, xs[i]? = some x → ∃ j, x.testBit j = true ∧ ∀ y ∈ xs.take i, y.testBit j = false
end My
namespace My
def xsum : Nat → (Nat → Bool) → Bool
  | 0, _ => false
  | m + 1, f => xsum m f ^^ f m
theorem xsum_congr {f g : Nat → Bool} : ∀ {m : Nat}, (∀ j, j < m → f j = g j) → xsum m f = xsum m g
  | 0, _ => rfl
  | m + 1, h => by unfold xsum; rw [xsum_congr fun j hj => h j (by omega), h m (by omega)]
theorem xsum_xor (f g : Nat → Bool) : ∀ m : Nat, xsum m (fun j => f j ^^ g j) = (xsum m f ^^ xsum m g)
  | 0 => rfl
  | m + 1 => by
    unfold xsum
    rw [xsum_xor f g m]
    show ((xsum m f ^^ xsum m g) ^^ (f m ^^ g m)) = _
    cases xsum m f <;> cases xsum m g <;> cases f m <;> cases g m <;> rfl
theorem xsum_false : ∀ m : Nat, xsum m (fun _ => false) = false
  | 0 => rfl
  | m + 1 => by unfold xsum; rw [xsum_false m]; rfl
theorem xsum_one {f : Nat → Bool} {l : Nat} : ∀ {m : Nat}, (∀ j, j < m → j ≠ l → f j = false) → xsum m f = (decide (l < m) && f l)
  | 0, _ => by simp [xsum]
  | m + 1, h => by
    unfold xsum
    rw [xsum_one (m := m) fun j hj => h j (by omega)]
    by_cases e : l = m
    · subst e; simp
    · have n := h m (by omega) (fun z => e z.symm)
      rw [n]
      have : decide (l < m) = decide (l < m + 1) := by
        by_cases q : l < m
        · rw [decide_eq_true q, decide_eq_true (by omega)]
        · rw [decide_eq_false q, decide_eq_false (by omega)]
      rw [this]; simp
theorem xsum_head (f : Nat → Bool) : ∀ m : Nat, xsum (m + 1) f = (f 0 ^^ xsum m fun j => f (j + 1))
  | 0 => by simp [xsum]
  | m + 1 => by
    rw [xsum, xsum_head f m, xsum]
    cases f 0 <;> cases xsum m (fun j => f (j + 1)) <;> cases f (m + 1) <;> rfl
theorem xsum_rev (f : Nat → Bool) : ∀ m : Nat, xsum m (fun j => f (m - 1 - j)) = xsum m f
  | 0 => rfl
  | m + 1 => by
    rw [xsum_head]
    have : xsum m (fun j => f (m + 1 - 1 - (j + 1))) = xsum m fun j => f (m - 1 - j) := xsum_congr fun j hj => by
      rw [show m + 1 - 1 - (j + 1) = m - 1 - j by omega]
    rw [this, xsum_rev f m]
    show (f m ^^ xsum m f) = (xsum m f ^^ f m)
    cases f m <;> cases xsum m f <;> rfl
def dot (m x y : Nat) : Bool := xsum m fun j => x.testBit j && y.testBit j
theorem dot_left (m x x' y : Nat) : dot m (x ^^^ x') y = (dot m x y ^^ dot m x' y) := by
  unfold dot
  rw [← xsum_xor]
  refine xsum_congr fun j _ => ?_
  rw [Nat.testBit_xor]
  cases x.testBit j <;> cases x'.testBit j <;> cases y.testBit j <;> rfl
theorem dot_right (m x y y' : Nat) : dot m x (y ^^^ y') = (dot m x y ^^ dot m x y') := by
  unfold dot
  rw [← xsum_xor]
  refine xsum_congr fun j _ => ?_
  rw [Nat.testBit_xor]
  cases x.testBit j <;> cases y.testBit j <;> cases y'.testBit j <;> rfl
theorem dot_zero (m y : Nat) : dot m 0 y = false := by
  unfold dot
  rw [xsum_congr (g := fun _ => false) fun j _ => by simp, xsum_false]
theorem dot_zero' (m y : Nat) : dot m y 0 = false := by
  unfold dot
  rw [xsum_congr (g := fun _ => false) fun j _ => by simp, xsum_false]
theorem dot_pow {m p y : Nat} (hp : p < m) : dot m (2 ^ p) y = y.testBit p := by
  unfold dot
  rw [xsum_one (l := p) fun j _ ne => by rw [Nat.testBit_two_pow, decide_eq_false (fun z => ne z.symm)]; rfl]
  rw [Nat.testBit_two_pow]
  simp [hp]
theorem dot_only {m x s l : Nat} (hl : l < m) (hs : s.testBit l = true) (h : ∀ j, j < m → j ≠ l → (x.testBit j && s.testBit j) = false) : dot m x s = x.testBit l := by
  unfold dot
  rw [xsum_one (l := l) h, decide_eq_true hl, hs]
  simp
theorem spn_dot {l : List Nat} {m y : Nat} (h : ∀ s ∈ l, dot m y s = false) {z : Nat} (hz : Spn l z) : dot m y z = false := by
  induction hz with
  | zero => exact dot_zero' m y
  | add hm _ ih => rw [dot_right, h _ hm, ih]; rfl
theorem spn_dotL {l : List Nat} {m s : Nat} (h : ∀ x ∈ l, dot m x s = false) {z : Nat} (hz : Spn l z) : dot m z s = false := by
  induction hz with
  | zero => exact dot_zero m s
  | add hm _ ih => rw [dot_left, h _ hm, ih]; rfl
theorem add_pow : ∀ (l x : Nat), x.testBit l = false → 2 ^ l + x = 2 ^ l ^^^ x
  | 0, x, h => by
    have e : x % 2 = 0 := by
      rw [Nat.testBit_zero] at h
      have := of_decide_eq_false h
      omega
    show 1 + x = 1 ^^^ x
    rw [Nat.xor_comm, xor_one_even e, Nat.add_comm]
  | l + 1, x, h => by
    rw [Nat.testBit_succ] at h
    have ih := add_pow l (x / 2) h
    have d : (2 ^ (l + 1) ^^^ x) / 2 = 2 ^ l + x / 2 := by
      rw [Nat.xor_div_two, ih, Nat.pow_succ, Nat.mul_div_cancel _ (by decide)]
    have b : (2 ^ (l + 1) ^^^ x).testBit 0 = x.testBit 0 := by rw [Nat.testBit_xor, Nat.testBit_two_pow]; simp
    rw [Nat.testBit_zero, Nat.testBit_zero] at b
    have b' : (2 ^ (l + 1) ^^^ x) % 2 = 1 ↔ x % 2 = 1 := by simpa using b
    have p := Nat.pow_succ (n := 2) (m := l)
    rcases Nat.mod_two_eq_zero_or_one x with q | q
    · have : ¬ (2 ^ (l + 1) ^^^ x) % 2 = 1 := fun z => by have := b'.mp z; omega
      omega
    · have := b'.mpr q
      omega
theorem sum_pow : ∀ (L : List Nat), L.Nodup → ∀ j, ((L.map fun l => 2 ^ l).sum).testBit j = decide (j ∈ L)
  | [], _, j => by simp
  | l :: L, nd, j => by
    obtain ⟨n1, n2⟩ := List.nodup_cons.mp nd
    have ih := sum_pow L n2
    rw [List.map_cons, List.sum_cons, add_pow l _ (by rw [ih l, decide_eq_false n1]), Nat.testBit_xor, ih j, Nat.testBit_two_pow]
    by_cases e : l = j
    · subst e; simp [n1]
    · have e' : ¬ j = l := fun z => e z.symm
      simp [e, e']
def crM (S : List Nat) (p : Nat) : Nat := 2 ^ p + ((S.filter fun s : Nat => s.testBit p).map fun s : Nat => 2 ^ s.log2).sum
def isLd (S : List Nat) (p : Nat) : Prop := ∃ s ∈ S, s.log2 = p
instance (S : List Nat) : DecidablePred (isLd S) := fun p => inferInstanceAs (Decidable (∃ s ∈ S, s.log2 = p))
theorem ld_nd : ∀ {S : List Nat}, RR S → (S.map Nat.log2).Nodup
  | [], _ => List.nodup_nil
  | s :: S, h => by
    rw [List.map_cons]
    refine List.nodup_cons.mpr ⟨fun z => ?_, ld_nd h.tl⟩
    obtain ⟨t, ht, e⟩ := List.mem_map.mp z
    have a := (h.hd t ht).1
    rw [← e, h.self (List.mem_cons_of_mem _ ht)] at a
    cases a
theorem lead_bit {S : List Nat} (h : RR S) (p j : Nat) : (((S.filter fun s : Nat => s.testBit p).map fun s : Nat => 2 ^ s.log2).sum).testBit j = decide (∃ s ∈ S, s.testBit p = true ∧ s.log2 = j) := by
  have e : ((S.filter fun s : Nat => s.testBit p).map fun s : Nat => 2 ^ s.log2) = ((S.filter fun s : Nat => s.testBit p).map Nat.log2).map fun l => 2 ^ l := by rw [List.map_map]; rfl
  rw [e, sum_pow _ ((ld_nd h).sublist (List.filter_sublist.map _))]
  refine decide_eq_decide.mpr ?_
  rw [List.mem_map]
  constructor
  · rintro ⟨s, hs, rfl⟩
    exact ⟨s, (List.mem_filter.mp hs).1, (List.mem_filter.mp hs).2, rfl⟩
  · rintro ⟨s, hs, h1, rfl⟩
    exact ⟨s, List.mem_filter.mpr ⟨hs, h1⟩, rfl⟩
theorem leads_bit {S : List Nat} (h : RR S) (j : Nat) : ((S.map fun s : Nat => 2 ^ s.log2).sum).testBit j = decide (isLd S j) := by
  have e : (S.map fun s : Nat => 2 ^ s.log2) = (S.map Nat.log2).map fun l => 2 ^ l := by rw [List.map_map]; rfl
  rw [e, sum_pow _ (ld_nd h)]
  refine decide_eq_decide.mpr ?_
  rw [List.mem_map]
  exact Iff.rfl
theorem crM_bit {S : List Nat} (h : RR S) {p : Nat} (np : ¬ isLd S p) (j : Nat) : (crM S p).testBit j = (decide (p = j) ^^ decide (∃ s ∈ S, s.testBit p = true ∧ s.log2 = j)) := by
  unfold crM
  rw [add_pow _ _ (by rw [lead_bit h]; exact decide_eq_false fun ⟨s, hs, _, e⟩ => np ⟨s, hs, e⟩), Nat.testBit_xor, Nat.testBit_two_pow, lead_bit h]
theorem crM_lt {S : List Nat} {m : Nat} (h : RR S) (hm : ∀ s ∈ S, s < 2 ^ m) {p : Nat} (hp : p < m) (np : ¬ isLd S p) : crM S p < 2 ^ m := by
  refine Nat.lt_pow_two_of_testBit _ fun i hi => ?_
  rw [crM_bit h np, decide_eq_false (by omega : ¬ p = i), decide_eq_false]
  · rfl
  · rintro ⟨s, hs, _, e⟩
    have := h.self hs
    rw [e, tb_hi (hm s hs) hi] at this
    cases this
theorem crM_dot {S : List Nat} {m : Nat} (h : RR S) (hm : ∀ s ∈ S, s < 2 ^ m) {p : Nat} (hp : p < m) (np : ¬ isLd S p) : ∀ s ∈ S, dot m (crM S p) s = false := fun s hs => by
  have e : crM S p = 2 ^ p ^^^ ((S.filter fun s : Nat => s.testBit p).map fun s : Nat => 2 ^ s.log2).sum := by
    unfold crM
    exact add_pow _ _ (by rw [lead_bit h]; exact decide_eq_false fun ⟨s, hs, _, e⟩ => np ⟨s, hs, e⟩)
  have ls : s.log2 < m := by
    have := h.self hs
    rcases Nat.lt_or_ge s.log2 m with z | z
    · exact z
    · rw [tb_hi (hm s hs) z] at this; cases this
  rw [e, dot_left, dot_pow hp, dot_only (l := s.log2) ls (h.self hs) fun j hj ne => ?_, lead_bit h]
  · have : decide (∃ t ∈ S, t.testBit p = true ∧ t.log2 = s.log2) = s.testBit p := by
      cases q : s.testBit p with
      | true => exact decide_eq_true ⟨s, hs, q, rfl⟩
      | false =>
        refine decide_eq_false ?_
        rintro ⟨t, ht, h1, h2⟩
        by_cases z : t = s
        · subst z; rw [q] at h1; cases h1
        · have a := h.ne hs ht (fun w => z w.symm)
          rw [h2, h.self hs] at a; cases a
    rw [this]
    cases s.testBit p <;> rfl
  · rw [lead_bit h]
    by_cases q : ∃ t ∈ S, t.testBit p = true ∧ t.log2 = j
    · obtain ⟨t, ht, h1, h2⟩ := q
      have z : s ≠ t := fun w => ne (by rw [w, h2])
      have a := h.ne hs ht z
      rw [h2] at a
      rw [a]; simp
    · rw [decide_eq_false q]; rfl
def crAll (S : List Nat) (m : Nat) : List Nat := ((List.range m).filter fun p => !decide (isLd S p)).map (crM S)
def xl (L : List Nat) : Nat := L.foldr (· ^^^ ·) 0
theorem xl_spn {l L : List Nat} (h : ∀ x ∈ L, x ∈ l) : Spn l (xl L) := by
  induction L with
  | nil => exact .zero
  | cons a L ih => exact .add (h a List.mem_cons_self) (ih fun x hx => h x (List.mem_cons_of_mem _ hx))
theorem xl_cr {S : List Nat} (h : RR S) : ∀ (L : List Nat), L.Nodup → (∀ p ∈ L, ¬ isLd S p) → ∀ j, ¬ isLd S j → (xl (L.map (crM S))).testBit j = decide (j ∈ L)
  | [], _, _, j, _ => by simp [xl]
  | p :: L, nd, np, j, nj => by
    obtain ⟨n1, n2⟩ := List.nodup_cons.mp nd
    show (crM S p ^^^ xl (L.map (crM S))).testBit j = _
    rw [Nat.testBit_xor, xl_cr h L n2 (fun q hq => np q (List.mem_cons_of_mem _ hq)) j nj, crM_bit h (np p List.mem_cons_self), decide_eq_false (p := ∃ s ∈ S, s.testBit p = true ∧ s.log2 = j) fun ⟨s, hs, _, e⟩ => nj ⟨s, hs, e⟩]
    by_cases e : p = j
    · subst e; simp [n1]
    · have e' : ¬ j = p := fun z => e z.symm
      simp [e, e']
theorem cr_spn {S : List Nat} {m : Nat} (h : RR S) (hm : ∀ s ∈ S, s < 2 ^ m) (y : Nat) : Spn (crAll S m) y ↔ y < 2 ^ m ∧ ∀ s ∈ S, dot m y s = false := by
  have mem : ∀ x, x ∈ crAll S m ↔ ∃ p, p < m ∧ ¬ isLd S p ∧ crM S p = x := fun x => by
    unfold crAll
    rw [List.mem_map]
    constructor
    · rintro ⟨p, hp, rfl⟩
      obtain ⟨h1, h2⟩ := List.mem_filter.mp hp
      exact ⟨p, List.mem_range.mp h1, by simpa using h2, rfl⟩
    · rintro ⟨p, h1, h2, rfl⟩
      exact ⟨p, List.mem_filter.mpr ⟨List.mem_range.mpr h1, by simpa using h2⟩, rfl⟩
  constructor
  · intro hy
    refine ⟨Spn.lt (fun x hx => ?_) hy, fun s hs => spn_dotL (fun x hx => ?_) hy⟩
    · obtain ⟨p, h1, h2, rfl⟩ := (mem x).mp hx
      exact crM_lt h hm h1 h2
    · obtain ⟨p, h1, h2, rfl⟩ := (mem x).mp hx
      exact crM_dot h hm h1 h2 s hs
  · rintro ⟨hy, hd⟩
    have hL : ∀ p ∈ (List.range m).filter (fun p => !decide (isLd S p) && y.testBit p), p < m ∧ ¬ isLd S p ∧ y.testBit p = true := fun p hp => by
      obtain ⟨h1, h2⟩ := List.mem_filter.mp hp
      rw [Bool.and_eq_true] at h2
      exact ⟨List.mem_range.mp h1, by simpa using h2.1, h2.2⟩
    have nd : ((List.range m).filter (fun p => !decide (isLd S p) && y.testBit p)).Nodup := List.nodup_range.sublist List.filter_sublist
    have cov : ∀ j, j < m → ¬ isLd S j → (j ∈ (List.range m).filter (fun p => !decide (isLd S p) && y.testBit p) ↔ y.testBit j = true) := fun j hj nj => by
      rw [List.mem_filter, List.mem_range]
      simp [hj, nj]
    generalize (List.range m).filter (fun p => !decide (isLd S p) && y.testBit p) = L at hL nd cov
    have sp : Spn (crAll S m) (xl (L.map (crM S))) := xl_spn fun x hx => by
      obtain ⟨p, hp, rfl⟩ := List.mem_map.mp hx
      exact (mem _).mpr ⟨p, (hL p hp).1, (hL p hp).2.1, rfl⟩
    have lt1 : xl (L.map (crM S)) < 2 ^ m := Spn.lt (fun x hx => by
      obtain ⟨p, h1, h2, rfl⟩ := (mem x).mp hx
      exact crM_lt h hm h1 h2) sp
    have dz : ∀ s ∈ S, dot m (y ^^^ xl (L.map (crM S))) s = false := fun s hs => by
      rw [dot_left, hd s hs, spn_dotL (fun x hx => ?_) sp]
      · rfl
      · obtain ⟨p, h1, h2, rfl⟩ := (mem x).mp hx
        exact crM_dot h hm h1 h2 s hs
    have non : ∀ j, ¬ isLd S j → (y ^^^ xl (L.map (crM S))).testBit j = false := fun j nj => by
      rw [Nat.testBit_xor, xl_cr h L nd (fun p hp => (hL p hp).2.1) j nj]
      by_cases hj : j < m
      · cases q : y.testBit j with
        | true => rw [decide_eq_true ((cov j hj nj).mpr q)]; rfl
        | false => rw [decide_eq_false fun z => by rw [(cov j hj nj).mp z] at q; cases q]; rfl
      · rw [tb_hi hy (by omega), decide_eq_false fun z => hj (hL j z).1]; rfl
    have z0 : y ^^^ xl (L.map (crM S)) = 0 := by
      refine Nat.eq_of_testBit_eq fun j => ?_
      rw [Nat.zero_testBit]
      by_cases q : isLd S j
      · obtain ⟨s, hs, rfl⟩ := q
        have ls : s.log2 < m := by
          have := h.self hs
          rcases Nat.lt_or_ge s.log2 m with z | z
          · exact z
          · rw [tb_hi (hm s hs) z] at this; cases this
        rw [← dot_only (m := m) (s := s) ls (h.self hs) fun j hj ne => ?_]
        · exact dz s hs
        · by_cases q : isLd S j
          · obtain ⟨t, ht, rfl⟩ := q
            rw [h.ne hs ht (fun w => ne (by rw [w]))]; simp
          · rw [non j q]; rfl
      · exact non j q
    have : y = xl (L.map (crM S)) := by
      have q := xor_back y (xl (L.map (crM S)))
      rw [z0, Nat.zero_xor] at q
      exact q.symm
    rw [this]; exact sp
end My
namespace My
open PySem
theorem add_xor : ∀ (n a b : Nat), a < n → a + b = (a ^^^ b) + 2 * (a &&& b)
  | 0, _, _, h => absurd h (Nat.not_lt_zero _)
  | n + 1, a, b, h => by
    by_cases a0 : a = 0
    · subst a0; simp
    have ih := add_xor n (a / 2) (b / 2) (by omega)
    have d1 : (a ^^^ b) / 2 = a / 2 ^^^ b / 2 := Nat.xor_div_two
    have d2 : (a &&& b) / 2 = a / 2 &&& b / 2 := Nat.and_div_two
    have b1 : (a ^^^ b).testBit 0 = (a.testBit 0 ^^ b.testBit 0) := Nat.testBit_xor ..
    have b2 : (a &&& b).testBit 0 = (a.testBit 0 && b.testBit 0) := Nat.testBit_and ..
    rw [Nat.testBit_zero, Nat.testBit_zero, Nat.testBit_zero] at b1 b2
    rw [← d1, ← d2] at ih
    generalize a ^^^ b = X at b1 ih ⊢
    generalize a &&& b = Y at b2 ih ⊢
    rcases Nat.mod_two_eq_zero_or_one a with p | p <;> rcases Nat.mod_two_eq_zero_or_one b with q | q <;> rw [p, q] at b1 b2 <;> simp at b1 b2 <;> omega
theorem band_nat (a b : Nat) : Builtin.bitAnd (a : Int) (b : Int) = ((a &&& b : Nat) : Int) := by
  unfold Builtin.bitAnd
  rw [decide_eq_true (Int.natCast_nonneg a), decide_eq_true (Int.natCast_nonneg b)]
  simp
theorem bxor_nat (a b : Nat) : Builtin.bitXor (a : Int) (b : Int) = ((a ^^^ b : Nat) : Int) := by
  have e := add_xor (a + 1) a b (Nat.lt_succ_self a)
  have h : Builtin.bitXor (a : Int) (b : Int) = (a : Int) + b - 2 * Builtin.bitAnd a b := by
    have x : ∀ x y : Int, Builtin.bitNot (Builtin.bitNot x) = x := fun x y => by unfold Builtin.bitNot; omega
    unfold Builtin.bitXor Builtin.bitOr
    have na : ¬ (0 : Int) ≤ Builtin.bitNot (a : Int) := by unfold Builtin.bitNot; omega
    have nb : ¬ (0 : Int) ≤ Builtin.bitNot (b : Int) := by unfold Builtin.bitNot; omega
    have o : Builtin.bitAnd (Builtin.bitNot (a : Int)) (Builtin.bitNot (b : Int)) = Builtin.bitNot ((a ||| b : Nat) : Int) := by
      unfold Builtin.bitAnd
      rw [decide_eq_false na, decide_eq_false nb]
      show Builtin.bitNot _ = _
      rw [x a 0, x b 0]; simp
    rw [o, x _ 0, band_nat]
    have e2 : (a ||| b) + (a &&& b) = a + b := by
      have := add_or (a + 1) a b (Nat.lt_succ_self a)
      omega
    omega
  rw [h, band_nat]
  omega
where
  add_or : ∀ (n a b : Nat), a < n → (a ||| b) + (a &&& b) = a + b
  | 0, _, _, h => absurd h (Nat.not_lt_zero _)
  | n + 1, a, b, h => by
    by_cases a0 : a = 0
    · subst a0; simp
    have ih := add_or n (a / 2) (b / 2) (by omega)
    have d1 : (a ||| b) / 2 = a / 2 ||| b / 2 := Nat.or_div_two
    have d2 : (a &&& b) / 2 = a / 2 &&& b / 2 := Nat.and_div_two
    have b1 : (a ||| b).testBit 0 = (a.testBit 0 || b.testBit 0) := Nat.testBit_or ..
    have b2 : (a &&& b).testBit 0 = (a.testBit 0 && b.testBit 0) := Nat.testBit_and ..
    rw [Nat.testBit_zero, Nat.testBit_zero, Nat.testBit_zero] at b1 b2
    rw [← d1, ← d2] at ih
    generalize a ||| b = X at b1 ih ⊢
    generalize a &&& b = Y at b2 ih ⊢
    rcases Nat.mod_two_eq_zero_or_one a with p | p <;> rcases Nat.mod_two_eq_zero_or_one b with q | q <;> rw [p, q] at b1 b2 <;> simp at b1 b2 <;> omega
theorem low_ex : ∀ (n f : Nat), f < n → f ≠ 0 → ∃ i, f.testBit i = true ∧ ∀ j, j < i → f.testBit j = false
  | 0, _, h, _ => absurd h (Nat.not_lt_zero _)
  | n + 1, f, h, nz => by
    rcases Nat.mod_two_eq_zero_or_one f with p | p
    · obtain ⟨i, h1, h2⟩ := low_ex n (f / 2) (by omega) (by omega)
      refine ⟨i + 1, by rw [Nat.testBit_succ]; exact h1, fun j hj => ?_⟩
      cases j with
      | zero => rw [Nat.testBit_zero, p]; rfl
      | succ j => rw [Nat.testBit_succ]; exact h2 j (by omega)
    · exact ⟨0, by rw [Nat.testBit_zero, p]; rfl, fun j hj => absurd hj (Nat.not_lt_zero _)⟩
noncomputable def lo (f : Nat) : Nat := Classical.epsilon fun i => f.testBit i = true ∧ ∀ j, j < i → f.testBit j = false
theorem lo_spec {f : Nat} (h : f ≠ 0) : f.testBit (lo f) = true ∧ ∀ j, j < lo f → f.testBit j = false :=
  Classical.epsilon_spec (low_ex (f + 1) f (Nat.lt_succ_self _) h)
theorem pred_bit : ∀ (i f : Nat), f.testBit i = true → (∀ j, j < i → f.testBit j = false) → ∀ j, (f - 1).testBit j = (decide (j < i) || (decide (i < j) && f.testBit j))
  | 0, f, h1, _, j => by
    rw [Nat.testBit_zero] at h1
    have p := of_decide_eq_true h1
    cases j with
    | zero => rw [Nat.testBit_zero]; simp; omega
    | succ j => rw [Nat.testBit_succ, Nat.testBit_succ, show (f - 1) / 2 = f / 2 by omega]; simp
  | i + 1, f, h1, h2, j => by
    have z := h2 0 (by omega)
    rw [Nat.testBit_zero] at z
    have p := of_decide_eq_false z
    rw [Nat.testBit_succ] at h1
    have nz : f / 2 ≠ 0 := fun w => by rw [w] at h1; simp at h1
    cases j with
    | zero => rw [Nat.testBit_zero]; simp; omega
    | succ j =>
      rw [Nat.testBit_succ, Nat.testBit_succ, show (f - 1) / 2 = f / 2 - 1 by omega, pred_bit i (f / 2) h1 (fun k hk => by have := h2 (k + 1) (by omega); rwa [Nat.testBit_succ] at this) j]
      simp
theorem low_bit {f : Nat} (nz : f ≠ 0) : Builtin.bitAnd (f : Int) (-(f : Int)) = ((2 ^ lo f : Nat) : Int) := by
  obtain ⟨h1, h2⟩ := lo_spec nz
  have ev : Builtin.bitAnd (f : Int) (-(f : Int)) = (f : Int) - ((f &&& (f - 1) : Nat) : Int) := by
    unfold Builtin.bitAnd
    rw [decide_eq_true (Int.natCast_nonneg _), decide_eq_false (by omega : ¬ (0 : Int) ≤ -(f : Int))]
    show (f : Int) - ((((f : Int).toNat) &&& (Builtin.bitNot (-(f : Int))).toNat : Nat) : Int) = _
    rw [show (Builtin.bitNot (-(f : Int))).toNat = f - 1 by unfold Builtin.bitNot; omega, Int.toNat_natCast]
  rw [ev]
  have pb := pred_bit (lo f) f h1 h2
  have e : f = 2 ^ lo f + (f &&& (f - 1)) := by
    rw [add_pow _ _ (by rw [Nat.testBit_and, pb]; simp)]
    refine Nat.eq_of_testBit_eq fun j => ?_
    rw [Nat.testBit_xor, Nat.testBit_two_pow, Nat.testBit_and, pb j]
    rcases Nat.lt_trichotomy j (lo f) with z | z | z
    · have : ¬ lo f = j := by omega
      rw [h2 j z]; simp [this]
    · subst z; rw [h1]; simp
    · have n1 : ¬ lo f = j := by omega
      simp [z, n1]
      exact fun h => .inr h
  omega
theorem and_pow (x p : Nat) : x &&& 2 ^ p ≠ 0 ↔ x.testBit p = true := by
  constructor
  · intro ne
    cases q : x.testBit p with
    | true => rfl
    | false =>
      refine absurd (Nat.eq_of_testBit_eq fun j => ?_) ne
      rw [Nat.testBit_and, Nat.testBit_two_pow, Nat.zero_testBit]
      by_cases e : p = j
      · subst e; rw [q]; rfl
      · simp [e]
  · intro q z
    have := congrArg (fun x : Nat => x.testBit p) z
    simp [Nat.testBit_and, q] at this
def rv (m x : Nat) : Nat := ((((List.range m).filter fun i => x.testBit i).map fun i => m - 1 - i).map fun l => 2 ^ l).sum
theorem rv_bit (m x j : Nat) : (rv m x).testBit j = (decide (j < m) && x.testBit (m - 1 - j)) := by
  have nd : (((List.range m).filter fun i => x.testBit i).map fun i => m - 1 - i).Nodup := by
    have h : ((List.range m).filter fun i => x.testBit i).Pairwise fun a b => m - 1 - a ≠ m - 1 - b := by
      have : (List.range m).Pairwise fun a b => a ≠ b := List.nodup_range
      refine List.Pairwise.imp_of_mem (fun {a b} ha hb ne => ?_) (this.sublist List.filter_sublist)
      have a1 := List.mem_range.mp (List.mem_filter.mp ha).1
      have b1 := List.mem_range.mp (List.mem_filter.mp hb).1
      omega
    rw [List.Nodup, List.pairwise_map]
    exact h
  unfold rv
  rw [sum_pow _ nd]
  by_cases hj : j < m
  · rw [decide_eq_true hj, Bool.true_and]
    cases q : x.testBit (m - 1 - j) with
    | true => exact decide_eq_true (List.mem_map.mpr ⟨m - 1 - j, List.mem_filter.mpr ⟨List.mem_range.mpr (by omega), q⟩, by omega⟩)
    | false =>
      refine decide_eq_false fun z => ?_
      obtain ⟨i, hi, e⟩ := List.mem_map.mp z
      obtain ⟨h1, h2⟩ := List.mem_filter.mp hi
      have := List.mem_range.mp h1
      rw [show m - 1 - j = i by omega, h2] at q; cases q
  · rw [decide_eq_false hj, Bool.false_and]
    refine decide_eq_false fun z => ?_
    obtain ⟨i, hi, e⟩ := List.mem_map.mp z
    have := List.mem_range.mp (List.mem_filter.mp hi).1
    omega
theorem rv_lt (m x : Nat) : rv m x < 2 ^ m := Nat.lt_pow_two_of_testBit _ fun i hi => by rw [rv_bit, decide_eq_false (by omega)]; rfl
theorem rv_xor (m x y : Nat) : rv m (x ^^^ y) = rv m x ^^^ rv m y := Nat.eq_of_testBit_eq fun j => by
  rw [Nat.testBit_xor, rv_bit, rv_bit, rv_bit, Nat.testBit_xor]
  cases decide (j < m) <;> simp
theorem rv_rv {m x : Nat} (h : x < 2 ^ m) : rv m (rv m x) = x := Nat.eq_of_testBit_eq fun j => by
  rw [rv_bit, rv_bit]
  by_cases hj : j < m
  · rw [decide_eq_true hj, decide_eq_true (by omega), show m - 1 - (m - 1 - j) = j by omega]; rfl
  · rw [decide_eq_false hj, tb_hi h (Nat.le_of_not_lt hj)]; rfl
theorem rv_zero (m : Nat) : rv m 0 = 0 := Nat.eq_of_testBit_eq fun j => by rw [rv_bit]; simp
theorem rv_ne {m x : Nat} (h : x < 2 ^ m) (nz : x ≠ 0) : rv m x ≠ 0 := fun z => nz (by rw [← rv_rv h, z, rv_zero])
theorem lo_lt {m x : Nat} (h : x < 2 ^ m) (nz : x ≠ 0) : lo x < m := by
  rcases Nat.lt_or_ge (lo x) m with z | z
  · exact z
  · have := (lo_spec nz).1
    rw [tb_hi h z] at this; cases this
theorem rv_log2 {m x : Nat} (h : x < 2 ^ m) (nz : x ≠ 0) : (rv m x).log2 = m - 1 - lo x := by
  obtain ⟨h1, h2⟩ := lo_spec nz
  have l := lo_lt h nz
  refine log2_of ?_ (Nat.lt_pow_two_of_testBit _ fun i hi => ?_)
  · rw [rv_bit, decide_eq_true (by omega), show m - 1 - (m - 1 - lo x) = lo x by omega, h1]; rfl
  · rw [rv_bit]
    by_cases q : i < m
    · rw [h2 (m - 1 - i) (by omega)]; simp
    · rw [decide_eq_false q]; rfl
noncomputable def rdL (x s : Nat) : Nat := if x.testBit (lo s) = true then x ^^^ s else x
theorem rv_rdL {m x s : Nat} (hs : s < 2 ^ m) (nz : s ≠ 0) : rv m (rdL x s) = rd1 (rv m x) (rv m s) := by
  have l := lo_lt hs nz
  unfold rdL rd1
  have b : (rv m x).testBit (rv m s).log2 = x.testBit (lo s) := by
    rw [rv_log2 hs nz, rv_bit, decide_eq_true (by omega), show m - 1 - (m - 1 - lo s) = lo s by omega]; rfl
  rw [b]
  split
  · exact rv_xor m x s
  · rfl
theorem rdL_lt {m x s : Nat} (hx : x < 2 ^ m) (hs : s < 2 ^ m) : rdL x s < 2 ^ m := by
  unfold rdL
  split
  · exact Nat.xor_lt_two_pow hx hs
  · exact hx
noncomputable def redL1 (k : List Nat) (x : Nat) : Nat := k.foldl rdL x
def Gm (m : Nat) (k : List Nat) : Prop := ∀ s ∈ k, s < 2 ^ m ∧ s ≠ 0
theorem redL1_rv {m : Nat} : ∀ {k : List Nat} {x : Nat}, Gm m k → x < 2 ^ m → redL1 k x < 2 ^ m ∧ rv m (redL1 k x) = red1 (k.map (rv m)) (rv m x)
  | [], x, _, hx => ⟨hx, rfl⟩
  | s :: k, x, h, hx => by
    obtain ⟨h1, h2⟩ := h s List.mem_cons_self
    have ih := redL1_rv (x := rdL x s) (fun t ht => h t (List.mem_cons_of_mem _ ht)) (rdL_lt hx h1)
    refine ⟨ih.1, ?_⟩
    show rv m (redL1 k (rdL x s)) = red1 (k.map (rv m)) (rd1 (rv m x) (rv m s))
    rw [ih.2, rv_rdL h1 h2]
noncomputable def redLS (k : List Nat) (x : Nat) : List Nat := if redL1 k x = 0 then k else k.map (fun s => rdL s (redL1 k x)) ++ [redL1 k x]
noncomputable def redL (xs : List Nat) : List Nat := xs.foldl redLS []
theorem redL_snoc (xs : List Nat) (x : Nat) : redL (xs ++ [x]) = redLS (redL xs) x := by unfold redL; rw [List.foldl_append]; rfl
theorem redL_rv {m : Nat} (xs : List Nat) : (∀ x ∈ xs, x < 2 ^ m) → Gm m (redL xs) ∧ (redL xs).map (rv m) = red (xs.map (rv m)) := by
  refine snocN (P := fun xs => (∀ x ∈ xs, x < 2 ^ m) → Gm m (redL xs) ∧ (redL xs).map (rv m) = red (xs.map (rv m))) (fun _ => ⟨fun s hs => (by cases hs), rfl⟩) (fun l t ih h => ?_) xs
  obtain ⟨g, e⟩ := ih fun x hx => h x (List.mem_append_left _ hx)
  have ht := h t (by simp)
  obtain ⟨l1, l2⟩ := redL1_rv g ht
  have sp : ∀ s ∈ redL l, rv m s ≠ 0 := fun s hs => rv_ne (g s hs).1 (g s hs).2
  rw [List.map_append, List.map_singleton, red_snoc, redL_snoc, ← e]
  unfold redLS redS
  rw [← l2]
  by_cases z : redL1 (redL l) t = 0
  · rw [if_pos z, z, rv_zero, if_pos rfl]
    exact ⟨g, rfl⟩
  · have z' := rv_ne l1 z
    rw [if_neg z, if_neg z']
    have rr := red_rr (l.map (rv m))
    rw [← e] at rr
    refine ⟨fun s hs => ?_, ?_⟩
    · rcases List.mem_append.mp hs with w | w
      · obtain ⟨u, hu, rfl⟩ := List.mem_map.mp w
        refine ⟨rdL_lt (g u hu).1 l1, fun q => ?_⟩
        have q2 := rv_rdL (x := u) l1 z
        rw [q, rv_zero] at q2
        have ld := red1_lead (x := rv m t) rr (rv m u) (List.mem_map_of_mem hu)
        rw [← l2] at ld
        exact (rd1_log2 (sp u hu) z' ld).2 q2.symm
      · rw [List.mem_singleton] at w; rw [w]; exact ⟨l1, z⟩
    · rw [List.map_append, List.map_singleton, List.map_map, List.map_map]
      congr 1
      refine List.map_congr_left fun s hs => ?_
      exact rv_rdL l1 z
end My
namespace My
open PySem
def bd (V : Nat → Nat) : Nat → Nat → Nat
  | 0, _ => 0
  | m + 1, y => bd V m y ^^^ (if y.testBit m = true then V m else 0)
noncomputable def el1 (v f : Nat × Nat) : Nat × Nat := if v.1.testBit (lo f.1) = true then (v.1 ^^^ f.1, v.2 ^^^ f.2) else v
noncomputable def el (k : List (Nat × Nat)) (v : Nat × Nat) : Nat × Nat := k.foldl el1 v
abbrev Ech (k : List (Nat × Nat)) : Prop := k.Pairwise fun a b => b.1.testBit (lo a.1) = false
structure EIv (V : Nat → Nat) (m j : Nat) (K : List (Nat × Nat)) (F : List Nat) : Prop where
  k1 : ∀ f ∈ K, f.1 ≠ 0 ∧ f.1 = bd V m f.2
  kl : ∀ f ∈ K, f.2 < 2 ^ j
  k2 : Ech K
  f1 : ∀ y ∈ F, y < 2 ^ j ∧ bd V m y = 0
  cov : ∀ y, y < 2 ^ j → Spn (F ++ K.map (·.2)) y
  len : F.length + K.length = j
  fsh : Fsh F
end My
namespace My
open PySem L2
abbrev iV (n : Nat) : V := .int (n : Int)
def LsN (H : Hp) (a : Addr) (ms : List Nat) : Prop := H a = some (.lst (ms.map iV))
theorem boot_min' : bootBuiltins "min" = some (.builtin "min") := by decide +kernel
theorem boot_sum' : bootBuiltins "sum" = some (.builtin "sum") := by decide +kernel
theorem str_get {as : List Str} {i : Nat} {x : V} (e : (as.map V.str)[i]? = some x) : ∃ a, x = .str a ∧ as[i]? = some a := by
  rw [List.getElem?_map] at e
  cases ha : as[i]? with
  | none => rw [ha] at e; cases e
  | some a => rw [ha] at e; exact ⟨a, (Option.some.inj e).symm, rfl⟩
theorem ref_get {as : List Addr} {i : Nat} {x : V} (e : (as.map V.ref)[i]? = some x) : ∃ a, x = .ref a ∧ as[i]? = some a := by
  rw [List.getElem?_map] at e
  cases ha : as[i]? with
  | none => rw [ha] at e; cases e
  | some a => rw [ha] at e; exact ⟨a, (Option.some.inj e).symm, rfl⟩
theorem iv_get {ms : List Nat} {i : Nat} {x : V} (e : (ms.map iV)[i]? = some x) : ∃ n, x = iV n ∧ ms[i]? = some n := by
  rw [List.getElem?_map] at e
  cases ha : ms[i]? with
  | none => rw [ha] at e; cases e
  | some a => rw [ha] at e; exact ⟨a, (Option.some.inj e).symm, rfl⟩
theorem iv_ints (ms : List Nat) : ms.map iV = (ms.map fun n : Nat => (n : Int)).map V.int := by rw [List.map_map]; rfl
def maskF (names row : List Str) : Nat := names.foldl (fun m n => 2 * m + (if n ∈ row then 1 else 0)) 0
theorem maskF_snoc (names row : List Str) (n : Str) : maskF (names ++ [n]) row = 2 * maskF names row + (if n ∈ row then 1 else 0) := by unfold maskF; rw [List.foldl_append]; rfl
theorem maskF_bit (row : List Str) (names : List Str) : ∀ j, (maskF names row).testBit j = (decide (j < names.length) && decide (∃ n, names[names.length - 1 - j]? = some n ∧ n ∈ row)) := by
  refine snoc_ind (P := fun names => ∀ j, (maskF names row).testBit j = (decide (j < names.length) && decide (∃ n, names[names.length - 1 - j]? = some n ∧ n ∈ row))) (fun j => by simp [maskF]) (fun l n ih j => ?_) names
  rw [maskF_snoc, List.length_append]
  show _ = (decide (j < l.length + 1) && decide (∃ m, (l ++ [n])[l.length + 1 - 1 - j]? = some m ∧ m ∈ row))
  cases j with
  | zero =>
    rw [Nat.testBit_zero, decide_eq_true (by omega : 0 < l.length + 1), Bool.true_and]
    refine decide_eq_decide.mpr ?_
    rw [show l.length + 1 - 1 - 0 = l.length by omega, List.getElem?_append_right (Nat.le_refl _)]
    simp
    by_cases h : n ∈ row
    · simp [h]
    · simp [h]
  | succ j =>
    rw [Nat.testBit_succ, show (2 * maskF l row + (if n ∈ row then 1 else 0)) / 2 = maskF l row by split <;> omega, ih j]
    by_cases hj : j < l.length
    · rw [decide_eq_true hj, decide_eq_true (by omega : j + 1 < l.length + 1), show l.length + 1 - 1 - (j + 1) = l.length - 1 - j by omega, List.getElem?_append_left (by omega)]
    · rw [decide_eq_false hj, decide_eq_false (by omega : ¬ j + 1 < l.length + 1)]; rfl
theorem maskF_lt (names row : List Str) : maskF names row < 2 ^ names.length := Nat.lt_pow_two_of_testBit _ fun i hi => by rw [maskF_bit, decide_eq_false (by omega)]; rfl
def spMask : Sp := fun vs H Q _ => ∃ (pn pr : Addr) (names row : List Str), vs = [.ref pn, .ref pr] ∧ LsS H pn names ∧ LsS H pr row ∧ Q (iV (maskF names row)) H
def rowM (names : List Str) (x : Nat) : List Str := (List.range names.length).filterMap fun i => if x.testBit (names.length - 1 - i) = true then names[i]? else none
def spRowOf : Sp := fun vs H Q _ => ∃ (pn : Addr) (names : List Str) (x : Nat), vs = [.ref pn, iV x] ∧ LsS H pn names ∧ names.length ≤ 12 ∧ ∀ r H', Ext H H' → H r = none → LsS H' r (rowM names x) → Q (.ref r) H'
theorem shr_one (x k : Nat) : Builtin.bitAnd ((x : Int) / 2 ^ k) 1 = if x.testBit k = true then 1 else 0 := by
  have e : (x : Int) / 2 ^ k = ((x / 2 ^ k : Nat) : Int) := by rw [Int.natCast_ediv, Int.natCast_pow]; rfl
  have e1 : (1 : Int) = ((1 : Nat) : Int) := rfl
  rw [e]
  show Builtin.bitAnd _ ((1 : Nat) : Int) = _
  rw [band_nat, Nat.and_one_is_mod, Nat.testBit_eq_decide_div_mod_eq]
  rcases Nat.mod_two_eq_zero_or_one (x / 2 ^ k) with h | h <;> rw [h] <;> rfl
def spLess : Sp := fun vs H Q _ => ∃ (x : Nat) (p : Addr) (k : List Nat), vs = [iV x, .ref p] ∧ LsN H p k ∧ (∀ s ∈ k, s ≠ 0) ∧ Q (iV (red1 k x)) H
theorem min_int (x : Nat) {s : Nat} (hs : s ≠ 0) : (if Builtin.bitXor (x : Int) (s : Int) < (x : Int) then Builtin.bitXor (x : Int) (s : Int) else (x : Int)) = ((rd1 x s : Nat) : Int) := by
  rw [bxor_nat, ← min_rd1 x hs]
  by_cases h : x ^^^ s < x
  · rw [if_pos h, if_pos (by omega)]
  · rw [if_neg h, if_neg (by omega)]
def spRedu : Sp := fun vs H Q _ => ∃ (p : Addr) (ms : List Nat), vs = [.ref p] ∧ LsN H p ms ∧ ms.length ≤ 24 ∧ ∀ (r : Addr) (M : List Nat) (H' : Hp), Ext H H' → H r = none → LsN H' r M → M.Perm (red ms) → M.Pairwise (fun a b => b ≤ a) → Q (.ref r) H'
def spLead : Sp := fun vs H Q _ => ∃ x : Nat, vs = [iV x] ∧ x ≠ 0 ∧ x < 2 ^ 24 ∧ Q (iV (2 ^ x.log2)) H
theorem redS_len (k : List Nat) (x : Nat) : (redS k x).length ≤ k.length + 1 := by
  unfold redS
  split
  · omega
  · rw [List.length_append, List.length_map]; exact Nat.le_refl _
theorem red_le (xs : List Nat) : (red xs).length ≤ xs.length := by
  refine snocN (P := fun xs => (red xs).length ≤ xs.length) (Nat.le_refl _) (fun l t ih => ?_) xs
  rw [red_snoc, List.length_append]
  have := redS_len (red l) t
  show _ ≤ l.length + 1
  omega
section
variable {P : Program} {w : World} {K : PySem.W.Frag} {mg : Str → Option Value} {base : Heap} {f f1 f2 : Addr} {fd fd1 fd2 : FuncData}
abbrev maN : List Str := ["names", "row", "mask", "name"]
theorem scMask : FnScope maN ["names", "row"] (defScope sMask) := ⟨rfl, rfl, rfl, by decide +kernel, rfl, by decide +kernel, by decide +kernel⟩
set_option maxHeartbeats 4000000 in
theorem ok_mask (F : Fun K "mask_of" "mask_of" sMask f fd) : FnOk P w K mg base CX0 1 f fd ["names", "row"] spMask := by
  refine F.ok scMask (fun vs H Q E h => ?_) (fun cdv A outer s H vs Q E hr h => ?_)
  · obtain ⟨pn, pr, names, row, rfl, _⟩ := h
    rfl
  obtain ⟨pn, pr, names, row, rfl, hn, hw, q⟩ := h
  refine ⟨_, pss_cons (ps_set (i := 2) scMask.nd rfl (Or.inl rfl) pe_int)
    (pss_cons (ps_for PassesOwn.never rfl (pi_list (pv 0)) (pg_name (i := 3) scMask.nd rfl (Or.inl rfl))
      (pss_one (ps_set (i := 2) scMask.nd rfl (Or.inl rfl) (pe_op op_add (pe_op op_mul pe_int (pv 2)) (pe_ifExp (pt_cmpR op_in_seq (pv 3) (pv 1) (by with_unfolding_all rfl)) pe_int pe_int)))))
    (pss_one (ps_ret (pv 2)))), ?_⟩
  refine ⟨_, rfl, pn, rfl, ⟨_, SqL.of hn⟩, ?_⟩
  refine for_list (xs := names.map V.str) (fun i σ H' => H' = H ∧ ∃ x3 : Option V, σ = [some (.ref pn), some (.ref pr), some (iV (maskF (names.take i) row)), x3]) ⟨rfl, none, rfl⟩ (fun i σ H' _ h => by rw [h.1]; exact SqL.of hn) ?_ ?_
  · rintro i x σ H' hx ⟨rfl, x3, rfl⟩
    obtain ⟨y, rfl, hy⟩ := str_get hx
    refine ⟨_, rfl, _, _, rfl, rfl, .inl ⟨by decide, by decide⟩, _, rfl, _, rfl, pr, _, rfl, .inl (SqL.of hw), rfl, flat_strs _, _, rfl, ?_⟩
    rw [if_neg (by decide), inV_str]
    refine ite2 (fun c => ?_) (fun c => ?_)
    · have c' : y ∈ row := by simpa using c
      refine ⟨_, _, rfl, rfl, rfl, some (.str y), ?_⟩
      rw [show iV (maskF (names.take (i + 1)) row) = V.int (2 * ((maskF (names.take i) row : Nat) : Int) + 1) by rw [take_snoc hy, maskF_snoc, if_pos c']; rfl]
      rfl
    · have c' : ¬ y ∈ row := by simpa using c
      refine ⟨_, _, rfl, rfl, rfl, some (.str y), ?_⟩
      rw [show iV (maskF (names.take (i + 1)) row) = V.int (2 * ((maskF (names.take i) row : Nat) : Int) + 0) by rw [take_snoc hy, maskF_snoc, if_neg c']; rfl]
      rfl
  · rintro σ H' ⟨rfl, x3, rfl⟩
    rw [List.length_map, List.take_of_length_le (Nat.le_refl _)]
    exact ⟨_, rfl, q⟩
theorem scRowOf : FnScope ["names", "mask", "last"] ["names", "mask"] (defScope sRowOf) := ⟨rfl, rfl, rfl, by decide +kernel, rfl, by decide +kernel, by decide +kernel⟩
abbrev roN : List Str := ["at", "name", "mask", "last"]
set_option maxHeartbeats 4000000 in
theorem ok_rowOf (F : Fun K "row_of" "row_of" sRowOf f fd) (ml : mg "len" = none) (me : mg "enumerate" = none) : FnOk P w K mg base CX0 1 f fd ["names", "mask"] spRowOf := by
  refine F.ok scRowOf (fun vs H Q E h => ?_) (fun cdv A outer s H vs Q E hr h => ?_)
  · obtain ⟨pn, names, x, rfl, _⟩ := h
    rfl
  obtain ⟨pn, names, x, rfl, hn, ln, q⟩ := h
  refine ⟨_, pss_cons (ps_set (i := 2) scRowOf.nd rfl (Or.inr rfl) (pe_op op_sub (pe_callB call_len_seq rfl ml PySem.boot_len (pa_cons (pv 0) pa_nil)) pe_int))
    (pss_one (ps_ret (pe_lc (N := ["names", "mask", "last"]) (sc := defScope sRowOf) (N' := roN) (sub := [none, none, some 1, some 2]) rfl rfl (CmpOk.of (by decide +kernel)) rfl (pi_enum rfl me (pa_cons (pv 0) pa_nil))
      (fun C s H fp => ⟨(show PG _ _ (gTup K 2 _) from pg_tup rfl (pgs_cons (pg_name (i := 0) (by show roN.Nodup; decide) rfl (Or.inl rfl)) (pgs_cons (pg_name (i := 1) (by show roN.Nodup; decide) rfl (Or.inl rfl)) pgs_nil))),
        pts_one (pt_cmpR op_eq (pe_op op_and (pe_op op_shr (pv 2) (pe_op op_sub (pv 3) (pv 0))) pe_int) pe_int (nomark _)), pv 1⟩)))), ?_⟩
  refine ⟨_, rfl, pn, _, rfl, .inl (SqL.of hn), _, _, rfl, rfl, ?_⟩
  refine ⟨_, rfl, pn, _, rfl, SqL.of hn, ?_⟩
  rw [List.length_map]
  refine turns_tup (fun i ys H' => Ext H H' ∧ ys = ((List.range i).filterMap fun i => if x.testBit (names.length - 1 - i) = true then names[i]? else none).map V.str) ⟨Ext.refl _, rfl⟩ (fun i ys H' _ p => SqL.of (p.1 _ _ hn)) ?_ ?_
  · rintro i ys H' T hi ⟨e, rfl⟩ hT
    have gd : (names.map V.str).getD i .non = .str names[i] := by rw [List.getD_eq_getElem?_getD, List.getElem?_map, List.getElem?_eq_getElem hi]; rfl
    have e2 := e.trans (Ext.new hT (.tup [V.int (i : Nat), (names.map V.str).getD i .non]))
    refine ⟨T, _, rfl, SqT.of upd_same, rfl, _, _, rfl, _, _, rfl, rfl, ?_⟩
    refine ⟨Sle.set _ (Sle.set _ (Sle.refl _) (fun u z => by cases z)) (fun u z => by cases z), ?_⟩
    have k : (((names.length : Nat) : Int) - 1 - (i : Nat)) = ((names.length - 1 - i : Nat) : Int) := by omega
    refine ⟨_, rfl, _, rfl, _, rfl, _, _, rfl, rfl, _, _, rfl, rfl, (by show (0 : Int) ≤ _; omega), _, _, rfl, rfl, rfl, _, rfl, ?_⟩
    have fm : ((List.range (i + 1)).filterMap fun i => if x.testBit (names.length - 1 - i) = true then names[i]? else none) = ((List.range i).filterMap fun i => if x.testBit (names.length - 1 - i) = true then names[i]? else none) ++ (if x.testBit (names.length - 1 - i) = true then [names[i]] else []) := by
      rw [List.range_succ, List.filterMap_append]
      congr 1
      by_cases b : x.testBit (names.length - 1 - i) = true
      · simp [b, List.getElem?_eq_getElem hi]
      · simp [b]
    have sz := List.length_filterMap_le (fun i => if x.testBit (names.length - 1 - i) = true then names[i]? else none) (List.range i)
    rw [List.length_range] at sz
    have key : (decide (V.int (Builtin.bitAnd ((x : Int) / 2 ^ (((names.length : Nat) : Int) - 1 - (i : Nat)).toNat) 1) = V.int 1) = true) ↔ x.testBit (names.length - 1 - i) = true := by
      rw [decide_eq_true_iff, V.int.injEq, k, Int.toNat_natCast, shr_one]
      by_cases b : x.testBit (names.length - 1 - i) = true
      · simp [b]
      · simp [b]
    refine ite2 (fun c => ?_) (fun c => ?_)
    · have b := key.mp c
      refine ⟨_, rfl, by rw [List.length_map]; exact small1000 (by omega), nxt hi ⟨e2, ?_⟩⟩
      rw [fm, if_pos b, List.map_append, gd]; rfl
    · have b : ¬ x.testBit (names.length - 1 - i) = true := fun z => c (key.mpr z)
      refine nxt hi ⟨e2, ?_⟩
      rw [fm, if_neg b, List.append_nil]
  · rintro ys H' ⟨e, rfl⟩ r hr'
    exact q r _ (e.trans (Ext.new hr' _)) (e.none hr') upd_same
theorem scLess : FnScope ["mask", "kept", "step"] ["mask", "kept"] (defScope sLess) := ⟨rfl, rfl, rfl, by decide +kernel, rfl, by decide +kernel, by decide +kernel⟩
set_option maxHeartbeats 4000000 in
theorem ok_less (F : Fun K "lessened" "lessened" sLess f fd) (mmi : mg "min" = none) : FnOk P w K mg base CX0 1 f fd ["mask", "kept"] spLess := by
  refine F.ok scLess (fun vs H Q E h => ?_) (fun cdv A outer s H vs Q E hr h => ?_)
  · obtain ⟨x, p, k, rfl, _⟩ := h
    rfl
  obtain ⟨x, p, k, rfl, hk, nz, q⟩ := h
  refine ⟨_, pss_cons (ps_for PassesOwn.never rfl (pi_list (pv 1)) (pg_name (i := 2) scLess.nd rfl (Or.inl rfl))
      (pss_one (ps_set (i := 0) scLess.nd rfl (Or.inl rfl) (pe_callB (call_min2 rfl) rfl mmi boot_min' (pa_cons (pv 0) (pa_cons (pe_op op_xor (pv 0) (pv 2)) pa_nil))))))
    (pss_one (ps_ret (pv 0))), ?_⟩
  refine ⟨_, rfl, p, rfl, ⟨_, SqL.of hk⟩, ?_⟩
  refine for_list (xs := k.map iV) (fun i σ H' => H' = H ∧ ∃ x2 : Option V, σ = [some (iV (red1 (k.take i) x)), some (.ref p), x2]) ⟨rfl, none, rfl⟩ (fun i σ H' _ h => by rw [h.1]; exact SqL.of hk) ?_ ?_
  · rintro i v σ H' hx ⟨rfl, x2, rfl⟩
    obtain ⟨s, rfl, hs⟩ := iv_get hx
    refine ⟨_, rfl, _, rfl, _, rfl, _, _, rfl, rfl, _, _, rfl, rfl, some (iV s), ?_⟩
    rw [min_int _ (nz s (List.mem_of_getElem? hs)), show red1 (k.take (i + 1)) x = rd1 (red1 (k.take i) x) s by rw [take_snoc hs]; unfold red1; rw [List.foldl_append]; rfl]
    rfl
  · rintro σ H' ⟨rfl, x2, rfl⟩
    rw [List.length_map, List.take_of_length_le (Nat.le_refl _)]
    exact ⟨_, rfl, q⟩
theorem scRedu : FnScope ["masks", "kept", "mask", "fresh"] ["masks"] (defScope sRedu) := ⟨rfl, rfl, rfl, by decide +kernel, rfl, by decide +kernel, by decide +kernel⟩
set_option maxHeartbeats 4000000 in
theorem ok_redu (F : Fun K "reduced" "reduced" sRedu f fd) (G : FnOk P w K mg base CX0 1 f1 fd1 ["mask", "kept"] spLess) (bG : Binds K fd1 ["mask", "kept"] []) (kG : PySem.W.keepIn K (.ref f1) = true) (mG : mg "lessened" = some (.ref f1)) (mmi : mg "min" = none) (mso : mg "sorted" = none) : FnOk P w K mg base CX0 2 f fd ["masks"] spRedu := by
  refine F.ok scRedu (fun vs H Q E h => ?_) (fun cdv A outer s H vs Q E hr h => ?_)
  · obtain ⟨p, ms, rfl, _⟩ := h
    rfl
  obtain ⟨p, ms, rfl, hp, lm, q⟩ := h
  refine ⟨_, pss_cons (ps_set (i := 1) scRedu.nd rfl (Or.inl rfl) (pe_lst pa_nil))
    (pss_cons (ps_for PassesOwn.never rfl (pi_list (pv 0)) (pg_name (i := 2) scRedu.nd rfl (Or.inl rfl))
      (pss_cons (ps_set (i := 3) scRedu.nd rfl (Or.inr rfl) (pe_call G hr rfl mG kG bG .nil pass0 (pa_cons (pv 2) (pa_cons (pv 1) pa_nil))))
      (pss_one (ps_if (pt_cmpR op_ne (pv 3) pe_int (nomark _))
        (pss_one (ps_set (i := 1) scRedu.nd rfl (Or.inl rfl) (pe_op op_cat (pe_lc (N := ["masks", "kept", "mask", "fresh"]) (sc := defScope sRedu) (N' := ["step", "fresh"]) (sub := [none, some 3]) rfl rfl (CmpOk.of (by decide +kernel)) rfl (pi_list (pv 1))
          (fun C s H fp => ⟨pg_name (i := 0) (by show (["step", "fresh"] : List Str).Nodup; decide) rfl (Or.inl rfl), pts_nil, pe_callB (call_min2 rfl) rfl mmi boot_min' (pa_cons (pv 0) (pa_cons (pe_op op_xor (pv 0) (pv 1)) pa_nil))⟩)) (pe_lst (pa_cons (pv 3) pa_nil)))))
        pss_nil))))
    (pss_one (ps_ret (pe_sortRev rfl mso (pa_cons (pv 1) pa_nil))))), ?_⟩
  refine ⟨Nat.zero_le _, fun ke ke0 => ?_⟩
  have X0 := Ext.new ke0 (.lst [])
  refine ⟨_, rfl, p, rfl, ⟨_, SqL.of (X0 _ _ hp)⟩, ?_⟩
  refine for_list (xs := ms.map iV) (fun i σ H' => ∃ (ke : Addr) (x2 x3 : Option V), σ = [some (.ref p), some (.ref ke), x2, x3] ∧ Ext H H' ∧ LsN H' ke (red (ms.take i))) ⟨ke, none, none, rfl, X0, upd_same⟩ (fun i σ H' _ h => by obtain ⟨_, _, _, _, e, _⟩ := h; exact SqL.of (e _ _ hp)) ?_ ?_
  · rintro i v σ H' hx ⟨ke, x2, x3, rfl, e, hk⟩
    obtain ⟨m, rfl, hm⟩ := iv_get hx
    have hi : i < ms.length := at_lt hm
    have rr := red_rr (ms.take i)
    have lr := red_le (ms.take i)
    rw [List.length_take] at lr
    refine ⟨_, rfl, _, rfl, m, ke, _, rfl, hk, rr.nz, ?_⟩
    have sn : red (ms.take (i + 1)) = redS (red (ms.take i)) m := by rw [take_snoc hm, red_snoc]
    refine ⟨_, rfl, rfl, _, rfl, ?_⟩
    refine ite2 (fun c => ?_) (fun c => ?_)
    · have c' : red1 (red (ms.take i)) m ≠ 0 := fun z => by rw [z] at c; simp at c
      refine ⟨_, rfl, ke, rfl, ⟨_, SqL.of hk⟩, ?_⟩
      refine turns_list (xs := (red (ms.take i)).map iV) (fun j ys H2 => H2 = H' ∧ ys = (((red (ms.take i)).take j).map fun s => rd1 s (red1 (red (ms.take i)) m)).map iV) ⟨rfl, rfl⟩ (fun j ys H2 _ h => by rw [h.1]; exact SqL.of hk) ?_ ?_
      · rintro j x ys H2 hx2 ⟨rfl, rfl⟩
        obtain ⟨s, rfl, hs⟩ := iv_get hx2
        have hj := at_lt hs
        refine ⟨Sle.set _ (Sle.refl _) (fun u z => by cases z), iteT (B := False) ⟨_, rfl, _, rfl, _, rfl, _, _, rfl, rfl, _, _, rfl, ?_, nxt (at_lt hx2) ⟨rfl, ?_⟩⟩⟩
        · rw [List.length_map, List.length_map, List.length_take]; exact small1000 (by omega)
        · rw [min_int _ c', take_snoc hs, List.map_append, List.map_append]; rfl
      · rintro ys H2 ⟨rfl, rfl⟩ l hl
        rw [List.length_map, List.take_of_length_le (Nat.le_refl _)]
        have n1 := Ext.new hl (.lst (((red (ms.take i)).map fun s => rd1 s (red1 (red (ms.take i)) m)).map iV))
        refine ⟨_, rfl, (by show 1 ≤ sizeLine; decide), fun l2 hl2 => ?_⟩
        have n2 := Ext.new hl2 (.lst [iV (red1 (red (ms.take i)) m)])
        refine ⟨l, l2, _, _, rfl, rfl, n2 _ _ upd_same, upd_same, ?_, fun l3 hl3 => ?_⟩
        · rw [List.length_map, List.length_map]
          show _ + 1 ≤ sizeLine
          exact Nat.le_of_lt (small1000 (by omega))
        · refine ⟨l3, _, _, rfl, ((e.trans n1).trans n2).trans (Ext.new hl3 _), ?_⟩
          rw [sn]
          unfold redS LsN
          rw [if_neg c', upd_same, List.map_append]
          rfl
    · have c' : red1 (red (ms.take i)) m = 0 := by
        have : (red1 (red (ms.take i)) m : Int) = 0 := by simpa using c
        omega
      refine ⟨ke, _, _, rfl, e, ?_⟩
      rw [sn]
      unfold redS
      rw [if_pos c']
      exact hk
  · rintro σ H' ⟨ke, x2, x3, rfl, e, hk⟩
    rw [List.length_map, List.take_of_length_le (Nat.le_refl _)] at hk
    have lr := red_le ms
    refine ⟨_, rfl, ke, (red ms).map (fun n : Nat => (n : Int)), rfl, by rw [← iv_ints]; exact SqL.of hk, by rw [List.length_map]; omega, fun r ns hr' pm od => ?_⟩
    have od' : ns.Pairwise fun a b => a ≥ b := od
    obtain ⟨M, rfl⟩ : ∃ M : List Nat, ns = M.map (fun n : Nat => (n : Int)) := by
      refine ⟨ns.map Int.toNat, ?_⟩
      rw [List.map_map]
      refine (List.map_id _).symm.trans (List.map_congr_left fun a ha => ?_)
      obtain ⟨n, _, rfl⟩ := List.mem_map.mp (pm.mem_iff.mp ha)
      simp
    have pm' : M.Perm (red ms) := by
      have := pm.map Int.toNat
      rw [List.map_map, List.map_map] at this
      have idn : (Int.toNat ∘ fun n : Nat => (n : Int)) = id := by funext n; simp
      rw [idn, List.map_id, List.map_id] at this
      exact this
    refine q r M _ (e.trans (Ext.new hr' _)) (e.none hr') (by unfold LsN; rw [upd_same, iv_ints]) pm' ?_
    rw [List.pairwise_map] at od'
    exact List.Pairwise.imp (fun {a b} h => by omega) od'
theorem scLead : FnScope ["mask"] ["mask"] (defScope sLead) := ⟨rfl, rfl, rfl, by decide +kernel, rfl, by decide +kernel, by decide +kernel⟩
set_option maxHeartbeats 4000000 in
theorem ok_lead (F : Fun K "lead_of" "lead_of" sLead f fd) : FnOk P w K mg base CX0 1 f fd ["mask"] spLead := by
  refine F.ok scLead (fun vs H Q E h => ?_) (fun cdv A outer s H vs Q E hr h => ?_)
  · obtain ⟨x, rfl, _⟩ := h
    rfl
  obtain ⟨x, rfl, nz, lt, q⟩ := h
  refine ⟨_, pss_one (ps_ret (pe_op op_shl pe_int (pe_op op_sub (pe_bm0 PySem.F.plainAttrs_int PySem.F.slot_int_bit_length PySem.F.type_int_bit_length mt_bits (pv 0)) pe_int))), ?_⟩
  have l24 : x.log2 < 24 := (Nat.log2_lt nz).mpr lt
  have ib : Builtin.Int.intBits (x : Int) = x.log2 + 1 := by
    unfold Builtin.Int.intBits
    rw [if_neg (by simpa using nz)]
    simp
  refine ⟨_, rfl, rfl, x, rfl, rfl, _, _, rfl, rfl, _, _, rfl, rfl, ?_⟩
  rw [ib]
  have e : ((x.log2 + 1 : Nat) : Int) - 1 = (x.log2 : Nat) := by omega
  rw [e]
  refine ⟨⟨by omega, by omega, by decide⟩, ?_⟩
  dsimp only
  rw [Int.toNat_natCast, Int.one_mul]
  have p2 : ((2 : Int) ^ x.log2) = ((2 ^ x.log2 : Nat) : Int) := by rw [Int.natCast_pow]; rfl
  rw [p2]
  exact q
end
end My
namespace My
open PySem L2
theorem RR.perm {a b : List Nat} (h : RR a) (p : b.Perm a) : RR b := ⟨fun s hs => h.nz s (p.mem_iff.mp hs), (p.pairwise_iff (fun {x y} z => ⟨z.2, z.1⟩)).mpr h.ap⟩
theorem sum_cast : ∀ l : List Nat, (l.map fun n : Nat => (n : Int)).sum = ((l.sum : Nat) : Int)
  | [] => rfl
  | a :: l => by rw [List.map_cons, List.sum_cons, List.sum_cons, sum_cast l]; omega
theorem shl_nat (p : Nat) : (1 : Int) * 2 ^ ((p : Int)).toNat = ((2 ^ p : Nat) : Int) := by
  rw [Int.toNat_natCast, Int.one_mul, Int.natCast_pow]; rfl
def spCrM : Sp := fun vs H Q _ => ∃ (p : Addr) (S : List Nat) (m : Nat), vs = [.ref p, iV m] ∧ LsN H p S ∧ RR S ∧ (∀ s ∈ S, s < 2 ^ m) ∧ m ≤ 12 ∧ S.length ≤ 24 ∧ ∀ r H', Ext H H' → H r = none → LsN H' r (crAll S m) → Q (.ref r) H'
def TabIn (H : Hp) (T : Addr) (names : List Str) (rows : List (List Str)) : Prop := ∃ a b, H T = some (.tup [.ref a, .ref b]) ∧ LsS H a names ∧ RowsAt H b rows
def TabF (H0 H : Hp) (T : Addr) (names : List Str) (rows : List (List Str)) : Prop := ∃ a b, H T = some (.tup [.ref a, .ref b]) ∧ LsS H a names ∧ H0 a = none ∧ RowsY H0 H b rows ∧ H0 b = none
theorem TabIn.ext {H H' : Hp} {T : Addr} {names : List Str} {rows : List (List Str)} (h : TabIn H T names rows) (e : Ext H H') : TabIn H' T names rows := by
  obtain ⟨a, b, h1, h2, h3⟩ := h
  exact ⟨a, b, e _ _ h1, e _ _ h2, h3.ext e⟩
theorem TabF.down {H0 H1 H : Hp} {T : Addr} {names : List Str} {rows : List (List Str)} (h : TabF H1 H T names rows) (e : Ext H0 H1) : TabF H0 H T names rows := by
  obtain ⟨a, b, h1, h2, h3, ⟨as, h4, h6⟩, h5⟩ := h
  exact ⟨a, b, h1, h2, e.none h3, ⟨as, h4, Paired.mapP h6 fun a r z => ⟨z.1, e.none z.2.1, z.2.2⟩⟩, e.none h5⟩
def spTabF : Sp := fun vs H Q _ => ∃ (pn pm : Addr) (names : List Str) (ms : List Nat), vs = [.ref pn, .ref pm] ∧ LsS H pn names ∧ names.length ≤ 12 ∧ LsN H pm ms ∧ ms.length ≤ 24 ∧ ∀ (T : Addr) (M : List Nat) (H' : Hp), Ext H H' → H T = none → TabF H H' T names (M.map (rowM names)) → M.Perm (red ms) → M.Pairwise (fun a b => b ≤ a) → Q (.ref T) H'
def spStepM : Sp := fun vs H Q _ => ∃ (T : Addr) (names : List Str) (rows : List (List Str)), vs = [.ref T] ∧ TabIn H T names rows ∧ rows.length ≤ 24 ∧ ∀ (r : Addr) (M : List Nat) (H' : Hp), Ext H H' → H r = none → LsN H' r M → M.Perm (red (rows.map (maskF names))) → M.Pairwise (fun a b => b ≤ a) → Q (.ref r) H'
def spCross : Sp := fun vs H Q _ => ∃ (T : Addr) (names : List Str) (rows : List (List Str)), vs = [.ref T] ∧ TabIn H T names rows ∧ names.length ≤ 12 ∧ rows.length ≤ 24 ∧ ∀ (T' : Addr) (S M : List Nat) (H' : Hp), Ext H H' → H T' = none → TabF H H' T' names (M.map (rowM names)) → S.Perm (red (rows.map (maskF names))) → M.Perm (red (crAll S names.length)) → M.Pairwise (fun a b => b ≤ a) → Q (.ref T') H'
def metF (net : List Tr) (x : Str) : List Str := (net.filter fun t => decide (t.2.1 = x) != decide (t.2.2 = x)).map (·.1)
section
variable {P : Program} {w : World} {K : PySem.W.Frag} {mg : Str → Option Value} {base : Heap} {f f1 f2 f3 f4 : Addr} {fd fd1 fd2 fd3 fd4 : FuncData}
abbrev crN : List Str := ["steps", "width", "leads", "told", "place", "bit"]
theorem scCrM : FnScope crN ["steps", "width"] (defScope sCrM) := ⟨rfl, rfl, rfl, by decide +kernel, rfl, by decide +kernel, by decide +kernel⟩
set_option maxHeartbeats 4000000 in
theorem ok_crM (F : Fun K "crossed_masks" "crossed_masks" sCrM f fd) (G : FnOk P w K mg base CX0 1 f1 fd1 ["mask"] spLead) (bG : Binds K fd1 ["mask"] []) (kG : PySem.W.keepIn K (.ref f1) = true) (mG : mg "lead_of" = some (.ref f1)) (msu : mg "sum" = none) (mr : mg "range" = none) : FnOk P w K mg base CX0 2 f fd ["steps", "width"] spCrM := by
  refine F.ok scCrM (fun vs H Q E h => ?_) (fun cdv A outer s H vs Q E hr h => ?_)
  · obtain ⟨p, S, m, rfl, _⟩ := h
    rfl
  obtain ⟨p, S, m, rfl, hp, rr, lt, m12, lS, q⟩ := h
  refine ⟨_, pss_cons (ps_set (i := 2) scCrM.nd rfl (Or.inl rfl) (pe_callB (call_sumI rfl) rfl msu boot_sum' (pa_cons (pe_lc (N := crN) (sc := defScope sCrM) (N' := ["step"]) (sub := [none]) rfl rfl (CmpOk.of (by decide +kernel)) rfl (pi_list (pv 0))
      (fun C s H fp => ⟨pg_name (i := 0) (by show (["step"] : List Str).Nodup; decide) rfl (Or.inl rfl), pts_nil, pe_call G hr rfl mG kG bG .nil pass0 (pa_cons (pv 0) pa_nil)⟩)) pa_nil)))
    (pss_cons (ps_set (i := 3) scCrM.nd rfl (Or.inl rfl) (pe_lst pa_nil))
    (pss_cons (ps_for PassesOwn.never rfl (pi_range1 rfl mr (pa_cons (pv 1) pa_nil)) (pg_name (i := 4) scCrM.nd rfl (Or.inl rfl))
      (pss_cons (ps_set (i := 5) scCrM.nd rfl (Or.inr rfl) (pe_op op_shl pe_int (pv 4)))
      (pss_one (ps_if (pt_cmpR op_eq (pe_op op_and (pv 2) (pv 5)) pe_int (nomark _))
        (pss_one (ps_expr (pe_bm PySem.F.plainAttrs_list PySem.F.slot_list_append PySem.F.type_list_append mt_append (pv 3) (pa_cons
          (pe_op op_add (pv 5) (pe_callB (call_sumI rfl) rfl msu boot_sum' (pa_cons (pe_lc (N := crN) (sc := defScope sCrM) (N' := ["step", "bit"]) (sub := [none, some 5]) rfl rfl (CmpOk.of (by decide +kernel)) rfl (pi_list (pv 0))
            (fun C s H fp => ⟨pg_name (i := 0) (by show (["step", "bit"] : List Str).Nodup; decide) rfl (Or.inl rfl), pts_one (pt_cmpR op_ne (pe_op op_and (pv 0) (pv 1)) pe_int (nomark _)), pe_call G hr rfl mG kG bG .nil pass0 (pa_cons (pv 0) pa_nil)⟩)) pa_nil))) pa_nil))))
        pss_nil))))
    (pss_one (ps_ret (pv 3))))), ?_⟩
  have l24 : ∀ s ∈ S, s < 2 ^ 24 := fun s hs => Nat.lt_of_lt_of_le (lt s hs) (Nat.pow_le_pow_right (by decide) (by omega))
  refine ⟨_, rfl, p, rfl, ⟨_, SqL.of hp⟩, ?_⟩
  refine turns_list (xs := S.map iV) (fun j ys H2 => H2 = H ∧ ys = ((S.take j).map fun s : Nat => 2 ^ s.log2).map iV) ⟨rfl, rfl⟩ (fun j ys H2 _ h => by rw [h.1]; exact SqL.of hp) ?_ ?_
  · rintro j v ys H2 hx ⟨rfl, rfl⟩
    obtain ⟨s, rfl, hs⟩ := iv_get hx
    have hj := at_lt hs
    have sm := List.mem_of_getElem? hs
    refine ⟨Sle.set _ (Sle.refl _) (fun u z => by cases z), iteT (B := False) ⟨_, rfl, s, rfl, rr.nz s sm, l24 s sm, ?_, nxt (at_lt hx) ⟨rfl, ?_⟩⟩⟩
    · rw [List.length_map, List.length_map, List.length_take]; exact small1000 (by omega)
    · rw [take_snoc hs, List.map_append, List.map_append]; rfl
  rintro ys H2 ⟨rfl, rfl⟩ l1 hl1
  rw [List.length_map, List.take_of_length_le (Nat.le_refl _)]
  have n1 := Ext.new hl1 (.lst ((S.map fun s : Nat => 2 ^ s.log2).map iV))
  refine ⟨l1, (S.map fun s : Nat => 2 ^ s.log2).map (fun n : Nat => (n : Int)), rfl, SqL.of (by rw [upd_same, iv_ints]), ?_⟩
  rw [sum_cast]
  refine ⟨Nat.zero_le _, fun to to1 => ?_⟩
  have to0 := n1.none to1
  have n2 := n1.trans (Ext.new to1 (.lst []))
  refine ⟨_, rfl, (m : Int), rfl, by omega, by omega, ?_⟩
  refine for_range (lo := 0) (n := ((m : Int)).toNat) (fun i σ H' => ∃ (x4 x5 : Option V), σ = [some (.ref p), some (iV m), some (iV (S.map fun s : Nat => 2 ^ s.log2).sum), some (.ref to), x4, x5] ∧ Ext H2 H' ∧ LsN H' to (((List.range i).filter fun p => !decide (isLd S p)).map (crM S))) ⟨none, none, rfl, n2, upd_same⟩ ?_ ?_
  · rintro i σ H' hi ⟨x4, x5, rfl, e, ht⟩
    have hi' : i < m := by omega
    refine ⟨_, rfl, _, _, rfl, rfl, ⟨by omega, by omega, by decide⟩, ?_⟩
    have bv : (fun i j : Int => V.int (i * 2 ^ j.toNat)) 1 (0 + (i : Int)) = iV (2 ^ i) := by
      show V.int (1 * 2 ^ (0 + (i : Int)).toNat) = _
      rw [show (0 + (i : Int)) = (i : Nat) by omega, shl_nat]
    rw [bv]
    have sn : ((List.range (i + 1)).filter fun p => !decide (isLd S p)).map (crM S) = ((List.range i).filter fun p => !decide (isLd S p)).map (crM S) ++ (if isLd S i then [] else [crM S i]) := by
      rw [List.range_succ, List.filter_append, List.map_append]
      congr 1
      by_cases b : isLd S i
      · simp [b]
      · simp [b]
    have lb := leads_bit rr i
    refine ⟨_, rfl, _, rfl, _, _, rfl, rfl, rfl, _, rfl, ?_⟩
    refine ite2 (fun c => ?_) (fun c => ?_)
    · have nl : ¬ isLd S i := fun z => by
        rw [decide_eq_true z] at lb
        have ne := (and_pow _ i).mpr lb
        have : Builtin.bitAnd (((S.map fun s : Nat => 2 ^ s.log2).sum : Nat) : Int) ((2 ^ i : Nat) : Int) = 0 := by simpa using c
        rw [band_nat] at this
        omega
      refine ⟨_, rfl, .inl ⟨rfl, _, SqL.of ht⟩, _, rfl, ?_⟩
      refine ⟨_, rfl, p, rfl, ⟨_, SqL.of (e _ _ hp)⟩, ?_⟩
      refine turns_list (xs := S.map iV) (fun j ys H3 => H3 = H' ∧ ys = (((S.take j).filter fun s : Nat => s.testBit i).map fun s : Nat => 2 ^ s.log2).map iV) ⟨rfl, rfl⟩ (fun j ys H3 _ h => by rw [h.1]; exact SqL.of (e _ _ hp)) ?_ ?_
      · rintro j v ys H3 hx ⟨rfl, rfl⟩
        obtain ⟨s, rfl, hs⟩ := iv_get hx
        have hj := at_lt hs
        have sm := List.mem_of_getElem? hs
        refine ⟨Sle.set _ (Sle.refl _) (fun u z => by cases z), _, rfl, _, rfl, _, _, rfl, rfl, rfl, _, rfl, ?_⟩
        have key : ((!decide (V.int (Builtin.bitAnd (s : Int) ((2 ^ i : Nat) : Int)) = V.int 0)) = true) ↔ s.testBit i = true := by
          rw [← and_pow s i, band_nat]
          simp
        refine ite2 (fun c3 => ?_) (fun c3 => ?_)
        · have b := key.mp c3
          refine ⟨_, rfl, s, rfl, rr.nz s sm, l24 s sm, ?_, nxt (at_lt hx) ⟨rfl, ?_⟩⟩
          · have := List.length_filter_le (fun s : Nat => s.testBit i) (S.take j)
            rw [List.length_take] at this
            rw [List.length_map, List.length_map]; exact small1000 (by omega)
          · rw [take_snoc hs, List.filter_append, List.map_append, List.map_append]
            simp [b]
        · have b : ¬ s.testBit i = true := fun z => c3 (key.mpr z)
          refine nxt (at_lt hx) ⟨rfl, ?_⟩
          rw [take_snoc hs, List.filter_append]
          simp [b]
      · rintro ys H3 ⟨rfl, rfl⟩ l2 hl2
        rw [List.length_map, List.take_of_length_le (Nat.le_refl _)]
        have n3 := Ext.new hl2 (.lst (((S.filter fun s : Nat => s.testBit i).map fun s : Nat => 2 ^ s.log2).map iV))
        refine ⟨l2, ((S.filter fun s : Nat => s.testBit i).map fun s : Nat => 2 ^ s.log2).map (fun n : Nat => (n : Int)), rfl, SqL.of (by rw [upd_same, iv_ints]), ?_⟩
        rw [sum_cast]
        refine ⟨_, _, rfl, rfl, to, _, _, rfl, rfl, n3 _ _ ht, ?_, ?_⟩
        · have := List.length_filter_le (fun p => !decide (isLd S p)) (List.range i)
          rw [List.length_range] at this
          rw [List.length_map, List.length_map]; exact small1000 (by omega)
        · refine ⟨_, _, rfl, (e.trans n3).over to0 _, ?_⟩
          rw [sn, if_neg nl]
          unfold LsN
          rw [upd_same, List.map_append]
          rfl
    · have il : isLd S i := Classical.byContradiction fun z => by
        rw [decide_eq_false z] at lb
        refine c ?_
        have : (S.map fun s : Nat => 2 ^ s.log2).sum &&& 2 ^ i = 0 := Classical.byContradiction fun y => by
          have := (and_pow _ i).mp y
          rw [lb] at this; cases this
        show decide (V.int (Builtin.bitAnd (((S.map fun s : Nat => 2 ^ s.log2).sum : Nat) : Int) ((2 ^ i : Nat) : Int)) = V.int 0) = true
        rw [band_nat, this]; rfl
      refine ⟨_, _, rfl, e, ?_⟩
      rw [sn, if_pos il, List.append_nil]
      exact ht
  · rintro σ H' ⟨x4, x5, rfl, e, ht⟩
    rw [Int.toNat_natCast] at ht
    exact ⟨_, rfl, q to _ e to0 ht⟩
theorem scTabF : FnScope ["names", "masks"] ["names", "masks"] (defScope sTabF) := ⟨rfl, rfl, rfl, by decide +kernel, rfl, by decide +kernel, by decide +kernel⟩
set_option maxHeartbeats 4000000 in
theorem ok_tabF (F : Fun K "table_from" "table_from" sTabF f fd) (G1 : FnOk P w K mg base CX0 1 f1 fd1 ["names", "mask"] spRowOf) (bG1 : Binds K fd1 ["names", "mask"] []) (kG1 : PySem.W.keepIn K (.ref f1) = true) (mG1 : mg "row_of" = some (.ref f1))
    (G2 : FnOk P w K mg base CX0 2 f2 fd2 ["masks"] spRedu) (bG2 : Binds K fd2 ["masks"] []) (kG2 : PySem.W.keepIn K (.ref f2) = true) (mG2 : mg "reduced" = some (.ref f2)) (mL : mg "list" = none) : FnOk P w K mg base CX0 3 f fd ["names", "masks"] spTabF := by
  refine F.ok scTabF (fun vs H Q E h => ?_) (fun cdv A outer s H vs Q E hr h => ?_)
  · obtain ⟨pn, pm, names, ms, rfl, _⟩ := h
    rfl
  obtain ⟨pn, pm, names, ms, rfl, hn, ln, hm, lm, q⟩ := h
  have hr1 := hr.mono (j := 1) (by decide)
  refine ⟨_, pss_one (ps_ret (pe_tup (pa_cons (pe_callTy call_list_of rfl mL boot_list' (pa_cons (pv 0) pa_nil)) (pa_cons
    (pe_lc (N := ["names", "masks"]) (sc := defScope sTabF) (N' := ["mask", "names"]) (sub := [none, some 0]) rfl rfl (CmpOk.of (by decide +kernel)) rfl (pi_list (pe_call G2 hr rfl mG2 kG2 bG2 .nil pass0 (pa_cons (pv 1) pa_nil)))
      (fun C s H fp => ⟨pg_name (i := 0) (by show (["mask", "names"] : List Str).Nodup; decide) rfl (Or.inl rfl), pts_nil, pe_call G1 hr1 rfl mG1 kG1 bG1 .nil pass0 (pa_cons (pv 1) (pa_cons (pv 0) pa_nil))⟩)) pa_nil)))), ?_⟩
  refine ⟨_, rfl, pn, _, rfl, .inl (SqL.of hn), fun l1 hl1 => ?_⟩
  have n1 := Ext.new hl1 (.lst (names.map V.str))
  refine ⟨_, rfl, pm, ms, rfl, n1 _ _ hm, lm, fun r M H1 e1 r0 hM pM dM => ?_⟩
  have E1 := n1.trans e1
  have lM : M.length ≤ 24 := by rw [pM.length_eq]; exact Nat.le_trans (red_le ms) lm
  refine ⟨r, rfl, ⟨_, SqL.of hM⟩, ?_⟩
  refine turns_list (xs := M.map iV) (fun j ys H2 => Ext H1 H2 ∧ ∃ as, ys = as.map V.ref ∧ Paired (fun a r => LsS H2 a r ∧ H a = none) as ((M.take j).map (rowM names))) ⟨Ext.refl _, [], rfl, .nil⟩ (fun j ys H2 _ h => SqL.of (h.1 _ _ hM)) ?_ ?_
  · rintro j v ys H2 hx ⟨e2, as, rfl, pr⟩
    obtain ⟨x, rfl, hx'⟩ := iv_get hx
    have hj := at_lt hx'
    have la : as.length = _ := pr.length
    rw [List.length_map, List.length_take] at la
    refine ⟨Sle.set _ (Sle.refl _) (fun u z => by cases z), iteT (B := False) ⟨_, rfl, _, rfl, pn, names, x, rfl, (E1.trans e2) _ _ hn, ln, fun r3 H3 e3 r30 h3 => ⟨?_, nxt (at_lt hx) ⟨e2.trans e3, as ++ [r3], by rw [List.map_append]; rfl, ?_⟩⟩⟩⟩
    · rw [List.length_map]; exact small1000 (by omega)
    · rw [take_snoc hx', List.map_append]
      exact Paired.snoc (Paired.mapP pr fun a t z => ⟨e3 _ _ z.1, z.2⟩) ⟨h3, (E1.trans e2).none r30⟩
  · rintro ys H2 ⟨e2, as, rfl, pr⟩ b hb
    rw [List.length_map, List.take_of_length_le (Nat.le_refl _)] at pr
    have E2 := E1.trans e2
    have Xb := Ext.new hb (.lst (as.map V.ref))
    refine ⟨(by show 2 ≤ sizeLine; decide), fun T hT => ?_⟩
    have XT := Xb.trans (Ext.new hT (.tup [V.ref l1, V.ref b]))
    refine q T M _ (E2.trans XT) ((E2.trans Xb).none hT) ⟨l1, b, upd_same, XT _ _ (e2 _ _ (e1 _ _ upd_same)), hl1, ⟨as, (Ext.new hT _) _ _ upd_same, Paired.mapP pr fun a t z => ⟨XT _ _ z.1, z.2, ne_of_none z.1 hb⟩⟩, E2.none hb⟩ pM dM
theorem scStepM : FnScope ["table", "names", "rows"] ["table"] (defScope sStepM) := ⟨rfl, rfl, rfl, by decide +kernel, rfl, by decide +kernel, by decide +kernel⟩
set_option maxHeartbeats 4000000 in
theorem ok_stepM (F : Fun K "step_masks" "step_masks" sStepM f fd) (G1 : FnOk P w K mg base CX0 1 f1 fd1 ["names", "row"] spMask) (bG1 : Binds K fd1 ["names", "row"] []) (kG1 : PySem.W.keepIn K (.ref f1) = true) (mG1 : mg "mask_of" = some (.ref f1))
    (G2 : FnOk P w K mg base CX0 2 f2 fd2 ["masks"] spRedu) (bG2 : Binds K fd2 ["masks"] []) (kG2 : PySem.W.keepIn K (.ref f2) = true) (mG2 : mg "reduced" = some (.ref f2)) : FnOk P w K mg base CX0 3 f fd ["table"] spStepM := by
  refine F.ok scStepM (fun vs H Q E h => ?_) (fun cdv A outer s H vs Q E hr h => ?_)
  · obtain ⟨T, names, rows, rfl, _⟩ := h
    rfl
  obtain ⟨T, names, rows, rfl, ⟨a, b, hT, ha, ⟨as, hb, pr⟩⟩, lr, q⟩ := h
  have hr1 := hr.mono (j := 1) (by decide)
  refine ⟨_, pss_cons (ps_asg (pv 0) (pg_tup rfl (pgs_cons (pg_name (i := 1) scStepM.nd rfl (Or.inr rfl)) (pgs_cons (pg_name (i := 2) scStepM.nd rfl (Or.inl rfl)) pgs_nil))))
    (pss_one (ps_ret (pe_call G2 hr rfl mG2 kG2 bG2 .nil pass0 (pa_cons (pe_lc (N := ["table", "names", "rows"]) (sc := defScope sStepM) (N' := ["row", "names"]) (sub := [none, some 1]) rfl rfl (CmpOk.of (by decide +kernel)) rfl (pi_list (pv 2))
      (fun C s H fp => ⟨pg_name (i := 0) (by show (["row", "names"] : List Str).Nodup; decide) rfl (Or.inl rfl), pts_nil, pe_call G1 hr1 rfl mG1 kG1 bG1 .nil pass0 (pa_cons (pv 1) (pa_cons (pv 0) pa_nil))⟩)) pa_nil)))), ?_⟩
  have la : as.length = rows.length := pr.length
  refine ⟨_, rfl, T, _, rfl, SqT.of hT, rfl, _, _, rfl, _, _, rfl, rfl, ?_⟩
  refine ⟨_, rfl, b, rfl, ⟨_, SqL.of hb⟩, ?_⟩
  refine turns_list (xs := as.map V.ref) (fun j ys H2 => H2 = H ∧ ys = ((rows.take j).map (maskF names)).map iV) ⟨rfl, rfl⟩ (fun j ys H2 _ h => by rw [h.1]; exact SqL.of hb) ?_ ?_
  · rintro j v ys H2 hx ⟨rfl, rfl⟩
    obtain ⟨c, rfl, hc⟩ := ref_get hx
    obtain ⟨rw1, hrw, hc1⟩ := paired_get pr hc
    have hj := at_lt hrw
    refine ⟨Sle.set _ (Sle.refl _) (fun u z => by cases z), iteT (B := False) ⟨_, rfl, _, rfl, a, c, names, rw1, rfl, ha, hc1, ?_, nxt (at_lt hx) ⟨rfl, ?_⟩⟩⟩
    · rw [List.length_map, List.length_map, List.length_take]; exact small1000 (by omega)
    · rw [take_snoc hrw, List.map_append, List.map_append]; rfl
  · rintro ys H2 ⟨rfl, rfl⟩ l hl
    rw [List.length_map, la, List.take_of_length_le (Nat.le_refl _)]
    have n1 := Ext.new hl (.lst ((rows.map (maskF names)).map iV))
    refine ⟨l, _, rfl, upd_same, by rw [List.length_map]; exact lr, fun r M H1 e1 r0 hM pM dM => ?_⟩
    exact q r M H1 (n1.trans e1) (n1.none r0) hM pM dM
theorem scCross : FnScope ["table", "names"] ["table"] (defScope sCross) := ⟨rfl, rfl, rfl, by decide +kernel, rfl, by decide +kernel, by decide +kernel⟩
set_option maxHeartbeats 4000000 in
theorem ok_cross (F : Fun K "crossed" "crossed" sCross f fd) (G1 : FnOk P w K mg base CX0 3 f1 fd1 ["names", "masks"] spTabF) (bG1 : Binds K fd1 ["names", "masks"] []) (kG1 : PySem.W.keepIn K (.ref f1) = true) (mG1 : mg "table_from" = some (.ref f1))
    (G2 : FnOk P w K mg base CX0 2 f2 fd2 ["steps", "width"] spCrM) (bG2 : Binds K fd2 ["steps", "width"] []) (kG2 : PySem.W.keepIn K (.ref f2) = true) (mG2 : mg "crossed_masks" = some (.ref f2))
    (G3 : FnOk P w K mg base CX0 3 f3 fd3 ["table"] spStepM) (bG3 : Binds K fd3 ["table"] []) (kG3 : PySem.W.keepIn K (.ref f3) = true) (mG3 : mg "step_masks" = some (.ref f3)) (ml : mg "len" = none) : FnOk P w K mg base CX0 4 f fd ["table"] spCross := by
  refine F.ok scCross (fun vs H Q E h => ?_) (fun cdv A outer s H vs Q E hr h => ?_)
  · obtain ⟨T, names, rows, rfl, _⟩ := h
    rfl
  obtain ⟨T, names, rows, rfl, ht, ln, lr, q⟩ := h
  have hr2 := hr.mono (j := 2) (by decide)
  refine ⟨_, pss_cons (ps_set (i := 1) scCross.nd rfl (Or.inl rfl) (pe_ix ix_tup (pv 0) pe_int (fun _ _ => rfl)))
    (pss_one (ps_ret (pe_call G1 hr rfl mG1 kG1 bG1 .nil pass0 (pa_cons (pv 1) (pa_cons (pe_call G2 hr2 rfl mG2 kG2 bG2 .nil pass0 (pa_cons (pe_call G3 hr rfl mG3 kG3 bG3 .nil pass0 (pa_cons (pv 0) pa_nil)) (pa_cons (pe_callB call_len_seq rfl ml PySem.boot_len (pa_cons (pv 1) pa_nil)) pa_nil))) pa_nil))))), ?_⟩
  obtain ⟨a, b, hT, ha, hb⟩ := id ht
  refine ⟨_, rfl, T, _, _, _, rfl, rfl, SqT.of hT, (by exact atI_nat (j := 0) rfl), ?_⟩
  refine ⟨_, rfl, _, rfl, T, names, rows, rfl, ht, lr, fun r S H1 e1 r0 hS pS dS => ?_⟩
  have rrS : RR S := (red_rr _).perm pS
  have ltS : ∀ s ∈ S, s < 2 ^ names.length := fun s hs => red_lt (fun x hx => by
    obtain ⟨rw1, _, rfl⟩ := List.mem_map.mp hx
    exact maskF_lt names rw1) s (pS.mem_iff.mp hs)
  have lS : S.length ≤ 24 := by
    have := red_le (rows.map (maskF names))
    rw [List.length_map] at this
    rw [pS.length_eq]; omega
  refine ⟨_, rfl, a, _, rfl, .inl (SqL.of (e1 _ _ ha)), r, S, names.length, (by rw [List.length_map]; rfl), hS, rrS, ltS, ln, lS, fun r2 H2 e2 r20 h2 => ?_⟩
  have lc : (crAll S names.length).length ≤ 24 := by
    unfold crAll
    rw [List.length_map]
    have := List.length_filter_le (fun p => !decide (isLd S p)) (List.range names.length)
    rw [List.length_range] at this
    omega
  have E2 := e1.trans e2
  refine ⟨a, r2, names, _, rfl, E2 _ _ ha, ln, h2, lc, fun T' M H3 e3 t0 tf pM dM => ?_⟩
  exact q T' S M H3 (E2.trans e3) (E2.none t0) (tf.down E2) pS pM dM
end
end My
namespace My
open PySem L2
def ixF (ps : List Str) (x : Str) : Nat := ps.findIdx fun y => decide (y = x)
theorem ixF_at {ps : List Str} {x : Str} (h : x ∈ ps) : ps[ixF ps x]? = some x ∧ (∀ k, k < ixF ps x → ps[k]? ≠ some x) ∧ ixF ps x < ps.length := by
  have lt : ixF ps x < ps.length := List.findIdx_lt_length_of_exists ⟨x, h, by simp⟩
  have at_ : ps[ixF ps x] = x := by
    have := List.findIdx_getElem (w := lt)
    exact of_decide_eq_true this
  refine ⟨by rw [List.getElem?_eq_getElem lt, at_], fun k hk e => ?_, lt⟩
  have := List.not_of_lt_findIdx hk
  have kl : k < ps.length := Nat.lt_trans hk lt
  rw [List.getElem?_eq_getElem kl] at e
  have e' := Option.some.inj e
  simp [e'] at this
def vT (ps : List Str) (t : Tr) : Nat := 2 ^ ixF ps t.2.1 ^^^ 2 ^ ixF ps t.2.2
def vF (net : List Tr) (ps : List Str) (i : Nat) : Nat := match net[i]? with | some t => vT ps t | none => 0
end My
namespace My
open PySem L2
theorem redL1_snoc (k : List Nat) (s x : Nat) : redL1 (k ++ [s]) x = rdL (redL1 k x) s := by unfold redL1; rw [List.foldl_append]; rfl
theorem redL_le (xs : List Nat) : (redL xs).length ≤ xs.length := by
  refine snocN (P := fun xs => (redL xs).length ≤ xs.length) (Nat.le_refl _) (fun l t ih => ?_) xs
  rw [redL_snoc, List.length_append]
  unfold redLS
  split
  · exact Nat.le_trans ih (Nat.le_add_right _ _)
  · rw [List.length_append, List.length_map]; exact Nat.add_le_add_right ih _
def KeptAt (H : Hp) (p : Addr) (K : List (Nat × Nat)) : Prop := ∃ as : List Addr, H p = some (.lst (as.map V.ref)) ∧ Paired (fun a f => H a = some (.tup [iV f.1, iV f.2])) as K
def rowL (names : List Str) (x : Nat) : List Str := (List.range names.length).filterMap fun i => if x.testBit i = true then names[i]? else none
def spLRow : Sp := fun vs H Q _ => ∃ (pn : Addr) (names : List Str) (x : Nat), vs = [.ref pn, iV x] ∧ LsS H pn names ∧ names.length ≤ 12 ∧ ∀ r H', Ext H H' → H r = none → LsS H' r (rowL names x) → Q (.ref r) H'
section
variable {P : Program} {w : World} {K : PySem.W.Frag} {mg : Str → Option Value} {base : Heap} {f f1 f2 f3 f4 : Addr} {fd fd1 fd2 fd3 fd4 : FuncData}
end
end My
namespace My
open PySem L2
section
variable {P : Program} {w : World} {K : PySem.W.Frag} {mg : Str → Option Value} {base : Heap} {f f1 f2 f3 f4 : Addr} {fd fd1 fd2 fd3 fd4 : FuncData}
end
end My
namespace My
open PySem L2
abbrev nmS (net : List Tr) : List Str := net.map fun t => t.1
theorem fm_congr {α β : Type} {f g : α → Option β} : ∀ {l : List α}, (∀ i ∈ l, f i = g i) → l.filterMap f = l.filterMap g
  | [], _ => rfl
  | a :: l, h => by rw [List.filterMap_cons, List.filterMap_cons, h a List.mem_cons_self, fm_congr fun i hi => h i (List.mem_cons_of_mem _ hi)]
def atX (x : Str) (t : Tr) : Bool := decide (t.2.1 = x) ^^ decide (t.2.2 = x)
theorem spn_rv {m : Nat} {F : List Nat} (hF : ∀ x ∈ F, x < 2 ^ m) (z : Nat) : Spn (F.map (rv m)) z ↔ z < 2 ^ m ∧ Spn F (rv m z) := by
  constructor
  · intro h
    refine ⟨Spn.lt (fun x hx => ?_) h, ?_⟩
    · obtain ⟨y, _, rfl⟩ := List.mem_map.mp hx
      exact rv_lt m y
    · induction h with
      | zero => rw [rv_zero]; exact .zero
      | add hm _ ih =>
        obtain ⟨y, hy, rfl⟩ := List.mem_map.mp hm
        rw [rv_xor, rv_rv (hF y hy)]
        exact .add hy ih
  · rintro ⟨hz, h⟩
    rw [← rv_rv hz]
    generalize rv m z = y at h
    induction h with
    | zero => rw [rv_zero]; exact .zero
    | add hm _ ih => rw [rv_xor]; exact .add (List.mem_map_of_mem hm) ih
theorem rowL_rv {names : List Str} (x : Nat) : rowM names (rv names.length x) = rowL names x := by
  unfold rowM rowL
  have : ∀ i ∈ List.range names.length, (if (rv names.length x).testBit (names.length - 1 - i) = true then names[i]? else none) = (if x.testBit i = true then names[i]? else none) := fun i hi => by
    have hi' := List.mem_range.mp hi
    rw [rv_bit, decide_eq_true (by omega), Bool.true_and, show names.length - 1 - (names.length - 1 - i) = i by omega]
  exact fm_congr this
structure Made (net : List Tr) (ps ps' : List Str) (S M : List Nat) (K : List (Nat × Nat)) (F : List Nat) : Prop where
  rs : Rise (nmS net)
  pk : PtsOk net ps
  pk' : PtsOk net ps'
  pS : S.Perm (red (ps.map fun x => maskF (nmS net) (metF net x)))
  pM : M.Perm (red (crAll S net.length))
  dM : M.Pairwise fun a b => b ≤ a
  ei : EIv (vF net ps') net.length net.length K F
  kw : K.length = (woodF net).length
theorem riseNd {l : List Str} (h : Rise l) : l.Nodup := List.Pairwise.imp (fun {a b} z e => by rw [e, sLtB_irr] at z; cases z) h
section
variable {net : List Tr} {ps ps' : List Str} {S M : List Nat} {K : List (Nat × Nat)} {F : List Nat}
end
end My
namespace My
open PySem L2
theorem eqv_rows' : ∀ a b : List (List Str), PyData.eqvAll (a.map rowD) (b.map rowD) = decide (a = b)
  | [], [] => rfl
  | [], _ :: _ => rfl
  | _ :: _, [] => rfl
  | x :: a, y :: b => by
    show (PyData.eqv (rowD x) (rowD y) && PyData.eqvAll (a.map rowD) (b.map rowD)) = _
    rw [eqv_rows' a b, eqv_row]
    by_cases e : x = y
    · subst e; simp
    · simp [e]
theorem eqv_rows (a b : List (List Str)) : PyData.eqv (rowsD a) (rowsD b) = decide (a = b) := eqv_rows' a b
theorem lay_rows : ∀ {F : List (List Str)}, (∀ r ∈ F, SOk r) → PyData.canLayAll0 (F.map rowD) = true ∧ PyData.depthAll (F.map rowD) ≤ 1
  | [], _ => ⟨rfl, by decide⟩
  | x :: r, h => by
    obtain ⟨h1, h2⟩ := lay_rows (F := r) fun y hy => h y (List.mem_cons_of_mem _ hy)
    obtain ⟨h3, h4⟩ := lay_strs (h x List.mem_cons_self)
    refine ⟨?_, ?_⟩
    · show (PyData.canLayAll0 (x.map .str) && PyData.canLayAll0 (r.map rowD)) = true
      rw [h1, h3]; rfl
    · show max (PyData.depthAll (x.map .str) + 1) (PyData.depthAll (r.map rowD)) ≤ 1
      rw [h4]; omega
theorem dr_rows' {K : PySem.W.Frag} {H : Hp} : ∀ {as : List Addr} {F : List (List Str)}, Paired (LsS H) as F → DRs K H (as.map V.ref) (F.map rowD)
  | _, _, .nil => .nil
  | _, _, .cons h t => .cons (dr_row h) (dr_rows' t)
theorem dr_rows {K : PySem.W.Frag} {H : Hp} {p : Addr} {F : List (List Str)} (h : RowsAt H p F) : DR K H (.ref p) (rowsD F) := by
  obtain ⟨as, h1, h2⟩ := h
  exact .lst (SqL.of h1) (dr_rows' h2)
def tabD (names : List Str) (rows : List (List Str)) : PyData := .tuple [rowD names, rowsD rows]
theorem eqv_tab (names : List Str) (rows : List (List Str)) : PyData.eqv (tabD names rows) (tabD names rows) = true := by
  show (PyData.eqv (rowD names) (rowD names) && (PyData.eqv (rowsD rows) (rowsD rows) && true)) = true
  rw [eqv_row, eqv_rows, decide_eq_true rfl, decide_eq_true rfl]; rfl
theorem shaped_tab {names : List Str} {rows : List (List Str)} (h1 : SOk names) (h2 : ∀ r ∈ rows, SOk r) : SeqAt.shaped (tabD names rows) = true := by
  obtain ⟨a1, a2⟩ := lay_strs h1
  obtain ⟨b1, b2⟩ := lay_rows h2
  show ((PyData.canLayAll0 (names.map .str) && (PyData.canLayAll0 (rows.map rowD) && true)) && decide (max (PyData.depthAll (names.map .str) + 1) (max (PyData.depthAll (rows.map rowD) + 1) 0) + 1 ≤ 64)) = true
  rw [a1, b1, a2, decide_eq_true (by omega)]; rfl
theorem dr_tab {K : PySem.W.Frag} {H : Hp} {T : Addr} {names : List Str} {rows : List (List Str)} (h : TabIn H T names rows) : DR K H (.ref T) (tabD names rows) := by
  obtain ⟨a, b, h1, h2, h3⟩ := h
  exact .tup (SqT.of h1) (.cons (dr_row h2) (.cons (dr_rows h3) .nil))
end My
namespace My
open PySem L2
theorem idx_one {names : List Str} (nd : names.Nodup) {i j : Nat} {n : Str} (hi : names[i]? = some n) (hj : names[j]? = some n) : i = j :=
  (List.getElem?_inj (List.getElem?_eq_some_iff.mp hi).1 nd).mp (hi.trans hj.symm)
structure Tb (net : List Tr) (ps : List Str) (S M : List Nat) : Prop where
  rs : Rise (nmS net)
  pk : PtsOk net ps
  pS : S.Perm (red (ps.map fun x => maskF (nmS net) (metF net x)))
  pM : M.Perm (red (crAll S net.length))
  dM : M.Pairwise fun a b => b ≤ a
theorem desc_uniq : ∀ {a b : List Nat}, a.Pairwise (fun x y => y ≤ x) → b.Pairwise (fun x y => y ≤ x) → a.Perm b → a = b
  | [], b, _, _, p => (List.nil_perm.mp p).symm ▸ rfl
  | x :: a, [], _, _, p => by have := p.length_eq; simp at this
  | x :: a, y :: b, ha, hb, p => by
    obtain ⟨a1, a2⟩ := List.pairwise_cons.mp ha
    obtain ⟨b1, b2⟩ := List.pairwise_cons.mp hb
    have e : x = y := by
      rcases List.mem_cons.mp (p.mem_iff.mp List.mem_cons_self) with z | z
      · exact z
      · rcases List.mem_cons.mp (p.mem_iff.mpr List.mem_cons_self) with w' | w'
        · exact w'.symm
        · have h1 := b1 x z
          have h2 := a1 y w'
          omega
    subst e
    rw [desc_uniq a2 b2 ((List.perm_cons _).mp p)]
end My
namespace My
open PySem L2
def kap (p : Tr) (e : Str) : Str := if e = p.2.2 then p.2.1 else e
structure CnR (p t t' : Tr) : Prop where
  nm : t'.1 = t.1
  at_ : ∀ x, atX x t' = (decide (kap p t.2.1 = x) ^^ decide (kap p t.2.2 = x))
end My
namespace My
open PySem L2
section
variable {P : Program} {w : World} {K : PySem.W.Frag} {mg : Str → Option Value} {base : Heap} {f f1 f2 f3 f4 f5 : Addr} {fd fd1 fd2 fd3 fd4 fd5 : FuncData}
theorem turns_ints {ms : List Nat} {Q : List V → Hp → Prop} {H1 : Hp} {σ0 : St} {g : TG} {tt : TT} {te : TE} {p : Addr} (pr : Nat → Bool) (h : Nat → Nat) (hp : LsN H1 p ms) (ln : ms.length ≤ 24)
    (hs : ∀ z ∈ ms, ∀ (C : V → Hp → Prop) (B : Hp → Prop), (pr z = true → C (iV (h z)) H1) → (pr z = false → B H1) → g (iV z) σ0 H1 fun σ2 H2 => Sle σ0 σ2 ∧ tt σ2 H2 fun b H3 => if b = true then te σ2 H3 C else B H3)
    (hd : Q (((ms.filter pr).map h).map iV) H1) : cTurns (Itl K p) σ0 g tt te Q H1 := by
  refine turns_list (xs := ms.map iV) (fun j ys H2 => H2 = H1 ∧ ys = (((ms.take j).filter pr).map h).map iV) ⟨rfl, rfl⟩ (fun j ys H2 _ h => by rw [h.1]; exact SqL.of hp) ?_ ?_
  · rintro j x ys H2 hx ⟨rfl, rfl⟩
    obtain ⟨z, rfl, hz⟩ := iv_get hx
    have hj := at_lt hz
    have sz := List.length_filter_le pr (ms.take j)
    rw [List.length_take] at sz
    refine hs z (List.mem_of_getElem? hz) _ _ (fun b => ⟨?_, nxt (at_lt hx) ⟨rfl, ?_⟩⟩) (fun b => nxt (at_lt hx) ⟨rfl, ?_⟩)
    · rw [List.length_map, List.length_map]; exact small1000 (by omega)
    · rw [take_snoc hz, List.filter_append, List.map_append, List.map_append]
      simp [b]
    · rw [take_snoc hz, List.filter_append]
      simp [b]
  · rintro ys H2 ⟨rfl, rfl⟩
    rw [List.length_map, List.take_of_length_le (Nat.le_refl _)]
    exact hd
end
end My
namespace L2
open PySem PySem.Spec PyProof.Rows
section
variable {σ0 : St} {g : TG} {tt : TT} {te : TE} {Q : List V → Hp → Prop} {H1 : Hp}
end
end L2
namespace My
open PySem L2
theorem boot_int' : bootBuiltins "int" = some (.type "int") := by decide +kernel
section
variable {P : Program} {w : World} {K : PySem.W.Frag} {mg : Str → Option Value} {base : Heap} {f f1 f2 f3 f4 f5 : Addr} {fd fd1 fd2 fd3 fd4 fd5 : FuncData}
end
end My
namespace My
open PySem L2
def maskL (names row : List Str) : Nat := (row.map fun n => 2 ^ ixF names n).sum
theorem ix_get {names : List Str} (nd : names.Nodup) {i : Nat} {n : Str} (h : names[i]? = some n) : ixF names n = i := idx_one nd (ixF_at (List.mem_of_getElem? h)).1 h
theorem mem_rowL {names : List Str} {z : Nat} {n : Str} : n ∈ rowL names z ↔ ∃ i, i < names.length ∧ names[i]? = some n ∧ z.testBit i = true := by
  unfold rowL
  rw [List.mem_filterMap]
  constructor
  · rintro ⟨i, hi, e⟩
    split at e
    · rename_i b
      exact ⟨i, List.mem_range.mp hi, e, b⟩
    · cases e
  · rintro ⟨i, hi, e, b⟩
    exact ⟨i, List.mem_range.mpr hi, by rw [if_pos b]; exact e⟩
theorem rowL_nd {names : List Str} (nd : names.Nodup) (x : Nat) : (rowL names x).Nodup := by
  rw [← rowL_rv]
  have : (rowM names (rv names.length x)).Nodup := by
    unfold rowM
    have h : ∀ l : List Nat, l.Nodup → (l.filterMap fun i => if (rv names.length x).testBit (names.length - 1 - i) = true then names[i]? else none).Nodup := fun l => by
      induction l with
      | nil => intro _; exact List.nodup_nil
      | cons a l ih =>
        intro hn
        obtain ⟨h1, h2⟩ := List.nodup_cons.mp hn
        rw [List.filterMap_cons]
        split
        · exact ih h2
        · rename_i b e
          refine List.nodup_cons.mpr ⟨fun m => ?_, ih h2⟩
          obtain ⟨c, hc, ec⟩ := List.mem_filterMap.mp m
          split at e
          · split at ec
            · have := idx_one nd e ec
              subst this; exact h1 hc
            · cases ec
          · cases e
    exact h _ List.nodup_range
  exact this
theorem maskL_bit {names : List Str} (nd : names.Nodup) {row : List Str} (rn : row.Nodup) (sub : ∀ n ∈ row, n ∈ names) (j : Nat) : (maskL names row).testBit j = decide (∃ n ∈ row, ixF names n = j) := by
  unfold maskL
  have e : (row.map fun n => 2 ^ ixF names n) = (row.map (ixF names)).map fun l => 2 ^ l := by rw [List.map_map]; rfl
  have nd2 : (row.map (ixF names)).Nodup := by
    rw [List.Nodup, List.pairwise_map]
    refine List.Pairwise.imp_of_mem (fun {a b} ha hb ne q => ne ?_) rn
    have h1 := (ixF_at (sub a ha)).1
    have h2 := (ixF_at (sub b hb)).1
    rw [q, h2] at h1
    exact (Option.some.inj h1).symm
  rw [e, sum_pow _ nd2]
  refine decide_eq_decide.mpr ?_
  rw [List.mem_map]
theorem maskL_rv {names : List Str} (nd : names.Nodup) {row : List Str} (rn : row.Nodup) (sub : ∀ n ∈ row, n ∈ names) : maskL names row < 2 ^ names.length ∧ rv names.length (maskL names row) = maskF names row := by
  refine ⟨Nat.lt_pow_two_of_testBit _ fun i hi => ?_, Nat.eq_of_testBit_eq fun j => ?_⟩
  · rw [maskL_bit nd rn sub]
    refine decide_eq_false ?_
    rintro ⟨n, hn, e⟩
    have := (ixF_at (sub n hn)).2.2
    omega
  · rw [rv_bit, maskF_bit, maskL_bit nd rn sub]
    by_cases hj : j < names.length
    · rw [decide_eq_true hj, Bool.true_and, Bool.true_and]
      refine decide_eq_decide.mpr ⟨fun ⟨n, hn, e⟩ => ⟨n, by rw [← e]; exact (ixF_at (sub n hn)).1, hn⟩, fun ⟨n, h1, h2⟩ => ⟨n, h2, ix_get nd h1⟩⟩
    · rw [decide_eq_false hj]; rfl
theorem spn_map_rv {m : Nat} {F : List Nat} (hF : ∀ x ∈ F, x < 2 ^ m) {z : Nat} (hz : z < 2 ^ m) : Spn (F.map (rv m)) (rv m z) ↔ Spn F z := by
  rw [spn_rv hF, rv_rv hz]
  exact ⟨fun h => h.2, fun h => ⟨rv_lt _ _, h⟩⟩
structure TabOk (names : List Str) (rows : List (List Str)) : Prop where
  rn : Rise names
  ok : SOk names
  ln : names.length ≤ 12
  lr : rows.length ≤ 16
  rw : ∀ r ∈ rows, ∃ x, r = rowL names x
section
variable {names : List Str} {rows : List (List Str)}
end
end My
namespace My
open PySem L2
theorem cut_to (xs : List V) (p : Nat) : cutV xs none (some (p : Int)) = xs.take p := by
  unfold cutV
  rw [HT.sIx_nat, HT.sIx_none, List.drop_zero, Nat.sub_zero]
  rcases Nat.le_total p xs.length with h | h
  · rw [Nat.min_eq_left h]
  · rw [Nat.min_eq_right h, List.take_of_length_le (Nat.le_refl _), List.take_of_length_le h]
def spLCop : Sp := fun vs H Q _ => ∃ (T : Addr) (names : List Str) (rows : List (List Str)), vs = [.ref T] ∧ TabIn H T names rows ∧ rows.length ≤ 24 ∧ ∀ T' H', Ext H H' → H T' = none → TabIn H' T' names rows → Q (.ref T') H'
def rLst (K : PySem.W.Frag) : List V → Hp → VK → Prop := fun xs H Q => ∃ p ys, xs = [.ref p] ∧ (SqL K H p ys ∨ SqT K H p ys) ∧ ∀ l, H l = none → Q (.ref l) (upd H l (.lst ys))
section
variable {P : Program} {w : World} {K : PySem.W.Frag} {mg : Str → Option Value} {base : Heap} {f f1 f2 f3 f4 f5 : Addr} {fd fd1 fd2 fd3 fd4 fd5 : FuncData}
theorem scLCop : FnScope ["_law_table_here"] ["_law_table_here"] (defScope sLCop) := ⟨rfl, rfl, rfl, by decide +kernel, rfl, by decide +kernel, by decide +kernel⟩
set_option maxHeartbeats 4000000 in
theorem ok_lcop (F : Fun K "_law_copy" "_law_copy" sLCop f fd) (mL : mg "list" = none) : FnOk P w K mg base CX0 1 f fd ["_law_table_here"] spLCop := by
  refine F.ok scLCop (fun vs H Q E h => ?_) (fun cdv A outer s H vs Q E hr h => ?_)
  · obtain ⟨T, names, rows, rfl, _⟩ := h
    rfl
  obtain ⟨T, names, rows, rfl, ti, lr, q⟩ := h
  refine ⟨_, pss_one (ps_ret (pe_tup (pa_cons (pe_callTy call_list_of rfl mL boot_list' (pa_cons (pe_ix ix_tup (pv 0) pe_int (fun _ _ => rfl)) pa_nil))
    (pa_cons (pe_lc (N := ["_law_table_here"]) (sc := defScope sLCop) (N' := ["_law_row_here"]) (sub := [none]) rfl rfl (CmpOk.of (by decide +kernel)) rfl (pi_list (pe_ix ix_tup (pv 0) pe_int (fun _ _ => rfl)))
      (fun C s H fp => ⟨pg_name (i := 0) (by show (["_law_row_here"] : List Str).Nodup; decide) rfl (Or.inl rfl), pts_nil, pe_callTy (show CallR _ (.type "list") (rLst K) from call_list_of) rfl mL boot_list' (pa_cons (pv 0) pa_nil)⟩)) pa_nil)))), ?_⟩
  obtain ⟨tA, tB, hT, htA, ⟨cs, htB, pcs⟩⟩ := id ti
  have lcs : cs.length = rows.length := pcs.length
  refine ⟨_, rfl, T, _, _, _, rfl, rfl, SqT.of hT, (by exact atI_nat (j := 0) rfl), tA, _, rfl, .inl (SqL.of htA), fun l1 hl1 => ?_⟩
  have N0 := Ext.new hl1 (.lst (names.map V.str))
  refine ⟨_, rfl, T, _, _, _, rfl, rfl, SqT.of (N0 _ _ hT), (by exact atI_nat (j := 1) rfl), tB, rfl, ⟨_, SqL.of (N0 _ _ htB)⟩, ?_⟩
  refine turns_list (xs := cs.map V.ref) (fun j ys Hd => Ext (upd H l1 (.lst (names.map V.str))) Hd ∧ ∃ ds, ys = ds.map V.ref ∧ Paired (LsS Hd) ds (rows.take j)) ⟨Ext.refl _, [], rfl, .nil⟩ (fun j ys Hd _ h => SqL.of (h.1 _ _ (N0 _ _ htB))) ?_ ?_
  · rintro j v ys Hd hx ⟨ed, ds, rfl, pd⟩
    obtain ⟨c, rfl, hc⟩ := ref_get hx
    obtain ⟨rw1, hrw, hc1⟩ := paired_get pcs hc
    have hj := at_lt hrw
    have ld : ds.length = _ := pd.length
    rw [List.length_take] at ld
    refine ⟨Sle.set _ (Sle.refl _) (fun u z => by cases z), iteT (B := False) ⟨_, rfl, c, _, rfl, .inl (SqL.of (ed _ _ (N0 _ _ hc1))), fun l hl => ⟨?_, nxt (at_lt hx) ⟨ed.trans (Ext.new hl _), ds ++ [l], by rw [List.map_append]; rfl, ?_⟩⟩⟩⟩
    · rw [List.length_map]; exact small1000 (by omega)
    · rw [take_snoc hrw]
      exact Paired.snoc (Paired.mapP pd fun a t z => (Ext.new hl _) _ _ z) upd_same
  rintro ys Hd ⟨ed, ds, rfl, pd⟩ bb hbb
  rw [List.length_map, lcs, List.take_of_length_le (Nat.le_refl _)] at pd
  have XB := Ext.new hbb (.lst (ds.map V.ref))
  refine ⟨(by show 2 ≤ sizeLine; decide), fun TT hTT => ?_⟩
  have XT := Ext.new hTT (.tup [V.ref l1, V.ref bb])
  have NE := N0.trans (ed.trans (XB.trans XT))
  exact q TT _ NE (((N0.trans ed).trans XB).none hTT) ⟨l1, bb, upd_same, (ed.trans (XB.trans XT)) _ _ upd_same, ⟨ds, XT _ _ upd_same, Paired.mapP pd fun a t z => (XB.trans XT) _ _ z⟩⟩
end
end My
namespace L2
open PySem PySem.Spec PyProof.Rows
end L2
namespace My
open PySem L2
def spPurse (K : PySem.W.Frag) : Sp := fun vs H Q _ => ∃ (a : Addr) (ns : List Int) (k : Int), vs = [.ref a, .int k] ∧ SqL K H a (ns.map V.int) ∧ 0 ≤ k ∧ k ≤ 1000 ∧ ∀ v r, H r = none → Q (.ref r) (upd H r (.lst [.int v]))
def spTake : Sp := fun vs H Q _ => ∃ (d : Addr) (n m : Int), vs = [.ref d, .int m] ∧ H d = some (.lst [.int n]) ∧ 0 < m ∧ m < 1073741824 ∧ ∀ q r, 0 ≤ r → r < m → Q (.int r) (upd H d (.lst [.int q]))
section
variable {P : Program} {w : World} {K : PySem.W.Frag} {mg : Str → Option Value} {base : Heap} {f f1 : Addr} {fd fd1 : FuncData}
theorem scTake : FnScope ["_law_draw", "_law_many", "_law_digit"] ["_law_draw", "_law_many"] (defScope sTake) := ⟨rfl, rfl, rfl, by decide +kernel, rfl, by decide +kernel, by decide +kernel⟩
theorem ok_take (F : Fun K "_law_take" "_law_take" sTake f fd) : FnOk P w K mg base CX0 1 f fd ["_law_draw", "_law_many"] spTake := by
  refine F.ok scTake (fun vs H Q E h => ?_) (fun cdv A outer s H vs Q E hr h => ?_)
  · obtain ⟨a, ns, k, rfl, _⟩ := h
    rfl
  obtain ⟨d, n, m, rfl, hd, h1, h2, q⟩ := h
  refine ⟨_, pss_cons (ps_set (i := 2) scTake.nd rfl (Or.inl rfl) (pe_op op_mod (pe_ix ix_list (pv 0) pe_int (fun _ _ => rfl)) (pv 1)))
    (pss_cons (ps_asg (pe_op op_fdiv (pe_ix ix_list (pv 0) pe_int (fun _ _ => rfl)) (pv 1)) (pg_sub (pv 0) pe_int set_list)) (pss_one (ps_ret (pv 2)))), ?_⟩
  refine ⟨_, rfl, d, _, _, _, rfl, rfl, SqL.of hd, rfl, _, rfl, _, _, rfl, rfl, h1, ?_⟩
  refine ⟨_, rfl, d, _, _, _, rfl, rfl, SqL.of hd, rfl, _, rfl, _, _, rfl, rfl, ⟨h1, h2⟩, ?_⟩
  refine ⟨_, rfl, d, _, _, _, rfl, rfl, hd, rfl, ?_⟩
  exact ⟨_, rfl, q (n / m) (n % m) (Int.emod_nonneg _ (by omega)) (Int.emod_lt_of_pos _ h1)⟩
end
end My
namespace My
open PySem L2
section
variable {P : Program} {w : World} {K : PySem.W.Frag} {mg : Str → Option Value} {base : Heap} {f f1 : Addr} {fd fd1 : FuncData}
theorem scPurse : FnScope ["_law_script", "_law_at", "_law_cell", "_law_come", "_law_k", "_law_one", "_law_mixed"] ["_law_script", "_law_at"] (defScope sPurse) := ⟨rfl, rfl, rfl, by decide +kernel, rfl, by decide +kernel, by decide +kernel⟩
theorem ok_purse (F : Fun K "_law_purse" "_law_purse" sPurse f fd) (G : FnOk P w K mg base CX0 1 f1 fd1 ["_law_script", "_law_k"] (spCell K)) (bG : Binds K fd1 ["_law_script", "_law_k"] []) (kG : PySem.W.keepIn K (.ref f1) = true) (mG : mg "_law_cell_at" = some (.ref f1)) (mr : mg "range" = none) :
    FnOk P w K mg base CX0 2 f fd ["_law_script", "_law_at"] (spPurse K) := by
  refine F.ok scPurse (fun vs H Q E h => ?_) (fun cdv A outer s H vs Q E hr h => ?_)
  · obtain ⟨a, ns, k, rfl, _⟩ := h
    rfl
  obtain ⟨a, ns, k, rfl, hS, h0, h1, q⟩ := h
  refine ⟨_, pss_cons (ps_set (i := 2) scPurse.nd rfl (Or.inl rfl) (pe_call G hr rfl mG kG bG .nil pass0 (pa_cons (pv 0) (pa_cons (pv 1) pa_nil))))
    (pss_cons (ps_if (pt_cmpR op_ge (pv 2) (pe_op op_pow pe_int pe_int) (nomark _)) (pss_one (ps_ret (pe_lst (pa_cons (pv 2) pa_nil)))) pss_nil)
    (pss_cons (ps_set (i := 3) scPurse.nd rfl (Or.inl rfl) pe_int)
    (pss_cons (ps_for PassesOwn.never rfl (pi_range1 rfl mr (pa_cons pe_int pa_nil)) (pg_name (i := 4) scPurse.nd rfl (Or.inl rfl))
      (pss_cons (ps_set (i := 5) scPurse.nd rfl (Or.inl rfl) (pe_op op_add (pe_op op_add (pe_op op_add (pe_op op_mod (pe_call G hr rfl mG kG bG .nil pass0 (pa_cons (pv 0) (pa_cons (pe_op op_add (pv 1) (pe_op op_mod (pv 4) pe_int)) pa_nil))) (pe_op op_pow pe_int pe_int)) pe_int)
          (pe_op op_mul (pe_op op_mul pe_int (pv 4)) (pv 4))) (pe_op op_mul pe_int (pv 1))))
      (pss_cons (ps_set (i := 6) scPurse.nd rfl (Or.inl rfl) (pe_op op_mod (pe_op op_mul (pv 5) pe_int) pe_int))
      (pss_one (ps_set (i := 3) scPurse.nd rfl (Or.inl rfl) (pe_op op_add (pe_op op_mul (pv 3) pe_int) (pe_op op_mod (pe_op op_add (pe_op op_mod (pe_op op_mul (pv 6) (pv 6)) pe_int) (pe_op op_fdiv (pv 5) pe_int)) pe_int)))))))
    (pss_one (ps_ret (pe_lst (pa_cons (pv 3) pa_nil))))))), ?_⟩
  refine ⟨_, rfl, _, rfl, a, ns, k, rfl, hS, h0, fun v => ?_⟩
  refine ⟨_, rfl, _, _, rfl, rfl, ⟨by decide, by decide, by decide⟩, _, _, rfl, rfl, _, rfl, ?_⟩
  refine ite2 (fun c => ?_) (fun c => ?_)
  · exact ⟨_, rfl, (by show 1 ≤ sizeLine; decide), fun r hr' => q v r hr'⟩
  refine ⟨60, rfl, by decide, by decide, for_range (lo := 0) (n := 60) (fun i σ H' => H' = H ∧ ∃ (c : Int) (x y z : Option V), σ = [some (.ref a), some (.int k), some (.int v), some (.int c), x, y, z]) ⟨rfl, 0, none, none, none, rfl⟩ ?_ ?_⟩
  · rintro i σ H' hi ⟨rfl, c0, x, y, z, rfl⟩
    refine ⟨_, rfl, _, rfl, _, rfl, _, _, rfl, rfl, (by show (0 : Int) < _; decide), _, _, rfl, rfl, a, ns, _, rfl, hS, ?_, fun u => ?_⟩
    · have := Int.emod_nonneg ((0 : Int) + (i : Int)) (show (9 : Int) ≠ 0 by decide)
      omega
    refine ⟨_, _, rfl, rfl, ⟨by decide, by decide, by decide⟩, _, _, rfl, rfl, (by show (0 : Int) < _; decide), _, _, rfl, rfl, ?_⟩
    refine ⟨_, rfl, _, _, rfl, rfl, .inl ⟨by decide, by decide⟩, _, rfl, _, _, rfl, rfl, .inr ⟨by omega, by omega⟩, _, _, rfl, rfl, ?_⟩
    refine ⟨_, rfl, _, _, rfl, rfl, .inl ⟨by decide, by decide⟩, _, _, rfl, rfl, ?_⟩
    refine ⟨_, rfl, _, _, rfl, rfl, .inr ⟨by decide, by decide⟩, _, _, rfl, rfl, (by show (0 : Int) < _; decide), ?_⟩
    refine ⟨_, rfl, _, _, rfl, rfl, .inr ⟨by decide, by decide⟩, _, rfl, _, rfl, _, _, rfl, rfl, ?_, _, _, rfl, rfl, (by show (0 : Int) < _; decide), _, rfl, _, _, rfl, rfl, ⟨by decide, by decide⟩, _, _, rfl, rfl, _, _, rfl, rfl, (by show (0 : Int) < _; decide), _, _, rfl, rfl, ?_⟩
    · refine .inl ⟨?_, ?_⟩
      · exact Int.lt_of_lt_of_le (by decide) (Int.emod_nonneg _ (by decide))
      · exact Int.lt_of_lt_of_le (Int.emod_lt_of_pos _ (by decide)) (by decide)
    · exact ⟨rfl, _, _, _, _, rfl⟩
  · rintro σ H' ⟨rfl, c0, x, y, z, rfl⟩
    exact ⟨_, rfl, (by show 1 ≤ sizeLine; decide), fun r hr' => q c0 r hr'⟩
end
end My
namespace My
open PySem L2
theorem foldl_rep {c : Nat} : ∀ (n : Nat) (acc : Array Nat), ((List.replicate n #[c]).foldl (· ++ ·) acc).toList = acc.toList ++ List.replicate n c
  | 0, acc => by simp
  | n + 1, acc => by
    rw [List.replicate_succ, List.foldl_cons, foldl_rep n]
    simp [List.replicate_succ]
theorem mul_list {c : Nat} {n : Int} (h : 0 ≤ n) : (Txt.mul ⟨#[c]⟩ n).cps.toList = List.replicate n.toNat c := by
  unfold Txt.mul
  by_cases h1 : n < 1
  · rw [if_pos h1, show n.toNat = 0 by omega]; rfl
  · rw [if_neg h1]
    by_cases h2 : n = 1
    · subst h2; rfl
    · have e : (n == 1 || (⟨#[c]⟩ : Str).length == 0) = false := by
        rw [Bool.or_eq_false_iff]
        exact ⟨by simpa using h2, rfl⟩
      rw [if_neg (by rw [e]; decide)]
      exact foldl_rep n.toNat #[]
theorem Sm.mul {c : Nat} {n : Int} (h : c < 128) (hn : 0 ≤ n) : Sm (Txt.mul ⟨#[c]⟩ n) := fun d hd => by
  rw [mul_list hn] at hd
  rw [(List.mem_replicate.mp hd).2]; exact h
theorem mul_len {c : Nat} {n : Int} (hn : 0 ≤ n) : (Txt.mul ⟨#[c]⟩ n).length = n.toNat := by
  have := congrArg List.length (mul_list (c := c) hn)
  rw [List.length_replicate] at this
  exact this
def nmA (a b : Str) (first : Nat) (k : Nat) : Str := a ++ ⟨#[sgC ((first + 7 * k) % 36)]⟩ ++ b
theorem nmA_inj {a b : Str} {first i j : Nat} (hi : i < 12) (hj : j < 12) (e : nmA a b first i = nmA a b first j) : i = j := by
  have e1 := congrArg (fun x : Str => x.cps.toList) e
  simp only [nmA, Str.cps_append, Array.toList_append, List.append_assoc] at e1
  have e2 := List.append_cancel_left e1
  have e3 : sgC ((first + 7 * i) % 36) = sgC ((first + 7 * j) % 36) := by
    have := congrArg List.head? e2
    simpa using this
  have e4 := sgC_inj (Nat.mod_lt _ (by decide)) (Nat.mod_lt _ (by decide)) e3
  omega
def nmB (first : Nat) (k : Nat) : Str := if k < 6 then Txt.mul ⟨#[sgC first]⟩ (1 + (k : Int)) else Txt.mul ⟨#[sgC first]⟩ ((k : Int) - 6) ++ ⟨#[sgC ((first + 1) % 36)]⟩
theorem nmB_list {first k : Nat} : (nmB first k).cps.toList = if k < 6 then List.replicate (1 + k) (sgC first) else List.replicate (k - 6) (sgC first) ++ [sgC ((first + 1) % 36)] := by
  unfold nmB
  split
  · rw [mul_list (by omega), show (1 + (k : Int)).toNat = 1 + k by omega]
  · rw [Str.cps_append, Array.toList_append, mul_list (by omega), show ((k : Int) - 6).toNat = k - 6 by omega]
theorem nmB_inj {first i j : Nat} (hf : first < 36) (e : nmB first i = nmB first j) : i = j := by
  have e1 := congrArg (fun x : Str => x.cps.toList) e
  simp only [nmB_list] at e1
  have ne : sgC first ≠ sgC ((first + 1) % 36) := fun z => by
    have := sgC_inj hf (Nat.mod_lt _ (by decide)) z
    omega
  by_cases hi : i < 6
  · by_cases hj : j < 6
    · rw [if_pos hi, if_pos hj] at e1
      have := congrArg List.length e1
      rw [List.length_replicate, List.length_replicate] at this
      omega
    · rw [if_pos hi, if_neg hj] at e1
      exfalso
      have hm : sgC ((first + 1) % 36) ∈ List.replicate (1 + i) (sgC first) := by rw [e1]; simp
      exact ne (List.mem_replicate.mp hm).2.symm
  · by_cases hj : j < 6
    · rw [if_neg hi, if_pos hj] at e1
      exfalso
      have hm : sgC ((first + 1) % 36) ∈ List.replicate (1 + j) (sgC first) := by rw [← e1]; simp
      exact ne (List.mem_replicate.mp hm).2.symm
    · rw [if_neg hi, if_neg hj] at e1
      have := congrArg List.length e1
      rw [List.length_append, List.length_append, List.length_replicate, List.length_replicate] at this
      simp at this
      omega
theorem nodup_map {α : Type} {g : Nat → α} {n : Nat} (h : ∀ i j, i < n → j < n → g i = g j → i = j) : ((List.range n).map g).Nodup := by
  rw [List.Nodup, List.pairwise_map]
  refine List.Pairwise.imp_of_mem ?_ (List.nodup_range (n := n))
  intro a b ha hb ne e
  exact ne (h a b (List.mem_range.mp ha) (List.mem_range.mp hb) e)
theorem turns_mapR {σ0 : St} {g : TG} {te : TE} {Q : List V → Hp → Prop} {H1 : Hp} {lo : Int} {n : Nat} (fv : Nat → V) (hz : n ≤ 1000)
    (hs : ∀ i, i < n → ∀ C : V → Hp → Prop, C (fv i) H1 → g (.int (lo + i)) σ0 H1 fun σ2 H2 => Sle σ0 σ2 ∧ te σ2 H2 (fun v H4 => C v H4))
    (hd : Q ((List.range n).map fv) H1) : cTurns (Itr lo n) σ0 g tNoTest te Q H1 := by
  refine turns_range (lo := lo) (n := n) (fun i ys H => H = H1 ∧ ys = (List.range i).map fv) ⟨rfl, rfl⟩ ?_ ?_
  · rintro i ys H hi ⟨rfl, rfl⟩
    exact hs i hi (fun v H4 => ((List.range i).map fv).length < sizeLine ∧ Nxt n i (fun i ys H' => H' = H ∧ ys = (List.range i).map fv) ((List.range i).map fv ++ [v]) H4)
      ⟨by rw [List.length_map, List.length_range]; exact small1000 (by omega), nxt hi ⟨rfl, by rw [List.range_succ, List.map_append]; rfl⟩⟩
  · rintro ys H ⟨rfl, rfl⟩
    exact hd
end My
namespace My
open PySem L2
def spNames : Sp := fun vs H Q _ => ∃ (d : Addr) (n m : Int), vs = [.ref d, .int m] ∧ H d = some (.lst [.int n]) ∧ 0 ≤ m ∧ m ≤ 12 ∧
  ∀ (r : Addr) (ns : List Str) (q : Int) (H' : Hp), Ext (upd H d (.lst [.int q])) H' → H r = none → LsS H' r ns → ns.length = m.toNat → ns.Nodup → PyProof.Rows.sortedS ns = true → SOk ns → Q (.ref r) H'
section
variable {P : Program} {w : World} {K : PySem.W.Frag} {mg : Str → Option Value} {base : Heap} {f f1 : Addr} {fd fd1 : FuncData}
theorem scNames : FnScope ["_law_draw", "_law_many", "_law_signs", "_law_size", "_law_spot", "_law_word", "_law_k", "_law_first", "_law_found", "_law_one", "_law_other"] ["_law_draw", "_law_many"] (defScope sNames) := ⟨rfl, rfl, rfl, by decide +kernel, rfl, by decide +kernel, by decide +kernel⟩
theorem ok_names (F : Fun K "_law_names" "_law_names" sNames f fd) (G : FnOk P w K mg base CX0 1 f1 fd1 ["_law_draw", "_law_many"] spTake) (bG : Binds K fd1 ["_law_draw", "_law_many"] []) (kG : PySem.W.keepIn K (.ref f1) = true) (mG : mg "_law_take" = some (.ref f1)) (mr : mg "range" = none) (mm : mg "min" = none) (ms : mg "sorted" = none) :
    FnOk P w K mg base CX0 2 f fd ["_law_draw", "_law_many"] spNames := by
  refine F.ok scNames (fun vs H Q E h => ?_) (fun cdv A outer s H vs Q E hr h => ?_)
  · obtain ⟨a, ns, k, rfl, _⟩ := h
    rfl
  obtain ⟨d, n, m, rfl, hd, m0, m1, q⟩ := h
  refine ⟨_, pss_cons (ps_set (i := 2) scNames.nd rfl (Or.inr rfl) pe_str)
    (pss_cons (ps_set (i := 3) scNames.nd rfl (Or.inl rfl) (pe_op op_add pe_int (pe_call G hr rfl mG kG bG .nil pass0 (pa_cons (pv 0) (pa_cons pe_int pa_nil)))))
    (pss_cons (ps_set (i := 4) scNames.nd rfl (Or.inr rfl) (pe_call G hr rfl mG kG bG .nil pass0 (pa_cons (pv 0) (pa_cons (pv 3) pa_nil))))
    (pss_cons (ps_set (i := 5) scNames.nd rfl (Or.inr rfl) pe_str)
    (pss_cons (ps_for PassesOwn.never rfl (pi_range1 rfl mr (pa_cons (pv 3) pa_nil)) (pg_name (i := 6) scNames.nd rfl (Or.inl rfl))
      (pss_one (ps_set (i := 5) scNames.nd rfl (Or.inr rfl) (pe_op op_add_str (pv 5) (pe_ix ix_str (pv 2) (pe_call G hr rfl mG kG bG .nil pass0 (pa_cons (pv 0) (pa_cons pe_int pa_nil))) (fun _ _ => rfl))))))
    (pss_cons (ps_set (i := 7) scNames.nd rfl (Or.inr rfl) (pe_call G hr rfl mG kG bG .nil pass0 (pa_cons (pv 0) (pa_cons pe_int pa_nil))))
    (pss_cons (ps_lc (i := 8) (N := ["_law_draw", "_law_many", "_law_signs", "_law_size", "_law_spot", "_law_word", "_law_k", "_law_first", "_law_found", "_law_one", "_law_other"]) (sc := defScope sNames) (N' := ["_law_k", "_law_first", "_law_signs", "_law_spot", "_law_word"]) (sub := [none, some 7, some 2, some 4, some 5])
        rfl rfl (CmpOk.of (by decide +kernel)) rfl (pi_range1 rfl mr (pa_cons (pv 1) pa_nil))
        (fun C s H fp => ⟨pg_name (i := 0) (by show (["_law_k", "_law_first", "_law_signs", "_law_spot", "_law_word"] : List Str).Nodup; decide) rfl (Or.inl rfl), pts_nil,
          pe_op op_add_str (pe_op op_add_str (pe_slice sl_str (pv 4) po_none (po_some (pv 3))) (pe_ix ix_str (pv 2) (pe_op op_mod (pe_op op_add (pv 1) (pe_op op_mul pe_int (pv 0))) pe_int) (fun _ _ => rfl))) (pe_slice sl_str (pv 4) (po_some (pe_op op_add (pv 3) pe_int)) po_none)⟩)
        scNames.nd rfl (Or.inl rfl))
    (pss_cons (ps_if (pt_cmpR op_eq (pe_call G hr rfl mG kG bG .nil pass0 (pa_cons (pv 0) (pa_cons pe_int pa_nil))) pe_int (nomark _))
      (pss_cons (ps_set (i := 9) scNames.nd rfl (Or.inr rfl) (pe_ix ix_str (pv 2) (pv 7) (fun _ _ => rfl)))
      (pss_cons (ps_set (i := 10) scNames.nd rfl (Or.inr rfl) (pe_ix ix_str (pv 2) (pe_op op_mod (pe_op op_add (pv 7) pe_int) pe_int) (fun _ _ => rfl)))
      (pss_cons (ps_lc (i := 8) (N := ["_law_draw", "_law_many", "_law_signs", "_law_size", "_law_spot", "_law_word", "_law_k", "_law_first", "_law_found", "_law_one", "_law_other"]) (sc := defScope sNames) (N' := ["_law_k", "_law_one"]) (sub := [none, some 9])
        rfl rfl (CmpOk.of (by decide +kernel)) rfl (pi_range1 rfl mr (pa_cons (pe_callB (call_min2 rfl) rfl mm boot_min' (pa_cons (pv 1) (pa_cons pe_int pa_nil))) pa_nil))
        (fun C s H fp => ⟨pg_name (i := 0) (by show (["_law_k", "_law_one"] : List Str).Nodup; decide) rfl (Or.inl rfl), pts_nil, pe_op op_mul_str (pv 1) (pe_op op_add pe_int (pv 0))⟩)
        scNames.nd rfl (Or.inl rfl))
      (pss_one (ps_set (i := 8) scNames.nd rfl (Or.inl rfl) (pe_op op_cat (pv 8)
        (pe_lc (N := ["_law_draw", "_law_many", "_law_signs", "_law_size", "_law_spot", "_law_word", "_law_k", "_law_first", "_law_found", "_law_one", "_law_other"]) (sc := defScope sNames) (N' := ["_law_k", "_law_one", "_law_other"]) (sub := [none, some 9, some 10])
          rfl rfl (CmpOk.of (by decide +kernel)) rfl (pi_range2 rfl mr (pa_cons pe_int (pa_cons (pv 1) pa_nil)))
          (fun C s H fp => ⟨pg_name (i := 0) (by show (["_law_k", "_law_one", "_law_other"] : List Str).Nodup; decide) rfl (Or.inl rfl), pts_nil, pe_op op_add_str (pe_op op_mul_str (pv 1) (pe_op op_sub (pv 0) pe_int)) (pv 2)⟩)))))))) pss_nil)
    (pss_one (ps_ret (pe_callB call_sortedS rfl ms boot_sorted' (pa_cons (pv 8) pa_nil))))))))))), ?_⟩
  refine ⟨_, rfl, d, n, 6, rfl, hd, by decide, by decide, fun q1 z1 z1a z1b => ?_⟩
  refine ⟨_, _, rfl, rfl, ?_⟩
  refine ⟨_, rfl, _, rfl, d, q1, 1 + z1, rfl, upd_same, by omega, by omega, fun q2 spot spa spb => ?_⟩
  rw [upd_upd]
  refine ⟨_, rfl, 1 + z1, rfl, by omega, by omega, for_range (lo := 0) (n := (1 + z1).toNat) (fun i σ H' => ∃ (q : Int) (word : Str) (x : Option V), σ = [some (.ref d), some (.int m), some (.str sg), some (.int (1 + z1)), some (.int spot), some (.str word), x, none, none, none, none] ∧ H' = upd H d (.lst [.int q]) ∧ word.length ≤ i ∧ Sm word)
    ⟨q2, "", none, rfl, rfl, Nat.le_refl _, Sm.nil⟩ ?_ ?_⟩
  · rintro i σ H' hi ⟨q3, word, x, rfl, rfl, hw, sm⟩
    refine ⟨_, rfl, _, rfl, _, rfl, d, q3, 36, rfl, upd_same, by decide, by decide, fun q4 z4 z4a z4b => ?_⟩
    rw [upd_upd]
    refine ⟨sg, z4, sgC z4.toNat, rfl, rfl, by decide +kernel, sg_at z4a z4b, word, ⟨#[sgC z4.toNat]⟩, rfl, rfl, ?_, ?_⟩
    · show word.length + 1 ≤ sizeLine
      exact Nat.le_of_lt (small1000 (by omega))
    · refine ⟨q4, _, _, rfl, rfl, ?_, sm.app (Sm.one (sgC_small (by omega)))⟩
      rw [Str.length_append]
      show word.length + 1 ≤ i + 1
      omega
  · rintro σ H' ⟨q3, word, x, rfl, rfl, hw, sm⟩
    have hw' : word.length ≤ 100 := by omega
    refine ⟨_, rfl, d, q3, 36, rfl, upd_same, by decide, by decide, fun q4 first fa fb => ?_⟩
    rw [upd_upd]
    refine ⟨_, rfl, m, rfl, by omega, by omega, ?_⟩
    refine turns_mapR (fun k => .str (nmA (Txt.slice word none (some spot)) (Txt.slice word (some (spot + 1)) none) first.toNat k)) (by omega) ?_ ?_
    · intro k hk C hC
      have wl : word.length ≤ sizeLine := Nat.le_of_lt (small1000 (by omega))
      have l1 := Txt.slice_le word none (some spot)
      have l2 := Txt.slice_le word (some (spot + 1)) none
      have ei : (first + 7 * (0 + (k : Int))) % 36 = (((first.toNat + 7 * k) % 36 : Nat) : Int) := by rw [Int.natCast_emod, Int.natCast_add, Int.natCast_mul, Int.toNat_of_nonneg fa, Int.zero_add]; rfl
      refine ⟨Sle.set _ (Sle.refl _) (fun u z => by cases z), _, rfl, _, rfl, _, rfl, word, rfl, wl, _, rfl, _, rfl, _, rfl, _, _, rfl, rfl, .inl ⟨by decide, by decide⟩, _, _, rfl, rfl, _, _, rfl, rfl, (by show (0 : Int) < _; decide), sg, _, sgC ((first.toNat + 7 * k) % 36), rfl, rfl, by decide +kernel, ?_, _, _, rfl, rfl, ?_, ?_⟩
      · rw [ei]
        exact sg_at (by omega) (by omega)
      · show _ + 1 ≤ sizeLine
        exact Nat.le_of_lt (small1000 (by omega))
      refine ⟨_, rfl, _, rfl, _, _, rfl, rfl, _, rfl, word, rfl, wl, _, _, rfl, rfl, ?_, hC⟩
      rw [Str.length_append]
      show _ + 1 + _ ≤ sizeLine
      exact Nat.le_of_lt (small1000 (by omega))
    · intro r1 hr1
      have fn36 : first.toNat < 36 := by omega
      have fin : ∀ (p : Addr) (nm : Nat → Str) (H2 : Hp) (q0 : Int), Ext (upd H d (.lst [.int q0])) H2 → LsS H2 p ((List.range m.toNat).map nm) → (∀ i j, i < m.toNat → j < m.toNat → nm i = nm j → i = j) → (∀ i, i < m.toNat → Sm (nm i)) →
          ∃ p' ss, [V.ref p] = [V.ref p'] ∧ SqL K H2 p' (ss.map V.str) ∧ ss.length < 64 ∧ ∀ r ss', H2 r = none → ss'.Perm ss → PyProof.Rows.sortedS ss' = true → Q (.ref r) (upd H2 r (.lst (ss'.map V.str))) := by
        intro p nm H2 q0 e2 hp inj sm2
        refine ⟨p, (List.range m.toNat).map nm, rfl, SqL.of hp, ?_, fun r ss hr2 perm srt => ?_⟩
        · rw [List.length_map, List.length_range]; omega
        have hrH : H r = none := by
          have z := e2.none hr2
          by_cases e : r = d
          · rw [e, upd_same] at z; cases z
          · rw [upd_ne e] at z; exact z
        refine q r ss q0 _ (e2.trans (Ext.new hr2 _)) hrH upd_same ?_ (perm.nodup_iff.mpr (nodup_map inj)) srt ?_
        · rw [perm.length_eq, List.length_map, List.length_range]
        · intro x hx
          obtain ⟨i, hi, rfl⟩ := List.mem_map.mp (perm.mem_iff.mp hx)
          exact (sm2 i (List.mem_range.mp hi)).ok
      have dr1 : d ≠ r1 := fun e => by rw [← e, upd_same] at hr1; cases hr1
      have g1 : ∀ q0, Ext (upd H d (.lst [.int q0])) (upd (upd (upd H d (.lst [.int q4])) r1 (.lst ((List.range m.toNat).map fun k => V.str (nmA (Txt.slice word none (some spot)) (Txt.slice word (some (spot + 1)) none) first.toNat k)))) d (.lst [.int q0])) := fun q0 b o hb => by
        by_cases e : b = d
        · subst e; rw [upd_same] at hb ⊢; exact hb
        · rw [upd_ne e] at hb ⊢
          have nb : b ≠ r1 := fun z => by
            rw [z] at hb
            rw [upd_ne (Ne.symm dr1)] at hr1
            rw [hr1] at hb; cases hb
          rw [upd_ne nb, upd_ne e]; exact hb
      refine ⟨_, rfl, d, q4, 3, rfl, by rw [upd_ne dr1]; exact upd_same, by decide, by decide, fun q5 z5 z5a z5b => ⟨rfl, _, rfl, ?_⟩⟩
      refine ite2 (fun _ => ?_) (fun _ => ?_)
      · refine ⟨_, rfl, _, rfl, sg, first, sgC first.toNat, rfl, rfl, by decide +kernel, sg_at fa fb, ?_⟩
        have eo : (first + 1) % 36 = (((first.toNat + 1) % 36 : Nat) : Int) := by rw [Int.natCast_emod, Int.natCast_add, Int.toNat_of_nonneg fa]; rfl
        refine ⟨_, rfl, _, rfl, _, _, rfl, rfl, _, _, rfl, rfl, (by show (0 : Int) < _; decide), sg, _, sgC ((first.toNat + 1) % 36), rfl, rfl, by decide +kernel, (by rw [eo]; exact sg_at (by omega) (by omega)), ?_⟩
        have c1 : sgC first.toNat < 128 := sgC_small fn36
        have c2 : sgC ((first.toNat + 1) % 36) < 128 := sgC_small (Nat.mod_lt _ (by decide))
        have mn0 : 0 ≤ (if (6 : Int) < m then 6 else m) := by split <;> omega
        have mn6 : (if (6 : Int) < m then 6 else m) ≤ 6 := by split <;> omega
        refine ⟨_, rfl, m, 6, rfl, _, rfl, by omega, by omega, ?_⟩
        refine turns_mapR (fun k => .str (nmB first.toNat k)) (by omega) ?_ ?_
        · intro k hk C hC
          have ek : nmB first.toNat k = Txt.mul ⟨#[sgC first.toNat]⟩ (1 + (0 + (k : Int))) := by
            unfold nmB
            rw [if_pos (by omega), Int.zero_add]
          rw [ek] at hC
          exact ⟨Sle.set _ (Sle.refl _) (fun u z => by cases z), _, rfl, _, rfl, _, _, rfl, rfl, _, _, rfl, rfl, (by show 1 ≤ 100; decide), by omega, by omega, hC⟩
        · intro r2 hr2
          refine ⟨_, rfl, _, rfl, 6, m, rfl, ⟨by omega, by omega, by omega, by omega⟩, ?_⟩
          refine turns_mapR (fun k => .str (nmB first.toNat (6 + k))) (by omega) ?_ ?_
          · intro k hk C hC
            have ek : nmB first.toNat (6 + k) = Txt.mul ⟨#[sgC first.toNat]⟩ (6 + (k : Int) - 6) ++ ⟨#[sgC ((first.toNat + 1) % 36)]⟩ := by
              unfold nmB
              rw [if_neg (by omega), show (((6 + k : Nat) : Int)) = 6 + (k : Int) by omega]
            rw [ek] at hC
            refine ⟨Sle.set _ (Sle.refl _) (fun u z => by cases z), _, rfl, _, rfl, _, _, rfl, rfl, _, _, rfl, rfl, (by show 1 ≤ 100; decide), by omega, by omega, _, rfl, _, _, rfl, rfl, ?_, hC⟩
            rw [mul_len (by omega)]
            show _ + 1 ≤ sizeLine
            exact Nat.le_of_lt (small1000 (by omega))
          · intro r3 hr3
            have n23 : r2 ≠ r3 := fun e => by rw [← e, upd_same] at hr3; cases hr3
            refine ⟨r2, r3, _, _, rfl, rfl, (by rw [upd_ne n23]; exact upd_same), upd_same, ?_, fun p hp => ?_⟩
            · rw [List.length_map, List.length_map, List.length_range, List.length_range]
              exact Nat.le_of_lt (small1000 (by omega))
            refine ⟨_, rfl, fin p (nmB first.toNat) _ q5 ?_ ?_ (fun i j _ _ e => nmB_inj fn36 e) ?_⟩
            · exact (g1 q5).trans ((Ext.new hr2 _).trans ((Ext.new hr3 _).trans (Ext.new hp _)))
            · unfold LsS
              rw [upd_same]
              have em : (List.range m.toNat).map (fun k => V.str (nmB first.toNat k)) = (List.range (if (6 : Int) < m then 6 else m).toNat).map (fun k => V.str (nmB first.toNat k)) ++ (List.range (m - 6).toNat).map (fun k => V.str (nmB first.toNat (6 + k))) := by
                by_cases h6 : (6 : Int) < m
                · rw [if_pos h6, show m.toNat = 6 + (m - 6).toNat by omega, List.range_add, List.map_append, List.map_map]
                  rfl
                · rw [if_neg h6, show (m - 6).toNat = 0 by omega]
                  simp
              rw [List.map_map, ← em]
              rfl
            · intro i hi
              unfold nmB
              split
              · exact Sm.mul c1 (by omega)
              · exact (Sm.mul c1 (by omega)).app (Sm.one c2)
      · refine ⟨_, rfl, fin r1 (nmA (Txt.slice word none (some spot)) (Txt.slice word (some (spot + 1)) none) first.toNat) _ q5 (g1 q5) ?_ (fun i j hi hj e => nmA_inj (by omega) (by omega) e) ?_⟩
        · unfold LsS
          rw [upd_ne (Ne.symm dr1), upd_same, List.map_map]
          rfl
        · intro i _
          exact ((sm.slice _ _).app (Sm.one (sgC_small (Nat.mod_lt _ (by decide))))).app (sm.slice _ _)
end
end My
namespace My
open PySem L2
end My
namespace My
open PySem L2
theorem boot_int5 : bootBuiltins "int" = some (.type "int") := by decide +kernel
def ldI (n : Int) : Int := Builtin.bitAnd n (-n)
theorem ldI_nat {s : Nat} (nz : s ≠ 0) : ldI (s : Int) = ((2 ^ lo s : Nat) : Int) := low_bit nz
def spLd : Sp := fun vs H Q _ => ∃ n : Int, vs = [.int n] ∧ Q (.int (ldI n)) H
def spLSt : Sp := fun vs H Q _ => ∃ (p : Addr) (ms : List Nat) (m : Nat), vs = [.ref p] ∧ LsN H p ms ∧ ms.length ≤ 40 ∧ m ≤ 16 ∧ (∀ x ∈ ms, x < 2 ^ m) ∧ ∀ (r : Addr) (S : List Nat) (H' : Hp), Ext H H' → H r = none → LsN H' r S → S.Perm (redL ms) → S.Pairwise (fun a b => lo a ≤ lo b) → Q (.ref r) H'
section
variable {P : Program} {w : World} {K : PySem.W.Frag} {mg : Str → Option Value} {base : Heap} {f f1 f2 : Addr} {fd fd1 fd2 : FuncData}
theorem scLd : FnScope ["_law_mask_here"] ["_law_mask_here"] (defScope sLLd) := ⟨rfl, rfl, rfl, by decide +kernel, rfl, by decide +kernel, by decide +kernel⟩
theorem ok_ld (F : Fun K "_law_lead" "_law_lead" sLLd f fd) : FnOk P w K mg base CX0 1 f fd ["_law_mask_here"] spLd := by
  refine F.ok scLd (fun vs H Q E h => ?_) (fun cdv A outer s H vs Q E hr h => ?_)
  · obtain ⟨n, rfl, _⟩ := h
    rfl
  obtain ⟨n, rfl, q⟩ := h
  exact ⟨_, pss_one (ps_ret (pe_op op_and (pv 0) (pe_un un_neg (pv 0)))), _, rfl, _, rfl, _, rfl, _, _, rfl, rfl, q⟩
abbrev stN : List Str := ["_law_masks", "_law_found", "_law_mask_here", "_law_step", "_law_lead_here"]
abbrev stC : List Str := ["_law_step", "_law_mask_here", "_law_lead_here"]
theorem scLSt : FnScope stN ["_law_masks"] (defScope sLSt) := ⟨rfl, rfl, rfl, by decide +kernel, rfl, by decide +kernel, by decide +kernel⟩
set_option maxHeartbeats 8000000 in
theorem ok_lst (F : Fun K "_law_steps" "_law_steps" sLSt f fd) (G : FnOk P w K mg base CX0 1 f1 fd1 ["_law_mask_here"] spLd) (bG : Binds K fd1 ["_law_mask_here"] []) (kG : PySem.W.keepIn K (.ref f1) = true) (mG : mg "_law_lead" = some (.ref f1)) (mi : mg "int" = none) (mso : mg "sorted" = none) :
    FnOk P w K mg base CX0 4 f fd ["_law_masks"] spLSt := by
  refine F.ok scLSt (fun vs H Q E h => ?_) (fun cdv A outer s H vs Q E hr h => ?_)
  · obtain ⟨p, ms, m, rfl, _⟩ := h
    rfl
  obtain ⟨p, ms, m, rfl, hp, lm, m16, lt, q⟩ := h
  have hr1 := hr.mono (j := 1) (by decide)
  refine ⟨_, pss_cons (ps_set (i := 1) scLSt.nd rfl (Or.inl rfl) (pe_lst pa_nil))
    (pss_cons (ps_for PassesOwn.never rfl (pi_list (pv 0)) (pg_name (i := 2) scLSt.nd rfl (Or.inr rfl))
      (pss_cons (ps_for PassesOwn.never rfl (pi_list (pv 1)) (pg_name (i := 3) scLSt.nd rfl (Or.inl rfl))
        (pss_one (ps_if (pt_cmpR op_ne (pe_op op_and (pv 2) (pe_call G hr1 rfl mG kG bG .nil pass0 (pa_cons (pv 3) pa_nil))) pe_int (nomark _)) (pss_one (ps_set (i := 2) scLSt.nd rfl (Or.inr rfl) (pe_op op_xor (pv 2) (pv 3)))) pss_nil)))
      (pss_one (ps_if (pt_cmpR op_ne (pv 2) pe_int (nomark _))
        (pss_cons (ps_set (i := 4) scLSt.nd rfl (Or.inr rfl) (pe_call G hr1 rfl mG kG bG .nil pass0 (pa_cons (pv 2) pa_nil)))
        (pss_one (ps_set (i := 1) scLSt.nd rfl (Or.inl rfl) (pe_op op_cat (pe_lc (N := stN) (sc := defScope sLSt) (N' := stC) (sub := [none, some 2, some 4]) rfl rfl (CmpOk.of (by decide +kernel)) rfl (pi_list (pv 1))
          (fun C s H fp => ⟨pg_name (i := 0) (by show stC.Nodup; decide) rfl (Or.inl rfl), pts_nil, pe_op op_xor (pv 0) (pe_op op_mul (pv 1) (pe_callTy call_int1 rfl mi boot_int5 (pa_cons (pe_cmpR op_ne (pe_op op_and (pv 0) (pv 2)) pe_int (nomark _)) pa_nil)))⟩)) (pe_lst (pa_cons (pv 2) pa_nil))))))
        pss_nil))))
    (pss_one (ps_ret (pe_sortKey (E := E0) (g := ldI) G hr bG rfl mso rfl mG (pa_cons (pv 1) pa_nil))))), ?_⟩
  refine ⟨Nat.zero_le _, fun ro ro0 => ?_⟩
  have X0 := Ext.new ro0 (.lst [])
  refine ⟨_, rfl, p, rfl, ⟨_, SqL.of (X0 _ _ hp)⟩, ?_⟩
  refine for_list (xs := ms.map iV) (fun i σ H' => ∃ (ro : Addr) (x2 x3 x4 : Option V), σ = [some (.ref p), some (.ref ro), x2, x3, x4] ∧ Ext H H' ∧ H ro = none ∧ LsN H' ro (redL (ms.take i))) ⟨ro, none, none, none, rfl, X0, ro0, upd_same⟩ (fun i σ H' _ h => by obtain ⟨_, _, _, _, _, e, _⟩ := h; exact SqL.of (e _ _ hp)) ?_ ?_
  · rintro i v σ H' hx ⟨ro, x2, x3, x4, rfl, e, ro0, hk⟩
    obtain ⟨n, rfl, hn⟩ := iv_get hx
    have hi : i < ms.length := at_lt hn
    have nl := lt n (List.mem_of_getElem? hn)
    obtain ⟨gm, _⟩ := redL_rv (m := m) (ms.take i) fun x hx => lt x (List.mem_of_mem_take hx)
    have lr := redL_le (ms.take i)
    rw [List.length_take] at lr
    have sn : redL (ms.take (i + 1)) = redLS (redL (ms.take i)) n := by rw [take_snoc hn, redL_snoc]
    refine ⟨_, rfl, ro, rfl, ⟨_, SqL.of hk⟩, ?_⟩
    refine for_list (xs := (redL (ms.take i)).map iV) (fun j σ H2 => H2 = H' ∧ ∃ x3 : Option V, σ = [some (.ref p), some (.ref ro), some (iV (redL1 ((redL (ms.take i)).take j) n)), x3, x4]) ⟨rfl, x3, rfl⟩ (fun j σ H2 _ h => by rw [h.1]; exact SqL.of hk) ?_ ?_
    · rintro j v σ H2 hx2 ⟨rfl, x3, rfl⟩
      obtain ⟨s, rfl, hs⟩ := iv_get hx2
      have snz := (gm s (List.mem_of_getElem? hs)).2
      have st : redL1 ((redL (ms.take i)).take (j + 1)) n = rdL (redL1 ((redL (ms.take i)).take j) n) s := by rw [take_snoc hs, redL1_snoc]
      refine ⟨_, rfl, _, rfl, _, rfl, _, _, rfl, rfl, rfl, _, rfl, ?_⟩
      have ap := and_pow (redL1 ((redL (ms.take i)).take j) n) (lo s)
      have key : ((!decide (V.int (Builtin.bitAnd ((redL1 ((redL (ms.take i)).take j) n : Nat) : Int) (ldI (s : Int))) = V.int 0)) = true) ↔ (redL1 ((redL (ms.take i)).take j) n).testBit (lo s) = true := by
        rw [ldI_nat snz, band_nat, ← ap]; simp
      refine ite2 (fun c => ?_) (fun c => ?_)
      · refine ⟨_, rfl, _, rfl, _, _, rfl, rfl, rfl, some (iV s), ?_⟩
        rw [st, show rdL (redL1 ((redL (ms.take i)).take j) n) s = redL1 ((redL (ms.take i)).take j) n ^^^ s from if_pos (key.mp c), show iV (redL1 ((redL (ms.take i)).take j) n ^^^ s) = V.int (Builtin.bitXor ((redL1 ((redL (ms.take i)).take j) n : Nat) : Int) (s : Int)) by rw [bxor_nat]]
        rfl
      · refine ⟨rfl, some (iV s), ?_⟩
        rw [st, show rdL (redL1 ((redL (ms.take i)).take j) n) s = redL1 ((redL (ms.take i)).take j) n from if_neg fun z => c (key.mpr z)]
        rfl
    · rintro σ H2 ⟨rfl, x3, rfl⟩
      rw [List.length_map, List.take_of_length_le (Nat.le_refl _)]
      refine ⟨_, rfl, rfl, _, rfl, ?_⟩
      refine ite2 (fun c => ?_) (fun c => ?_)
      · have nz : redL1 (redL (ms.take i)) n ≠ 0 := fun z => by rw [z] at c; simp at c
        have lb := ldI_nat nz
        have nlt := (redL1_rv gm nl).1
        have pw : 2 ^ m ≤ 2 ^ 16 := Nat.pow_le_pow_right (by decide) m16
        refine ⟨_, rfl, _, rfl, ?_⟩
        refine ⟨_, rfl, ro, rfl, ⟨_, SqL.of hk⟩, ?_⟩
        refine turns_list (xs := (redL (ms.take i)).map iV) (fun j ys H3 => H3 = H2 ∧ ys = (((redL (ms.take i)).take j).map fun s => rdL s (redL1 (redL (ms.take i)) n)).map iV) ⟨rfl, rfl⟩ (fun j ys H3 _ h => by rw [h.1]; exact SqL.of hk) ?_ ?_
        · rintro j v ys H3 hx3 ⟨rfl, rfl⟩
          obtain ⟨s, rfl, hs⟩ := iv_get hx3
          have hj := at_lt hs
          have sz : ((((redL (ms.take i)).take j).map fun s => rdL s (redL1 (redL (ms.take i)) n)).map iV).length < sizeLine := by
            rw [List.length_map, List.length_map, List.length_take]; exact small1000 (by omega)
          have ap := and_pow s (lo (redL1 (redL (ms.take i)) n))
          have key : ((!decide (V.int (Builtin.bitAnd (s : Int) (ldI ((redL1 (redL (ms.take i)) n : Nat) : Int))) = V.int 0)) = true) ↔ s.testBit (lo (redL1 (redL (ms.take i)) n)) = true := by
            rw [lb, band_nat, ← ap]; simp
          refine ⟨Sle.set _ (Sle.refl _) (fun u z => by cases z), iteT (B := False) ?_⟩
          refine ⟨_, rfl, _, rfl, _, rfl, _, rfl, _, _, rfl, rfl, rfl, .inr ⟨_, rfl, _, _, rfl, rfl, .inl ⟨by omega, by omega⟩, _, _, rfl, rfl, sz, nxt (at_lt hx3) ⟨rfl, ?_⟩⟩⟩
          rw [take_snoc hs, List.map_append, List.map_append, List.map_singleton, List.map_singleton]
          congr 2
          show V.int (Builtin.bitXor _ _) = V.int _
          by_cases c3 : s.testBit (lo (redL1 (redL (ms.take i)) n)) = true
          · rw [if_pos (key.mpr c3), Int.mul_one, bxor_nat, show rdL s (redL1 (redL (ms.take i)) n) = s ^^^ redL1 (redL (ms.take i)) n from if_pos c3]
          · rw [if_neg (fun z => c3 (key.mp z)), Int.mul_zero, show rdL s (redL1 (redL (ms.take i)) n) = s from if_neg c3, show (0 : Int) = ((0 : Nat) : Int) from rfl, bxor_nat, Nat.xor_zero]
        · rintro ys H3 ⟨rfl, rfl⟩ l1 hl1
          rw [List.length_map, List.take_of_length_le (Nat.le_refl _)]
          have n1 := Ext.new hl1 (.lst (((redL (ms.take i)).map fun s => rdL s (redL1 (redL (ms.take i)) n)).map iV))
          refine ⟨_, rfl, (by show 1 ≤ sizeLine; decide), fun l2 hl2 => ?_⟩
          have n2 := Ext.new hl2 (.lst [iV (redL1 (redL (ms.take i)) n)])
          refine ⟨l1, l2, _, _, rfl, rfl, n2 _ _ upd_same, upd_same, ?_, fun l3 hl3 => ?_⟩
          · rw [List.length_map, List.length_map]
            show _ + 1 ≤ sizeLine
            exact Nat.le_of_lt (small1000 (by omega))
          · refine ⟨l3, _, _, _, rfl, ((e.trans n1).trans n2).trans (Ext.new hl3 _), ((e.trans n1).trans n2).none hl3, ?_⟩
            rw [sn]
            unfold redLS LsN
            rw [if_neg nz, upd_same, List.map_append]
            rfl
      · have z : redL1 (redL (ms.take i)) n = 0 := by
          have : (redL1 (redL (ms.take i)) n : Int) = 0 := by simpa using c
          omega
        refine ⟨ro, _, _, _, rfl, e, ro0, ?_⟩
        rw [sn]
        unfold redLS
        rw [if_pos z]
        exact hk
  · rintro σ H' ⟨ro, x2, x3, x4, rfl, e, ro0, hk⟩
    rw [List.length_map, List.take_of_length_le (Nat.le_refl _)] at hk
    have lr := redL_le ms
    obtain ⟨gm, _⟩ := redL_rv (m := m) ms lt
    refine ⟨_, rfl, ro, (redL ms).map (fun n : Nat => (n : Int)), rfl, by rw [← iv_ints]; exact SqL.of hk, by rw [List.length_map]; omega, fun n hn H2 Q2 q2 => ⟨n, rfl, q2⟩, fun r ns hr' pm od => ?_⟩
    obtain ⟨M, rfl⟩ : ∃ M : List Nat, ns = M.map (fun n : Nat => (n : Int)) := by
      refine ⟨ns.map Int.toNat, ?_⟩
      rw [List.map_map]
      refine (List.map_id _).symm.trans (List.map_congr_left fun a ha => ?_)
      obtain ⟨n, _, rfl⟩ := List.mem_map.mp (pm.mem_iff.mp ha)
      simp
    have pm' : M.Perm (redL ms) := by
      have := pm.map Int.toNat
      rw [List.map_map, List.map_map] at this
      have idn : (Int.toNat ∘ fun n : Nat => (n : Int)) = id := by funext n; simp
      rw [idn, List.map_id, List.map_id] at this
      exact this
    refine q r M _ (e.trans (Ext.new hr' _)) (e.none hr') (by unfold LsN; rw [upd_same, iv_ints]) pm' ?_
    rw [List.pairwise_map] at od
    refine List.Pairwise.imp_of_mem (fun {a b} ha hb h => ?_) od
    rw [ldI_nat (gm a (pm'.mem_iff.mp ha)).2, ldI_nat (gm b (pm'.mem_iff.mp hb)).2] at h
    exact (Nat.pow_le_pow_iff_right (a := 2) (by decide)).mp (by exact_mod_cast h)
end
end My
namespace My
open PySem L2
def Stp (m : Nat) (S : List Nat) : Prop := ∃ xs : List Nat, (∀ x ∈ xs, x < 2 ^ m) ∧ S.Perm (redL xs) ∧ S.Pairwise (fun a b => lo a ≤ lo b)
section
variable {m : Nat} {S : List Nat}
theorem Stp.gm (h : Stp m S) : Gm m S := by
  obtain ⟨xs, lt, p, _⟩ := h
  obtain ⟨g, _⟩ := redL_rv (m := m) xs lt
  exact fun s hs => g s (p.mem_iff.mp hs)
theorem Stp.rr (h : Stp m S) : RR (S.map (rv m)) := by
  obtain ⟨xs, lt, p, _⟩ := h
  obtain ⟨_, e⟩ := redL_rv (m := m) xs lt
  have := p.map (rv m)
  rw [e] at this
  exact (red_rr _).perm this
theorem lo_nd (g : Gm m S) (h : RR (S.map (rv m))) : (S.map lo).Nodup := by
  have nd := ld_nd h
  rw [List.map_map] at nd
  refine (List.pairwise_map.mpr ?_)
  refine List.Pairwise.imp_of_mem (fun {a b} ha hb hne e => hne ?_) (List.pairwise_map.mp nd)
  show (rv m a).log2 = (rv m b).log2
  rw [rv_log2 (g a ha).1 (g a ha).2, rv_log2 (g b hb).1 (g b hb).2, e]
theorem Stp.nd (h : Stp m S) : (S.map lo).Nodup := lo_nd h.gm h.rr
theorem Stp.lt (h : Stp m S) : ∀ s ∈ S, s < 2 ^ m := fun s hs => (h.gm s hs).1
end
theorem pows_lt {L : List Nat} {m : Nat} (nd : L.Nodup) (h : ∀ l ∈ L, l < m) : (L.map fun l => 2 ^ l).sum < 2 ^ m := Nat.lt_pow_two_of_testBit _ fun i hi => by
  rw [sum_pow L nd, decide_eq_false fun z => by have := h i z; omega]
noncomputable def crLM (S : List Nat) (p : Nat) : Nat := 2 ^ p + ((S.filter fun s : Nat => s.testBit p).map fun s : Nat => 2 ^ lo s).sum
noncomputable def crLA (S : List Nat) (m : Nat) : List Nat := ((List.range m).filter fun p => !decide (p ∈ S.map lo)).map (crLM S)
theorem crLM_sum (S : List Nat) (p : Nat) : crLM S p = ((p :: (S.filter fun s : Nat => s.testBit p).map lo).map fun l => 2 ^ l).sum := by
  unfold crLM
  rw [List.map_cons, List.sum_cons, List.map_map]; rfl
theorem crL_nd {S : List Nat} {p : Nat} (nd : (S.map lo).Nodup) (np : p ∉ S.map lo) : (p :: (S.filter fun s : Nat => s.testBit p).map lo).Nodup := by
  have sub : ((S.filter fun s : Nat => s.testBit p).map lo).Sublist (S.map lo) := (List.filter_sublist).map lo
  exact List.nodup_cons.mpr ⟨fun z => np (sub.subset z), nd.sublist sub⟩
theorem crLM_lt {S : List Nat} {m p : Nat} (g : Gm m S) (nd : (S.map lo).Nodup) (np : p ∉ S.map lo) (hp : p < m) : crLM S p < 2 ^ m := by
  rw [crLM_sum]
  refine pows_lt (crL_nd nd np) fun l hl => ?_
  rcases List.mem_cons.mp hl with rfl | hl
  · exact hp
  · obtain ⟨s, hs, rfl⟩ := List.mem_map.mp hl
    have := g s (List.mem_filter.mp hs).1
    exact lo_lt this.1 this.2
theorem crLA_lt {S : List Nat} {m : Nat} (g : Gm m S) (nd : (S.map lo).Nodup) : ∀ x ∈ crLA S m, x < 2 ^ m := fun x hx => by
  obtain ⟨p, hp, rfl⟩ := List.mem_map.mp hx
  obtain ⟨h1, h2⟩ := List.mem_filter.mp hp
  exact crLM_lt g nd (by simpa using h2) (List.mem_range.mp h1)
theorem crLA_len (S : List Nat) (m : Nat) : (crLA S m).length ≤ m := by
  unfold crLA
  rw [List.length_map]
  have := List.length_filter_le (fun p => !decide (p ∈ S.map lo)) (List.range m)
  rw [List.length_range] at this
  exact this
def spLCr : Sp := fun vs H Q _ => ∃ (p : Addr) (S : List Nat) (m : Nat), vs = [.ref p, iV m] ∧ LsN H p S ∧ S.length ≤ 24 ∧ m ≤ 12 ∧ Gm m S ∧ (S.map lo).Nodup ∧ ∀ (r : Addr) (R : List Nat) (H' : Hp), Ext H H' → H r = none → LsN H' r R → R.Perm (redL (crLA S m)) → R.Pairwise (fun a b => lo a ≤ lo b) → Q (.ref r) H'
def spBou : Sp := fun vs H Q _ => ∃ (p : Addr) (ms : List Nat) (m : Nat), vs = [.ref p, iV m] ∧ LsN H p ms ∧ ms.length ≤ 30 ∧ m ≤ 12 ∧ (∀ x ∈ ms, x < 2 ^ m) ∧ ∀ (r : Addr) (R : List Nat) (H' : Hp), Ext H H' → H r = none → LsN H' r R → R.length ≤ 8 → (∀ x ∈ R, x < 2 ^ m) → Q (.ref r) H'
theorem inV_iv (x : Nat) : ∀ l : List Nat, inV (iV x) (l.map iV) = decide (x ∈ l)
  | [] => rfl
  | y :: l => by
    have ih := inV_iv x l
    unfold inV at ih ⊢
    rw [List.map_cons, List.any_cons, ih]
    by_cases e : x = y
    · subst e
      simp [eqV]
    · have : ¬ ((y : Int) = (x : Int)) := fun z => e (by omega)
      simp [eqV, e, this]
theorem flat_iv : ∀ l : List Nat, (l.map iV).all flatV = true
  | [] => rfl
  | _ :: l => by rw [List.map_cons, List.all_cons, flat_iv l]; rfl
section
variable {P : Program} {w : World} {K : PySem.W.Frag} {mg : Str → Option Value} {base : Heap} {f f1 f2 : Addr} {fd fd1 fd2 : FuncData}
abbrev crsN : List Str := ["_law_base", "_law_many", "_law_tops", "_law_found", "_law_k", "_law_mask_here", "_law_step"]
theorem scLCr : FnScope crsN ["_law_base", "_law_many"] (defScope sLCr) := ⟨rfl, rfl, rfl, by decide +kernel, rfl, by decide +kernel, by decide +kernel⟩
set_option maxHeartbeats 8000000 in
theorem ok_lcr (F : Fun K "_law_crossed" "_law_crossed" sLCr f fd) (G : FnOk P w K mg base CX0 1 f1 fd1 ["_law_mask_here"] spLd) (bG : Binds K fd1 ["_law_mask_here"] []) (kG : PySem.W.keepIn K (.ref f1) = true) (mG : mg "_law_lead" = some (.ref f1))
    (G2 : FnOk P w K mg base CX0 4 f2 fd2 ["_law_masks"] spLSt) (bG2 : Binds K fd2 ["_law_masks"] []) (kG2 : PySem.W.keepIn K (.ref f2) = true) (mG2 : mg "_law_steps" = some (.ref f2)) (mr : mg "range" = none) :
    FnOk P w K mg base CX0 5 f fd ["_law_base", "_law_many"] spLCr := by
  refine F.ok scLCr (fun vs H Q E h => ?_) (fun cdv A outer s H vs Q E hr h => ?_)
  · obtain ⟨p, S, m, rfl, _⟩ := h
    rfl
  obtain ⟨p, S, m, rfl, hp, lS, m12, gm, nd, q⟩ := h
  have hr1 := hr.mono (j := 1) (by decide)
  refine ⟨_, pss_cons (ps_lc (i := 2) (N := crsN) (sc := defScope sLCr) (N' := ["_law_step"]) (sub := [none]) rfl rfl (CmpOk.of (by decide +kernel)) rfl (pi_list (pv 0))
      (fun C s H fp => ⟨pg_name (i := 0) (by show (["_law_step"] : List Str).Nodup; decide) rfl (Or.inl rfl), pts_nil, pe_call G hr1 rfl mG kG bG .nil pass0 (pa_cons (pv 0) pa_nil)⟩) scLCr.nd rfl (Or.inl rfl))
    (pss_cons (ps_set (i := 3) scLCr.nd rfl (Or.inl rfl) (pe_lst pa_nil))
    (pss_cons (ps_for PassesOwn.never rfl (pi_range1 rfl mr (pa_cons (pv 1) pa_nil)) (pg_name (i := 4) scLCr.nd rfl (Or.inl rfl))
      (pss_one (ps_if (pt_cmpR op_notIn_seq (pe_op op_shl pe_int (pv 4)) (pv 2) (by with_unfolding_all rfl))
        (pss_cons (ps_set (i := 5) scLCr.nd rfl (Or.inl rfl) (pe_op op_shl pe_int (pv 4)))
        (pss_cons (ps_for PassesOwn.never rfl (pi_list (pv 0)) (pg_name (i := 6) scLCr.nd rfl (Or.inl rfl))
          (pss_one (ps_if (pt_cmpR op_eq (pe_op op_and (pe_op op_shr (pv 6) (pv 4)) pe_int) pe_int (nomark _))
            (pss_one (ps_set (i := 5) scLCr.nd rfl (Or.inl rfl) (pe_op op_add (pv 5) (pe_call G hr1 rfl mG kG bG .nil pass0 (pa_cons (pv 6) pa_nil))))) pss_nil)))
        (pss_one (ps_expr (pe_bm PySem.F.plainAttrs_list PySem.F.slot_list_append PySem.F.type_list_append mt_append (pv 3) (pa_cons (pv 5) pa_nil))))))
        pss_nil)))
    (pss_one (ps_ret (pe_call G2 hr rfl mG2 kG2 bG2 .nil pass0 (pa_cons (pv 3) pa_nil)))))), ?_⟩
  refine ⟨_, rfl, p, rfl, ⟨_, SqL.of hp⟩, ?_⟩
  refine turns_ints (fun _ => true) (fun z => 2 ^ lo z) hp lS (fun z hz C B c b => ⟨Sle.set _ (Sle.refl _) (fun u z => by cases z), ?_⟩) ?_
  · refine iteT (B := B H) ⟨_, rfl, _, rfl, ?_⟩
    have := c rfl
    rw [show iV (2 ^ lo z) = V.int (ldI (z : Int)) by rw [ldI_nat (gm z hz).2]] at this
    exact this
  intro l1 hl1
  have hfl : ((S.filter fun _ => true).map fun z => 2 ^ lo z) = S.map fun z => 2 ^ lo z := by rw [List.filter_eq_self.mpr (fun _ _ => rfl)]
  rw [hfl]
  have n1 := Ext.new hl1 (.lst ((S.map fun z => 2 ^ lo z).map iV))
  refine ⟨Nat.zero_le _, fun fo fo1 => ?_⟩
  have fo0 := n1.none fo1
  have n2 := n1.trans (Ext.new fo1 (.lst []))
  have h1 : LsN (upd H l1 (.lst ((S.map fun z => 2 ^ lo z).map iV))) l1 (S.map fun z => 2 ^ lo z) := upd_same
  have h2 := (Ext.new fo1 (.lst [])) _ _ h1
  have lfo : l1 ≠ fo := ne_of_none h1 fo1
  have hfo2 : LsN (upd (upd H l1 (.lst ((S.map fun z => 2 ^ lo z).map iV))) fo (.lst [])) fo [] := upd_same
  revert n2 h2 hfo2
  generalize upd (upd H l1 (.lst ((S.map fun z => 2 ^ lo z).map iV))) fo (.lst []) = H2
  intro n2 h2 hfo2
  refine ⟨_, rfl, (m : Int), rfl, by omega, by omega, ?_⟩
  refine for_range (lo := 0) (n := ((m : Int)).toNat) (fun i σ H' => ∃ (x4 x5 x6 : Option V), σ = [some (.ref p), some (iV m), some (.ref l1), some (.ref fo), x4, x5, x6] ∧ Ext H H' ∧ LsN H' l1 (S.map fun z => 2 ^ lo z) ∧ LsN H' fo (crLA S i)) ⟨none, none, none, rfl, n2, h2, hfo2⟩ ?_ ?_
  · rintro i σ H' hi ⟨x4, x5, x6, rfl, e, ht, hf⟩
    have hi' : i < m := by omega
    have ci : (0 + (i : Int)) = ((i : Nat) : Int) := by omega
    have sn : crLA S (i + 1) = crLA S i ++ (if i ∈ S.map lo then [] else [crLM S i]) := by
      unfold crLA
      rw [List.range_succ, List.filter_append, List.map_append]
      congr 1
      by_cases c : i ∈ S.map lo
      · rw [List.filter_cons_of_neg (by rw [decide_eq_true c]; decide), if_pos c]; rfl
      · rw [List.filter_cons_of_pos (by rw [decide_eq_false c]; rfl), if_neg c]; rfl
    rw [ci]
    refine ⟨_, rfl, _, _, rfl, rfl, ⟨by omega, by omega, by decide⟩, _, rfl, l1, _, rfl, .inl (SqL.of ht), rfl, flat_iv _, _, rfl, ?_⟩
    have key : inV (V.int (1 * 2 ^ ((i : Nat) : Int).toNat)) ((S.map fun z => 2 ^ lo z).map iV) = decide (i ∈ S.map lo) := by
      rw [shl_nat, inV_iv]
      refine decide_eq_decide.mpr ⟨fun z => ?_, fun z => ?_⟩
      · obtain ⟨s, hs, e⟩ := List.mem_map.mp z
        exact List.mem_map.mpr ⟨s, hs, (Nat.pow_right_inj (a := 2) (by decide)).mp e⟩
      · obtain ⟨s, hs, e⟩ := List.mem_map.mp z
        exact List.mem_map.mpr ⟨s, hs, by rw [e]⟩
    rw [if_pos rfl]
    show if (!inV (V.int (1 * 2 ^ ((i : Nat) : Int).toNat)) ((S.map fun z => 2 ^ lo z).map iV)) = true then _ else _
    rw [key]
    refine ite2 (fun c => ?_) (fun c => ?_)
    · have c' : i ∉ S.map lo := by simpa using c
      refine ⟨_, rfl, _, _, rfl, rfl, ⟨by omega, by omega, by decide⟩, ?_⟩
      refine ⟨_, rfl, p, rfl, ⟨_, SqL.of (e _ _ hp)⟩, ?_⟩
      refine for_list (xs := S.map iV) (fun j σ H3 => H3 = H' ∧ ∃ x6 : Option V, σ = [some (.ref p), some (iV m), some (.ref l1), some (.ref fo), some (iV i), some (iV (crLM (S.take j) i)), x6]) ⟨rfl, x6, ?_⟩ (fun j σ H3 _ h => by rw [h.1]; exact SqL.of (e _ _ hp)) ?_ ?_
      · rw [show crLM (S.take 0) i = 2 ^ i by simp [crLM], show iV (2 ^ i) = V.int (1 * 2 ^ ((i : Nat) : Int).toNat) by rw [shl_nat]]; rfl
      · rintro j v σ H3 hx2 ⟨rfl, x6, rfl⟩
        obtain ⟨s, rfl, hs⟩ := iv_get hx2
        have st : crLM (S.take (j + 1)) i = crLM (S.take j) i + (if s.testBit i = true then 2 ^ lo s else 0) := by
          unfold crLM
          rw [take_snoc hs, List.filter_append, List.map_append, List.sum_append]
          by_cases c : s.testBit i = true
          · simp [c, Nat.add_assoc]
          · simp [c]
        refine ⟨_, rfl, _, rfl, _, _, rfl, rfl, (by show (0 : Int) ≤ _; omega), _, _, rfl, rfl, rfl, _, rfl, ?_⟩
        have key2 : (decide (V.int (Builtin.bitAnd ((s : Int) / 2 ^ ((i : Nat) : Int).toNat) 1) = V.int 1) = true) ↔ s.testBit i = true := by
          rw [decide_eq_true_iff, V.int.injEq, Int.toNat_natCast, shr_one]
          by_cases b : s.testBit i = true
          · simp [b]
          · simp [b]
        refine ite2 (fun c2 => ?_) (fun c2 => ?_)
        · refine ⟨_, rfl, _, rfl, _, rfl, _, _, rfl, rfl, rfl, some (iV s), ?_⟩
          rw [st, if_pos (key2.mp c2), show iV (crLM (S.take j) i + 2 ^ lo s) = V.int (((crLM (S.take j) i : Nat) : Int) + ldI (s : Int)) by rw [ldI_nat (gm s (List.mem_of_getElem? hs)).2, ← Int.natCast_add]]
          rfl
        · refine ⟨rfl, some (iV s), ?_⟩
          rw [st, if_neg fun z => c2 (key2.mpr z), Nat.add_zero]
          rfl
      · rintro σ H3 ⟨rfl, x6, rfl⟩
        rw [List.length_map, List.take_of_length_le (Nat.le_refl _)]
        have := crLA_len S i
        refine ⟨_, rfl, .inl ⟨rfl, _, SqL.of hf⟩, _, rfl, fo, _, _, rfl, rfl, hf, by rw [List.length_map]; exact small1000 (by omega), ?_⟩
        refine ⟨_, _, _, rfl, e.over fo0 _, ?_, ?_⟩
        · unfold LsN; rw [upd_ne lfo]; exact ht
        · unfold LsN; rw [upd_same, sn, if_neg c', List.map_append]; rfl
    · have c' : i ∈ S.map lo := by simpa using c
      refine ⟨_, _, _, rfl, e, ht, ?_⟩
      rw [sn, if_pos c', List.append_nil]; exact hf
  · rintro σ H' ⟨x4, x5, x6, rfl, e, ht, hf⟩
    rw [Int.toNat_natCast] at hf
    have := crLA_len S m
    exact ⟨_, rfl, fo, crLA S m, m, rfl, hf, by omega, by omega, crLA_lt gm nd, fun r R H3 e3 r0 hR pR oR => q r R H3 (e.trans e3) (e.none r0) hR pR oR⟩
abbrev bouN : List Str := ["_law_masks", "_law_many", "_law_base", "_law_k"]
theorem scBou : FnScope bouN ["_law_masks", "_law_many"] (defScope sBou) := ⟨rfl, rfl, rfl, by decide +kernel, rfl, by decide +kernel, by decide +kernel⟩
set_option maxHeartbeats 8000000 in
theorem ok_bou (F : Fun K "_law_bounded" "_law_bounded" sBou f fd)
    (G2 : FnOk P w K mg base CX0 4 f2 fd2 ["_law_masks"] spLSt) (bG2 : Binds K fd2 ["_law_masks"] []) (kG2 : PySem.W.keepIn K (.ref f2) = true) (mG2 : mg "_law_steps" = some (.ref f2)) (mr : mg "range" = none) (ml : mg "len" = none) :
    FnOk P w K mg base CX0 5 f fd ["_law_masks", "_law_many"] spBou := by
  refine F.ok scBou (fun vs H Q E h => ?_) (fun cdv A outer s H vs Q E hr h => ?_)
  · obtain ⟨p, S, m, rfl, _⟩ := h
    rfl
  obtain ⟨p, ms, m, rfl, hp, lS, m12, lt, q⟩ := h
  refine ⟨_, pss_cons (ps_set (i := 2) scBou.nd rfl (Or.inl rfl) (pe_slice sl_list (pe_call G2 hr rfl mG2 kG2 bG2 .nil pass0 (pa_cons (pv 0) pa_nil)) po_none (po_some pe_int)))
    (pss_cons (ps_for PassesOwn.never rfl (pi_range1 rfl mr (pa_cons (pv 1) pa_nil)) (pg_name (i := 3) scBou.nd rfl (Or.inl rfl))
      (pss_one (ps_if (pt_cmpR op_gt (pe_op op_sub (pv 1) (pe_callB call_len_seq rfl ml PySem.boot_len (pa_cons (pv 2) pa_nil))) pe_int (nomark _))
        (pss_one (ps_set (i := 2) scBou.nd rfl (Or.inl rfl) (pe_call G2 hr rfl mG2 kG2 bG2 .nil pass0 (pa_cons (pe_op op_cat (pv 2) (pe_lst (pa_cons (pe_op op_shl pe_int (pv 3)) pa_nil))) pa_nil)))) pss_nil)))
    (pss_one (ps_ret (pv 2)))), ?_⟩
  refine ⟨_, rfl, p, ms, m, rfl, hp, by omega, by omega, lt, fun r S H1 e1 r0 hS pS oS => ?_⟩
  have st : Stp m S := ⟨ms, lt, pS, oS⟩
  refine ⟨_, rfl, r, _, rfl, SqL.of hS, fun l hl => ?_⟩
  rw [show cutV (S.map iV) none (some 8) = (S.take 8).map iV by rw [show (8 : Int) = ((8 : Nat) : Int) from rfl, cut_to, List.map_take]]
  refine ⟨_, rfl, (m : Int), rfl, by omega, by omega, ?_⟩
  refine for_range (lo := 0) (n := ((m : Int)).toNat) (fun i σ H' => ∃ (x3 : Option V) (b : Addr) (B : List Nat), σ = [some (.ref p), some (iV m), some (.ref b), x3] ∧ Ext H H' ∧ H b = none ∧ LsN H' b B ∧ B.length ≤ 8 ∧ ∀ x ∈ B, x < 2 ^ m) ⟨none, l, S.take 8, rfl, e1.trans (Ext.new hl _), e1.none hl, upd_same, by rw [List.length_take]; omega, fun x hx => st.lt x (List.mem_of_mem_take hx)⟩ ?_ ?_
  · rintro i σ H' hi ⟨x3, b, B, rfl, e, b0, hB, lB, ltB⟩
    have hi' : i < m := by omega
    rw [show (0 + (i : Int)) = ((i : Nat) : Int) by omega]
    refine ⟨_, rfl, _, rfl, b, _, rfl, .inl (SqL.of hB), _, _, rfl, rfl, _, _, rfl, rfl, _, rfl, ?_⟩
    rw [List.length_map]
    refine ite2 (fun c => ?_) (fun c => ?_)
    · have c' : (8 : Int) < (m : Int) - (B.length : Nat) := of_decide_eq_true c
      refine ⟨_, rfl, _, rfl, _, _, rfl, rfl, ⟨by omega, by omega, by decide⟩, (by show 1 ≤ sizeLine; decide), fun l2 hl2 => ?_⟩
      have n2 := Ext.new hl2 (.lst [V.int (1 * 2 ^ ((i : Nat) : Int).toNat)])
      refine ⟨b, l2, _, _, rfl, rfl, n2 _ _ hB, upd_same, ?_, fun l3 hl3 => ?_⟩
      · rw [List.length_map]
        show _ + 1 ≤ sizeLine
        exact Nat.le_of_lt (small1000 (by omega))
      have ev : B.map iV ++ [V.int (1 * 2 ^ ((i : Nat) : Int).toNat)] = (B ++ [2 ^ i]).map iV := by rw [shl_nat, List.map_append]; rfl
      rw [ev]
      have E3 := (e.trans n2).trans (Ext.new hl3 (.lst ((B ++ [2 ^ i]).map iV)))
      have lt3 : ∀ x ∈ B ++ [2 ^ i], x < 2 ^ m := fun x hx => by
        rcases List.mem_append.mp hx with h | h
        · exact ltB x h
        · rw [List.mem_singleton.mp h]; exact Nat.pow_lt_pow_right (by decide) hi'
      refine ⟨l3, B ++ [2 ^ i], m, rfl, upd_same, by rw [List.length_append]; show _ + 1 ≤ 40; omega, by omega, lt3, fun r2 R H4 e4 r20 hR pR oR => ?_⟩
      have lR : R.length ≤ 8 := by
        rw [pR.length_eq]
        refine Nat.le_trans (redL_le _) ?_
        rw [List.length_append]
        show _ + 1 ≤ 8
        omega
      have sR : Stp m R := ⟨_, lt3, pR, oR⟩
      exact ⟨_, r2, R, rfl, E3.trans e4, E3.none r20, hR, lR, sR.lt⟩
    · exact ⟨_, b, B, rfl, e, b0, hB, lB, ltB⟩
  · rintro σ H' ⟨x3, b, B, rfl, e, b0, hB, lB, ltB⟩
    exact ⟨_, rfl, q b B H' e b0 hB lB ltB⟩
end
end My
namespace My
open PySem L2
def tCutE (t : TS) : TS := fun D σ H => ∃ Pm : St → Hp → Prop, t { D with nx := Pm } σ H ∧ ∀ σ' H', Pm σ' H' → D.nx σ' H'
theorem ps_cutE {X : Cx} {st : Stmt} {t : TS} (h : PS X st t) : PS X st (tCutE t) := by
  intro pins s σ H D I hw
  obtain ⟨Pm, h1, h2⟩ := hw
  refine thn (h pins s σ H { D with nx := Pm } I h1) fun fl s' q => ?_
  cases fl with
  | next => obtain ⟨σ', H', I', q⟩ := q; exact ⟨σ', H', I', h2 σ' H' q⟩
  | brk => exact q
  | cont => exact q
  | ret _ => exact q
theorem boot_set7 : bootBuiltins "set" = some (.type "set") := by decide +kernel
theorem boot_max7 : bootBuiltins "max" = some (.builtin "max") := by decide +kernel
def Dr (d : Addr) (H H' : Hp) : Prop := (∃ q : Int, H' d = some (.lst [.int q])) ∧ ∀ b o, b ≠ d → H b = some o → H' b = some o
section
variable {d : Addr} {H H1 H2 : Hp}
theorem Dr.refl {n : Int} (h : H d = some (.lst [.int n])) : Dr d H H := ⟨⟨n, h⟩, fun _ _ _ q => q⟩
theorem Dr.ext (h : Dr d H H1) (e : Ext H1 H2) : Dr d H H2 := ⟨let ⟨q, z⟩ := h.1; ⟨q, e _ _ z⟩, fun b o n q => e _ _ (h.2 b o n q)⟩
theorem Dr.trans (h : Dr d H H1) (e : Dr d H1 H2) : Dr d H H2 := ⟨e.1, fun b o n q => e.2 b o n (h.2 b o n q)⟩
theorem Dr.take (h : Dr d H H1) (q : Int) : Dr d H (upd H1 d (.lst [.int q])) := ⟨⟨q, upd_same⟩, fun b o n z => by rw [upd_ne n]; exact h.2 b o n z⟩
theorem Dr.of_upd {q : Int} (e : Ext (upd H d (.lst [.int q])) H1) : Dr d H H1 := ⟨⟨q, e _ _ upd_same⟩, fun b o n z => e _ _ (by rw [upd_ne n]; exact z)⟩
theorem Dr.ne (h : Dr d H H1) {r : Addr} (hr : H1 r = Option.none) : r ≠ d := fun e => by
  obtain ⟨q, z⟩ := h.1
  rw [e, z] at hr; cases hr
theorem Dr.none (h : Dr d H H1) {r : Addr} (hr : H1 r = Option.none) : H r = Option.none := by
  cases q : H r with
  | none => rfl
  | some o => rw [h.2 r o (h.ne hr) q] at hr; cases hr
theorem Dr.over (h : Dr d H H1) {r : Addr} (hr : H r = Option.none) (n : r ≠ d) (o : HO) : Dr d H (upd H1 r o) := ⟨let ⟨q, z⟩ := h.1; ⟨q, by rw [upd_ne (Ne.symm n)]; exact z⟩, fun b u nb z => by rw [upd_ne (ne_of_none z hr)]; exact h.2 b u nb z⟩
theorem Dr.new (h : Dr d H H1) {r : Addr} (hr : H1 r = Option.none) (o : HO) : Dr d H (upd H1 r o) := h.over (h.none hr) (h.ne hr) o
end
theorem purse_ne {d r : Addr} {H : Hp} {n : Int} (hd : H d = some (.lst [.int n])) (hr : H r = none) : r ≠ d := fun e => by rw [e, hd] at hr; cases hr
theorem kept_upd {H : Hp} {p r : Addr} {ts : List (Nat × Nat)} {o : HO} {xs : List V} (hr : H r = none ∨ H r = some (.lst xs)) (np : p ≠ r) (h : KeptAt H p ts) : KeptAt (upd H r o) p ts := by
  obtain ⟨as, h1, h2⟩ := h
  refine ⟨as, by rw [upd_ne np]; exact h1, Paired.mapP h2 fun a t z => ?_⟩
  rw [upd_ne]
  · exact z
  · intro x
    rcases hr with q | q <;> rw [x, q] at z <;> cases z
def spTi : Sp := fun vs H Q _ => ∃ (d : Addr) (n : Int) (m : Nat), vs = [.ref d, iV m] ∧ H d = some (.lst [.int n]) ∧ m ≤ 12 ∧ ∀ (r : Addr) (ts : List (Nat × Nat)) (H' : Hp), Dr d H H' → H r = none → KeptAt H' r ts → ts.length ≤ m → Q (.ref r) H'
structure TiS (d : Addr) (H H' : Hp) (r h : Addr) (hs : List Nat) (ts : List (Nat × Nat)) : Prop where
  dr : Dr d H H'
  r0 : H r = none
  h0 : H h = none
  rd : r ≠ d
  hd : h ≠ d
  rh : r ≠ h
  hh : LsN H' h hs
  kt : KeptAt H' r ts
theorem TiS.ext {d : Addr} {H H' H2 : Hp} {r h : Addr} {hs : List Nat} {ts : List (Nat × Nat)} (x : TiS d H H' r h hs ts) (e : Ext H' H2) : TiS d H H2 r h hs ts := by
  obtain ⟨as, h1, h2⟩ := x.kt
  exact ⟨x.dr.ext e, x.r0, x.h0, x.rd, x.hd, x.rh, e _ _ x.hh, as, e _ _ h1, Paired.mapP h2 fun a t z => e _ _ z⟩
theorem TiS.take {d : Addr} {H H' : Hp} {r h : Addr} {hs : List Nat} {ts : List (Nat × Nat)} (x : TiS d H H' r h hs ts) (q : Int) : TiS d H (upd H' d (.lst [.int q])) r h hs ts := by
  obtain ⟨q0, z⟩ := x.dr.1
  exact ⟨x.dr.take q, x.r0, x.h0, x.rd, x.hd, x.rh, by unfold LsN; rw [upd_ne x.hd]; exact x.hh, kept_upd (.inr z) x.rd x.kt⟩
theorem TiS.heaps {d : Addr} {H H' : Hp} {r h : Addr} {hs hs' : List Nat} {ts : List (Nat × Nat)} (x : TiS d H H' r h hs ts) : TiS d H (upd H' h (.lst (hs'.map iV))) r h hs' ts :=
  ⟨x.dr.over x.h0 x.hd _, x.r0, x.h0, x.rd, x.hd, x.rh, upd_same, kept_upd (.inr x.hh) x.rh x.kt⟩
theorem at_iv {ms : List Nat} {i : Nat} (h : i < ms.length) : atI (ms.map iV) ((i : Nat) : Int) = some (iV ms[i]) := atI_nat (by rw [List.getElem?_map, List.getElem?_eq_getElem h]; rfl)
section
variable {P : Program} {w : World} {K : PySem.W.Frag} {mg : Str → Option Value} {base : Heap} {f f1 f2 : Addr} {fd fd1 fd2 : FuncData}
abbrev tiN : List Str := ["_law_draw", "_law_many", "_law_ties_here", "_law_heaps", "_law_step", "_law_way", "_law_one", "_law_other", "_law_deep", "_law_joins", "_law_low", "_law_high"]
theorem scTi : FnScope tiN ["_law_draw", "_law_many"] (defScope sTies) := ⟨rfl, rfl, rfl, by decide +kernel, rfl, by decide +kernel, by decide +kernel⟩
theorem or_if {tA tB' : TT} {t u : TS} {D : Ends} {σ : St} {H : Hp} (hA : ∀ Q : Bool → Hp → Prop, (∀ c, Q c H) → tA σ H Q) (hB : ∀ Q : Bool → Hp → Prop, (∀ c, Q c H) → tB' σ H Q) (ht : t D σ H) (hu : u D σ H) : tIfS (tOr tA tB') t u D σ H :=
  hA _ fun c => by
    cases c
    · exact iteF (hB _ fun c => ite2 (fun _ => ht) (fun _ => hu))
    · exact iteT (iteT ht)
set_option maxHeartbeats 16000000 in
theorem ok_ti (F : Fun K "_law_ties" "_law_ties" sTies f fd) (G : FnOk P w K mg base CX0 1 f1 fd1 ["_law_draw", "_law_many"] spTake) (bG : Binds K fd1 ["_law_draw", "_law_many"] []) (kG : PySem.W.keepIn K (.ref f1) = true) (mG : mg "_law_take" = some (.ref f1))
    (mr : mg "range" = none) (ml : mg "len" = none) (mst : mg "set" = none) (mmi : mg "min" = none) (mma : mg "max" = none) (mi : mg "int" = none) :
    FnOk P w K mg base CX0 2 f fd ["_law_draw", "_law_many"] spTi := by
  refine F.ok scTi (fun vs H Q E h => ?_) (fun cdv A outer s H vs Q E hr h => ?_)
  · obtain ⟨p, S, m, rfl, _⟩ := h
    rfl
  obtain ⟨d, n, m, rfl, hd, m12, q⟩ := h
  refine ⟨_, pss_cons (ps_set (i := 2) scTi.nd rfl (Or.inl rfl) (pe_lst pa_nil))
    (pss_cons (ps_set (i := 3) scTi.nd rfl (Or.inl rfl) (pe_lst (pa_cons pe_int pa_nil)))
    (pss_cons (ps_for PassesOwn.never rfl (pi_range1 rfl mr (pa_cons (pv 1) pa_nil)) (pg_name (i := 4) scTi.nd rfl (Or.inl rfl))
      (pss_cons (ps_set (i := 5) scTi.nd rfl (Or.inl rfl) (pe_call G hr rfl mG kG bG .nil pass0 (pa_cons (pv 0) (pa_cons pe_int pa_nil))))
      (pss_cons (ps_set (i := 6) scTi.nd rfl (Or.inl rfl) (pe_call G hr rfl mG kG bG .nil pass0 (pa_cons (pv 0) (pa_cons (pe_callB call_len_seq rfl ml PySem.boot_len (pa_cons (pv 3) pa_nil)) pa_nil))))
      (pss_cons (ps_set (i := 7) scTi.nd rfl (Or.inl rfl) (pe_call G hr rfl mG kG bG .nil pass0 (pa_cons (pv 0) (pa_cons (pe_callB call_len_seq rfl ml PySem.boot_len (pa_cons (pv 3) pa_nil)) pa_nil))))
      (pss_cons (ps_cutE (ps_set (i := 8) scTi.nd rfl (Or.inl rfl) (pe_op op_sub (pe_callB call_len_seq rfl ml PySem.boot_len (pa_cons (pv 3) pa_nil)) (pe_callB call_lenSI rfl ml PySem.boot_len (pa_cons (pe_callTy (call_setI rfl) rfl mst boot_set7 (pa_cons (pv 3) pa_nil)) pa_nil)))))
      (pss_cons (ps_cutE (ps_if (PW.pt (pw_or (pt_cmpR op_eq (pv 5) pe_int (nomark _)) (pw_or1 (PW.pt (pw_and (pt_cmpR op_eq (pv 5) pe_int (nomark _)) (pw_and1 (pt_cmpR op_lt (pv 8) pe_int (nomark _))))))))
        (pss_cons (ps_expr (pe_bm PySem.F.plainAttrs_list PySem.F.slot_list_append PySem.F.type_list_append mt_append (pv 3) (pa_cons (pe_callB call_len_seq rfl ml PySem.boot_len (pa_cons (pv 3) pa_nil)) pa_nil)))
        (pss_one (ps_set (i := 7) scTi.nd rfl (Or.inl rfl) (pe_op op_sub (pe_callB call_len_seq rfl ml PySem.boot_len (pa_cons (pv 3) pa_nil)) pe_int)))) pss_nil))
      (pss_cons (ps_cutE (ps_if (pt_cmpR op_eq (pv 5) pe_int (nomark _)) (pss_one (ps_set (i := 6) scTi.nd rfl (Or.inl rfl) (pe_call G hr rfl mG kG bG .nil pass0 (pa_cons (pv 0) (pa_cons (pe_callB call_len_seq rfl ml PySem.boot_len (pa_cons (pv 3) pa_nil)) pa_nil))))) pss_nil))
      (pss_cons (ps_set (i := 9) scTi.nd rfl (Or.inl rfl) (pe_cmpR op_ne (pe_ix ix_list (pv 3) (pv 6) (fun _ _ => rfl)) (pe_ix ix_list (pv 3) (pv 7) (fun _ _ => rfl)) (nomark _)))
      (pss_one (ps_if (PW.pt (pw_or (PW.pt (pw_and (pt_val (pv 9)) (pw_and1 (pt_cmpR op_lt (pv 8) pe_int (nomark _))))) (pw_or1 (PW.pt (pw_and (pt_not (pt_val (pv 9))) (pw_and1 (pt_cmpR op_lt (pe_op op_sub (pe_callB call_len_seq rfl ml PySem.boot_len (pa_cons (pv 2) pa_nil)) (pv 8)) pe_int (nomark _))))))))
        (pss_cons (ps_expr (pe_bm PySem.F.plainAttrs_list PySem.F.slot_list_append PySem.F.type_list_append mt_append (pv 2) (pa_cons (pe_tup (pa_cons (pe_callB (call_min2 rfl) rfl mmi boot_min' (pa_cons (pv 6) (pa_cons (pv 7) pa_nil))) (pa_cons (pe_callB (call_max2 rfl) rfl mma boot_max7 (pa_cons (pv 6) (pa_cons (pv 7) pa_nil))) pa_nil))) pa_nil)))
        (pss_cons (ps_set (i := 10) scTi.nd rfl (Or.inr rfl) (pe_callB (call_min2 rfl) rfl mmi boot_min' (pa_cons (pe_ix ix_list (pv 3) (pv 6) (fun _ _ => rfl)) (pa_cons (pe_ix ix_list (pv 3) (pv 7) (fun _ _ => rfl)) pa_nil))))
        (pss_cons (ps_set (i := 11) scTi.nd rfl (Or.inr rfl) (pe_callB (call_max2 rfl) rfl mma boot_max7 (pa_cons (pe_ix ix_list (pv 3) (pv 6) (fun _ _ => rfl)) (pa_cons (pe_ix ix_list (pv 3) (pv 7) (fun _ _ => rfl)) pa_nil))))
        (pss_one (ps_lc (i := 3) (N := tiN) (sc := defScope sTies) (N' := ["_law_heap", "_law_low", "_law_high"]) (sub := [none, some 10, some 11]) rfl rfl (CmpOk.of (by decide +kernel)) rfl (pi_list (pv 3))
          (fun C s H fp => ⟨pg_name (i := 0) (by show (["_law_heap", "_law_low", "_law_high"] : List Str).Nodup; decide) rfl (Or.inl rfl), pts_nil, pe_ix (show IxR _ (rIxL K) from ix_list) (pe_lst (pa_cons (pv 0) (pa_cons (pv 1) pa_nil))) (pe_callTy call_int1 rfl mi boot_int5 (pa_cons (pe_cmpR op_eq (pv 0) (pv 2) (nomark _)) pa_nil)) (fun _ _ => rfl)⟩) scTi.nd rfl (Or.inl rfl))))))
        pss_nil))))))))))
    (pss_one (ps_ret (pv 2))))), ?_⟩
  refine ⟨Nat.zero_le _, fun r r0 => ?_⟩
  refine ⟨(by show 1 ≤ sizeLine; decide), fun h h1 => ?_⟩
  have d1 := (Dr.refl hd).new r0 (.lst [])
  have d2 := d1.new h1 (.lst [.int 0])
  have rh : r ≠ h := fun e => by rw [← e, upd_same] at h1; cases h1
  have T0 : TiS d H (upd (upd H r (.lst [])) h (.lst [.int 0])) r h [0] [] := ⟨d2, r0, d1.none h1, purse_ne hd r0, d1.ne h1, rh, upd_same, [], by rw [upd_ne rh]; exact upd_same, .nil⟩
  refine ⟨_, rfl, (m : Int), rfl, by omega, by omega, ?_⟩
  refine for_range (lo := 0) (n := ((m : Int)).toNat) (fun i σ H' => ∃ (h : Addr) (hs : List Nat) (ts : List (Nat × Nat)) (x4 x5 x6 x7 x8 x9 x10 x11 : Option V), σ = [some (.ref d), some (iV m), some (.ref r), some (.ref h), x4, x5, x6, x7, x8, x9, x10, x11] ∧ TiS d H H' r h hs ts ∧ 0 < hs.length ∧ hs.length ≤ i + 1 ∧ ts.length ≤ i) ⟨h, [0], [], none, none, none, none, none, none, none, none, rfl, T0, by decide, by decide, by decide⟩ ?_ ?_
  · rintro i σ H' hi ⟨h, hs, ts, x4, x5, x6, x7, x8, x9, x10, x11, rfl, T, l0, lh, lt⟩
    rw [show (0 + (i : Int)) = ((i : Nat) : Int) by omega]
    obtain ⟨q0, z0⟩ := T.dr.1
    refine ⟨_, rfl, d, q0, 4, rfl, z0, by decide, by decide, fun q1 way wa wb => ?_⟩
    have T1 := T.take q1
    refine ⟨_, rfl, _, rfl, h, _, rfl, .inl (SqL.of T1.hh), d, q1, _, rfl, upd_same, by rw [List.length_map]; omega, by rw [List.length_map]; omega, fun q2 one oa ob => ?_⟩
    rw [upd_upd]
    rw [List.length_map] at ob
    have T2 := T.take q2
    refine ⟨_, rfl, _, rfl, h, _, rfl, .inl (SqL.of T2.hh), d, q2, _, rfl, upd_same, by rw [List.length_map]; omega, by rw [List.length_map]; omega, fun q3 oth ta tb => ?_⟩
    rw [upd_upd]
    rw [List.length_map] at tb
    have T3 := T.take q3
    obtain ⟨one, rfl⟩ := Int.eq_ofNat_of_zero_le oa
    obtain ⟨oth, rfl⟩ := Int.eq_ofNat_of_zero_le ta
    refine ⟨fun σ' H2 => ∃ deep : Int, σ' = [some (.ref d), some (iV m), some (.ref r), some (.ref h), some (iV i), some (.int way), some (iV one), some (iV oth), some (.int deep), x9, x10, x11] ∧ TiS d H H2 r h hs ts, ?_, ?_⟩
    · refine ⟨_, rfl, h, _, rfl, .inl (SqL.of T3.hh), ?_⟩
      refine ⟨_, rfl, h, hs.map fun n : Nat => (n : Int), rfl, by rw [← iv_ints]; exact SqL.of T3.hh, by rw [List.length_map]; omega, fun a k a0 hk => ?_⟩
      rw [List.length_map] at hk
      exact ⟨a, k, rfl, upd_same, by omega, _, _, rfl, rfl, _, rfl, T3.ext (Ext.new a0 _)⟩
    rintro _ H2 ⟨deep, rfl, U⟩
    clear T1 T2 T3 T
    refine ⟨fun σ' H3 => ∃ (hs2 : List Nat) (oth2 : Nat), σ' = [some (.ref d), some (iV m), some (.ref r), some (.ref h), some (iV i), some (.int way), some (iV one), some (iV oth2), some (.int deep), x9, x10, x11] ∧ TiS d H H3 r h hs2 ts ∧ 0 < hs2.length ∧ hs2.length ≤ i + 2 ∧ one < hs2.length ∧ oth2 < hs2.length, ?_, ?_⟩
    · have sz : (hs.map iV).length < sizeLine := by rw [List.length_map]; exact small1000 (by omega)
      have Un := U.heaps (hs' := hs ++ [hs.length])
      have e2 : (((hs ++ [hs.length]).map iV).length : Int) - 1 = ((hs.length : Nat) : Int) := by rw [List.length_map, List.length_append]; show ((hs.length + 1 : Nat) : Int) - 1 = _; omega
      have e1 : hs.map iV ++ [V.int ((hs.map iV).length : Nat)] = (hs ++ [hs.length]).map iV := by rw [List.map_append, List.length_map]; rfl
      refine ⟨_, rfl, rfl, _, rfl, ite2 (fun c1 => ?_) (fun c1 => ⟨_, rfl, rfl, _, rfl, ite2 (fun c2 => ⟨_, rfl, _, _, rfl, rfl, _, rfl, ?_⟩) (fun c2 => ?_)⟩)⟩
      · exact iteT (by
        refine ⟨_, rfl, .inl ⟨rfl, _, SqL.of U.hh⟩, _, rfl, h, _, rfl, .inl (SqL.of U.hh), h, _, _, rfl, rfl, U.hh, sz, ?_⟩
        rw [e1]
        refine ⟨_, rfl, h, _, rfl, .inl (SqL.of Un.hh), _, _, rfl, rfl, hs ++ [hs.length], hs.length, ?_, Un, by rw [List.length_append]; exact Nat.succ_pos _, by rw [List.length_append]; show _ + 1 ≤ _; omega, by rw [List.length_append]; show _ < _ + 1; omega, by rw [List.length_append]; show _ < _ + 1; omega⟩
        rw [show iV hs.length = V.int ((((hs ++ [hs.length]).map iV).length : Int) - 1) by rw [e2]]
        rfl)
      · refine ite2 (fun c3 => ?_) (fun c3 => ⟨hs, oth, rfl, U, l0, by omega, by omega, by omega⟩)
        exact (by
        refine ⟨_, rfl, .inl ⟨rfl, _, SqL.of U.hh⟩, _, rfl, h, _, rfl, .inl (SqL.of U.hh), h, _, _, rfl, rfl, U.hh, sz, ?_⟩
        rw [e1]
        refine ⟨_, rfl, h, _, rfl, .inl (SqL.of Un.hh), _, _, rfl, rfl, hs ++ [hs.length], hs.length, ?_, Un, by rw [List.length_append]; exact Nat.succ_pos _, by rw [List.length_append]; show _ + 1 ≤ _; omega, by rw [List.length_append]; show _ < _ + 1; omega, by rw [List.length_append]; show _ < _ + 1; omega⟩
        rw [show iV hs.length = V.int ((((hs ++ [hs.length]).map iV).length : Int) - 1) by rw [e2]]
        rfl)
      · exact iteF ⟨hs, oth, rfl, U, l0, by omega, by omega, by omega⟩
    rintro _ H3 ⟨hs2, oth2, rfl, U3, l20, l2, o1, o2⟩
    refine ⟨fun σ' H4 => ∃ one2 : Nat, σ' = [some (.ref d), some (iV m), some (.ref r), some (.ref h), some (iV i), some (.int way), some (iV one2), some (iV oth2), some (.int deep), x9, x10, x11] ∧ TiS d H H4 r h hs2 ts ∧ one2 < hs2.length, ?_, ?_⟩
    · refine ⟨_, rfl, rfl, _, rfl, ite2 (fun c1 => ?_) (fun c1 => ⟨one, rfl, U3, o1⟩)⟩
      obtain ⟨q5, z5⟩ := U3.dr.1
      refine ⟨_, rfl, _, rfl, h, _, rfl, .inl (SqL.of U3.hh), d, q5, _, rfl, z5, by rw [List.length_map]; omega, by rw [List.length_map]; omega, fun q6 one2 oa2 ob2 => ?_⟩
      rw [List.length_map] at ob2
      obtain ⟨one2, rfl⟩ := Int.eq_ofNat_of_zero_le oa2
      exact ⟨one2, rfl, U3.take q6, by omega⟩
    rintro _ H4 ⟨one2, rfl, U4, o12⟩
    refine ⟨_, rfl, _, rfl, h, _, _, _, rfl, rfl, SqL.of U4.hh, at_iv o12, _, rfl, _, rfl, h, _, _, _, rfl, rfl, SqL.of U4.hh, at_iv o2, rfl, ?_⟩
    generalize (!decide (iV hs2[one2] = iV hs2[oth2])) = jb
    have pairN : ∀ a b : Nat, (∃ c : Nat, (if (b : Int) < (a : Int) then (b : Int) else (a : Int)) = (c : Int)) ∧ ∃ c : Nat, (if (b : Int) > (a : Int) then (b : Int) else (a : Int)) = (c : Int) := fun a b => ⟨by split <;> exact ⟨_, rfl⟩, by split <;> exact ⟨_, rfl⟩⟩
    obtain ⟨⟨lo1, elo1⟩, hi1, ehi1⟩ := pairN one2 oth2
    obtain ⟨⟨lo2, elo2⟩, hi2, ehi2⟩ := pairN hs2[one2] hs2[oth2]
    have lts : ts.length < 1000 := by omega
    obtain ⟨as, hr1, pr⟩ := U4.kt
    have las := pr.length
    dsimp only [gName]
    refine or_if (fun Q hQ => ?_) (fun Q hQ => ?_) ?_ ?_
    · refine ⟨_, rfl, jb, rfl, ?_⟩
      cases jb
      · exact iteF (hQ _)
      · exact iteT ⟨_, rfl, _, _, rfl, rfl, _, rfl, hQ _⟩
    · refine ⟨_, rfl, jb, rfl, ?_⟩
      cases jb
      · exact iteT (B := Q false H4) ⟨_, rfl, r, _, rfl, .inl (SqL.of hr1), _, rfl, _, _, rfl, rfl, _, _, rfl, rfl, _, rfl, hQ _⟩
      · exact iteF (hQ _)
    · refine ⟨_, rfl, .inl ⟨rfl, _, SqL.of hr1⟩, _, rfl, _, rfl, _, _, rfl, _, rfl, _, rfl, _, _, rfl, (by show 2 ≤ sizeLine; decide), fun p p0 => ?_⟩
      rw [elo1, ehi1]
      have V1 := U4.ext (Ext.new p0 (.tup [iV lo1, iV hi1]))
      have rp : r ≠ p := ne_of_none hr1 p0
      have hr2 : upd H4 p (.tup [iV lo1, iV hi1]) r = some (.lst (as.map V.ref)) := by rw [upd_ne rp]; exact hr1
      refine ⟨r, _, _, rfl, rfl, hr2, by rw [List.length_map, las]; exact small1000 (by omega), ?_⟩
      have V2 : TiS d H (upd (upd H4 p (.tup [iV lo1, iV hi1])) r (.lst (as.map V.ref ++ [V.ref p]))) r h hs2 (ts ++ [(lo1, hi1)]) := by
        refine ⟨V1.dr.over V1.r0 V1.rd _, V1.r0, V1.h0, V1.rd, V1.hd, V1.rh, by unfold LsN; rw [upd_ne (Ne.symm V1.rh)]; exact V1.hh, as ++ [p], by rw [upd_same, List.map_append]; rfl, Paired.snoc (Paired.mapP pr fun a t z => ?_) ?_⟩
        · have ar : a ≠ r := fun e => by rw [e, hr1] at z; cases z
          rw [upd_ne ar, upd_ne (ne_of_none z p0)]; exact z
        · rw [upd_ne (Ne.symm rp), upd_same]
      refine ⟨_, rfl, _, rfl, h, _, _, _, rfl, rfl, SqL.of V2.hh, at_iv o12, _, rfl, _, rfl, h, _, _, _, rfl, rfl, SqL.of V2.hh, at_iv o2, _, _, rfl, ?_⟩
      refine ⟨_, rfl, _, rfl, h, _, _, _, rfl, rfl, SqL.of V2.hh, at_iv o12, _, rfl, _, rfl, h, _, _, _, rfl, rfl, SqL.of V2.hh, at_iv o2, _, _, rfl, ?_⟩
      rw [elo2, ehi2]
      refine ⟨_, rfl, h, rfl, ⟨_, SqL.of V2.hh⟩, ?_⟩
      refine turns_list (xs := hs2.map iV) (fun j ys H5 => Ext (upd (upd H4 p (.tup [iV lo1, iV hi1])) r (.lst (as.map V.ref ++ [V.ref p]))) H5 ∧ ∃ ns : List Nat, ys = ns.map iV ∧ ns.length = j) ⟨Ext.refl _, [], rfl, rfl⟩ (fun j ys H5 _ z => SqL.of (z.1 _ _ V2.hh)) ?_ ?_
      · rintro j v ys H5 hx ⟨e5, ns, rfl, ln⟩
        obtain ⟨x, rfl, hx'⟩ := iv_get hx
        have hj := at_lt hx'
        have sz : (ns.map iV).length < sizeLine := by rw [List.length_map]; exact small1000 (by omega)
        refine ⟨Sle.set _ (Sle.refl _) (fun u z => by cases z), iteT (B := False) ⟨_, rfl, _, rfl, (by show 2 ≤ sizeLine; decide), fun l hl => ?_⟩⟩
        have n5 := Ext.new hl (.lst [iV x, iV lo2])
        refine ⟨_, rfl, _, rfl, rfl, .inr ⟨_, rfl, ?_⟩⟩
        by_cases c : iV x = iV hi2
        · rw [decide_eq_true c, if_pos rfl]
          exact ⟨l, _, _, iV lo2, rfl, rfl, SqL.of upd_same, rfl, sz, nxt (at_lt hx) ⟨e5.trans n5, ns ++ [lo2], by rw [List.map_append]; rfl, by rw [List.length_append, ln]; rfl⟩⟩
        · rw [decide_eq_false c, if_neg (by decide)]
          exact ⟨l, _, _, iV x, rfl, rfl, SqL.of upd_same, rfl, sz, nxt (at_lt hx) ⟨e5.trans n5, ns ++ [x], by rw [List.map_append]; rfl, by rw [List.length_append, ln]; rfl⟩⟩
      · rintro ys H5 ⟨e5, ns, rfl, ln⟩ l hl
        rw [List.length_map] at ln
        have V5 := V2.ext e5
        have V6 := V5.ext (Ext.new hl (.lst (ns.map iV)))
        have rl : r ≠ l := fun e => by
          obtain ⟨as5, h5, _⟩ := V5.kt
          rw [← e, h5] at hl; cases hl
        exact ⟨l, ns, _, _, _, _, _, _, _, _, _, rfl, ⟨V6.dr, V6.r0, V5.dr.none hl, V6.rd, V5.dr.ne hl, rl, upd_same, V6.kt⟩, by omega, by omega, by rw [List.length_append]; show _ + 1 ≤ _; omega⟩
    · exact ⟨h, hs2, ts, _, _, _, _, _, _, _, _, rfl, U4, l20, by omega, by omega⟩
  · rintro σ H' ⟨h, hs, ts, x4, x5, x6, x7, x8, x9, x10, x11, rfl, T, l0, lh, lt⟩
    exact ⟨_, rfl, q r ts H' T.dr T.r0 T.kt (by omega)⟩
end
end My
namespace My
open PySem L2
def DMk (m : Nat) (kvs : List (Key × V)) : Prop := ∀ p ∈ kvs, (∃ i : Int, p.1 = Sum.inl i) ∧ ∃ x : Nat, x < 2 ^ m ∧ p.2 = iV x
theorem DMk.nil (m : Nat) : DMk m [] := fun p hp => by cases hp
theorem valV_mem {kvs : List (Key × V)} {k : Key} {v : V} (h : valV kvs k = some v) : (k, v) ∈ kvs := by
  unfold valV at h
  cases e : kvs.find? (fun kv => decide (kv.1 = k)) with
  | none => rw [e] at h; cases h
  | some p =>
    rw [e] at h
    have h1 := List.mem_of_find?_eq_some e
    have h2 : p.1 = k := of_decide_eq_true (List.find?_some (p := fun kv : Key × V => decide (kv.1 = k)) e)
    have h3 : p.2 = v := Option.some.inj h
    rw [← h2, ← h3]; exact h1
theorem DMk.getD {m : Nat} {kvs : List (Key × V)} (h : DMk m kvs) (k : Key) : ∃ x : Nat, x < 2 ^ m ∧ (valV kvs k).getD (.int 0) = .int ((x : Nat) : Int) := by
  cases e : valV kvs k with
  | none => exact ⟨0, Nat.pow_pos (by decide), rfl⟩
  | some v =>
    obtain ⟨_, x, hx, ev⟩ := h _ (valV_mem e)
    exact ⟨x, hx, ev⟩
theorem DMk.val {m : Nat} {kvs : List (Key × V)} (h : DMk m kvs) {p : Key × V} (hp : p ∈ kvs) : ∃ x : Nat, x < 2 ^ m ∧ valV kvs p.1 = some (iV x) := by
  cases e : valV kvs p.1 with
  | none =>
    exfalso
    unfold valV at e
    rw [Option.map_eq_none_iff, List.find?_eq_none] at e
    exact e p hp (decide_eq_true rfl)
  | some v =>
    obtain ⟨_, x, hx, ev⟩ := h _ (valV_mem e)
    exact ⟨x, hx, by rw [show v = iV x from ev]⟩
theorem DMk.put {m : Nat} {kvs : List (Key × V)} (h : DMk m kvs) (i : Int) {x : Nat} (hx : x < 2 ^ m) : DMk m (putK kvs (Sum.inl i) (iV x)) := by
  intro p hp
  unfold putK at hp
  split at hp
  · obtain ⟨q, hq, rfl⟩ := List.mem_map.mp hp
    split
    · exact ⟨(h q hq).1, x, hx, rfl⟩
    · exact h q hq
  · rcases List.mem_append.mp hp with z | z
    · exact h p z
    · rw [List.mem_singleton.mp z]; exact ⟨⟨i, rfl⟩, x, hx, rfl⟩
theorem put_len (kvs : List (Key × V)) (k : Key) (v : V) : (putK kvs k v).length ≤ kvs.length + 1 := by
  unfold putK
  split
  · rw [List.length_map]; omega
  · rw [List.length_append]; exact Nat.le_refl _
def spStM : Sp := fun vs H Q _ => ∃ (p : Addr) (ts : List (Nat × Nat)), vs = [.ref p] ∧ KeptAt H p ts ∧ ts.length ≤ 12 ∧ ∀ (r : Addr) (ms : List Nat) (H' : Hp), Ext H H' → H r = none → LsN H' r ms → ms.length ≤ 2 * ts.length → (∀ x ∈ ms, x < 2 ^ ts.length) → Q (.ref r) H'
theorem xor_lt2 {m x k : Nat} (hx : x < 2 ^ m) (hk : k < m) : x ^^^ 2 ^ k < 2 ^ m := Nat.xor_lt_two_pow hx (Nat.pow_lt_pow_right (by decide) hk)
section
variable {P : Program} {w : World} {K : PySem.W.Frag} {mg : Str → Option Value} {base : Heap} {f f1 f2 f3 : Addr} {fd fd1 fd2 fd3 : FuncData}
abbrev smN : List Str := ["_law_ties_here", "_law_around", "_law_k", "_law_one", "_law_other"]
theorem scStM : FnScope smN ["_law_ties_here"] (defScope sStM) := ⟨rfl, rfl, rfl, by decide +kernel, rfl, by decide +kernel, by decide +kernel⟩
set_option maxHeartbeats 8000000 in
theorem ok_stM (F : Fun K "_law_star_masks" "_law_star_masks" sStM f fd) (me : mg "enumerate" = none) : FnOk P w K mg base CX0 1 f fd ["_law_ties_here"] spStM := by
  refine F.ok scStM (fun vs H Q E h => ?_) (fun cdv A outer s H vs Q E hr h => ?_)
  · obtain ⟨p, ts, rfl, _⟩ := h
    rfl
  obtain ⟨p, ts, rfl, ⟨as, hp, pr⟩, lt, q⟩ := h
  have las := pr.length
  refine ⟨_, pss_cons (ps_set (i := 1) scStM.nd rfl (Or.inr rfl) pe_dnewK)
    (pss_cons (ps_for PassesOwn.never rfl (pi_enum rfl me (pa_cons (pv 0) pa_nil)) (pg_tup rfl (pgs_cons (pg_name (i := 2) scStM.nd rfl (Or.inl rfl)) (pgs_cons (pg_tup rfl (pgs_cons (pg_name (i := 3) scStM.nd rfl (Or.inl rfl)) (pgs_cons (pg_name (i := 4) scStM.nd rfl (Or.inl rfl)) pgs_nil))) pgs_nil)))
      (pss_one (ps_if (pt_cmpR op_ne (pv 3) (pv 4) (nomark _))
        (pss_cons (ps_dput (hu_of hr) (pv 1) (pv 3) (pe_op op_xor (pe_dget2 (hu_of hr) (pv 1) (pv 3) pe_int ⟨rfl, rfl, rfl, rfl⟩) (pe_op op_shl pe_int (pv 2))) rfl)
        (pss_one (ps_dput (hu_of hr) (pv 1) (pv 4) (pe_op op_xor (pe_dget2 (hu_of hr) (pv 1) (pv 4) pe_int ⟨rfl, rfl, rfl, rfl⟩) (pe_op op_shl pe_int (pv 2))) rfl)))
        pss_nil)))
    (pss_one (ps_ret (pe_lc (N := smN) (sc := defScope sStM) (N' := ["_law_point", "_law_around"]) (sub := [none, some 1]) rfl rfl (CmpOk.of (by decide +kernel)) rfl (pi_keys (pv 1))
      (fun C s H fp => ⟨pg_name (i := 0) (by show (["_law_point", "_law_around"] : List Str).Nodup; decide) rfl (Or.inl rfl), pts_nil, pe_dget (hu_of hr) (pv 1) (pv 0) (fun _ _ => rfl)⟩))))), ?_⟩
  intro d hd
  have n0 := Ext.new hd (.dK [])
  refine ⟨_, rfl, p, _, rfl, SqL.of (n0 _ _ hp), ?_⟩
  rw [List.length_map]
  refine for_pairs (fun i σ H' => ∃ (x2 x3 x4 : Option V) (kvs : List (Key × V)), σ = [some (.ref p), some (.ref d), x2, x3, x4] ∧ Ext H H' ∧ H' d = some (.dK kvs) ∧ DMk ts.length kvs ∧ kvs.length ≤ 2 * i) ⟨none, none, none, [], rfl, n0, upd_same, DMk.nil _, by decide⟩ (fun i σ H' _ z => by obtain ⟨_, _, _, _, _, e, _⟩ := z; exact SqL.of (e _ _ hp)) ?_ ?_
  · rintro i σ H' T hi ⟨x2, x3, x4, kvs, rfl, e, hD, dm, lk⟩ hT
    have hi' : i < ts.length := by omega
    obtain ⟨t, ht, hat⟩ := paired_get pr (List.getElem?_eq_getElem hi)
    have gd : (as.map V.ref).getD i .non = .ref as[i] := by rw [List.getD_eq_getElem?_getD, List.getElem?_map, List.getElem?_eq_getElem hi]; rfl
    have nT := Ext.new hT (.tup [V.int (i : Nat), (as.map V.ref).getD i .non])
    have e2 := e.trans nT
    refine ⟨T, _, rfl, SqT.of upd_same, rfl, _, _, rfl, _, _, rfl, as[i], _, gd, SqT.of (e2 _ _ hat), rfl, _, _, rfl, _, _, rfl, rfl, rfl, ?_⟩
    have hD2 := nT _ _ hD
    revert e2 hD2
    generalize upd H' T (.tup [V.int (i : Nat), (as.map V.ref).getD i .non]) = H2
    intro e2 hD2
    refine ⟨_, rfl, _, rfl, rfl, _, rfl, ?_⟩
    refine ite2 (fun c => ?_) (fun c => ?_)
    · obtain ⟨x, hx, ex⟩ := dm.getD (Sum.inl ((t.1 : Nat) : Int))
      have b1 := xor_lt2 hx hi'
      have dm1 := dm.put ((t.1 : Nat) : Int) b1
      have l1 := put_len kvs (Sum.inl ((t.1 : Nat) : Int)) (iV (x ^^^ 2 ^ i))
      have ev : ∀ x : Nat, (fun i j : Int => V.int (Builtin.bitXor i j)) ((x : Nat) : Int) (1 * 2 ^ ((i : Nat) : Int).toNat) = iV (x ^^^ 2 ^ i) := fun x => by
        show V.int (Builtin.bitXor _ _) = V.int _
        rw [shl_nat, bxor_nat]
      refine ⟨_, rfl, d, rfl, .inl ⟨kvs, .inl hD2⟩, _, rfl, _, DGet.k (k := Sum.inl ((t.1 : Nat) : Int)) hD2, _, rfl, _, _, rfl, rfl, ⟨by omega, by omega, by decide⟩, _, _, ex, rfl, _, rfl, _, rfl, d, _, rfl, DPut.k (k := Sum.inl ((t.1 : Nat) : Int)) hD2 (small1000 (by omega)), ?_⟩
      rw [ev]
      have hD3 : upd H2 d (.dK (putK kvs (Sum.inl ((t.1 : Nat) : Int)) (iV (x ^^^ 2 ^ i)))) d = some (.dK (putK kvs (Sum.inl ((t.1 : Nat) : Int)) (iV (x ^^^ 2 ^ i)))) := upd_same
      have e3 := e2.over hd (.dK (putK kvs (Sum.inl ((t.1 : Nat) : Int)) (iV (x ^^^ 2 ^ i))))
      revert hD3 e3 dm1 l1
      generalize putK kvs (Sum.inl ((t.1 : Nat) : Int)) (iV (x ^^^ 2 ^ i)) = kv1
      intro dm1 l1 hD3 e3
      revert hD3 e3
      generalize upd H2 d (.dK kv1) = H3
      intro hD3 e3
      obtain ⟨y, hy, ey⟩ := dm1.getD (Sum.inl ((t.2 : Nat) : Int))
      have b2 := xor_lt2 hy hi'
      have dm2 := dm1.put ((t.2 : Nat) : Int) b2
      have l2 := put_len kv1 (Sum.inl ((t.2 : Nat) : Int)) (iV (y ^^^ 2 ^ i))
      refine ⟨_, rfl, d, rfl, .inl ⟨kv1, .inl hD3⟩, _, rfl, _, DGet.k (k := Sum.inl ((t.2 : Nat) : Int)) hD3, _, rfl, _, _, rfl, rfl, ⟨by omega, by omega, by decide⟩, _, _, ey, rfl, _, rfl, _, rfl, d, _, rfl, DPut.k (k := Sum.inl ((t.2 : Nat) : Int)) hD3 (small1000 (by omega)), ?_⟩
      rw [ev]
      exact ⟨_, _, _, _, rfl, e3.over hd _, upd_same, dm2, by omega⟩
    · exact ⟨_, _, _, kvs, rfl, e2, hD2, dm, by omega⟩
  · rintro σ H' ⟨x2, x3, x4, kvs, rfl, e, hD, dm, lk⟩
    rw [las] at lk
    refine ⟨_, rfl, d, kvs, rfl, hD, fun o => ?_⟩
    have nd : upd H' d (.frz o (.dK kvs)) d = some (.frz o (.dK kvs)) := upd_same
    have e9 := e.over hd (.frz o (.dK kvs))
    revert nd e9
    generalize upd H' d (.frz o (.dK kvs)) = H9
    intro nd e9
    refine turns_keys (fun i ys H2 => H2 = H9 ∧ ∃ ms : List Nat, ys = ms.map iV ∧ ms.length = i ∧ ∀ x ∈ ms, x < 2 ^ ts.length) ⟨rfl, [], rfl, rfl, fun x hx => by cases hx⟩ (fun i ys H2 _ h => by rw [h.1]; exact nd) ?_ ?_
    · rintro i pr' ys H2 hpr ⟨rfl, ms, rfl, lm, ltm⟩
      have hi : i < kvs.length := at_lt hpr
      obtain ⟨x, hx, hv⟩ := dm.val (List.mem_of_getElem? hpr)
      refine ⟨Sle.set _ (Sle.refl _) (fun u z => by cases z), iteT (B := False) ⟨_, rfl, _, rfl, d, _, rfl, .inl ⟨kvs, pr'.1, .inr ⟨o, nd⟩, rfl, hv.symm⟩, by rw [List.length_map]; exact small1000 (by omega), nxt hi ⟨rfl, ms ++ [x], by rw [List.map_append]; rfl, by rw [List.length_append, lm]; rfl, fun y hy => ?_⟩⟩⟩
      rcases List.mem_append.mp hy with z | z
      · exact ltm y z
      · rw [List.mem_singleton.mp z]; exact hx
    · rintro ys H2 ⟨rfl, ms, rfl, lm, ltm⟩ l hl
      exact q l ms _ (e9.trans (Ext.new hl _)) (e9.none hl) upd_same (by omega) ltm
end
end My
namespace My
open PySem L2
theorem Stp.len {m : Nat} {S : List Nat} (h : Stp m S) : S.length ≤ m := by
  have := List.Nodup.length_le_of_subset (l₂ := List.range m) h.nd fun l hl => by
    obtain ⟨s, hs, rfl⟩ := List.mem_map.mp hl
    exact List.mem_range.mpr (lo_lt (h.gm s hs).1 (h.gm s hs).2)
  rw [List.length_map, List.length_range] at this
  exact this
def intD (ms : List Nat) : PyData := .list (ms.map fun n : Nat => .int (n : Int))
theorem drs_iv {K : PySem.W.Frag} {H : Hp} : ∀ ms : List Nat, DRs K H (ms.map iV) (ms.map fun n : Nat => .int (n : Int))
  | [] => .nil
  | n :: ms => .cons (.int _) (drs_iv ms)
theorem dr_iv {K : PySem.W.Frag} {H : Hp} {p : Addr} {ms : List Nat} (h : LsN H p ms) : DR K H (.ref p) (intD ms) := .lst (SqL.of h) (drs_iv ms)
theorem lay_iv : ∀ ms : List Nat, PyData.canLayAll0 (ms.map fun n : Nat => .int (n : Int)) = true ∧ PyData.depthAll (ms.map fun n : Nat => .int (n : Int)) = 0
  | [] => ⟨rfl, rfl⟩
  | n :: ms => by
    obtain ⟨h1, h2⟩ := lay_iv ms
    refine ⟨?_, ?_⟩
    · show (true && PyData.canLayAll0 (ms.map fun n : Nat => .int (n : Int))) = true
      rw [h1]; rfl
    · show max 0 (PyData.depthAll (ms.map fun n : Nat => .int (n : Int))) = 0
      rw [h2]; rfl
theorem shaped_iv (ms : List Nat) : SeqAt.shaped (intD ms) = true := by
  obtain ⟨h1, h2⟩ := lay_iv ms
  show (PyData.canLayAll0 (ms.map fun n : Nat => .int (n : Int)) && decide (PyData.depthAll (ms.map fun n : Nat => .int (n : Int)) + 1 ≤ 64)) = true
  rw [h1, h2]; rfl
theorem eqv_nil (ms : List Nat) : PyData.eqv (intD ms) (intD []) = decide (ms = []) := by
  cases ms with
  | nil => rfl
  | cons a l => rfl
def spMor : Sp := fun vs H Q _ => ∃ (d : Addr) (n : Int) (m : Nat) (p : Addr) (S : List Nat), vs = [.ref d, iV m, .ref p] ∧ H d = some (.lst [.int n]) ∧ p ≠ d ∧ LsN H p S ∧ S.length ≤ 20 ∧ m ≤ 11 ∧ (∀ x ∈ S, x < 2 ^ m) ∧
  ∀ (T r : Addr) (R : List Nat) (H' : Hp), Dr d H H' → H T = none → H' T = some (.tup [iV (m + 1), .ref r]) → H r = none → LsN H' r R → Stp (m + 1) R → Q (.ref T) H'
def spMix : Sp := fun vs H Q _ => ∃ (d : Addr) (n : Int) (m : Nat) (p : Addr) (S : List Nat), vs = [.ref d, iV m, .ref p] ∧ H d = some (.lst [.int n]) ∧ p ≠ d ∧ LsN H p S ∧ S.length ≤ 8 ∧ m ≤ 12 ∧
  ∀ (r : Addr) (R : List Nat) (H' : Hp), Dr d H H' → H r = none → LsN H' r R → Stp m R → R.length ≤ 8 → Q (.ref r) H'
structure MoS (d : Addr) (H H' : Hp) (b : Addr) (B : List Nat) (m l : Nat) : Prop where
  dr : Dr d H H'
  bd : b ≠ d
  hb : LsN H' b B
  len : B.length ≤ l
  lt : ∀ x ∈ B, x < 2 ^ m
theorem MoS.snoc {d : Addr} {H H1 : Hp} {b l2 l3 : Addr} {B : List Nat} {m l y : Nat} {v : V} (x : MoS d H H1 b B m l) (hl2 : H1 l2 = none) (hl3 : upd H1 l2 (.lst [v]) l3 = none) (ev : v = iV y) (hy : y < 2 ^ m) :
    MoS d H (upd (upd H1 l2 (.lst [v])) l3 (.lst (B.map iV ++ [v]))) l3 (B ++ [y]) m (l + 1) := by
  subst ev
  have d1 := x.dr.new hl2 (.lst [iV y])
  refine ⟨d1.new hl3 _, d1.ne hl3, by unfold LsN; rw [upd_same, List.map_append]; rfl, by rw [List.length_append]; exact Nat.succ_le_succ x.len, fun z hz => ?_⟩
  rcases List.mem_append.mp hz with h | h
  · exact x.lt z h
  · rw [List.mem_singleton.mp h]; exact hy
theorem MoS.more {d : Addr} {H H1 : Hp} {b : Addr} {B : List Nat} {m l : Nat} (x : MoS d H H1 b B m l) : MoS d H H1 b B m (l + 1) := ⟨x.dr, x.bd, x.hb, Nat.le_succ_of_le x.len, x.lt⟩
theorem MoS.take {d : Addr} {H H1 : Hp} {b : Addr} {B : List Nat} {m l : Nat} (x : MoS d H H1 b B m l) (q : Int) : MoS d H (upd H1 d (.lst [.int q])) b B m l := ⟨x.dr.take q, x.bd, by unfold LsN; rw [upd_ne x.bd]; exact x.hb, x.len, x.lt⟩
noncomputable def mxM (os : List Nat) (s j : Nat) : Nat := ((((List.range j).filter fun k => s.testBit k).map fun k => os.getD k 0).map fun l => 2 ^ l).sum
theorem mxM_on {os : List Nat} {s j : Nat} (h : s.testBit j = true) (hj : j < os.length) : mxM os s (j + 1) = mxM os s j + 2 ^ os[j] := by
  unfold mxM
  rw [List.range_succ, List.filter_append, List.map_append, List.map_append, List.sum_append, List.filter_cons_of_pos (by exact h)]
  simp [List.getD_eq_getElem?_getD, List.getElem?_eq_getElem hj]
theorem mxM_off {os : List Nat} {s j : Nat} (h : ¬ s.testBit j = true) : mxM os s (j + 1) = mxM os s j := by
  unfold mxM
  rw [List.range_succ, List.filter_append, List.filter_cons_of_neg (by exact h)]
  simp
theorem mxM_lt {os : List Nat} {m : Nat} (hl : os.length = m) (nd : os.Nodup) (lt : ∀ x ∈ os, x < m) (s : Nat) : mxM os s m < 2 ^ m := by
  have e : (List.range m).map (fun k => os.getD k 0) = os := by
    refine List.ext_getElem (by rw [List.length_map, List.length_range, hl]) fun i h1 h2 => ?_
    simp [List.getD_eq_getElem?_getD, List.getElem?_eq_getElem h2]
  have sub : (((List.range m).filter fun k => s.testBit k).map fun k => os.getD k 0).Sublist os := by
    conv => rhs; rw [← e]
    exact (List.filter_sublist).map _
  exact pows_lt (nd.sublist sub) fun l hl => lt l (sub.subset hl)
theorem erase_perm' {α : Type} : ∀ (l : List α) (i : Nat) (x : α), l[i]? = some x → ([x] ++ l.eraseIdx i).Perm l
  | [], i, x, h => by simp at h
  | a :: l, 0, x, h => by
    have : a = x := by simpa using h
    subst this
    exact List.Perm.refl _
  | a :: l, i + 1, x, h => by
    have ih := erase_perm' l i x (by simpa using h)
    show (x :: a :: l.eraseIdx i).Perm (a :: l)
    exact (List.Perm.swap _ _ _).trans (List.Perm.cons _ ih)
section
variable {P : Program} {w : World} {K : PySem.W.Frag} {mg : Str → Option Value} {base : Heap} {f f1 f2 f3 : Addr} {fd fd1 fd2 fd3 : FuncData}
abbrev moN : List Str := ["_law_draw", "_law_many", "_law_base", "_law_way", "_law_old", "_law_new"]
abbrev moC : List Str := ["_law_step", "_law_new", "_law_old"]
theorem scMor : FnScope moN ["_law_draw", "_law_many", "_law_base"] (defScope sMor) := ⟨rfl, rfl, rfl, by decide +kernel, rfl, by decide +kernel, by decide +kernel⟩
set_option maxHeartbeats 16000000 in
theorem ok_mor (F : Fun K "_law_more" "_law_more" sMor f fd) (G : FnOk P w K mg base CX0 1 f1 fd1 ["_law_draw", "_law_many"] spTake) (bG : Binds K fd1 ["_law_draw", "_law_many"] []) (kG : PySem.W.keepIn K (.ref f1) = true) (mG : mg "_law_take" = some (.ref f1))
    (G2 : FnOk P w K mg base CX0 4 f2 fd2 ["_law_masks"] spLSt) (bG2 : Binds K fd2 ["_law_masks"] []) (kG2 : PySem.W.keepIn K (.ref f2) = true) (mG2 : mg "_law_steps" = some (.ref f2)) (mma : mg "max" = none) (mi : mg "int" = none) :
    FnOk P w K mg base CX0 5 f fd ["_law_draw", "_law_many", "_law_base"] spMor := by
  refine F.ok scMor (fun vs H Q E h => ?_) (fun cdv A outer s H vs Q E hr h => ?_)
  · obtain ⟨d, n, m, p, S, rfl, _⟩ := h
    rfl
  obtain ⟨d, n, m, p, S, rfl, hd, pd, hp, lS, m11, lt, q⟩ := h
  have hr1 := hr.mono (j := 1) (by decide)
  refine ⟨_, pss_cons (ps_set (i := 3) scMor.nd rfl (Or.inl rfl) (pe_call G hr1 rfl mG kG bG .nil pass0 (pa_cons (pv 0) (pa_cons pe_int pa_nil))))
    (pss_cons (ps_cutE (ps_set (i := 4) scMor.nd rfl (Or.inr rfl) (pe_op op_shl pe_int (pe_op op_mod (pe_call G hr1 rfl mG kG bG .nil pass0 (pa_cons (pv 0) (pa_cons (pe_op op_add (pv 1) pe_int) pa_nil))) (pe_callB (call_max2 rfl) rfl mma boot_max7 (pa_cons pe_int (pa_cons (pv 1) pa_nil)))))))
    (pss_cons (ps_cutE (ps_set (i := 5) scMor.nd rfl (Or.inr rfl) (pe_op op_shl pe_int (pv 1))))
    (pss_cons (ps_cutE (ps_if (PW.pt (pw_and (pt_cmpR op_eq (pv 3) pe_int (nomark _)) (pw_and1 (pt_cmpR op_gt (pv 1) pe_int (nomark _))))) (pss_one (ps_set (i := 2) scMor.nd rfl (Or.inl rfl) (pe_op op_cat (pv 2) (pe_lst (pa_cons (pe_op op_add (pv 4) (pv 5)) pa_nil))))) pss_nil))
    (pss_cons (ps_cutE (ps_if (pt_cmpR op_eq (pv 3) pe_int (nomark _)) (pss_one (ps_lc (i := 2) (N := moN) (sc := defScope sMor) (N' := moC) (sub := [none, some 5, some 4]) rfl rfl (CmpOk.of (by decide +kernel)) rfl (pi_list (pv 2))
      (fun C s H fp => ⟨pg_name (i := 0) (by show moC.Nodup; decide) rfl (Or.inl rfl), pts_nil, pe_op op_add (pv 0) (pe_op op_mul (pv 1) (pe_callTy call_int1 rfl mi boot_int5 (pa_cons (pe_cmpR op_ne (pe_op op_and (pv 0) (pv 2)) pe_int (nomark _)) pa_nil)))⟩) scMor.nd rfl (Or.inl rfl))) pss_nil))
    (pss_cons (ps_cutE (ps_if (pt_cmpR op_eq (pv 3) pe_int (nomark _)) (pss_one (ps_set (i := 2) scMor.nd rfl (Or.inl rfl) (pe_op op_cat (pv 2) (pe_lst (pa_cons (pv 5) pa_nil))))) pss_nil))
    (pss_cons (ps_cutE (ps_if (PW.pt (pw_and (pt_cmpR op_eq (pv 3) pe_int (nomark _)) (pw_and1 (pt_cmpR op_gt (pv 1) pe_int (nomark _))))) (pss_one (ps_set (i := 2) scMor.nd rfl (Or.inl rfl) (pe_op op_cat (pv 2) (pe_lst (pa_cons (pe_op op_add (pe_call G hr1 rfl mG kG bG .nil pass0 (pa_cons (pv 0) (pa_cons (pe_op op_shl pe_int (pv 1)) pa_nil))) (pv 5)) pa_nil))))) pss_nil))
    (pss_one (ps_ret (pe_tup (pa_cons (pe_op op_add (pv 1) pe_int) (pa_cons (pe_call G2 hr rfl mG2 kG2 bG2 .nil pass0 (pa_cons (pv 2) pa_nil)) pa_nil))))))))))), ?_⟩
  refine ⟨_, rfl, d, n, 5, rfl, hd, by decide, by decide, fun q1 way wa wb => ?_⟩
  refine ⟨fun σ' H' => ∃ (o : Nat) (q2 : Int), σ' = [some (.ref d), some (iV m), some (.ref p), some (.int way), some (iV (2 ^ o)), none] ∧ H' = upd H d (.lst [.int q2]) ∧ (0 < m → o < m), ?_, ?_⟩
  · refine ⟨_, rfl, _, rfl, _, _, rfl, rfl, d, q1, _, rfl, upd_same, by omega, by omega, fun q2 z za zb => ?_⟩
    rw [upd_upd]
    have mx : (0 : Int) < (if (m : Int) > 1 then (m : Int) else 1) := by split <;> omega
    have z0 := Int.emod_nonneg z (Int.ne_of_gt mx)
    have z1 := Int.emod_lt_of_pos z mx
    obtain ⟨o, eo⟩ := Int.eq_ofNat_of_zero_le z0
    refine ⟨_, rfl, _, _, rfl, _, _, rfl, rfl, mx, _, _, rfl, rfl, ⟨z0, ?_, by decide⟩, o, q2, ?_, rfl, fun m0 => ?_⟩
    · refine Int.le_of_lt (Int.lt_of_lt_of_le z1 ?_)
      split <;> omega
    · refine congrArg (fun v => [some (V.ref d), some (iV m), some (V.ref p), some (V.int way), some v, none]) ?_
      show V.int (1 * 2 ^ (z % (if (m : Int) > 1 then (m : Int) else 1)).toNat) = _
      rw [eo, shl_nat]
    · rw [eo] at z1
      split at z1 <;> omega
  rintro _ _ ⟨o, q2, rfl, rfl, om⟩
  refine ⟨fun σ' H' => σ' = [some (.ref d), some (iV m), some (.ref p), some (.int way), some (iV (2 ^ o)), some (iV (2 ^ m))] ∧ H' = upd H d (.lst [.int q2]), ?_, ?_⟩
  · refine ⟨_, rfl, _, _, rfl, rfl, ⟨by omega, by omega, by decide⟩, ?_, rfl⟩
    refine congrArg (fun v => [some (V.ref d), some (iV m), some (V.ref p), some (V.int way), some (iV (2 ^ o)), some v]) ?_
    show V.int (1 * 2 ^ ((m : Nat) : Int).toNat) = _
    rw [shl_nat]
  rintro _ _ ⟨rfl, rfl⟩
  have pm : 2 ^ m ≤ 2 ^ 11 := Nat.pow_le_pow_right (by decide) m11
  have pp : 2 ^ (m + 1) = 2 ^ m + 2 ^ m := by rw [Nat.pow_succ]; omega
  have p0 : 0 < 2 ^ m := Nat.pow_pos (by decide)
  have M0 : MoS d H (upd H d (.lst [.int q2])) p S (m + 1) 20 := ⟨(Dr.refl hd).take q2, pd, by unfold LsN; rw [upd_ne pd]; exact hp, lS, fun x hx => by have := lt x hx; omega⟩
  refine ⟨fun σ' H' => ∃ b B, σ' = [some (.ref d), some (iV m), some (.ref b), some (.int way), some (iV (2 ^ o)), some (iV (2 ^ m))] ∧ MoS d H H' b B (m + 1) 21 ∧ (way = 0 ∨ ∀ x ∈ B, x < 2 ^ m), ?_, ?_⟩
  · refine ⟨_, rfl, rfl, _, rfl, ite2 (fun c1 => ⟨_, rfl, _, _, rfl, rfl, _, rfl, ?_⟩) (fun c1 => iteF ⟨p, S, rfl, M0.more, .inr lt⟩)⟩
    have w0 : way = 0 := by simpa using c1
    refine ite2 (fun c2 => ?_) (fun c2 => ⟨p, S, rfl, M0.more, .inr lt⟩)
    have m0 : 0 < m := by have : (0 : Int) < (m : Int) := of_decide_eq_true c2; omega
    have ol : 2 ^ o < 2 ^ m := Nat.pow_lt_pow_right (by decide) (om m0)
    refine ⟨_, rfl, _, rfl, _, rfl, _, _, rfl, rfl, (by show 1 ≤ sizeLine; decide), fun l2 hl2 => ?_⟩
    have nb : p ≠ l2 := ne_of_none M0.hb hl2
    refine ⟨p, l2, _, _, rfl, rfl, by rw [upd_ne nb]; exact M0.hb, upd_same, ?_, fun l3 hl3 => ?_⟩
    · rw [List.length_map]; show _ + 1 ≤ sizeLine; exact Nat.le_of_lt (small1000 (by omega))
    exact ⟨l3, S ++ [2 ^ o + 2 ^ m], rfl, M0.snoc hl2 hl3 (by show V.int _ = V.int _; rw [Int.natCast_add]) (by omega), .inl w0⟩
  rintro _ H1 ⟨b, B, rfl, M1, w1⟩
  refine ⟨fun σ' H' => ∃ b B, σ' = [some (.ref d), some (iV m), some (.ref b), some (.int way), some (iV (2 ^ o)), some (iV (2 ^ m))] ∧ MoS d H H' b B (m + 1) 22, ?_, ?_⟩
  · refine ⟨_, rfl, rfl, _, rfl, ite2 (fun c1 => ?_) (fun c1 => ⟨b, B, rfl, M1.more⟩)⟩
    have w1' : way = 1 := by simpa using c1
    have ltB : ∀ x ∈ B, x < 2 ^ m := by
      rcases w1 with h | h
      · omega
      · exact h
    have lB := M1.len
    refine ⟨_, rfl, b, rfl, ⟨_, SqL.of M1.hb⟩, ?_⟩
    refine turns_list (xs := B.map iV) (fun j ys H2 => H2 = H1 ∧ ∃ ns : List Nat, ys = ns.map iV ∧ ns.length = j ∧ ∀ x ∈ ns, x < 2 ^ (m + 1)) ⟨rfl, [], rfl, rfl, fun x hx => by cases hx⟩ (fun j ys H2 _ z => by rw [z.1]; exact SqL.of M1.hb) ?_ ?_
    · rintro j v ys H2 hx ⟨rfl, ns, rfl, ln, ltn⟩
      obtain ⟨x, rfl, hx'⟩ := iv_get hx
      have xl := ltB x (List.mem_of_getElem? hx')
      have hj := at_lt hx'
      refine ⟨Sle.set _ (Sle.refl _) (fun u z => by cases z), iteT (B := False) ?_⟩
      refine ⟨_, rfl, _, rfl, _, rfl, _, rfl, _, _, rfl, rfl, rfl, .inr ⟨_, rfl, _, _, rfl, rfl, .inl ⟨by omega, by omega⟩, _, _, rfl, rfl, by rw [List.length_map]; exact small1000 (by omega), nxt (at_lt hx) ⟨rfl, ?_⟩⟩⟩
      generalize (!decide (V.int (Builtin.bitAnd (x : Int) ((2 ^ o : Nat) : Int)) = V.int 0)) = c
      cases c
      · refine ⟨ns ++ [x], ?_, by rw [List.length_append, ln]; rfl, fun y hy => ?_⟩
        · rw [List.map_append]
          refine congrArg (fun v => ns.map iV ++ [v]) ?_
          show V.int ((x : Int) + ((2 ^ m : Nat) : Int) * 0) = V.int _
          rw [Int.mul_zero, Int.add_zero]
        · rcases List.mem_append.mp hy with h | h
          · exact ltn y h
          · rw [List.mem_singleton.mp h]; omega
      · refine ⟨ns ++ [x + 2 ^ m], ?_, by rw [List.length_append, ln]; rfl, fun y hy => ?_⟩
        · rw [List.map_append]
          refine congrArg (fun v => ns.map iV ++ [v]) ?_
          show V.int ((x : Int) + ((2 ^ m : Nat) : Int) * 1) = V.int _
          rw [Int.mul_one, Int.natCast_add]
        · rcases List.mem_append.mp hy with h | h
          · exact ltn y h
          · rw [List.mem_singleton.mp h]; omega
    · rintro ys H2 ⟨rfl, ns, rfl, ln, ltn⟩ l hl
      rw [List.length_map] at ln
      exact ⟨l, ns, rfl, ⟨M1.dr.new hl _, M1.dr.ne hl, upd_same, by omega, ltn⟩⟩
  rintro _ H2 ⟨b, B, rfl, M2⟩
  refine ⟨fun σ' H' => ∃ b B, σ' = [some (.ref d), some (iV m), some (.ref b), some (.int way), some (iV (2 ^ o)), some (iV (2 ^ m))] ∧ MoS d H H' b B (m + 1) 23, ?_, ?_⟩
  · refine ⟨_, rfl, rfl, _, rfl, ite2 (fun c1 => ?_) (fun c1 => ⟨b, B, rfl, M2.more⟩)⟩
    have lB := M2.len
    refine ⟨_, rfl, _, rfl, (by show 1 ≤ sizeLine; decide), fun l2 hl2 => ?_⟩
    have nb : b ≠ l2 := ne_of_none M2.hb hl2
    refine ⟨b, l2, _, _, rfl, rfl, by rw [upd_ne nb]; exact M2.hb, upd_same, ?_, fun l3 hl3 => ?_⟩
    · rw [List.length_map]; show _ + 1 ≤ sizeLine; exact Nat.le_of_lt (small1000 (by omega))
    exact ⟨l3, B ++ [2 ^ m], rfl, M2.snoc hl2 hl3 rfl (by omega)⟩
  rintro _ H3 ⟨b, B, rfl, M3⟩
  refine ⟨fun σ' H' => ∃ b B, σ' = [some (.ref d), some (iV m), some (.ref b), some (.int way), some (iV (2 ^ o)), some (iV (2 ^ m))] ∧ MoS d H H' b B (m + 1) 24, ?_, ?_⟩
  · refine ⟨_, rfl, rfl, _, rfl, ite2 (fun c1 => ⟨_, rfl, _, _, rfl, rfl, _, rfl, ?_⟩) (fun c1 => iteF ⟨b, B, rfl, M3.more⟩)⟩
    refine ite2 (fun c2 => ?_) (fun c2 => ⟨b, B, rfl, M3.more⟩)
    have lB := M3.len
    obtain ⟨q5, z5⟩ := M3.dr.1
    refine ⟨_, rfl, _, rfl, _, rfl, _, _, rfl, rfl, ⟨by omega, by omega, by decide⟩, d, q5, _, rfl, z5, ?_, ?_, fun q6 z za zb => ?_⟩
    · show (0 : Int) < 1 * 2 ^ ((m : Nat) : Int).toNat
      rw [shl_nat]; omega
    · show 1 * 2 ^ ((m : Nat) : Int).toNat < (1073741824 : Int)
      rw [shl_nat]; omega
    have zb' : z < ((2 ^ m : Nat) : Int) := by
      have := zb
      change z < 1 * 2 ^ ((m : Nat) : Int).toNat at this
      rw [shl_nat] at this; exact this
    obtain ⟨z, rfl⟩ := Int.eq_ofNat_of_zero_le za
    have M4 := M3.take q6
    refine ⟨_, rfl, _, _, rfl, rfl, (by show 1 ≤ sizeLine; decide), fun l2 hl2 => ?_⟩
    have nb : b ≠ l2 := ne_of_none M4.hb hl2
    refine ⟨b, l2, _, _, rfl, rfl, by rw [upd_ne nb]; exact M4.hb, upd_same, ?_, fun l3 hl3 => ?_⟩
    · rw [List.length_map]; show _ + 1 ≤ sizeLine; exact Nat.le_of_lt (small1000 (by omega))
    exact ⟨l3, B ++ [z + 2 ^ m], rfl, M4.snoc hl2 hl3 (by show V.int _ = V.int _; rw [Int.natCast_add]) (by omega)⟩
  rintro _ H4 ⟨b, B, rfl, M4⟩
  have lB := M4.len
  refine ⟨_, rfl, _, _, rfl, rfl, _, rfl, b, B, m + 1, rfl, M4.hb, by omega, by omega, M4.lt, fun r R H5 e5 r0 hR pR oR => ?_⟩
  refine ⟨(by show 2 ≤ sizeLine; decide), fun T hT => ?_⟩
  have d5 := M4.dr.ext e5
  have nT := Ext.new hT (.tup [V.int ((m : Int) + 1), .ref r])
  exact q T r R _ (d5.new hT _) (d5.none hT) upd_same (M4.dr.none r0) (nT _ _ hR) ⟨B, M4.lt, pR, oR⟩
abbrev mxN : List Str := ["_law_draw", "_law_many", "_law_base", "_law_order", "_law_still", "_law_found", "_law_step", "_law_mask_here", "_law_k"]
theorem scMix : FnScope mxN ["_law_draw", "_law_many", "_law_base"] (defScope sMix) := ⟨rfl, rfl, rfl, by decide +kernel, rfl, by decide +kernel, by decide +kernel⟩
set_option maxHeartbeats 16000000 in
theorem ok_mix (F : Fun K "_law_mixed_names" "_law_mixed_names" sMix f fd) (G : FnOk P w K mg base CX0 1 f1 fd1 ["_law_draw", "_law_many"] spTake) (bG : Binds K fd1 ["_law_draw", "_law_many"] []) (kG : PySem.W.keepIn K (.ref f1) = true) (mG : mg "_law_take" = some (.ref f1))
    (G2 : FnOk P w K mg base CX0 4 f2 fd2 ["_law_masks"] spLSt) (bG2 : Binds K fd2 ["_law_masks"] []) (kG2 : PySem.W.keepIn K (.ref f2) = true) (mG2 : mg "_law_steps" = some (.ref f2)) (mr : mg "range" = none) (mL : mg "list" = none) (ml : mg "len" = none) :
    FnOk P w K mg base CX0 5 f fd ["_law_draw", "_law_many", "_law_base"] spMix := by
  refine F.ok scMix (fun vs H Q E h => ?_) (fun cdv A outer s H vs Q E hr h => ?_)
  · obtain ⟨d, n, m, p, S, rfl, _⟩ := h
    rfl
  obtain ⟨d, n, m, p, S, rfl, hd, pd, hp, lS, m12, q⟩ := h
  have hr1 := hr.mono (j := 1) (by decide)
  refine ⟨_, pss_cons (ps_set (i := 3) scMix.nd rfl (Or.inl rfl) (pe_lst pa_nil))
    (pss_cons (ps_set (i := 4) scMix.nd rfl (Or.inl rfl) (pe_callTy (call_list_rng rfl) rfl mL boot_list' (pa_cons (pe_callTy call_range1' rfl mr boot_range' (pa_cons (pv 1) pa_nil)) pa_nil)))
    (pss_cons (ps_while PassesOwn.never (pt_cmpR (op_neD (room64 hr)) (pv 4) (pe_lst pa_nil) (nomark _))
      (pss_one (ps_expr (pe_bm PySem.F.plainAttrs_list PySem.F.slot_list_append PySem.F.type_list_append mt_append (pv 3) (pa_cons (pe_bm PySem.F.plainAttrs_list PySem.F.slot_list_pop PySem.F.type_list_pop mt_popAt (pv 4) (pa_cons (pe_call G hr1 rfl mG kG bG .nil pass0 (pa_cons (pv 0) (pa_cons (pe_callB call_len_seq rfl ml PySem.boot_len (pa_cons (pv 4) pa_nil)) pa_nil))) pa_nil)) pa_nil)))))
    (pss_cons (ps_set (i := 5) scMix.nd rfl (Or.inl rfl) (pe_lst pa_nil))
    (pss_cons (ps_for PassesOwn.never rfl (pi_list (pv 2)) (pg_name (i := 6) scMix.nd rfl (Or.inl rfl))
      (pss_cons (ps_set (i := 7) scMix.nd rfl (Or.inl rfl) pe_int)
      (pss_cons (ps_for PassesOwn.never rfl (pi_range1 rfl mr (pa_cons (pv 1) pa_nil)) (pg_name (i := 8) scMix.nd rfl (Or.inl rfl))
        (pss_one (ps_if (pt_cmpR op_eq (pe_op op_and (pe_op op_shr (pv 6) (pv 8)) pe_int) pe_int (nomark _))
          (pss_one (ps_set (i := 7) scMix.nd rfl (Or.inl rfl) (pe_op op_add (pv 7) (pe_op op_shl pe_int (pe_ix ix_list (pv 3) (pv 8) (fun _ _ => rfl)))))) pss_nil)))
      (pss_one (ps_expr (pe_bm PySem.F.plainAttrs_list PySem.F.slot_list_append PySem.F.type_list_append mt_append (pv 5) (pa_cons (pv 7) pa_nil)))))))
    (pss_one (ps_ret (pe_call G2 hr rfl mG2 kG2 bG2 .nil pass0 (pa_cons (pv 5) pa_nil)))))))), ?_⟩
  refine ⟨Nat.zero_le _, fun o o0 => ?_⟩
  have n1 := Ext.new o0 (.lst [])
  refine ⟨_, rfl, (m : Int), rfl, by omega, by omega, fun g g1 => ?_⟩
  have n2 := n1.trans (Ext.new g1 (.rng 0 (m : Int)))
  refine ⟨g, (m : Int), rfl, upd_same, by omega, by omega, fun st st2 => ?_⟩
  have st0 := n2.none st2
  have n3 := n2.trans (Ext.new st2 (.lst ((List.range ((m : Int)).toNat).map fun (i : Nat) => V.int (i : Int))))
  have ho3 : LsN (upd (upd (upd H o (.lst [])) g (.rng 0 (m : Int))) st (.lst ((List.range ((m : Int)).toNat).map fun (i : Nat) => V.int (i : Int)))) o [] := ((Ext.new g1 _).trans (Ext.new st2 _)) _ _ upd_same
  have hs3 : LsN (upd (upd (upd H o (.lst [])) g (.rng 0 (m : Int))) st (.lst ((List.range ((m : Int)).toNat).map fun (i : Nat) => V.int (i : Int)))) st (List.range m) := by unfold LsN; rw [upd_same, Int.toNat_natCast]
  have os : o ≠ st := ne_of_none ((Ext.new g1 (.rng 0 (m : Int))) _ _ (upd_same (H := H) (a := o) (o := .lst []))) st2
  have dr3 := (Dr.refl hd).ext n3
  have od := purse_ne hd o0
  have sd := purse_ne hd st0
  refine ⟨fun k σ H' => ∃ (oo ss : List Nat), k = ss.length ∧ σ = [some (.ref d), some (iV m), some (.ref p), some (.ref o), some (.ref st), none, none, none, none] ∧ Dr d H H' ∧ LsN H' o oo ∧ LsN H' st ss ∧ (oo ++ ss).Perm (List.range m), ⟨_, [], List.range m, rfl, rfl, dr3, ho3, hs3, List.Perm.refl _⟩, ?_⟩
  rintro k σ H' ⟨oo, ss, rfl, rfl, dr, hO, hS, pm⟩
  have lpm := pm.length_eq
  rw [List.length_append, List.length_range] at lpm
  refine ⟨_, rfl, Nat.zero_le _, fun e0 he0 => ?_⟩
  have ne := Ext.new he0 (.lst [])
  have drE := dr.ext ne
  have hO' := ne _ _ hO
  have hS' := ne _ _ hS
  have hE' : LsN (upd H' e0 (.lst [])) e0 [] := upd_same
  revert drE hO' hS' hE'
  generalize upd H' e0 (.lst []) = H1
  intro drE hO' hS' hE'
  refine ⟨intD ss, intD [], dr_iv hS', dr_iv hE', shaped_iv _, shaped_iv _, _, rfl, ?_⟩
  rw [if_pos rfl, eqv_nil]
  refine ite2 (fun c => ?_) (fun c => ?_)
  · have s0 : 0 < ss.length := by
      cases ss with
      | nil => exact absurd c (by decide)
      | cons a r => exact Nat.succ_pos _
    refine ⟨fun σ' H2 => ∃ k', k' < ss.length ∧ ∃ (oo ss : List Nat), k' = ss.length ∧ σ' = [some (.ref d), some (iV m), some (.ref p), some (.ref o), some (.ref st), none, none, none, none] ∧ Dr d H H2 ∧ LsN H2 o oo ∧ LsN H2 st ss ∧ (oo ++ ss).Perm (List.range m), fun σ' H2 z => z, ?_⟩
    obtain ⟨q0, z0⟩ := drE.1
    refine ⟨_, rfl, .inl ⟨rfl, _, SqL.of hO'⟩, _, rfl, .inl ⟨rfl, _, SqL.of hS'⟩, _, rfl, _, rfl, st, _, rfl, .inl (SqL.of hS'), d, q0, _, rfl, z0, by rw [List.length_map]; omega, by rw [List.length_map]; omega, fun q1 j ja jb => ?_⟩
    rw [List.length_map] at jb
    obtain ⟨j, rfl⟩ := Int.eq_ofNat_of_zero_le ja
    have jl : j < ss.length := by omega
    have hx := List.getElem?_eq_getElem jl
    have sq : seqIndex? (j : Int) (ss.map iV).length = some j := by
      have := PySem.StrLaws.seqIndex_nonneg (i := (j : Int)) (n := (ss.map iV).length) (by omega) (by rw [List.length_map]; omega)
      rw [Int.toNat_natCast] at this
      exact this
    have drT := drE.take q1
    refine ⟨st, ss.map iV, (j : Int), j, iV ss[j], rfl, rfl, by rw [upd_ne sd]; exact hS', by omega, by omega, sq, by rw [List.getElem?_map, hx]; rfl, ?_⟩
    refine ⟨o, oo.map iV, iV ss[j], rfl, rfl, by rw [upd_ne os, upd_ne od]; exact hO', by rw [List.length_map]; exact small1000 (by omega), ?_⟩
    have le : (ss.eraseIdx j).length = ss.length - 1 := List.length_eraseIdx_of_lt jl
    refine ⟨_, by omega, oo ++ [ss[j]], ss.eraseIdx j, rfl, rfl, (drT.over st0 sd _).over o0 od _, ?_, ?_, ?_⟩
    · unfold LsN; rw [upd_same, List.map_append]; rfl
    · unfold LsN; rw [upd_ne (Ne.symm os), upd_same, List.eraseIdx_eq_take_drop_succ, List.eraseIdx_eq_take_drop_succ, List.map_append, List.map_take, List.map_drop]
    · refine List.Perm.trans ?_ pm
      rw [List.append_assoc]
      refine List.Perm.append_left oo ?_
      exact erase_perm' ss j _ hx
  · have sn : ss = [] := by
      cases ss with
      | nil => rfl
      | cons a r => exact absurd rfl c
    subst sn
    rw [List.append_nil] at pm
    have ndo : oo.Nodup := pm.nodup_iff.mpr List.nodup_range
    have lto : ∀ x ∈ oo, x < m := fun x hx => List.mem_range.mp (pm.mem_iff.mp hx)
    have lo' : oo.length = m := by rw [pm.length_eq, List.length_range]
    have hp1 : LsN H1 p S := drE.2 _ _ pd hp
    refine ⟨Nat.zero_le _, fun fo fo1 => ?_⟩
    have fo0 := drE.none fo1
    have fod := drE.ne fo1
    have n4 := Ext.new fo1 (.lst [])
    have dr4 := drE.ext n4
    refine ⟨_, rfl, p, rfl, ⟨_, SqL.of (n4 _ _ hp1)⟩, ?_⟩
    refine for_list (xs := S.map iV) (fun i σ H2 => ∃ (x6 x7 x8 : Option V) (fs : List Nat), σ = [some (.ref d), some (iV m), some (.ref p), some (.ref o), some (.ref st), some (.ref fo), x6, x7, x8] ∧ Dr d H H2 ∧ LsN H2 o oo ∧ LsN H2 fo fs ∧ fs.length = i ∧ ∀ x ∈ fs, x < 2 ^ m) ⟨none, none, none, [], rfl, dr4, n4 _ _ hO', upd_same, rfl, fun x hx => by cases hx⟩ (fun i σ H2 _ z => by obtain ⟨_, _, _, _, _, e, _⟩ := z; exact SqL.of (e.2 _ _ pd hp)) ?_ ?_
    · rintro i v σ H2 hx ⟨x6, x7, x8, fs, rfl, dr2, hO2, hF2, lf, ltf⟩
      obtain ⟨s, rfl, hs⟩ := iv_get hx
      have hi := at_lt hs
      have ofo : o ≠ fo := ne_of_none hO' fo1
      refine ⟨_, rfl, (m : Int), rfl, by omega, by omega, ?_⟩
      refine for_range (lo := 0) (n := ((m : Int)).toNat) (fun j σ H3 => H3 = H2 ∧ ∃ x8 : Option V, σ = [some (.ref d), some (iV m), some (.ref p), some (.ref o), some (.ref st), some (.ref fo), some (iV s), some (iV (mxM oo s j)), x8]) ⟨rfl, x8, rfl⟩ ?_ ?_
      · rintro j σ H3 hj ⟨rfl, x8, rfl⟩
        have hj' : j < oo.length := by omega
        rw [show (0 + (j : Int)) = ((j : Nat) : Int) by omega]
        refine ⟨_, rfl, _, rfl, _, _, rfl, rfl, (by show (0 : Int) ≤ _; omega), _, _, rfl, rfl, rfl, _, rfl, ?_⟩
        have key2 : (decide (V.int (Builtin.bitAnd ((s : Int) / 2 ^ ((j : Nat) : Int).toNat) 1) = V.int 1) = true) ↔ s.testBit j = true := by
          rw [decide_eq_true_iff, V.int.injEq, Int.toNat_natCast, shr_one]
          by_cases b : s.testBit j = true
          · simp [b]
          · simp [b]
        refine ite2 (fun c2 => ?_) (fun c2 => ?_)
        · have ol := lto _ (List.getElem_mem hj')
          refine ⟨_, rfl, _, rfl, _, rfl, o, _, _, _, rfl, rfl, SqL.of hO2, at_iv hj', _, _, rfl, rfl, ⟨by omega, by omega, by decide⟩, _, _, rfl, rfl, rfl, some (iV j), ?_⟩
          refine congrArg (fun v => [some (V.ref d), some (iV m), some (V.ref p), some (V.ref o), some (V.ref st), some (V.ref fo), some (iV s), some v, some (iV j)]) ?_
          show V.int (((mxM oo s j : Nat) : Int) + 1 * 2 ^ ((oo[j] : Nat) : Int).toNat) = V.int _
          rw [mxM_on (key2.mp c2) hj', shl_nat, Int.natCast_add]
        · refine ⟨rfl, some (iV j), ?_⟩
          rw [mxM_off fun z => c2 (key2.mpr z)]
          rfl
      · rintro σ H3 ⟨rfl, x8, rfl⟩
        rw [Int.toNat_natCast]
        refine ⟨_, rfl, .inl ⟨rfl, _, SqL.of hF2⟩, _, rfl, fo, _, _, rfl, rfl, hF2, by rw [List.length_map]; exact small1000 (by omega), ?_⟩
        refine ⟨_, _, _, fs ++ [mxM oo s m], rfl, dr2.over fo0 fod _, by unfold LsN; rw [upd_ne ofo]; exact hO2, by unfold LsN; rw [upd_same, List.map_append]; rfl, by rw [List.length_append, lf]; rfl, fun x hx => ?_⟩
        rcases List.mem_append.mp hx with h | h
        · exact ltf x h
        · rw [List.mem_singleton.mp h]; exact mxM_lt lo' ndo lto s
    · rintro σ H2 ⟨x6, x7, x8, fs, rfl, dr2, hO2, hF2, lf, ltf⟩
      rw [List.length_map] at lf
      refine ⟨_, rfl, fo, fs, m, rfl, hF2, by omega, by omega, ltf, fun r R H3 e3 r0 hR pR oR => ?_⟩
      refine q r R H3 (dr2.ext e3) (dr2.none r0) hR ⟨fs, ltf, pR, oR⟩ ?_
      rw [pR.length_eq]
      exact Nat.le_trans (redL_le _) (by omega)
end
end My
namespace My
open PySem L2
def spSma : Sp := fun vs H Q _ => ∃ (d : Addr) (n : Int), vs = [.ref d] ∧ H d = some (.lst [.int n]) ∧
  ∀ (T r : Addr) (m : Nat) (R : List Nat) (H' : Hp), Dr d H H' → H T = none → H' T = some (.tup [iV m, .ref r]) → H r = none → LsN H' r R → Stp m R → 7 ≤ m → m ≤ 10 → Q (.ref T) H'
theorem ixN_nat {n j : Nat} (h : j < n) : ixN n ((j : Nat) : Int) = some j := by
  unfold ixN
  rw [if_pos (by omega), if_pos (by omega)]; simp
def esT : List Expr := match (defBody sSma).getD 2 (.Pass ⟨0, 0, 0, 0⟩) with
  | .Assign _ (.List es _) _ => es
  | _ => []
theorem st2f : ∃ p pos pos', (defBody sSma).getD 2 (.Pass ⟨0, 0, 0, 0⟩) = .Assign [.Name "_law_ties_here" pos'] (.List esT p) pos := ⟨_, _, _, rfl⟩
theorem swaps_list {es : List Expr} {p : Pos} {tg : Option Expr} {l : Nat} {env : Env} : swapsWith (.List es p) tg l env = pure false := rfl
abbrev t2c (a b : Int) : TE := tTup (tCons (tC (.int a)) (tCons (tC (.int b)) tNil))
def T10 : TA := (tCons (t2c 0 1) (tCons (t2c 0 2) (tCons (t2c 0 3) (tCons (t2c 0 4) (tCons (t2c 1 2) (tCons (t2c 1 3) (tCons (t2c 1 4) (tCons (t2c 2 3) (tCons (t2c 2 4) (tCons (t2c 3 4) (tNil)))))))))))
theorem pa_tup2 {X : Cx} {a b : Int} {i j c : Nat} {p1 p2 p3 : Pos} {es : List Expr} {t : TA} (h : PA X es t) : PA X (.Tuple [.Constant (.int a) i p1, .Constant (.int b) j p2] c p3 :: es) (tCons (t2c a b) t) :=
  pa_cons (pe_tup (pa_cons pe_int (pa_cons pe_int pa_nil))) h rfl
theorem pa_es {X : Cx} : PA X esT T10 := by
  unfold esT T10
  refine pa_tup2 (a := 0) (b := 1) ?_
  refine pa_tup2 (a := 0) (b := 2) ?_
  refine pa_tup2 (a := 0) (b := 3) ?_
  refine pa_tup2 (a := 0) (b := 4) ?_
  refine pa_tup2 (a := 1) (b := 2) ?_
  refine pa_tup2 (a := 1) (b := 3) ?_
  refine pa_tup2 (a := 1) (b := 4) ?_
  refine pa_tup2 (a := 2) (b := 3) ?_
  refine pa_tup2 (a := 2) (b := 4) ?_
  refine pa_tup2 (a := 3) (b := 4) ?_
  exact pa_nil
section
variable {P : Program} {w : World} {K : PySem.W.Frag} {mg : Str → Option Value} {base : Heap} {f f1 f2 f3 f4 : Addr} {fd fd1 fd2 fd3 fd4 : FuncData}
abbrev smaN : List Str := ["_law_draw", "_law_kind", "_law_bits", "_law_k", "_law_j", "_law_ties_here"]
theorem scSma : FnScope smaN ["_law_draw"] (defScope sSma) := ⟨rfl, rfl, rfl, by decide +kernel, rfl, by decide +kernel, by decide +kernel⟩
set_option maxHeartbeats 16000000 in
theorem ok_sma (F : Fun K "_law_small" "_law_small" sSma f fd) (G : FnOk P w K mg base CX0 1 f1 fd1 ["_law_draw", "_law_many"] spTake) (bG : Binds K fd1 ["_law_draw", "_law_many"] []) (kG : PySem.W.keepIn K (.ref f1) = true) (mG : mg "_law_take" = some (.ref f1))
    (G2 : FnOk P w K mg base CX0 4 f2 fd2 ["_law_masks"] spLSt) (bG2 : Binds K fd2 ["_law_masks"] []) (kG2 : PySem.W.keepIn K (.ref f2) = true) (mG2 : mg "_law_steps" = some (.ref f2))
    (G3 : FnOk P w K mg base CX0 5 f3 fd3 ["_law_base", "_law_many"] spLCr) (bG3 : Binds K fd3 ["_law_base", "_law_many"] []) (kG3 : PySem.W.keepIn K (.ref f3) = true) (mG3 : mg "_law_crossed" = some (.ref f3))
    (G4 : FnOk P w K mg base CX0 1 f4 fd4 ["_law_ties_here"] spStM) (bG4 : Binds K fd4 ["_law_ties_here"] []) (kG4 : PySem.W.keepIn K (.ref f4) = true) (mG4 : mg "_law_star_masks" = some (.ref f4))
    (mr : mg "range" = none) (ml : mg "len" = none) :
    FnOk P w K mg base CX0 6 f fd ["_law_draw"] spSma := by
  refine F.ok scSma (fun vs H Q E h => ?_) (fun cdv A outer s H vs Q E hr h => ?_)
  · obtain ⟨d, n, rfl, _⟩ := h
    rfl
  obtain ⟨d, n, rfl, hd, q⟩ := h
  have hr1 := hr.mono (j := 1) (by decide)
  have hr4 := hr.mono (j := 4) (by decide)
  obtain ⟨s2, hs2⟩ : ∃ s : Stmt, s = (defBody sSma).getD 2 (.Pass ⟨0, 0, 0, 0⟩) := ⟨_, rfl⟩
  have H2 : PS (cxOf CX0 P w K mg base smaN "_law_small" (defScope sSma) f cdv A outer s H E).nox s2 (tCutE (tAsg (tLst T10) (gName 5))) := by
    obtain ⟨p, po, po', e⟩ := st2f
    rw [hs2, e]
    have hp := @pa_es (cxOf CX0 P w K mg base smaN "_law_small" (defScope sSma) f cdv A outer s H E).nox
    generalize esT = es at hp ⊢
    generalize T10 = T at hp ⊢
    exact ps_cutE (ps_set (i := 5) scSma.nd rfl (Or.inl rfl) (pe_lst hp) swaps_list)
  have hb : defBody sSma = [(defBody sSma).getD 0 (.Pass ⟨0, 0, 0, 0⟩), (defBody sSma).getD 1 (.Pass ⟨0, 0, 0, 0⟩), s2, (defBody sSma).getD 3 (.Pass ⟨0, 0, 0, 0⟩), (defBody sSma).getD 4 (.Pass ⟨0, 0, 0, 0⟩)] := by rw [hs2]; rfl
  rw [hb]
  refine ⟨_, pss_cons (ps_set (i := 1) scSma.nd rfl (Or.inl rfl) (pe_call G hr1 rfl mG kG bG .nil pass0 (pa_cons (pv 0) (pa_cons pe_int pa_nil))))
    (pss_cons (ps_if (pt_cmpR op_lt (pv 1) pe_int (nomark _))
      (pss_cons (ps_set (i := 2) scSma.nd rfl (Or.inl rfl) (pe_lst (pa_cons pe_int (pa_cons pe_int (pa_cons pe_int pa_nil)))))
      (pss_cons (ps_for PassesOwn.never rfl (pi_range1 rfl mr (pa_cons pe_int pa_nil)) (pg_name (i := 3) scSma.nd rfl (Or.inl rfl))
        (pss_one (ps_for PassesOwn.never rfl (pi_range1 rfl mr (pa_cons pe_int pa_nil)) (pg_name (i := 4) scSma.nd rfl (Or.inl rfl))
          (pss_one (ps_asg (pe_op op_add (pe_ix ix_list (pv 2) (pv 4) (fun _ _ => rfl)) (pe_op op_shl (pe_op op_and (pe_op op_shr (pe_op op_add (pv 3) pe_int) (pv 4)) pe_int) (pv 3))) (pg_sub (pv 2) (pv 4) set_list))))))
      (pss_cons (ps_if (pt_cmpR op_eq (pv 1) pe_int (nomark _)) (pss_one (ps_ret (pe_tup (pa_cons pe_int (pa_cons (pe_call G3 hr rfl mG3 kG3 bG3 .nil pass0 (pa_cons (pe_call G2 hr4 rfl mG2 kG2 bG2 .nil pass0 (pa_cons (pv 2) pa_nil)) (pa_cons pe_int pa_nil))) pa_nil))))) pss_nil)
      (pss_one (ps_ret (pe_tup (pa_cons pe_int (pa_cons (pe_call G2 hr4 rfl mG2 kG2 bG2 .nil pass0 (pa_cons (pv 2) pa_nil)) pa_nil)))))))) pss_nil)
    (pss_cons H2
    (pss_cons (ps_cutE (ps_if (pt_cmpR op_eq (pv 1) pe_int (nomark _)) (pss_one (ps_lc (i := 5) (N := smaN) (sc := defScope sSma) (N' := ["_law_k"]) (sub := [none]) rfl rfl (CmpOk.of (by decide +kernel)) rfl (pi_range1 rfl mr (pa_cons pe_int pa_nil))
      (fun C s H fp => ⟨pg_name (i := 0) (by show (["_law_k"] : List Str).Nodup; decide) rfl (Or.inl rfl), pts_nil, pe_tup (pa_cons (pe_op op_fdiv (pv 0) pe_int) (pa_cons (pe_op op_add pe_int (pe_op op_mod (pv 0) pe_int)) pa_nil))⟩) scSma.nd rfl (Or.inl rfl))) pss_nil))
    (pss_one (ps_ret (pe_tup (pa_cons (pe_callB call_len_seq rfl ml PySem.boot_len (pa_cons (pv 5) pa_nil)) (pa_cons (pe_call G2 hr4 rfl mG2 kG2 bG2 .nil pass0 (pa_cons (pe_call G4 hr1 rfl mG4 kG4 bG4 .nil pass0 (pa_cons (pv 5) pa_nil)) pa_nil)) pa_nil)))))))), ?_⟩
  refine ⟨_, rfl, d, n, 4, rfl, hd, by decide, by decide, fun q1 kind ka kb => ?_⟩
  have d1 : Dr d H (upd H d (.lst [.int q1])) := (Dr.refl hd).take q1
  have e1 : H d = some (.lst [.int n]) := hd
  generalize upd H d (.lst [.int q1]) = H1 at d1 ⊢
  refine ⟨_, rfl, _, _, rfl, rfl, _, rfl, ite2 (fun c1 => ?_) (fun c1 => ?_)⟩
  · refine ⟨(by show 3 ≤ sizeLine; decide), fun b hb => ?_⟩
    have d2 := d1.new hb (.lst [.int 0, .int 0, .int 0])
    have b0 := d1.none hb
    have bd := d1.ne hb
    refine ⟨7, rfl, by decide, by decide, ?_⟩
    refine for_range (lo := 0) (n := (7 : Int).toNat) (fun i σ H' => ∃ (x3 x4 : Option V) (u v w : Nat), σ = [some (.ref d), some (.int kind), some (.ref b), x3, x4, none] ∧ Dr d H H' ∧ LsN H' b [u, v, w] ∧ u < 2 ^ i ∧ v < 2 ^ i ∧ w < 2 ^ i) ⟨none, none, 0, 0, 0, rfl, d2, upd_same, by decide, by decide, by decide⟩ ?_ ?_
    · rintro i σ H' hi ⟨x3, x4, u, v, w, rfl, dr, hb', lu, lv, lw⟩
      have hi' : i < 7 := hi
      have pp : 2 ^ (i + 1) = 2 ^ i + 2 ^ i := by rw [Nat.pow_succ]; omega
      rw [show (0 + (i : Int)) = ((i : Nat) : Int) by omega]
      refine ⟨3, rfl, by decide, by decide, ?_⟩
      refine for_range (lo := 0) (n := (3 : Int).toNat) (fun j σ H' => ∃ (x4 : Option V) (ns : List Nat), σ = [some (.ref d), some (.int kind), some (.ref b), some (iV i), x4, none] ∧ Dr d H H' ∧ LsN H' b ns ∧ ns.length = 3 ∧ (∀ y ∈ ns, y < 2 ^ (i + 1)) ∧ ∀ (k : Nat) (y : Nat), j ≤ k → ns[k]? = some y → y < 2 ^ i) ⟨x4, [u, v, w], rfl, dr, hb', rfl, fun y hy => ?_, fun k y _ hy => ?_⟩ ?_ ?_
      · simp only [List.mem_cons, List.not_mem_nil, or_false] at hy
        rcases hy with rfl | rfl | rfl <;> omega
      · have := List.mem_of_getElem? hy
        simp only [List.mem_cons, List.not_mem_nil, or_false] at this
        rcases this with rfl | rfl | rfl <;> assumption
      · rintro j σ H2 hj ⟨x4, ns, rfl, dr2, hb2, ln, ly, lk⟩
        have hj' : j < 3 := hj
        rw [show (0 + (j : Int)) = ((j : Nat) : Int) by omega]
        have jl : j < ns.length := by omega
        have vj := lk j _ (Nat.le_refl _) (List.getElem?_eq_getElem jl)
        have so : Builtin.bitAnd ((((i : Nat) : Int) + 1) / 2 ^ ((j : Nat) : Int).toNat) 1 = ((if (i + 1).testBit j = true then 1 else 0 : Nat) : Int) := by
          have := shr_one (i + 1) j
          rw [Int.toNat_natCast, show ((i : Nat) : Int) + 1 = ((i + 1 : Nat) : Int) by omega, this]
          split <;> rfl
        refine ⟨_, rfl, _, rfl, b, _, _, _, rfl, rfl, SqL.of hb2, at_iv jl, _, rfl, _, _, rfl, rfl, _, rfl, _, _, rfl, rfl, (by show (0 : Int) ≤ _; omega), _, _, rfl, rfl, _, rfl, _, _, rfl, rfl, ?_, _, _, rfl, rfl, ?_⟩
        · refine ⟨by omega, by omega, ?_⟩
          show (Builtin.bitAnd ((((i : Nat) : Int) + 1) / 2 ^ ((j : Nat) : Int).toNat) 1).natAbs < 2 ^ 64
          rw [so, Int.natAbs_natCast]
          split <;> decide
        have ev : (fun i j : Int => V.int (i + j)) ((ns[j] : Nat) : Int) (Builtin.bitAnd ((((i : Nat) : Int) + 1) / 2 ^ ((j : Nat) : Int).toNat) 1 * 2 ^ ((i : Nat) : Int).toNat) = iV (ns[j] + (if (i + 1).testBit j = true then 1 else 0) * 2 ^ i) := by
          show V.int _ = V.int _
          rw [so, Int.toNat_natCast, Int.natCast_add, Int.natCast_mul, Int.natCast_pow]; rfl
        have bl : (if (i + 1).testBit j = true then 1 else 0) * 2 ^ i ≤ 2 ^ i := by split <;> omega
        refine ⟨_, rfl, _, rfl, b, ns.map iV, _, j, rfl, rfl, hb2, ixN_nat (by rw [List.length_map]; exact jl), ?_⟩
        refine ⟨_, ns.set j (ns[j] + (if (i + 1).testBit j = true then 1 else 0) * 2 ^ i), rfl, dr2.over b0 bd _, ?_, by rw [List.length_set]; exact ln, fun y hy => ?_, fun k y hk hy => ?_⟩
        · unfold LsN; rw [upd_same, List.map_set]; exact congrArg (fun v => some (HO.lst ((ns.map iV).set j v))) ev
        · rcases List.mem_or_eq_of_mem_set hy with h | h
          · exact ly y h
          · rw [h]; omega
        · rw [List.getElem?_set_ne (by omega)] at hy
          exact lk k y (by omega) hy
      · rintro σ H2 ⟨x4, ns, rfl, dr2, hb2, ln, ly, lk⟩
        match ns, ln with
        | [u', v', w'], _ => exact ⟨_, _, u', v', w', rfl, dr2, hb2, ly _ (by simp), ly _ (by simp), ly _ (by simp)⟩
    · rintro σ H' ⟨x3, x4, u, v, w, rfl, dr, hb', lu, lv, lw⟩
      have lt7 : ∀ x ∈ [u, v, w], x < 2 ^ 7 := fun x hx => by
        simp only [List.mem_cons, List.not_mem_nil, or_false] at hx
        rcases hx with rfl | rfl | rfl <;> assumption
      refine ⟨_, rfl, rfl, _, rfl, ite2 (fun c2 => ?_) (fun c2 => ?_)⟩
      · refine ⟨_, rfl, b, [u, v, w], 7, rfl, hb', (by show 3 ≤ 40; decide), by decide, lt7, fun r S H2 e2 r0 hS pS oS => ?_⟩
        have sS : Stp 7 S := ⟨_, lt7, pS, oS⟩
        have lS := sS.len
        refine ⟨r, S, 7, rfl, hS, by omega, by decide, sS.gm, sS.nd, fun r2 R H3 e3 r20 hR pR oR => ?_⟩
        have d3 := (dr.ext e2).ext e3
        refine ⟨(by show 2 ≤ sizeLine; decide), fun T hT => ?_⟩
        exact q T r2 7 R _ (d3.new hT _) (d3.none hT) upd_same ((dr.ext e2).none r20) ((Ext.new hT _) _ _ hR) ⟨_, crLA_lt sS.gm sS.nd, pR, oR⟩ (by decide) (by decide)
      · refine ⟨_, rfl, b, [u, v, w], 7, rfl, hb', (by show 3 ≤ 40; decide), by decide, lt7, fun r S H2 e2 r0 hS pS oS => ?_⟩
        have d3 := dr.ext e2
        refine ⟨(by show 2 ≤ sizeLine; decide), fun T hT => ?_⟩
        exact q T r 7 S _ (d3.new hT _) (d3.none hT) upd_same (dr.none r0) ((Ext.new hT _) _ _ hS) ⟨_, lt7, pS, oS⟩ (by decide) (by decide)
  refine ⟨fun σ' H' => ∃ (t : Addr) (ts : List (Nat × Nat)), σ' = [some (.ref d), some (.int kind), none, none, none, some (.ref t)] ∧ Dr d H H' ∧ H t = none ∧ KeptAt H' t ts ∧ 9 ≤ ts.length ∧ ts.length ≤ 10, ?_, ?_⟩
  · unfold T10
    refine ⟨(by show 2 ≤ sizeLine; decide), fun p0 h0 => ?_⟩
    have e0 := Ext.new h0 (.tup [V.int 0, V.int 1])
    refine ⟨(by show 2 ≤ sizeLine; decide), fun p1 h1 => ?_⟩
    have e1 := Ext.new h1 (.tup [V.int 0, V.int 2])
    refine ⟨(by show 2 ≤ sizeLine; decide), fun p2 h2 => ?_⟩
    have e2 := Ext.new h2 (.tup [V.int 0, V.int 3])
    refine ⟨(by show 2 ≤ sizeLine; decide), fun p3 h3 => ?_⟩
    have e3 := Ext.new h3 (.tup [V.int 0, V.int 4])
    refine ⟨(by show 2 ≤ sizeLine; decide), fun p4 h4 => ?_⟩
    have e4 := Ext.new h4 (.tup [V.int 1, V.int 2])
    refine ⟨(by show 2 ≤ sizeLine; decide), fun p5 h5 => ?_⟩
    have e5 := Ext.new h5 (.tup [V.int 1, V.int 3])
    refine ⟨(by show 2 ≤ sizeLine; decide), fun p6 h6 => ?_⟩
    have e6 := Ext.new h6 (.tup [V.int 1, V.int 4])
    refine ⟨(by show 2 ≤ sizeLine; decide), fun p7 h7 => ?_⟩
    have e7 := Ext.new h7 (.tup [V.int 2, V.int 3])
    refine ⟨(by show 2 ≤ sizeLine; decide), fun p8 h8 => ?_⟩
    have e8 := Ext.new h8 (.tup [V.int 2, V.int 4])
    refine ⟨(by show 2 ≤ sizeLine; decide), fun p9 h9 => ?_⟩
    have e9 := Ext.new h9 (.tup [V.int 3, V.int 4])
    refine ⟨(by show 10 ≤ sizeLine; decide), fun l hl => ?_⟩
    have el := Ext.new hl (.lst [V.ref p0, V.ref p1, V.ref p2, V.ref p3, V.ref p4, V.ref p5, V.ref p6, V.ref p7, V.ref p8, V.ref p9])
    have E := ((((((((((e0.trans e1).trans e2).trans e3).trans e4).trans e5).trans e6).trans e7).trans e8).trans e9).trans el)
    refine ⟨l, [(0, 1), (0, 2), (0, 3), (0, 4), (1, 2), (1, 3), (1, 4), (2, 3), (2, 4), (3, 4)], rfl, d1.ext E, d1.none (((((((((((e0.trans e1).trans e2).trans e3).trans e4).trans e5).trans e6).trans e7).trans e8).trans e9)).none hl), ⟨[p0, p1, p2, p3, p4, p5, p6, p7, p8, p9], upd_same, .cons ((e1.trans (e2.trans (e3.trans (e4.trans (e5.trans (e6.trans (e7.trans (e8.trans (e9.trans el))))))))) _ _ upd_same) (.cons ((e2.trans (e3.trans (e4.trans (e5.trans (e6.trans (e7.trans (e8.trans (e9.trans el)))))))) _ _ upd_same) (.cons ((e3.trans (e4.trans (e5.trans (e6.trans (e7.trans (e8.trans (e9.trans el))))))) _ _ upd_same) (.cons ((e4.trans (e5.trans (e6.trans (e7.trans (e8.trans (e9.trans el)))))) _ _ upd_same) (.cons ((e5.trans (e6.trans (e7.trans (e8.trans (e9.trans el))))) _ _ upd_same) (.cons ((e6.trans (e7.trans (e8.trans (e9.trans el)))) _ _ upd_same) (.cons ((e7.trans (e8.trans (e9.trans el))) _ _ upd_same) (.cons ((e8.trans (e9.trans el)) _ _ upd_same) (.cons ((e9.trans el) _ _ upd_same) (.cons (el _ _ upd_same) (.nil))))))))))⟩, by decide, by decide⟩
  rintro _ H2 ⟨t, ts, rfl, d2, t0, kt, l9, l10⟩
  refine ⟨fun σ' H' => ∃ (t : Addr) (ts : List (Nat × Nat)), σ' = [some (.ref d), some (.int kind), none, none, none, some (.ref t)] ∧ Dr d H H' ∧ H t = none ∧ KeptAt H' t ts ∧ 9 ≤ ts.length ∧ ts.length ≤ 10, ?_, ?_⟩
  · refine ⟨_, rfl, rfl, _, rfl, ite2 (fun c2 => ?_) (fun c2 => ⟨t, ts, rfl, d2, t0, kt, l9, l10⟩)⟩
    refine ⟨9, rfl, by decide, by decide, ?_⟩
    refine turns_range (fun j ys H3 => Ext H2 H3 ∧ ∃ (as : List Addr) (ps : List (Nat × Nat)), ys = as.map V.ref ∧ ps.length = j ∧ Paired (fun a f => H3 a = some (.tup [iV f.1, iV f.2])) as ps) ⟨Ext.refl _, [], [], rfl, rfl, .nil⟩ ?_ ?_
    · rintro j ys H3 hj ⟨e3, as, ps, rfl, lp, pr⟩
      have hj' : j < 9 := hj
      rw [show (0 + (j : Int)) = ((j : Nat) : Int) by omega]
      have la := pr.length
      refine ⟨Sle.set _ (Sle.refl _) (fun u z => by cases z), iteT (B := False) ?_⟩
      refine ⟨_, rfl, _, _, rfl, rfl, ⟨by decide, by decide⟩, _, rfl, _, _, rfl, rfl, (by show (0 : Int) < _; decide), _, _, rfl, rfl, (by show 2 ≤ sizeLine; decide), fun T hT => ?_⟩
      refine ⟨by rw [List.length_map]; exact small1000 (by omega), nxt hj ⟨e3.trans (Ext.new hT _), as ++ [T], ps ++ [(j / 3, 3 + j % 3)], by rw [List.map_append]; rfl, by rw [List.length_append, lp]; rfl, Paired.snoc (Paired.mapP pr fun a t z => (Ext.new hT _) _ _ z) ?_⟩⟩
      rw [upd_same]
      show some (HO.tup [V.int (((j : Nat) : Int) / 3), V.int (3 + ((j : Nat) : Int) % 3)]) = some (HO.tup [V.int ((j / 3 : Nat) : Int), V.int ((3 + j % 3 : Nat) : Int)])
      rw [show ((j : Nat) : Int) / 3 = ((j / 3 : Nat) : Int) by omega, show 3 + ((j : Nat) : Int) % 3 = ((3 + j % 3 : Nat) : Int) by omega]
    · rintro ys H3 ⟨e3, as, ps, rfl, lp, pr⟩ l hl
      have lp' : ps.length = 9 := lp
      exact ⟨l, ps, rfl, (d2.ext e3).new hl _, (d2.ext e3).none hl, ⟨as, upd_same, Paired.mapP pr fun a t z => (Ext.new hl _) _ _ z⟩, by omega, by omega⟩
  rintro _ H3 ⟨t, ts, rfl, d3, t0, kt, l9, l10⟩
  obtain ⟨as, ha, pr⟩ := id kt
  have la := pr.length
  refine ⟨_, rfl, t, _, rfl, .inl (SqL.of ha), _, rfl, t, ts, rfl, kt, by omega, fun r ms H4 e4 r0 hm lm ltm => ?_⟩
  rw [List.length_map, la]
  refine ⟨r, ms, ts.length, rfl, hm, by omega, by omega, ltm, fun r2 S H5 e5 r20 hS pS oS => ?_⟩
  have d5 := (d3.ext e4).ext e5
  refine ⟨(by show 2 ≤ sizeLine; decide), fun T hT => ?_⟩
  exact q T r2 ts.length S _ (d5.new hT _) (d5.none hT) upd_same ((d3.ext e4).none r20) ((Ext.new hT _) _ _ hS) ⟨_, ltm, pS, oS⟩ (by omega) (by omega)
end
end My
namespace My
open PySem L2
def spHou : Sp := fun vs H Q _ => ∃ (d : Addr) (n : Int), vs = [.ref d, .int 12] ∧ H d = some (.lst [.int n]) ∧
  ∀ (T r : Addr) (m : Nat) (R : List Nat) (H' : Hp), Dr d H H' → H T = none → H' T = some (.tup [iV m, .ref r]) → H r = none → LsN H' r R → Stp m R → R.length ≤ 8 → m ≤ 12 → Q (.ref T) H'
theorem MoS.ext {d : Addr} {H H1 H2 : Hp} {b : Addr} {B : List Nat} {m l : Nat} (x : MoS d H H1 b B m l) (e : Ext H1 H2) : MoS d H H2 b B m l := ⟨x.dr.ext e, x.bd, e _ _ x.hb, x.len, x.lt⟩
section
variable {P : Program} {w : World} {K : PySem.W.Frag} {mg : Str → Option Value} {base : Heap} {f f1 f2 f3 f4 f5 f6 f7 f8 f9 : Addr} {fd fd1 fd2 fd3 fd4 fd5 fd6 fd7 fd8 fd9 : FuncData}
abbrev houN : List Str := ["_law_draw", "_law_most", "_law_way", "_law_many", "_law_ties_here", "_law_base", "_law_k"]
theorem scHou : FnScope houN ["_law_draw", "_law_most"] (defScope sHou) := ⟨rfl, rfl, rfl, by decide +kernel, rfl, by decide +kernel, by decide +kernel⟩
set_option maxHeartbeats 16000000 in
theorem ok_hou (F : Fun K "_law_house" "_law_house" sHou f fd) (G : FnOk P w K mg base CX0 1 f1 fd1 ["_law_draw", "_law_many"] spTake) (bG : Binds K fd1 ["_law_draw", "_law_many"] []) (kG : PySem.W.keepIn K (.ref f1) = true) (mG : mg "_law_take" = some (.ref f1))
    (G2 : FnOk P w K mg base CX0 4 f2 fd2 ["_law_masks"] spLSt) (bG2 : Binds K fd2 ["_law_masks"] []) (kG2 : PySem.W.keepIn K (.ref f2) = true) (mG2 : mg "_law_steps" = some (.ref f2))
    (G3 : FnOk P w K mg base CX0 5 f3 fd3 ["_law_base", "_law_many"] spLCr) (bG3 : Binds K fd3 ["_law_base", "_law_many"] []) (kG3 : PySem.W.keepIn K (.ref f3) = true) (mG3 : mg "_law_crossed" = some (.ref f3))
    (G4 : FnOk P w K mg base CX0 1 f4 fd4 ["_law_ties_here"] spStM) (bG4 : Binds K fd4 ["_law_ties_here"] []) (kG4 : PySem.W.keepIn K (.ref f4) = true) (mG4 : mg "_law_star_masks" = some (.ref f4))
    (G5 : FnOk P w K mg base CX0 5 f5 fd5 ["_law_masks", "_law_many"] spBou) (bG5 : Binds K fd5 ["_law_masks", "_law_many"] []) (kG5 : PySem.W.keepIn K (.ref f5) = true) (mG5 : mg "_law_bounded" = some (.ref f5))
    (G6 : FnOk P w K mg base CX0 2 f6 fd6 ["_law_draw", "_law_many"] spTi) (bG6 : Binds K fd6 ["_law_draw", "_law_many"] []) (kG6 : PySem.W.keepIn K (.ref f6) = true) (mG6 : mg "_law_ties" = some (.ref f6))
    (G7 : FnOk P w K mg base CX0 6 f7 fd7 ["_law_draw"] spSma) (bG7 : Binds K fd7 ["_law_draw"] []) (kG7 : PySem.W.keepIn K (.ref f7) = true) (mG7 : mg "_law_small" = some (.ref f7))
    (G8 : FnOk P w K mg base CX0 5 f8 fd8 ["_law_draw", "_law_many", "_law_base"] spMor) (bG8 : Binds K fd8 ["_law_draw", "_law_many", "_law_base"] []) (kG8 : PySem.W.keepIn K (.ref f8) = true) (mG8 : mg "_law_more" = some (.ref f8))
    (G9 : FnOk P w K mg base CX0 5 f9 fd9 ["_law_draw", "_law_many", "_law_base"] spMix) (bG9 : Binds K fd9 ["_law_draw", "_law_many", "_law_base"] []) (kG9 : PySem.W.keepIn K (.ref f9) = true) (mG9 : mg "_law_mixed_names" = some (.ref f9))
    (mr : mg "range" = none) (ml : mg "len" = none) (mmi : mg "min" = none) :
    FnOk P w K mg base CX0 7 f fd ["_law_draw", "_law_most"] spHou := by
  refine F.ok scHou (fun vs H Q E h => ?_) (fun cdv A outer s H vs Q E hr h => ?_)
  · obtain ⟨d, n, rfl, _⟩ := h
    rfl
  obtain ⟨d, n, rfl, hd, q⟩ := h
  have hr1 := hr.mono (j := 1) (by decide)
  have hr2 := hr.mono (j := 2) (by decide)
  have hr4 := hr.mono (j := 4) (by decide)
  have hr5 := hr.mono (j := 5) (by decide)
  refine ⟨_, pss_cons (ps_set (i := 2) scHou.nd rfl (Or.inl rfl) (pe_call G hr1 rfl mG kG bG .nil pass0 (pa_cons (pv 0) (pa_cons pe_int pa_nil))))
    (pss_cons (ps_set (i := 3) scHou.nd rfl (Or.inl rfl) (pe_call G hr1 rfl mG kG bG .nil pass0 (pa_cons (pv 0) (pa_cons (pe_op op_add (pv 1) pe_int) pa_nil))))
    (pss_cons (ps_cutE (ps_if (pt_cmpR op_eq (pe_call G hr1 rfl mG kG bG .nil pass0 (pa_cons (pv 0) (pa_cons pe_int pa_nil))) pe_int (nomark _)) (pss_one (ps_set (i := 3) scHou.nd rfl (Or.inl rfl) (pv 1))) pss_nil))
    (pss_cons (ps_cutE (ps_if (pt_cmpR op_lt (pv 2) pe_int (nomark _))
      (pss_cons (ps_set (i := 4) scHou.nd rfl (Or.inl rfl) (pe_call G6 hr2 rfl mG6 kG6 bG6 .nil pass0 (pa_cons (pv 0) (pa_cons (pv 3) pa_nil))))
      (pss_cons (ps_set (i := 5) scHou.nd rfl (Or.inl rfl) (pe_call G2 hr4 rfl mG2 kG2 bG2 .nil pass0 (pa_cons (pe_call G4 hr1 rfl mG4 kG4 bG4 .nil pass0 (pa_cons (pv 4) pa_nil)) pa_nil)))
      (pss_cons (ps_set (i := 3) scHou.nd rfl (Or.inl rfl) (pe_callB call_len_seq rfl ml PySem.boot_len (pa_cons (pv 4) pa_nil)))
      (pss_cons (ps_cutE (ps_if (pt_cmpR op_gt (pv 2) pe_int (nomark _)) (pss_one (ps_set (i := 5) scHou.nd rfl (Or.inl rfl) (pe_call G3 hr5 rfl mG3 kG3 bG3 .nil pass0 (pa_cons (pv 5) (pa_cons (pv 3) pa_nil))))) pss_nil))
      (pss_one (ps_if (PW.pt (pw_and (pt_cmpR op_eq (pv 2) pe_int (nomark _)) (pw_and1 (pt_cmpR (op_neD (room64 hr)) (pv 5) (pe_lst pa_nil) (nomark _)))))
        (pss_one (ps_asg (pe_call G hr1 rfl mG kG bG .nil pass0 (pa_cons (pv 0) (pa_cons (pe_op op_shl pe_int (pv 3)) pa_nil))) (pg_sub (pv 5) (pe_call G hr1 rfl mG kG bG .nil pass0 (pa_cons (pv 0) (pa_cons (pe_callB call_len_seq rfl ml PySem.boot_len (pa_cons (pv 5) pa_nil)) pa_nil))) set_list))) pss_nil))))))
      (pss_one (ps_if (PW.pt (pw_and (pt_cmpR op_lt (pv 2) pe_int (nomark _)) (pw_and1 (pt_cmpR op_gt (pv 1) pe_int (nomark _)))))
        (pss_cons (ps_asg (pe_call G7 hr rfl mG7 kG7 bG7 .nil pass0 (pa_cons (pv 0) pa_nil)) (pg_tup rfl (pgs_cons (pg_name (i := 3) scHou.nd rfl (Or.inl rfl)) (pgs_cons (pg_name (i := 5) scHou.nd rfl (Or.inl rfl)) pgs_nil))))
        (pss_one (ps_for PassesOwn.never rfl (pi_range1 rfl mr (pa_cons (pe_call G hr1 rfl mG kG bG .nil pass0 (pa_cons (pv 0) (pa_cons (pe_callB (call_min2 rfl) rfl mmi boot_min' (pa_cons pe_int (pa_cons (pe_op op_sub (pe_op op_add (pv 1) pe_int) (pv 3)) pa_nil))) pa_nil))) pa_nil)) (pg_name (i := 6) scHou.nd rfl (Or.inl rfl))
          (pss_one (ps_asg (pe_call G8 hr5 rfl mG8 kG8 bG8 .nil pass0 (pa_cons (pv 0) (pa_cons (pv 3) (pa_cons (pv 5) pa_nil)))) (pg_tup rfl (pgs_cons (pg_name (i := 3) scHou.nd rfl (Or.inl rfl)) (pgs_cons (pg_name (i := 5) scHou.nd rfl (Or.inl rfl)) pgs_nil))))))))
        (pss_cons (ps_set (i := 5) scHou.nd rfl (Or.inl rfl) (pe_lst pa_nil))
        (pss_one (ps_for PassesOwn.never rfl (pi_range1 rfl mr (pa_cons (pe_call G hr1 rfl mG kG bG .nil pass0 (pa_cons (pv 0) (pa_cons pe_int pa_nil))) pa_nil)) (pg_name (i := 6) scHou.nd rfl (Or.inl rfl))
          (pss_one (ps_expr (pe_bm PySem.F.plainAttrs_list PySem.F.slot_list_append PySem.F.type_list_append mt_append (pv 5) (pa_cons (pe_call G hr1 rfl mG kG bG .nil pass0 (pa_cons (pv 0) (pa_cons (pe_op op_shl pe_int (pv 3)) pa_nil))) pa_nil))))))))))) 
    (pss_one (ps_ret (pe_tup (pa_cons (pv 3) (pa_cons (pe_call G9 hr5 rfl mG9 kG9 bG9 .nil pass0 (pa_cons (pv 0) (pa_cons (pv 3) (pa_cons (pe_call G5 hr5 rfl mG5 kG5 bG5 .nil pass0 (pa_cons (pv 5) (pa_cons (pv 3) pa_nil))) pa_nil)))) pa_nil)))))))), ?_⟩
  refine ⟨_, rfl, d, n, 8, rfl, hd, by decide, by decide, fun q1 way wa wb => ?_⟩
  refine ⟨_, rfl, _, rfl, _, _, rfl, rfl, d, q1, _, rfl, upd_same, by decide, by decide, fun q2 m0 ma mb => ?_⟩
  rw [upd_upd]
  have mb' : m0 < 13 := mb
  obtain ⟨m0, rfl⟩ := Int.eq_ofNat_of_zero_le ma
  refine ⟨fun σ' H' => ∃ m : Nat, σ' = [some (.ref d), some (.int 12), some (.int way), some (iV m), none, none, none] ∧ Dr d H H' ∧ m ≤ 12, ?_, ?_⟩
  · refine ⟨_, rfl, d, q2, 8, rfl, upd_same, by decide, by decide, fun q3 z za zb => ⟨rfl, _, rfl, ?_⟩⟩
    rw [upd_upd]
    exact ite2 (fun c => ⟨_, rfl, 12, rfl, (Dr.refl hd).take q3, by decide⟩) (fun c => ⟨m0, rfl, (Dr.refl hd).take q3, by omega⟩)
  rintro _ H1 ⟨m, rfl, d1, m12⟩
  refine ⟨fun σ' H' => ∃ (m : Nat) (b : Addr) (B : List Nat) (x4 x6 : Option V), σ' = [some (.ref d), some (.int 12), some (.int way), some (iV m), x4, some (.ref b), x6] ∧ MoS d H H' b B m 30 ∧ m ≤ 12, ?_, ?_⟩
  · refine ⟨_, rfl, _, _, rfl, rfl, _, rfl, ite2 (fun c1 => ?_) (fun c1 => ?_)⟩
    · obtain ⟨q4, z4⟩ := d1.1
      refine ⟨_, rfl, _, rfl, d, q4, m, rfl, z4, m12, fun t ts H2 d2 t1 kt lt => ?_⟩
      have D2 := d1.trans d2
      have td : t ≠ d := d1.ne t1
      obtain ⟨as, ha, pr⟩ := id kt
      have la := pr.length
      refine ⟨_, rfl, t, ts, rfl, kt, by omega, fun r ms H3 e3 r0 hm lm ltm => ?_⟩
      refine ⟨r, ms, ts.length, rfl, hm, by omega, by omega, ltm, fun r2 S H4 e4 r20 hS pS oS => ?_⟩
      have sS : Stp ts.length S := ⟨_, ltm, pS, oS⟩
      have lS := sS.len
      have D4 := (D2.ext e3).ext e4
      have E4 := e3.trans e4
      have r2d : r2 ≠ d := (D2.ext e3).ne r20
      refine ⟨_, rfl, t, _, rfl, .inl (SqL.of (E4 _ _ ha)), ?_⟩
      rw [List.length_map, la]
      refine ⟨fun σ' H' => ∃ (b : Addr) (B : List Nat), σ' = [some (.ref d), some (.int 12), some (.int way), some (iV ts.length), some (.ref t), some (.ref b), none] ∧ MoS d H H' b B ts.length 12 ∧ H b = none, ?_, ?_⟩
      · refine ⟨_, rfl, _, _, rfl, rfl, _, rfl, ite2 (fun c2 => ?_) (fun c2 => ⟨r2, S, rfl, ⟨D4, r2d, hS, by omega, sS.lt⟩, (D2.ext e3).none r20⟩)⟩
        refine ⟨_, rfl, _, rfl, r2, S, ts.length, rfl, hS, by omega, by omega, sS.gm, sS.nd, fun r3 R H5 e5 r30 hR pR oR => ?_⟩
        have sR : Stp ts.length R := ⟨_, crLA_lt sS.gm sS.nd, pR, oR⟩
        have lR := sR.len
        exact ⟨r3, R, rfl, ⟨D4.ext e5, D4.ne r30, hR, by omega, sR.lt⟩, D4.none r30⟩
      rintro _ H5 ⟨b, B, rfl, M5, b0⟩
      have fin : ∀ {H9 : Hp} {B' : List Nat}, MoS d H H9 b B' ts.length 12 → ∃ (m : Nat) (b_1 : Addr) (B : List Nat) (x4 x6 : Option V), [some (V.ref d), some (V.int 12), some (V.int way), some (iV ts.length), some (V.ref t), some (V.ref b), none] = [some (.ref d), some (.int 12), some (.int way), some (iV m), x4, some (.ref b_1), x6] ∧ MoS d H H9 b_1 B m 30 ∧ m ≤ 12 := fun x => ⟨ts.length, b, _, _, _, rfl, ⟨x.dr, x.bd, x.hb, Nat.le_trans x.len (by decide), x.lt⟩, by omega⟩
      refine ⟨_, rfl, rfl, _, rfl, ite2 (fun c2 => ?_) (fun c2 => iteF (fin M5))⟩
      refine ⟨_, rfl, Nat.zero_le _, fun e0 he0 => ?_⟩
      have ne := Ext.new he0 (.lst [])
      have M6 := M5.ext ne
      have hE6 : LsN (upd H5 e0 (.lst [])) e0 [] := upd_same
      revert M6 hE6
      generalize upd H5 e0 (.lst []) = H6
      intro M6 hE6
      refine ⟨intD B, intD [], dr_iv M6.hb, dr_iv hE6, shaped_iv _, shaped_iv _, _, rfl, ?_⟩
      rw [if_pos rfl, eqv_nil]
      refine ite2 (fun c3 => ?_) (fun c3 => fin M6)
      have b0' : 0 < B.length := by
        cases B with
        | nil => exact absurd c3 (by decide)
        | cons a r => exact Nat.succ_pos _
      have lB := M6.len
      obtain ⟨q6, z6⟩ := M6.dr.1
      have pt : 2 ^ ts.length ≤ 2 ^ 12 := Nat.pow_le_pow_right (by decide) (by omega)
      have pt0 : 0 < 2 ^ ts.length := Nat.pow_pos (by decide)
      refine ⟨_, rfl, _, rfl, _, _, rfl, rfl, ⟨by omega, by omega, by decide⟩, d, q6, _, rfl, z6, ?_, ?_, fun q7 z za zb => ?_⟩
      · show (0 : Int) < 1 * 2 ^ ((ts.length : Nat) : Int).toNat
        rw [shl_nat]; omega
      · show 1 * 2 ^ ((ts.length : Nat) : Int).toNat < (1073741824 : Int)
        rw [shl_nat]; omega
      have zb' : z < ((2 ^ ts.length : Nat) : Int) := by
        have := zb
        change z < 1 * 2 ^ ((ts.length : Nat) : Int).toNat at this
        rw [shl_nat] at this; exact this
      obtain ⟨z, rfl⟩ := Int.eq_ofNat_of_zero_le za
      have M7 := M6.take q7
      refine ⟨_, rfl, _, rfl, _, rfl, b, _, rfl, .inl (SqL.of M7.hb), d, q7, _, rfl, upd_same, by rw [List.length_map]; omega, by rw [List.length_map]; omega, fun q8 j ja jb => ?_⟩
      rw [upd_upd]
      rw [List.length_map] at jb
      obtain ⟨j, rfl⟩ := Int.eq_ofNat_of_zero_le ja
      have M8 := M6.take q8
      refine ⟨b, _, _, j, rfl, rfl, M8.hb, ixN_nat (by rw [List.length_map]; omega), ?_⟩
      refine fin (B' := B.set j z) ⟨M8.dr.over b0 M8.bd _, M8.bd, by unfold LsN; rw [upd_same, List.map_set], by rw [List.length_set]; exact M8.len, fun y hy => ?_⟩
      rcases List.mem_or_eq_of_mem_set hy with h | h
      · exact M8.lt y h
      · rw [h]; omega
    · obtain ⟨q4, z4⟩ := d1.1
      refine ⟨_, rfl, _, _, rfl, rfl, _, rfl, ite2 (fun c2 => ⟨_, rfl, _, _, rfl, rfl, _, rfl, iteT (B := False) ?_⟩) (fun c2 => iteF ?_)⟩
      · refine ⟨_, rfl, d, q4, rfl, z4, fun T r m R H2 d2 T0 hT r0 hR sR m7 m10 => ?_⟩
        have D2 := d1.trans d2
        have lR := sR.len
        obtain ⟨q5, z5⟩ := D2.1
        refine ⟨T, _, rfl, SqT.of hT, rfl, _, _, rfl, _, _, rfl, rfl, ?_⟩
        have mn : (if ((12 : Int) + 1 - (m : Int)) < 3 then ((12 : Int) + 1 - (m : Int)) else 3) = 3 := by rw [if_neg (by omega)]
        refine ⟨_, rfl, _, rfl, _, _, rfl, rfl, _, rfl, _, _, rfl, rfl, _, _, rfl, d, q5, _, rfl, z5, ?_, ?_, fun q6 k ka kb => ?_⟩
        · show (0 : Int) < (if ((12 : Int) + 1 - (m : Int)) < 3 then ((12 : Int) + 1 - (m : Int)) else 3)
          rw [mn]; decide
        · show (if ((12 : Int) + 1 - (m : Int)) < 3 then ((12 : Int) + 1 - (m : Int)) else 3) < 1073741824
          rw [mn]; decide
        have kb' : k < 3 := by
          have := kb
          change k < (if ((12 : Int) + 1 - (m : Int)) < 3 then ((12 : Int) + 1 - (m : Int)) else 3) at this
          rw [mn] at this; exact this
        have rd : r ≠ d := d1.ne r0
        refine ⟨k, rfl, by omega, by omega, ?_⟩
        refine for_range (lo := 0) (n := k.toNat) (fun i σ H' => ∃ (m : Nat) (b : Addr) (B : List Nat) (x6 : Option V), σ = [some (.ref d), some (.int 12), some (.int way), some (iV m), none, some (.ref b), x6] ∧ Dr d H H' ∧ b ≠ d ∧ LsN H' b B ∧ Stp m B ∧ m ≤ 10 + i) ⟨m, r, R, none, rfl, D2.take q6, rd, by unfold LsN; rw [upd_ne rd]; exact hR, sR, by omega⟩ ?_ ?_
        · rintro i σ H' hi ⟨m, b, B, x6, rfl, dr, bd, hB, sB, lm⟩
          have lB := sB.len
          obtain ⟨q7, z7⟩ := dr.1
          refine ⟨_, rfl, _, rfl, _, rfl, d, q7, m, b, B, rfl, z7, bd, hB, by omega, by omega, sB.lt, fun T2 r2 R2 H3 d3 T20 hT2 r20 hR2 sR2 => ?_⟩
          exact ⟨T2, _, rfl, SqT.of hT2, rfl, _, _, rfl, _, _, rfl, rfl, m + 1, r2, R2, _, rfl, dr.trans d3, dr.ne r20, hR2, sR2, by omega⟩
        · rintro σ H' ⟨m, b, B, x6, rfl, dr, bd, hB, sB, lm⟩
          have lB := sB.len
          exact ⟨m, b, B, none, x6, rfl, ⟨dr, bd, hB, by omega, sB.lt⟩, by omega⟩
      · refine ⟨Nat.zero_le _, fun b hb => ?_⟩
        have b0 := d1.none hb
        have bd := d1.ne hb
        have D2 := d1.new hb (.lst [])
        obtain ⟨q5, z5⟩ := D2.1
        have pt : 2 ^ m ≤ 2 ^ 12 := Nat.pow_le_pow_right (by decide) (by omega)
        have pt0 : 0 < 2 ^ m := Nat.pow_pos (by decide)
        refine ⟨_, rfl, d, q5, 9, rfl, z5, by decide, by decide, fun q6 k ka kb => ?_⟩
        refine ⟨k, rfl, by omega, by omega, ?_⟩
        refine for_range (lo := 0) (n := k.toNat) (fun i σ H' => ∃ (B : List Nat) (x6 : Option V), σ = [some (.ref d), some (.int 12), some (.int way), some (iV m), none, some (.ref b), x6] ∧ MoS d H H' b B m i) ⟨[], none, rfl, D2.take q6, bd, by unfold LsN; rw [upd_ne bd]; exact upd_same, by decide, fun x hx => by cases hx⟩ ?_ ?_
        · rintro i σ H' hi ⟨B, x6, rfl, M⟩
          have lB := M.len
          obtain ⟨q7, z7⟩ := M.dr.1
          refine ⟨_, rfl, .inl ⟨rfl, _, SqL.of M.hb⟩, _, rfl, _, rfl, _, _, rfl, rfl, ⟨by omega, by omega, by decide⟩, d, q7, _, rfl, z7, ?_, ?_, fun q8 z za zb => ?_⟩
          · show (0 : Int) < 1 * 2 ^ ((m : Nat) : Int).toNat
            rw [shl_nat]; omega
          · show 1 * 2 ^ ((m : Nat) : Int).toNat < (1073741824 : Int)
            rw [shl_nat]; omega
          have zb' : z < ((2 ^ m : Nat) : Int) := by
            have := zb
            change z < 1 * 2 ^ ((m : Nat) : Int).toNat at this
            rw [shl_nat] at this; exact this
          obtain ⟨z, rfl⟩ := Int.eq_ofNat_of_zero_le za
          have M2 := M.take q8
          refine ⟨b, _, _, rfl, rfl, M2.hb, by rw [List.length_map]; exact small1000 (by omega), B ++ [z], _, rfl, M2.dr.over b0 M2.bd _, M2.bd, by unfold LsN; rw [upd_same, List.map_append]; rfl, by rw [List.length_append]; exact Nat.succ_le_succ lB, fun y hy => ?_⟩
          rcases List.mem_append.mp hy with h | h
          · exact M2.lt y h
          · rw [List.mem_singleton.mp h]; omega
        · rintro σ H' ⟨B, x6, rfl, M⟩
          have lB := M.len
          exact ⟨m, b, B, none, x6, rfl, ⟨M.dr, M.bd, M.hb, by omega, M.lt⟩, m12⟩
  rintro _ H2 ⟨m, b, B, x4, x6, rfl, M2, m12⟩
  have lB := M2.len
  refine ⟨_, rfl, _, rfl, _, rfl, _, rfl, _, rfl, b, B, m, rfl, M2.hb, by omega, m12, M2.lt, fun r R H3 e3 r0 hR lR ltR => ?_⟩
  have D3 := M2.dr.ext e3
  obtain ⟨q5, z5⟩ := D3.1
  refine ⟨d, q5, m, r, R, rfl, z5, M2.dr.ne r0, hR, lR, m12, fun r2 S H4 d4 r20 hS sS lS => ?_⟩
  have D4 := D3.trans d4
  refine ⟨(by show 2 ≤ sizeLine; decide), fun T hT => ?_⟩
  exact q T r2 m S _ (D4.new hT _) (D4.none hT) upd_same (D3.none r20) ((Ext.new hT _) _ _ hS) sS lS m12
end
end My
namespace My
open PySem L2
theorem spn_both {a b : List Nat} (h1 : ∀ x ∈ a, Spn b x) (h2 : ∀ x ∈ b, Spn a x) (y : Nat) : Spn a y ↔ Spn b y := ⟨Spn.mono h1, Spn.mono h2⟩
theorem spn_snoc {ms : List Nat} {x : Nat} (h : Spn ms x) (y : Nat) : Spn (ms ++ [x]) y ↔ Spn ms y := spn_both (fun z hz => by
  rcases List.mem_append.mp hz with h' | h'
  · exact .mem h'
  · rw [List.mem_singleton.mp h']; exact h) (fun z hz => .mem (List.mem_append_left _ hz)) y
theorem spn_set {ms : List Nat} {i j : Nat} (hi : i < ms.length) (hj : j < ms.length) (ne : i ≠ j) (y : Nat) : Spn (ms.set i (ms[i] ^^^ ms[j])) y ↔ Spn ms y := spn_both (fun z hz => by
  rcases List.mem_or_eq_of_mem_set hz with h | h
  · exact .mem h
  · rw [h]; exact (Spn.mem (List.getElem_mem hi)).xor (.mem (List.getElem_mem hj))) (fun z hz => by
  obtain ⟨k, hk, rfl⟩ := List.getElem_of_mem hz
  have m1 : ms[i] ^^^ ms[j] ∈ ms.set i (ms[i] ^^^ ms[j]) := by
    have := List.getElem_mem (l := ms.set i (ms[i] ^^^ ms[j])) (n := i) (by rw [List.length_set]; exact hi)
    rwa [List.getElem_set_self] at this
  have m2 : ∀ k (hk : k < ms.length), k ≠ i → ms[k] ∈ ms.set i (ms[i] ^^^ ms[j]) := fun k hk nk => by
    have := List.getElem_mem (l := ms.set i (ms[i] ^^^ ms[j])) (n := k) (by rw [List.length_set]; exact hk)
    rwa [List.getElem_set_ne (Ne.symm nk)] at this
  by_cases e : k = i
  · subst e
    have := (Spn.mem m1).xor (.mem (m2 j hj (Ne.symm ne)))
    rwa [xor_back] at this
  · exact .mem (m2 k hk e)) y
theorem spn_perm {a b : List Nat} (p : a.Perm b) (y : Nat) : Spn a y ↔ Spn b y := spn_both (fun z hz => .mem (p.mem_iff.mp hz)) (fun z hz => .mem (p.mem_iff.mpr hz)) y
def spTab : Sp := fun vs H Q _ => ∃ (d : Addr) (n : Int) (m : Nat) (p : Addr) (S : List Nat), vs = [.ref d, iV m, .ref p] ∧ H d = some (.lst [.int n]) ∧ p ≠ d ∧ LsN H p S ∧ S.length ≤ 8 ∧ m ≤ 12 ∧ (∀ x ∈ S, x < 2 ^ m) ∧
  ∀ (T : Addr) (names : List Str) (ms : List Nat) (H' : Hp), Dr d H H' → H T = none → TabIn H' T names (ms.map (rowL names)) → names.length = m → Rise names → SOk names → ms.length ≤ 16 → (∀ x ∈ ms, x < 2 ^ m) → (∀ y, Spn ms y ↔ Spn S y) → Q (.ref T) H'
structure TaS (d na mk : Addr) (H H' : Hp) (names : List Str) (S ms : List Nat) (m : Nat) : Prop where
  dr : Dr d H H'
  md : mk ≠ d
  m0 : H mk = none
  nd : na ≠ d
  nm : na ≠ mk
  hn : LsS H' na names
  hm : LsN H' mk ms
  lt : ∀ x ∈ ms, x < 2 ^ m
  sp : ∀ y, Spn ms y ↔ Spn S y
section
variable {d na mk : Addr} {H H1 H2 : Hp} {names : List Str} {S ms ms' : List Nat} {m : Nat}
theorem TaS.ext (x : TaS d na mk H H1 names S ms m) (e : Ext H1 H2) : TaS d na mk H H2 names S ms m := ⟨x.dr.ext e, x.md, x.m0, x.nd, x.nm, e _ _ x.hn, e _ _ x.hm, x.lt, x.sp⟩
theorem TaS.take (x : TaS d na mk H H1 names S ms m) (q : Int) : TaS d na mk H (upd H1 d (.lst [.int q])) names S ms m := ⟨x.dr.take q, x.md, x.m0, x.nd, x.nm, by unfold LsS; rw [upd_ne x.nd]; exact x.hn, by unfold LsN; rw [upd_ne x.md]; exact x.hm, x.lt, x.sp⟩
theorem TaS.put (x : TaS d na mk H H1 names S ms m) (lt : ∀ y ∈ ms', y < 2 ^ m) (sp : ∀ y, Spn ms' y ↔ Spn ms y) : TaS d na mk H (upd H1 mk (.lst (ms'.map iV))) names S ms' m := ⟨x.dr.over x.m0 x.md _, x.md, x.m0, x.nd, x.nm, by unfold LsS; rw [upd_ne x.nm]; exact x.hn, upd_same, lt, fun y => (sp y).trans (x.sp y)⟩
end
section
variable {P : Program} {w : World} {K : PySem.W.Frag} {mg : Str → Option Value} {base : Heap} {f f1 f2 f3 : Addr} {fd fd1 fd2 fd3 : FuncData}
theorem scLRw : FnScope ["_law_names_here", "_law_mask_here"] ["_law_names_here", "_law_mask_here"] (defScope sLRow) := ⟨rfl, rfl, rfl, by decide +kernel, rfl, by decide +kernel, by decide +kernel⟩
set_option maxHeartbeats 8000000 in
theorem ok_lrw (F : Fun K "_law_row" "_law_row" sLRow f fd) (ml : mg "len" = none) (mr : mg "range" = none) : FnOk P w K mg base CX0 1 f fd ["_law_names_here", "_law_mask_here"] spLRow := by
  refine F.ok scLRw (fun vs H Q E h => ?_) (fun cdv A outer s H vs Q E hr h => ?_)
  · obtain ⟨a, b, _, rfl, _⟩ := h
    rfl
  obtain ⟨a, ns, x, rfl, ha, h1, q⟩ := h
  refine ⟨_, pss_one (ps_ret
    (pe_lc (N := ["_law_names_here", "_law_mask_here"]) (sc := defScope sLRow) (N' := ["_law_k", "_law_names_here", "_law_mask_here"]) (sub := [none, some 0, some 1]) rfl rfl (CmpOk.of (by decide +kernel)) rfl
      (pi_range1 rfl mr (pa_cons (pe_callB call_len_seq rfl ml PySem.boot_len (pa_cons (pv 0) pa_nil)) pa_nil))
      (fun C s H fp => ⟨pg_name (i := 0) (by show (["_law_k", "_law_names_here", "_law_mask_here"] : List Str).Nodup; decide) rfl (Or.inl rfl), pts_one (pt_cmpR op_eq (pe_op op_and (pe_op op_shr (pv 2) (pv 0)) pe_int) pe_int (nomark _)),
        pe_ix (show IxR _ (rIxL K) from ix_list) (pv 1) (pv 0) (fun _ _ => rfl)⟩))), ?_⟩
  refine ⟨_, rfl, a, _, rfl, .inl (SqL.of ha), _, rfl, ?_, ?_, ?_⟩
  · rw [List.length_map]; omega
  · rw [List.length_map]; omega
  have e0 : (((ns.map V.str).length : Nat) : Int).toNat = ns.length := by rw [List.length_map]; omega
  rw [e0]
  refine turns_range (lo := 0) (n := ns.length) (fun i ys H' => H' = H ∧ ys = ((List.range i).filterMap fun i => if x.testBit i = true then ns[i]? else none).map V.str) ⟨rfl, rfl⟩ ?_ ?_
  · rintro i ys H' hi ⟨rfl, rfl⟩
    rw [show (0 + (i : Int)) = ((i : Nat) : Int) by omega]
    refine ⟨Sle.set _ (Sle.refl _) (fun u z => by cases z), _, rfl, _, rfl, _, _, rfl, rfl, (by show (0 : Int) ≤ _; omega), _, _, rfl, rfl, rfl, _, rfl, ?_⟩
    have key : (decide (V.int (Builtin.bitAnd ((x : Int) / 2 ^ ((i : Nat) : Int).toNat) 1) = V.int 1) = true) ↔ x.testBit i = true := by
      rw [decide_eq_true_iff, V.int.injEq, Int.toNat_natCast, shr_one]
      by_cases b : x.testBit i = true
      · simp [b]
      · simp [b]
    have fm : ((List.range (i + 1)).filterMap fun i => if x.testBit i = true then ns[i]? else none) = ((List.range i).filterMap fun i => if x.testBit i = true then ns[i]? else none) ++ (if x.testBit i = true then [ns[i]] else []) := by
      rw [List.range_succ, List.filterMap_append]
      congr 1
      by_cases b : x.testBit i = true
      · simp [b, List.getElem?_eq_getElem hi]
      · simp [b]
    have sz := List.length_filterMap_le (fun i => if x.testBit i = true then ns[i]? else none) (List.range i)
    rw [List.length_range] at sz
    refine ite2 (fun c => ?_) (fun c => ?_)
    · have hv : atI (ns.map V.str) ((i : Nat) : Int) = some (.str ns[i]) := atI_nat (by rw [List.getElem?_map, List.getElem?_eq_getElem hi] <;> rfl)
      refine ⟨_, rfl, _, rfl, a, _, _, _, rfl, rfl, SqL.of ha, hv, by rw [List.length_map]; exact small1000 (by omega), nxt hi ⟨rfl, ?_⟩⟩
      rw [fm, if_pos (key.mp c), List.map_append]; rfl
    · refine nxt hi ⟨rfl, ?_⟩
      rw [fm, if_neg fun z => c (key.mpr z), List.append_nil]
  · rintro ys H' ⟨rfl, rfl⟩
    exact fun r hr' => q r _ (Ext.new hr' _) hr' upd_same
abbrev taN : List Str := ["_law_draw", "_law_many", "_law_base", "_law_names_here", "_law_masks", "_law_k", "_law_one", "_law_other", "_law_extra", "_law_sums", "_law_mask_here", "_law_rows"]
theorem scTab : FnScope taN ["_law_draw", "_law_many", "_law_base"] (defScope sTab) := ⟨rfl, rfl, rfl, by decide +kernel, rfl, by decide +kernel, by decide +kernel⟩
set_option maxHeartbeats 16000000 in
theorem ok_tab (F : Fun K "_law_table" "_law_table" sTab f fd) (G : FnOk P w K mg base CX0 1 f1 fd1 ["_law_draw", "_law_many"] spTake) (bG : Binds K fd1 ["_law_draw", "_law_many"] []) (kG : PySem.W.keepIn K (.ref f1) = true) (mG : mg "_law_take" = some (.ref f1))
    (G2 : FnOk P w K mg base CX0 2 f2 fd2 ["_law_draw", "_law_many"] spNames) (bG2 : Binds K fd2 ["_law_draw", "_law_many"] []) (kG2 : PySem.W.keepIn K (.ref f2) = true) (mG2 : mg "_law_names" = some (.ref f2))
    (G3 : FnOk P w K mg base CX0 1 f3 fd3 ["_law_names_here", "_law_mask_here"] spLRow) (bG3 : Binds K fd3 ["_law_names_here", "_law_mask_here"] []) (kG3 : PySem.W.keepIn K (.ref f3) = true) (mG3 : mg "_law_row" = some (.ref f3))
    (mr : mg "range" = none) (ml : mg "len" = none) (mL : mg "list" = none) (mi : mg "int" = none) :
    FnOk P w K mg base CX0 3 f fd ["_law_draw", "_law_many", "_law_base"] spTab := by
  refine F.ok scTab (fun vs H Q E h => ?_) (fun cdv A outer s H vs Q E hr h => ?_)
  · obtain ⟨d, n, m, p, S, rfl, _⟩ := h
    rfl
  obtain ⟨d, n, m, p, S, rfl, hd, pd, hp, lS, m12, lt, q⟩ := h
  have hr1 := hr.mono (j := 1) (by decide)
  refine ⟨_, pss_cons (ps_set (i := 3) scTab.nd rfl (Or.inl rfl) (pe_call G2 hr rfl mG2 kG2 bG2 .nil pass0 (pa_cons (pv 0) (pa_cons (pv 1) pa_nil))))
    (pss_cons (ps_cutE (ps_set (i := 4) scTab.nd rfl (Or.inl rfl) (pe_callTy call_list_of rfl mL boot_list' (pa_cons (pv 2) pa_nil))))
    (pss_cons (ps_cutE (ps_for PassesOwn.never rfl (pi_range1 rfl mr (pa_cons (pe_op op_mul (pe_call G hr1 rfl mG kG bG .nil pass0 (pa_cons (pv 0) (pa_cons pe_int pa_nil))) (pe_callTy call_int1 rfl mi boot_int5 (pa_cons (pe_cmpR op_gt (pe_callB call_len_seq rfl ml PySem.boot_len (pa_cons (pv 4) pa_nil)) pe_int (nomark _)) pa_nil))) pa_nil)) (pg_name (i := 5) scTab.nd rfl (Or.inl rfl))
      (pss_cons (ps_set (i := 6) scTab.nd rfl (Or.inl rfl) (pe_call G hr1 rfl mG kG bG .nil pass0 (pa_cons (pv 0) (pa_cons (pe_callB call_len_seq rfl ml PySem.boot_len (pa_cons (pv 4) pa_nil)) pa_nil))))
      (pss_cons (ps_set (i := 7) scTab.nd rfl (Or.inl rfl) (pe_op op_mod (pe_op op_add (pe_op op_add (pv 6) pe_int) (pe_call G hr1 rfl mG kG bG .nil pass0 (pa_cons (pv 0) (pa_cons (pe_op op_sub (pe_callB call_len_seq rfl ml PySem.boot_len (pa_cons (pv 4) pa_nil)) pe_int) pa_nil)))) (pe_callB call_len_seq rfl ml PySem.boot_len (pa_cons (pv 4) pa_nil))))
      (pss_one (ps_asg (pe_op op_xor (pe_ix ix_list (pv 4) (pv 6) (fun _ _ => rfl)) (pe_ix ix_list (pv 4) (pv 7) (fun _ _ => rfl))) (pg_sub (pv 4) (pv 6) set_list)))))))
    (pss_cons (ps_set (i := 8) scTab.nd rfl (Or.inl rfl) (pe_call G hr1 rfl mG kG bG .nil pass0 (pa_cons (pv 0) (pa_cons pe_int pa_nil))))
    (pss_cons (ps_cutE (ps_if (pt_cmpR op_eq (pe_call G hr1 rfl mG kG bG .nil pass0 (pa_cons (pv 0) (pa_cons pe_int pa_nil))) pe_int (nomark _)) (pss_one (ps_set (i := 8) scTab.nd rfl (Or.inl rfl) (pe_op op_sub pe_int (pe_callB call_len_seq rfl ml PySem.boot_len (pa_cons (pv 4) pa_nil))))) pss_nil))
    (pss_cons (ps_cutE (ps_for PassesOwn.never rfl (pi_range1 rfl mr (pa_cons (pv 8) pa_nil)) (pg_name (i := 5) scTab.nd rfl (Or.inl rfl))
      (pss_cons (ps_set (i := 9) scTab.nd rfl (Or.inl rfl) pe_int)
      (pss_cons (ps_for PassesOwn.never rfl (pi_list (pe_slice sl_list (pv 4) po_none (po_some (pe_callB call_len_seq rfl ml PySem.boot_len (pa_cons (pv 2) pa_nil))))) (pg_name (i := 10) scTab.nd rfl (Or.inl rfl))
        (pss_one (ps_set (i := 9) scTab.nd rfl (Or.inl rfl) (pe_op op_xor (pv 9) (pe_op op_mul (pv 10) (pe_call G hr1 rfl mG kG bG .nil pass0 (pa_cons (pv 0) (pa_cons pe_int pa_nil))))))))
      (pss_one (ps_expr (pe_bm PySem.F.plainAttrs_list PySem.F.slot_list_append PySem.F.type_list_append mt_append (pv 4) (pa_cons (pv 9) pa_nil))))))))
    (pss_cons (ps_set (i := 11) scTab.nd rfl (Or.inl rfl) (pe_lst pa_nil))
    (pss_cons (ps_while PassesOwn.never (pt_cmpR (op_neD (room64 hr)) (pv 4) (pe_lst pa_nil) (nomark _))
      (pss_one (ps_expr (pe_bm PySem.F.plainAttrs_list PySem.F.slot_list_append PySem.F.type_list_append mt_append (pv 11) (pa_cons (pe_call G3 hr1 rfl mG3 kG3 bG3 .nil pass0 (pa_cons (pv 3) (pa_cons (pe_bm PySem.F.plainAttrs_list PySem.F.slot_list_pop PySem.F.type_list_pop mt_popAt (pv 4) (pa_cons (pe_call G hr1 rfl mG kG bG .nil pass0 (pa_cons (pv 0) (pa_cons (pe_callB call_len_seq rfl ml PySem.boot_len (pa_cons (pv 4) pa_nil)) pa_nil))) pa_nil)) pa_nil))) pa_nil)))))
    (pss_one (ps_ret (pe_tup (pa_cons (pv 3) (pa_cons (pv 11) pa_nil)))))))))))), ?_⟩
  refine ⟨_, rfl, _, rfl, d, n, (m : Int), rfl, hd, by omega, by omega, fun na names q1 H1 e1 na0 hN lN ndN srt okN => ?_⟩
  have D1 : Dr d H H1 := Dr.of_upd e1
  have nad : na ≠ d := purse_ne hd na0
  have lN' : names.length = m := by omega
  have rN : Rise names := rise_of srt ndN
  have hp1 : LsN H1 p S := D1.2 _ _ pd hp
  refine ⟨fun σ' H' => ∃ mk, σ' = [some (.ref d), some (iV m), some (.ref p), some (.ref na), some (.ref mk), none, none, none, none, none, none, none] ∧ TaS d na mk H H' names S S m, ?_, ?_⟩
  · refine ⟨_, rfl, p, _, rfl, .inl (SqL.of hp1), fun mk hmk => ?_⟩
    exact ⟨mk, rfl, D1.new hmk _, D1.ne hmk, D1.none hmk, nad, ne_of_none hN hmk, (Ext.new hmk _) _ _ hN, upd_same, lt, fun y => Iff.rfl⟩
  rintro _ H2 ⟨mk, rfl, T2⟩
  have pm : 2 ^ m ≤ 2 ^ 12 := Nat.pow_le_pow_right (by decide) m12
  refine ⟨fun σ' H' => ∃ (ms : List Nat) (x5 x6 x7 : Option V), σ' = [some (.ref d), some (iV m), some (.ref p), some (.ref na), some (.ref mk), x5, x6, x7, none, none, none, none] ∧ TaS d na mk H H' names S ms m ∧ ms.length = S.length, ?_, ?_⟩
  · obtain ⟨q2, z2⟩ := T2.dr.1
    refine ⟨_, rfl, d, q2, 7, rfl, z2, by decide, by decide, fun q3 t ta tb => ?_⟩
    have T3 := T2.take q3
    refine ⟨_, rfl, mk, _, rfl, .inl (SqL.of T3.hm), _, _, rfl, rfl, .inr ⟨_, rfl, _, _, rfl, rfl, .inl ⟨by omega, by omega⟩, _, rfl, ?_, ?_, ?_⟩⟩
    · show -(2 ^ 62) ≤ t * _
      split <;> omega
    · show t * _ < 2 ^ 62
      split <;> omega
    refine for_range (lo := 0) (fun i σ H' => ∃ (ms : List Nat) (x5 x6 x7 : Option V), σ = [some (.ref d), some (iV m), some (.ref p), some (.ref na), some (.ref mk), x5, x6, x7, none, none, none, none] ∧ TaS d na mk H H' names S ms m ∧ ms.length = S.length) ⟨S, none, none, none, rfl, T3, rfl⟩ ?_ (fun σ' H' z => z)
    rintro i σ H' hi ⟨ms, x5, x6, x7, rfl, T, lm⟩
    have l1 : 1 < ms.length := by
      rw [lm]
      by_cases c : 1 < S.length
      · exact c
      · exfalso
        have cz : decide ((1 : Int) < (((S.map iV).length : Nat) : Int)) = false := decide_eq_false (by rw [List.length_map]; omega)
        rw [show (decide ((1 : Int) < (((S.map iV).length : Nat) : Int))) = false from cz] at hi
        simp at hi
    obtain ⟨q4, z4⟩ := T.dr.1
    refine ⟨_, rfl, _, rfl, mk, _, rfl, .inl (SqL.of T.hm), d, q4, _, rfl, z4, by rw [List.length_map]; omega, by rw [List.length_map]; omega, fun q5 one oa ob => ?_⟩
    have T5 := T.take q5
    rw [List.length_map] at ob
    obtain ⟨one, rfl⟩ := Int.eq_ofNat_of_zero_le oa
    refine ⟨_, rfl, _, _, rfl, rfl, _, rfl, _, rfl, mk, _, rfl, .inl (SqL.of T5.hm), _, _, rfl, rfl, d, q5, _, rfl, upd_same, ?_, ?_, fun q6 u ua ub => ?_⟩
    · show (0 : Int) < (((ms.map iV).length : Nat) : Int) - 1
      rw [List.length_map]; omega
    · show (((ms.map iV).length : Nat) : Int) - 1 < 1073741824
      rw [List.length_map]; omega
    rw [upd_upd]
    have T6 := T.take q6
    have ub' : u < (ms.length : Int) - 1 := by
      have := ub
      change u < (((ms.map iV).length : Nat) : Int) - 1 at this
      rw [List.length_map] at this; exact this
    refine ⟨_, _, rfl, rfl, _, rfl, mk, _, rfl, .inl (SqL.of T6.hm), _, _, rfl, rfl, ?_, ?_⟩
    · show (0 : Int) < (((ms.map iV).length : Nat) : Int)
      rw [List.length_map]; omega
    have ml0 : (0 : Int) < (ms.length : Int) := by omega
    obtain ⟨oth, eo⟩ := Int.eq_ofNat_of_zero_le (Int.emod_nonneg ((one : Int) + 1 + u) (Int.ne_of_gt ml0))
    have ol : oth < ms.length := by
      have := Int.emod_lt_of_pos ((one : Int) + 1 + u) ml0
      omega
    have ne : one ≠ oth := by
      intro e
      subst e
      by_cases c : (one : Int) + 1 + u < ms.length
      · rw [Int.emod_eq_of_lt (by omega) c] at eo; omega
      · rw [← Int.sub_emod_right, Int.emod_eq_of_lt (by omega) (by omega)] at eo; omega
    have eo' : ((one : Int) + 1 + u) % (((ms.map iV).length : Nat) : Int) = (oth : Int) := by rw [List.length_map]; exact eo
    have o1 : one < ms.length := by omega
    refine ⟨_, rfl, _, rfl, mk, _, _, _, rfl, rfl, SqL.of T6.hm, at_iv o1, _, rfl, _, rfl, mk, _, _, _, rfl, rfl, SqL.of T6.hm, (by show atI _ (((one : Int) + 1 + u) % (((ms.map iV).length : Nat) : Int)) = _; rw [eo']; exact at_iv ol), _, _, rfl, rfl, _, rfl, _, rfl, mk, _, _, one, rfl, rfl, T6.hm, ixN_nat (by rw [List.length_map]; exact o1), ?_⟩
    have ev : (ms.map iV).set one (V.int (Builtin.bitXor ((ms[one] : Nat) : Int) ((ms[oth] : Nat) : Int))) = (ms.set one (ms[one] ^^^ ms[oth])).map iV := by rw [List.map_set, bxor_nat]
    refine ⟨ms.set one (ms[one] ^^^ ms[oth]), _, _, _, rfl, ?_, by rw [List.length_set]; exact lm⟩
    have T7 := T6.put (ms' := ms.set one (ms[one] ^^^ ms[oth])) (fun y hy => by
      rcases List.mem_or_eq_of_mem_set hy with h | h
      · exact T6.lt y h
      · rw [h]; exact Nat.xor_lt_two_pow (T6.lt _ (List.getElem_mem o1)) (T6.lt _ (List.getElem_mem ol))) (spn_set o1 ol ne)
    rw [← ev] at T7
    exact T7
  rintro _ H3 ⟨ms, x5, x6, x7, rfl, T3, lm⟩
  obtain ⟨q4, z4⟩ := T3.dr.1
  refine ⟨_, rfl, d, q4, 4, rfl, z4, by decide, by decide, fun q5 ex xa xb => ?_⟩
  have T5 := T3.take q5
  refine ⟨fun σ' H' => ∃ (ex : Int), σ' = [some (.ref d), some (iV m), some (.ref p), some (.ref na), some (.ref mk), x5, x6, x7, some (.int ex), none, none, none] ∧ TaS d na mk H H' names S ms m ∧ 0 ≤ ex ∧ ex + ms.length ≤ 16, ?_, ?_⟩
  · refine ⟨_, rfl, d, q5, 8, rfl, upd_same, by decide, by decide, fun q6 z za zb => ⟨rfl, _, rfl, ?_⟩⟩
    rw [upd_upd]
    have T6 := T3.take q6
    refine ite2 (fun c => ?_) (fun c => ⟨ex, rfl, T6, by omega, by omega⟩)
    refine ⟨_, rfl, mk, _, rfl, .inl (SqL.of T6.hm), _, _, rfl, rfl, 16 - (((ms.map iV).length : Nat) : Int), rfl, T6, ?_, ?_⟩
    · rw [List.length_map]; omega
    · rw [List.length_map]; omega
  rintro _ H6 ⟨ex, rfl, T6, ex0, ex1⟩
  refine ⟨fun σ' H' => ∃ (ms : List Nat) (x5 x9 x10 : Option V), σ' = [some (.ref d), some (iV m), some (.ref p), some (.ref na), some (.ref mk), x5, x6, x7, some (.int ex), x9, x10, none] ∧ TaS d na mk H H' names S ms m ∧ ms.length ≤ 16, ?_, ?_⟩
  · refine ⟨_, rfl, ex, rfl, by omega, by omega, ?_⟩
    refine for_range (lo := 0) (n := ex.toNat) (fun i σ H' => ∃ (ms' : List Nat) (x5 x9 x10 : Option V), σ = [some (.ref d), some (iV m), some (.ref p), some (.ref na), some (.ref mk), x5, x6, x7, some (.int ex), x9, x10, none] ∧ TaS d na mk H H' names S ms' m ∧ ms'.length = ms.length + i) ⟨ms, x5, none, none, rfl, T6, rfl⟩ ?_ ?_
    · rintro i σ H' hi ⟨ms', y5, x9, x10, rfl, T, lm'⟩
      have hpH : LsN H' p S := T.dr.2 _ _ pd hp
      refine ⟨_, rfl, _, rfl, p, _, rfl, .inl (SqL.of hpH), _, rfl, mk, _, rfl, SqL.of T.hm, fun l hl => ?_⟩
      have cu : cutV (ms'.map iV) none (some (((S.map iV).length : Nat) : Int)) = (ms'.take S.length).map iV := by rw [cut_to, List.length_map, List.map_take]
      rw [cu]
      have nl := Ext.new hl (.lst ((ms'.take S.length).map iV))
      have ld := T.dr.ne hl
      refine ⟨l, rfl, ⟨_, SqL.of upd_same⟩, ?_⟩
      refine for_list (xs := (ms'.take S.length).map iV) (fun j σ H2 => ∃ (sm : Nat) (x10 : Option V), σ = [some (.ref d), some (iV m), some (.ref p), some (.ref na), some (.ref mk), some (.int (0 + (i : Int))), x6, x7, some (.int ex), some (iV sm), x10, none] ∧ TaS d na mk H H2 names S ms' m ∧ LsN H2 l (ms'.take S.length) ∧ Spn ms' sm ∧ sm < 2 ^ m) ⟨0, x10, rfl, T.ext nl, upd_same, .zero, Nat.pow_pos (by decide)⟩ (fun j σ H2 _ z => by obtain ⟨_, _, _, _, h, _⟩ := z; exact SqL.of h) ?_ ?_
      · rintro j v σ H2 hx ⟨sm, x10, rfl, T2, hl2, sp2, sl2⟩
        obtain ⟨x, rfl, hx'⟩ := iv_get hx
        have xm : x ∈ ms' := List.mem_of_mem_take (List.mem_of_getElem? hx')
        have xl := T2.lt x xm
        obtain ⟨q7, z7⟩ := T2.dr.1
        refine ⟨_, rfl, _, rfl, _, rfl, d, q7, 2, rfl, z7, by decide, by decide, fun q8 t ta tb => ?_⟩
        refine ⟨_, _, rfl, rfl, .inl ⟨by omega, by omega⟩, _, _, rfl, rfl, ?_⟩
        have hl3 : LsN (upd H2 d (.lst [.int q8])) l (ms'.take S.length) := by unfold LsN; rw [upd_ne ld]; exact hl2
        by_cases c : t = 0
        · subst c
          refine ⟨sm, some (iV x), ?_, T2.take q8, hl3, sp2, sl2⟩
          refine congrArg (fun v => [some (V.ref d), some (iV m), some (V.ref p), some (V.ref na), some (V.ref mk), some (V.int (0 + (i : Int))), x6, x7, some (V.int ex), some v, some (iV x), none]) ?_
          show V.int (Builtin.bitXor ((sm : Nat) : Int) (((x : Nat) : Int) * 0)) = V.int _
          rw [Int.mul_zero, show (0 : Int) = ((0 : Nat) : Int) from rfl, bxor_nat, Nat.xor_zero]
        · have t1 : t = 1 := by omega
          subst t1
          refine ⟨sm ^^^ x, some (iV x), ?_, T2.take q8, hl3, sp2.xor (.mem xm), Nat.xor_lt_two_pow sl2 xl⟩
          refine congrArg (fun v => [some (V.ref d), some (iV m), some (V.ref p), some (V.ref na), some (V.ref mk), some (V.int (0 + (i : Int))), x6, x7, some (V.int ex), some v, some (iV x), none]) ?_
          show V.int (Builtin.bitXor ((sm : Nat) : Int) (((x : Nat) : Int) * 1)) = V.int _
          rw [Int.mul_one, bxor_nat]
      · rintro σ H2 ⟨sm, x10, rfl, T2, hl2, sp2, sl2⟩
        refine ⟨_, rfl, .inl ⟨rfl, _, SqL.of T2.hm⟩, _, rfl, mk, _, _, rfl, rfl, T2.hm, by rw [List.length_map]; exact small1000 (by omega), ms' ++ [sm], _, _, _, rfl, ?_, by rw [List.length_append, lm']; rfl⟩
        have T9 := T2.put (ms' := ms' ++ [sm]) (fun y hy => by
          rcases List.mem_append.mp hy with h | h
          · exact T2.lt y h
          · rw [List.mem_singleton.mp h]; exact sl2) (spn_snoc sp2)
        rw [List.map_append] at T9
        exact T9
    · rintro σ H' ⟨ms', y5, x9, x10, rfl, T, lm'⟩
      exact ⟨ms', _, _, _, rfl, T, by omega⟩
  rintro _ H7 ⟨ms7, y5, x9, x10, rfl, T7, l7⟩
  refine ⟨Nat.zero_le _, fun ro hro => ?_⟩
  have nr := Ext.new hro (.lst [])
  have T8 := T7.ext nr
  have rod := T7.dr.ne hro
  have ro0 := T7.dr.none hro
  have rom : mk ≠ ro := ne_of_none T7.hm hro
  have ron : na ≠ ro := ne_of_none T7.hn hro
  have R8 : upd H7 ro (.lst []) ro = some (.lst []) := upd_same
  revert T8 R8
  generalize upd H7 ro (.lst []) = H8
  intro T8 R8
  obtain ⟨q8, z8⟩ := T8.dr.1
  have ltP : ∀ (a b : List Nat), (a ++ b).Perm ms7 → ∀ x ∈ a, x < 2 ^ m := fun a b pm x hx => T8.lt x (pm.mem_iff.mp (List.mem_append_left _ hx))
  refine ⟨fun k σ H' => ∃ (m1 m2 : List Nat), k = m2.length ∧ σ = [some (.ref d), some (iV m), some (.ref p), some (.ref na), some (.ref mk), y5, x6, x7, some (.int ex), x9, x10, some (.ref ro)] ∧ Dr d H H' ∧ LsS H' na names ∧ LsN H' mk m2 ∧ RowsY H8 H' ro (m1.map (rowL names)) ∧ (m1 ++ m2).Perm ms7 ∧ ∀ b, H' b = none → H8 b = none, ⟨_, [], ms7, rfl, rfl, T8.dr, T8.hn, T8.hm, ⟨[], R8, .nil⟩, List.Perm.refl _, fun _ z => z⟩, ?_⟩
  rintro k σ H' ⟨m1, m2, rfl, rfl, dr, hN', hM', ⟨as, hR, pr⟩, pm, tr⟩
  have lpm := pm.length_eq
  rw [List.length_append] at lpm
  have las := pr.length
  rw [List.length_map] at las
  refine ⟨_, rfl, Nat.zero_le _, fun e0 he0 => ?_⟩
  have ne := Ext.new he0 (.lst [])
  have drE := dr.ext ne
  have hN2 := ne _ _ hN'
  have hM2 := ne _ _ hM'
  have hR2 := ne _ _ hR
  have pr2 := Paired.mapP (G := fun a r => LsS (upd H' e0 (.lst [])) a r ∧ H8 a = none ∧ a ≠ ro) pr fun a r z => ⟨ne _ _ z.1, z.2⟩
  have hE' : LsN (upd H' e0 (.lst [])) e0 [] := upd_same
  have trE : ∀ b, upd H' e0 (.lst []) b = none → H8 b = none := fun b z => tr b (ne.none z)
  revert drE hN2 hM2 hR2 pr2 hE' trE
  generalize upd H' e0 (.lst []) = H1
  intro drE hN2 hM2 hR2 pr2 hE' trE
  refine ⟨intD m2, intD [], dr_iv hM2, dr_iv hE', shaped_iv _, shaped_iv _, _, rfl, ?_⟩
  rw [if_pos rfl, eqv_nil]
  refine ite2 (fun c => ?_) (fun c => ?_)
  · have s0 : 0 < m2.length := by
      cases m2 with
      | nil => exact absurd c (by decide)
      | cons a r => exact Nat.succ_pos _
    refine ⟨fun σ' H2 => ∃ k', k' < m2.length ∧ ∃ (m1 m2 : List Nat), k' = m2.length ∧ σ' = [some (.ref d), some (iV m), some (.ref p), some (.ref na), some (.ref mk), y5, x6, x7, some (.int ex), x9, x10, some (.ref ro)] ∧ Dr d H H2 ∧ LsS H2 na names ∧ LsN H2 mk m2 ∧ RowsY H8 H2 ro (m1.map (rowL names)) ∧ (m1 ++ m2).Perm ms7 ∧ ∀ b, H2 b = none → H8 b = none, fun σ' H2 z => z, ?_⟩
    obtain ⟨q0, z0⟩ := drE.1
    refine ⟨_, rfl, .inl ⟨rfl, _, SqL.of hR2⟩, _, rfl, _, rfl, .inl ⟨rfl, _, SqL.of hM2⟩, _, rfl, _, rfl, mk, _, rfl, .inl (SqL.of hM2), d, q0, _, rfl, z0, by rw [List.length_map]; omega, by rw [List.length_map]; omega, fun q1 j ja jb => ?_⟩
    rw [List.length_map] at jb
    obtain ⟨j, rfl⟩ := Int.eq_ofNat_of_zero_le ja
    have jl : j < m2.length := by omega
    have hx := List.getElem?_eq_getElem jl
    have sq : seqIndex? (j : Int) (m2.map iV).length = some j := by
      have := PySem.StrLaws.seqIndex_nonneg (i := (j : Int)) (n := (m2.map iV).length) (by omega) (by rw [List.length_map]; omega)
      rw [Int.toNat_natCast] at this
      exact this
    refine ⟨mk, m2.map iV, (j : Int), j, iV m2[j], rfl, rfl, by rw [upd_ne T8.md]; exact hM2, by omega, by omega, sq, by rw [List.getElem?_map, hx]; rfl, ?_⟩
    have em : (m2.map iV).eraseIdx j = (m2.eraseIdx j).map iV := by rw [List.eraseIdx_eq_take_drop_succ, List.eraseIdx_eq_take_drop_succ, List.map_append, List.map_take, List.map_drop]
    rw [em]
    have dr4 := (drE.take q1).over T8.m0 T8.md (.lst ((m2.eraseIdx j).map iV))
    have hN4 : LsS (upd (upd H1 d (.lst [.int q1])) mk (.lst ((m2.eraseIdx j).map iV))) na names := by unfold LsS; rw [upd_ne T8.nm, upd_ne T8.nd]; exact hN2
    have hM4 : LsN (upd (upd H1 d (.lst [.int q1])) mk (.lst ((m2.eraseIdx j).map iV))) mk (m2.eraseIdx j) := upd_same
    have hR4 : upd (upd H1 d (.lst [.int q1])) mk (.lst ((m2.eraseIdx j).map iV)) ro = some (.lst (as.map V.ref)) := by rw [upd_ne (Ne.symm rom), upd_ne rod]; exact hR2
    have pr4 : Paired (fun a r => LsS (upd (upd H1 d (.lst [.int q1])) mk (.lst ((m2.eraseIdx j).map iV))) a r ∧ H8 a = none ∧ a ≠ ro) as (m1.map (rowL names)) := Paired.mapP pr2 fun a r z => ⟨by
      have ad : a ≠ d := fun e => by rw [e, z8] at z; exact absurd z.2.1 (by simp)
      have am : a ≠ mk := fun e => by rw [e, T8.hm] at z; exact absurd z.2.1 (by simp)
      unfold LsS; rw [upd_ne am, upd_ne ad]; exact z.1, z.2⟩
    have tr4 : ∀ b, upd (upd H1 d (.lst [.int q1])) mk (.lst ((m2.eraseIdx j).map iV)) b = none → H8 b = none := fun b z => trE b (by
      have nm : b ≠ mk := fun e => by rw [e, upd_same] at z; cases z
      rw [upd_ne nm] at z
      have nd : b ≠ d := fun e => by rw [e, upd_same] at z; cases z
      rw [upd_ne nd] at z; exact z)
    revert dr4 hN4 hM4 hR4 pr4 tr4
    generalize upd (upd H1 d (.lst [.int q1])) mk (.lst ((m2.eraseIdx j).map iV)) = H4
    intro dr4 hN4 hM4 hR4 pr4 tr4
    refine ⟨na, names, m2[j], rfl, hN4, by omega, fun r5 H5 e5 r50 hr5 => ?_⟩
    have le : (m2.eraseIdx j).length = m2.length - 1 := List.length_eraseIdx_of_lt jl
    have r5r : r5 ≠ ro := fun e => by rw [e, hR4] at r50; cases r50
    have f8 : H8 r5 = none := tr4 r5 r50
    refine ⟨ro, as.map V.ref, .ref r5, rfl, rfl, e5 _ _ hR4, by rw [List.length_map, las]; exact small1000 (by omega), ?_⟩
    refine ⟨_, by omega, m1 ++ [m2[j]], m2.eraseIdx j, rfl, rfl, (dr4.ext e5).over ro0 rod _, by unfold LsS; rw [upd_ne ron]; exact e5 _ _ hN4, by unfold LsN; rw [upd_ne rom]; exact e5 _ _ hM4, ⟨as ++ [r5], by rw [upd_same, List.map_append]; rfl, ?_⟩, ?_, fun b z => tr4 b (by
      have nr : b ≠ ro := fun e => by rw [e, upd_same] at z; cases z
      rw [upd_ne nr] at z
      exact e5.none z)⟩
    · rw [List.map_append]
      refine Paired.snoc (Paired.mapP pr4 fun a r z => ⟨by unfold LsS; rw [upd_ne z.2.2]; exact e5 _ _ z.1, z.2⟩) ⟨by unfold LsS; rw [upd_ne r5r]; exact hr5, f8, r5r⟩
    · refine List.Perm.trans ?_ pm
      rw [List.append_assoc]
      exact List.Perm.append_left m1 (erase_perm' m2 j _ hx)
  · have sn : m2 = [] := by
      cases m2 with
      | nil => rfl
      | cons a r => exact absurd rfl c
    subst sn
    rw [List.append_nil] at pm
    refine ⟨_, rfl, _, rfl, (by show 2 ≤ sizeLine; decide), fun T hT => ?_⟩
    have nT := Ext.new hT (.tup [.ref na, .ref ro])
    refine q T names m1 _ (drE.ext nT) (drE.none hT) ⟨na, ro, upd_same, nT _ _ hN2, as, nT _ _ hR2, Paired.mapP pr2 fun a r z => nT _ _ z.1⟩ lN' rN okN ?_ (ltP m1 [] (by rw [List.append_nil]; exact pm)) fun y => (spn_perm pm y).trans (T8.sp y)
    rw [pm.length_eq]; exact l7
end
end My
namespace My
open PySem L2
theorem maskF_rowL {names : List Str} (nd : names.Nodup) {x : Nat} : maskF names (rowL names x) = rv names.length x := Nat.eq_of_testBit_eq fun j => by
  rw [maskF_bit, rv_bit]
  by_cases hj : j < names.length
  · rw [decide_eq_true hj, Bool.true_and, Bool.true_and]
    have hl : names.length - 1 - j < names.length := by omega
    cases b : x.testBit (names.length - 1 - j) with
    | true => exact decide_eq_true ⟨names[names.length - 1 - j], List.getElem?_eq_getElem hl, mem_rowL.mpr ⟨_, hl, List.getElem?_eq_getElem hl, b⟩⟩
    | false =>
      refine decide_eq_false ?_
      rintro ⟨n, hn, hm⟩
      obtain ⟨i, hi, hin, hb⟩ := mem_rowL.mp hm
      have e : i = names.length - 1 - j := by
        rw [List.getElem?_eq_getElem hl] at hn
        rw [List.getElem?_eq_getElem hi] at hin
        have := (List.getElem_inj nd).mp ((Option.some.inj hin).trans (Option.some.inj hn).symm)
        exact this
      rw [e, b] at hb; cases hb
  · rw [decide_eq_false hj]; rfl
section
variable {P : Program} {w : World} {K : PySem.W.Frag} {mg : Str → Option Value} {base : Heap} {f f1 f2 f3 : Addr} {fd fd1 fd2 fd3 : FuncData}
end
end My
namespace My
open PySem L2
theorem dot_comm (m x y : Nat) : dot m x y = dot m y x := xsum_congr fun j _ => Bool.and_comm _ _
theorem dot_rv (m x y : Nat) : dot m (rv m x) (rv m y) = dot m x y := by
  unfold dot
  rw [← xsum_rev (fun j => x.testBit j && y.testBit j) m]
  refine xsum_congr fun j hj => ?_
  rw [rv_bit, rv_bit, decide_eq_true hj, Bool.true_and, Bool.true_and]
theorem dd {S : List Nat} {m : Nat} (h : RR S) (hm : ∀ s ∈ S, s < 2 ^ m) {y : Nat} (hy : y < 2 ^ m) (ho : ∀ z ∈ crAll S m, dot m y z = false) : Spn S y := by
  have sp := red1_spn S S (fun s hs => hs) y
  have lead := fun s hs => red1_lead h (x := y) s hs
  have lt : red1 S y < 2 ^ m := by
    have := Spn.lt hm sp
    have e : red1 S y = (red1 S y ^^^ y) ^^^ y := (xor_back _ _).symm
    rw [e]
    exact Nat.xor_lt_two_pow this hy
  have ort : ∀ p, p < m → ¬ isLd S p → dot m (red1 S y) (crM S p) = false := fun p hp np => by
    have e : red1 S y = (red1 S y ^^^ y) ^^^ y := (xor_back _ _).symm
    rw [e, dot_left, ho _ (List.mem_map.mpr ⟨p, List.mem_filter.mpr ⟨List.mem_range.mpr hp, by rw [decide_eq_false np]; rfl⟩, rfl⟩), Bool.xor_false]
    refine spn_dotL (fun s hs => ?_) sp
    rw [dot_comm]
    exact crM_dot h hm hp np s hs
  have z : red1 S y = 0 := Nat.eq_of_testBit_eq fun p => by
    rw [Nat.zero_testBit]
    by_cases hp : p < m
    · by_cases np : isLd S p
      · obtain ⟨s, hs, rfl⟩ := np
        exact lead s hs
      · have := ort p hp np
        have bit : (crM S p).testBit p = true := by
          rw [crM_bit h np, decide_eq_true rfl, decide_eq_false]
          · rfl
          · rintro ⟨s, hs, _, e⟩; exact np ⟨s, hs, e⟩
        rw [dot_only hp bit fun j hj nj => ?_] at this
        · exact this
        · rw [crM_bit h np, decide_eq_false (Ne.symm nj), Bool.false_xor]
          by_cases c : ∃ s ∈ S, s.testBit p = true ∧ s.log2 = j
          · obtain ⟨s, hs, _, rfl⟩ := c
            rw [lead s hs]; rfl
          · rw [decide_eq_false c, Bool.and_false]
    · exact tb_hi lt (Nat.le_of_not_lt hp)
  have : y = red1 S y ^^^ y := by rw [z, Nat.zero_xor]
  rw [this]; exact sp
def cmb (as : List Nat) (c : Nat) : Nat → Nat
  | 0 => 0
  | k + 1 => cmb as c k ^^^ (if c.testBit k = true then as.getD k 0 else 0)
theorem xor4 (a b c d : Nat) : (a ^^^ b) ^^^ (c ^^^ d) = (a ^^^ c) ^^^ (b ^^^ d) := by
  rw [Nat.xor_assoc, Nat.xor_assoc, ← Nat.xor_assoc b, Nat.xor_comm b c, Nat.xor_assoc c]
theorem cmb_succ (as : List Nat) (c k : Nat) : cmb as c (k + 1) = cmb as c k ^^^ (if c.testBit k = true then as.getD k 0 else 0) := rfl
theorem cmb_lin (as : List Nat) (c d : Nat) : ∀ k, cmb as (c ^^^ d) k = cmb as c k ^^^ cmb as d k
  | 0 => (Nat.xor_self 0).symm
  | k + 1 => by
    unfold cmb
    rw [cmb_lin as c d k, xor4, Nat.testBit_xor]
    cases c.testBit k <;> cases d.testBit k <;> simp
theorem cmb_none (as : List Nat) {c : Nat} {k : Nat} (h : ∀ i, i < k → c.testBit i = false) : cmb as c k = 0 := by
  induction k with
  | zero => rfl
  | succ k ih =>
    unfold cmb
    rw [ih fun i hi => h i (by omega), h k (Nat.lt_succ_self k), if_neg Bool.false_ne_true, Nat.xor_self]
theorem cmb_one (as : List Nat) {c i : Nat} : ∀ {k}, (∀ j, j < k → c.testBit j = decide (j = i)) → cmb as c k = if i < k then as.getD i 0 else 0
  | 0, _ => rfl
  | k + 1, h => by
    unfold cmb
    rw [cmb_one as fun j hj => h j (by omega), h k (Nat.lt_succ_self k)]
    by_cases e : k = i
    · subst e
      rw [if_neg (Nat.lt_irrefl _), if_pos (decide_eq_true rfl), if_pos (Nat.lt_succ_self _), Nat.zero_xor]
    · rw [if_neg (show ¬ decide (k = i) = true by simpa using e), Nat.xor_zero]
      by_cases c : i < k
      · rw [if_pos c, if_pos (by omega)]
      · rw [if_neg c, if_neg (by omega)]
def mkd (as : List Nat) : List Nat := (List.range as.length).map fun i => 2 ^ as.length * as.getD i 0 + 2 ^ i
theorem mk_shr {n a b : Nat} (h : b < 2 ^ n) : (2 ^ n * a + b) >>> n = a := by
  rw [Nat.shiftRight_eq_div_pow, Nat.mul_add_div (Nat.two_pow_pos n), Nat.div_eq_of_lt h, Nat.add_zero]
theorem mk_bit {n a i : Nat} (hi : i < n) : ∀ j, j < n → (2 ^ n * a + 2 ^ i).testBit j = decide (j = i) := fun j hj => by
  rw [Nat.testBit_two_pow_mul_add _ (Nat.pow_lt_pow_right (by decide) hi), if_pos hj, Nat.testBit_two_pow]
  exact decide_eq_decide.mpr ⟨Eq.symm, Eq.symm⟩
theorem mk_cmb {as : List Nat} {c : Nat} (h : Spn (mkd as) c) : c >>> as.length = cmb as c as.length := by
  induction h with
  | zero => rw [Nat.zero_shiftRight, cmb_none as fun i _ => Nat.zero_testBit i]
  | @add x y hx hy ih =>
    obtain ⟨i, hi, rfl⟩ := List.mem_map.mp hx
    have hi' := List.mem_range.mp hi
    rw [cmb_lin, ← ih, Nat.shiftRight_xor_distrib, mk_shr (Nat.pow_lt_pow_right (by decide) hi'), cmb_one as (mk_bit hi'), if_pos hi']
theorem mk_of {as : List Nat} {y : Nat} (h : Spn as y) : ∃ c, Spn (mkd as) c ∧ c >>> as.length = y := by
  induction h with
  | zero => exact ⟨0, .zero, Nat.zero_shiftRight _⟩
  | @add x y hx hy ih =>
    obtain ⟨c, h1, h2⟩ := ih
    obtain ⟨i, hi, e⟩ := List.mem_iff_getElem.mp hx
    refine ⟨(2 ^ as.length * as.getD i 0 + 2 ^ i) ^^^ c, .add (List.mem_map.mpr ⟨i, List.mem_range.mpr hi, rfl⟩) h1, ?_⟩
    rw [Nat.shiftRight_xor_distrib, mk_shr (Nat.pow_lt_pow_right (by decide) hi), h2, List.getD_eq_getElem?_getD, List.getElem?_eq_getElem hi]
    show as[i] ^^^ y = x ^^^ y
    rw [e]
theorem shl_bit {n y : Nat} (i : Nat) (hi : i < n) : (2 ^ n * y).testBit i = false := by
  rw [Nat.testBit_two_pow_mul, decide_eq_false (by omega)]; rfl
theorem shl_shr (n y : Nat) : (2 ^ n * y) >>> n = y := by rw [Nat.shiftRight_eq_div_pow, Nat.mul_div_cancel_left _ (Nat.two_pow_pos n)]
def rst (M : List Nat) (n y : Nat) : Nat := red1 M (2 ^ n * y)
theorem rst_cmb {as M : List Nat} (sp : ∀ y, Spn M y ↔ Spn (mkd as) y) (y : Nat) : rst M as.length y >>> as.length = cmb as (rst M as.length y) as.length ^^^ y := by
  have h := mk_cmb ((sp _).mp (red1_spn M M (fun s hs => hs) (2 ^ as.length * y)))
  rw [cmb_lin, cmb_none as (c := 2 ^ as.length * y) (fun i hi => shl_bit i hi), Nat.xor_zero, Nat.shiftRight_xor_distrib, shl_shr] at h
  unfold rst
  rw [← h, xor_back]
theorem rst_in {as M : List Nat} (rr : RR M) (sp : ∀ y, Spn M y ↔ Spn (mkd as) y) {y : Nat} (h : Spn as y) : rst M as.length y >>> as.length = 0 := by
  obtain ⟨c, h1, h2⟩ := mk_of h
  refine Nat.eq_of_testBit_eq fun p => ?_
  rw [Nat.zero_testBit, Nat.testBit_shiftRight]
  cases hb : (rst M as.length y).testBit (as.length + p) with
  | false => rfl
  | true =>
    exfalso
    have vz : ∀ j, as.length ≤ j → ((2 ^ as.length * y) ^^^ c).testBit j = false := fun j hj => by
      have e : ((2 ^ as.length * y) ^^^ c) >>> as.length = 0 := by rw [Nat.shiftRight_xor_distrib, shl_shr, h2, Nat.xor_self]
      have := congrArg (fun z => Nat.testBit z (j - as.length)) e
      rw [Nat.testBit_shiftRight, Nat.zero_testBit, show as.length + (j - as.length) = j by omega] at this
      exact this
    have zs : Spn M (rst M as.length y ^^^ ((2 ^ as.length * y) ^^^ c)) := by
      rw [← Nat.xor_assoc]
      exact (red1_spn M M (fun s hs => hs) (2 ^ as.length * y)).xor ((sp c).mpr h1)
    have zb : (rst M as.length y ^^^ ((2 ^ as.length * y) ^^^ c)).testBit (as.length + p) = true := by
      rw [Nat.testBit_xor, hb, vz _ (Nat.le_add_right _ _)]; rfl
    have nz : rst M as.length y ^^^ ((2 ^ as.length * y) ^^^ c) ≠ 0 := fun e => by rw [e, Nat.zero_testBit] at zb; cases zb
    have zl := tb_le zb
    obtain ⟨s, hs, e⟩ := spn_lead rr zs nz
    have l1 := red1_lead rr (x := 2 ^ as.length * y) s hs
    have l2 := Nat.testBit_log2 nz
    rw [Nat.testBit_xor, vz _ (by omega), Bool.xor_false, ← e] at l2
    unfold rst at l2
    rw [l1] at l2
    cases l2
def plc (n r : Nat) : List Nat := (List.range n).filter fun i => r.testBit i
theorem plc_fold (as : List Nat) (r : Nat) : ∀ n, ((plc n r).map fun i => as.getD i 0).foldl (· ^^^ ·) 0 = cmb as r n
  | 0 => rfl
  | n + 1 => by
    have ih := plc_fold as r n
    unfold plc at ih ⊢
    rw [List.range_succ, List.filter_append, List.map_append, List.foldl_append, ih]
    rw [cmb_succ]
    cases hb : r.testBit n with
    | true => rw [List.filter_cons_of_pos (by exact hb), if_pos rfl]; rfl
    | false => rw [List.filter_cons_of_neg (by rw [hb]; exact Bool.false_ne_true), if_neg Bool.false_ne_true, Nat.xor_zero]; rfl
theorem plc_rise (n r : Nat) : (plc n r).Pairwise (· < ·) := List.pairwise_lt_range.filter _
theorem plc_lt {n r i : Nat} (h : i ∈ plc n r) : i < n := List.mem_range.mp (List.mem_filter.mp h).1
theorem cnt_par {α : Type} (f : Nat → Option α) (p : Nat → Bool) : ∀ k, (∀ i, i < k → (f i).isSome = true) → ((List.range k).filterMap fun i => if p i = true then f i else none).length % 2 = if xsum k p = true then 1 else 0
  | 0, _ => rfl
  | k + 1, h => by
    have ih := cnt_par f p k fun i hi => h i (by omega)
    rw [List.range_succ, List.filterMap_append, List.length_append]
    have hs := h k (Nat.lt_succ_self k)
    obtain ⟨v, hv⟩ := Option.isSome_iff_exists.mp hs
    unfold xsum
    cases hp : p k with
    | true =>
      have e : ([k].filterMap fun i => if p i = true then f i else none).length = 1 := by simp [hp, hv]
      rw [e]
      cases hx : xsum k p
      · rw [hx, if_neg Bool.false_ne_true] at ih; simp; omega
      · rw [hx, if_pos rfl] at ih; simp; omega
    | false =>
      have e : ([k].filterMap fun i => if p i = true then f i else none).length = 0 := by simp [hp]
      rw [e, Nat.add_zero, Bool.xor_false]; exact ih
theorem filterMap_cong {α β : Type} {f g : α → Option β} : ∀ {l : List α}, (∀ x ∈ l, f x = g x) → l.filterMap f = l.filterMap g
  | [], _ => rfl
  | x :: l, h => by rw [List.filterMap_cons, List.filterMap_cons, h x List.mem_cons_self, filterMap_cong fun y hy => h y (List.mem_cons_of_mem _ hy)]
theorem rowL_filter {names : List Str} (nd : names.Nodup) (x y : Nat) : (rowL names x).filter (fun n => decide (n ∈ rowL names y)) = rowL names (x &&& y) := by
  show (List.filterMap _ _).filter _ = _
  rw [List.filter_filterMap]
  refine filterMap_cong fun i hi => ?_
  have hi' := List.mem_range.mp hi
  rw [Nat.testBit_and, List.getElem?_eq_getElem hi']
  have mem : names[i] ∈ rowL names y ↔ y.testBit i = true := by
    rw [mem_rowL]
    constructor
    · rintro ⟨j, hj, e, b⟩
      rw [List.getElem?_eq_getElem hj] at e
      have := (List.getElem_inj nd).mp (Option.some.inj e)
      rw [← this]; exact b
    · intro b
      exact ⟨i, hi', List.getElem?_eq_getElem hi', b⟩
  cases x.testBit i with
  | false => rfl
  | true =>
    rw [if_pos rfl, Bool.true_and]
    show Option.filter _ (some names[i]) = _
    rw [Option.filter_some]
    by_cases c : y.testBit i = true
    · rw [if_pos (decide_eq_true (mem.mpr c)), if_pos c]
    · rw [if_neg (fun z => c (mem.mp (of_decide_eq_true z))), if_neg c]
def evenMeet (one other : List Str) : Bool := decide ((one.filter (fun n => decide (n ∈ other))).length % 2 = 0)
theorem meet_dot {names : List Str} (nd : names.Nodup) (x y : Nat) : evenMeet (rowL names x) (rowL names y) = !dot names.length x y := by
  unfold evenMeet
  rw [rowL_filter nd]
  have h := cnt_par (fun i => names[i]?) (fun i => (x &&& y).testBit i) names.length fun i hi => by rw [List.getElem?_eq_getElem hi]; rfl
  have e : xsum names.length (fun i => (x &&& y).testBit i) = dot names.length x y := xsum_congr fun j _ => Nat.testBit_and ..
  rw [e] at h
  have h' : (rowL names (x &&& y)).length % 2 = if dot names.length x y = true then 1 else 0 := h
  rw [h']
  cases dot names.length x y <;> rfl
theorem rowM_rv {names : List Str} {z : Nat} (hz : z < 2 ^ names.length) : rowM names z = rowL names (rv names.length z) := by rw [← rowL_rv, rv_rv hz]
theorem odd_some {m : Nat} {as S M : List Nat} {y : Nat} (lt : ∀ a ∈ as, a < 2 ^ m) (hy : y < 2 ^ m) (pS : S.Perm (red as)) (pM : M.Perm (red (crAll S m))) (no : ¬ Spn as y) : ∃ z ∈ M, dot m z y = true := by
  have rS : RR S := (red_rr as).perm pS
  have lS : ∀ s ∈ S, s < 2 ^ m := fun s hs => red_lt lt s (pS.mem_iff.mp hs)
  by_cases c : ∃ z ∈ M, dot m z y = true
  · exact c
  · exfalso
    refine no ((red_spn as y).mp ((spn_perm pS y).mp (dd rS lS hy fun z hz => ?_)))
    rw [dot_comm]
    have zM : Spn M z := (spn_perm pM z).mpr ((red_spn _ z).mpr (.mem hz))
    refine spn_dotL (fun x hx => ?_) zM
    cases h : dot m x y with
    | false => rfl
    | true => exact absurd ⟨x, hx, h⟩ c
theorem odd_meets {m : Nat} {as S M : List Nat} {z : Nat} (lt : ∀ a ∈ as, a < 2 ^ m) (pS : S.Perm (red as)) (pM : M.Perm (red (crAll S m))) (hz : z ∈ M) : z < 2 ^ m ∧ ∀ a ∈ as, dot m z a = false := by
  have rS : RR S := (red_rr as).perm pS
  have lS : ∀ s ∈ S, s < 2 ^ m := fun s hs => red_lt lt s (pS.mem_iff.mp hs)
  obtain ⟨h1, h2⟩ := (cr_spn rS lS z).mp ((red_spn _ z).mp ((spn_perm pM z).mp (.mem hz)))
  exact ⟨h1, fun a ha => spn_dot h2 ((spn_perm pS a).mpr ((red_spn as a).mpr (.mem ha)))⟩
theorem cr_same {m : Nat} {as S S' M M' : List Nat} (lt : ∀ a ∈ as, a < 2 ^ m) (pS : S.Perm (red as)) (pS' : S'.Perm (red as)) (pM : M.Perm (red (crAll S m))) (pM' : M'.Perm (red (crAll S' m))) (d : M.Pairwise fun a b => b ≤ a) (d' : M'.Pairwise fun a b => b ≤ a) : M = M' := by
  have rS : RR S := (red_rr as).perm pS
  have lS : ∀ s ∈ S, s < 2 ^ m := fun s hs => red_lt lt s (pS.mem_iff.mp hs)
  have rS' : RR S' := (red_rr as).perm pS'
  have lS' : ∀ s ∈ S', s < 2 ^ m := fun s hs => red_lt lt s (pS'.mem_iff.mp hs)
  have sp : ∀ y, Spn (red (crAll S m)) y ↔ Spn (red (crAll S' m)) y := fun y => by
    rw [red_spn, red_spn, cr_spn rS lS, cr_spn rS' lS']
    exact and_congr_right fun _ => ⟨fun h s hs => h s (pS.mem_iff.mpr (pS'.mem_iff.mp hs)), fun h s hs => h s (pS'.mem_iff.mpr (pS.mem_iff.mp hs))⟩
  have r1 := red_rr (crAll S m)
  have r2 := red_rr (crAll S' m)
  have p : (red (crAll S m)).Perm (red (crAll S' m)) := (List.perm_ext_iff_of_nodup r1.nd r2.nd).mpr fun s => ⟨rr_uniq r1 r2 sp s, rr_uniq r2 r1 (fun y => (sp y).symm) s⟩
  exact desc_uniq d d' ((pM.trans p).trans pM'.symm)
end My
namespace My
open PySem L2
theorem maskL_rowL {names : List Str} (nd : names.Nodup) {x : Nat} (hx : x < 2 ^ names.length) : maskL names (rowL names x) = x := by
  obtain ⟨h1, h2⟩ := maskL_rv nd (rowL_nd nd x) (fun n hn => by obtain ⟨i, hi, hin, _⟩ := mem_rowL.mp hn; exact List.mem_of_getElem? hin)
  rw [maskF_rowL nd] at h2
  rw [← rv_rv h1, h2, rv_rv hx]
theorem sok_row {names : List Str} (h : SOk names) (x : Nat) : SOk (rowL names x) := fun n hn => by
  obtain ⟨i, hi, hin, _⟩ := mem_rowL.mp hn
  exact h n (List.mem_of_getElem? hin)
def spLMs : Sp := fun vs H Q _ => ∃ (pn pr : Addr) (names row : List Str), vs = [.ref pn, .ref pr] ∧ LsS H pn names ∧ LsS H pr row ∧ (∀ n ∈ row, n ∈ names) ∧ names.length ≤ 12 ∧ Q (iV (maskL names row)) H
theorem spn_snoc_iff {S : List Nat} {s : Nat} (y : Nat) : Spn (S ++ [s]) y ↔ Spn S y ∨ Spn S (y ^^^ s) := by
  constructor
  · intro h
    induction h with
    | zero => exact .inl .zero
    | @add x y hx hy ih =>
      rcases List.mem_append.mp hx with hx | hx
      · rcases ih with ih | ih
        · exact .inl (.add hx ih)
        · refine .inr ?_
          rw [Nat.xor_assoc]
          exact .add hx ih
      · rw [List.mem_singleton.mp hx]
        rcases ih with ih | ih
        · refine .inr ?_
          rw [Nat.xor_comm s y, xor_back]; exact ih
        · refine .inl ?_
          rw [Nat.xor_comm s y]; exact ih
  · rintro (h | h)
    · exact Spn.mono (fun x hx => .mem (List.mem_append_left _ hx)) h
    · have h1 : Spn (S ++ [s]) (y ^^^ s) := Spn.mono (fun x hx => .mem (List.mem_append_left _ hx)) h
      have := h1.xor (.mem (List.mem_append_right _ (List.mem_singleton.mpr rfl)))
      rwa [xor_back] at this
def spSpa : Sp := fun vs H Q _ => ∃ (p : Addr) (S : List Nat), vs = [.ref p] ∧ LsN H p S ∧ S.length ≤ 9 ∧ ∀ (r : Addr) (L : List Nat) (H' : Hp), Ext H H' → H r = none → LsN H' r L → (∀ y, y ∈ L ↔ Spn S y) → L.length ≤ 512 → Q (.ref r) H'
theorem filt_strsM (p : Str → Bool) : ∀ ss : List Str, (ss.map V.str).filterMap (fun v => match v with | .str n => if p n = true then some (V.str n) else none | _ => none) = (ss.filter p).map V.str
  | [] => rfl
  | x :: r => by
    rw [List.map_cons, List.filterMap_cons, filt_strsM p r]
    by_cases e : p x = true
    · simp [e]
    · simp [e]
def spMeets : Sp := fun vs H Q _ => ∃ (a b : Addr) (one other : List Str), vs = [.ref a, .ref b] ∧ LsS H a one ∧ LsS H b other ∧ one.length ≤ 100 ∧ ∀ H', Ext H H' → Q (.bl (evenMeet one other)) H'
section
variable {P : Program} {w : World} {K : PySem.W.Frag} {mg : Str → Option Value} {base : Heap} {f f1 f2 f3 : Addr} {fd fd1 fd2 fd3 : FuncData}
abbrev lmN : List Str := ["_law_names_here", "_law_row_here", "_law_mask_here", "_law_name"]
theorem scLMs : FnScope lmN ["_law_names_here", "_law_row_here"] (defScope sLMs) := ⟨rfl, rfl, rfl, by decide +kernel, rfl, by decide +kernel, by decide +kernel⟩
set_option maxHeartbeats 8000000 in
theorem ok_lms (F : Fun K "_law_mask" "_law_mask" sLMs f fd) : FnOk P w K mg base CX0 1 f fd ["_law_names_here", "_law_row_here"] spLMs := by
  refine F.ok scLMs (fun vs H Q E h => ?_) (fun cdv A outer s H vs Q E hr h => ?_)
  · obtain ⟨pn, pr, names, row, rfl, _⟩ := h
    rfl
  obtain ⟨pn, pr, names, row, rfl, hn, hw, sub, ln, q⟩ := h
  refine ⟨_, pss_cons (ps_set (i := 2) scLMs.nd rfl (Or.inl rfl) pe_int)
    (pss_cons (ps_for PassesOwn.never rfl (pi_list (pv 1)) (pg_name (i := 3) scLMs.nd rfl (Or.inl rfl))
      (pss_one (ps_set (i := 2) scLMs.nd rfl (Or.inl rfl) (pe_op op_add (pv 2) (pe_op op_shl pe_int (pe_bm PySem.F.plainAttrs_list PySem.F.slot_list_index PySem.F.type_list_index mt_index (pv 0) (pa_cons (pv 3) pa_nil)))))))
    (pss_one (ps_ret (pv 2)))), ?_⟩
  refine ⟨_, rfl, pr, rfl, ⟨_, SqL.of hw⟩, ?_⟩
  refine for_list (xs := row.map V.str) (fun i σ H' => H' = H ∧ ∃ x3 : Option V, σ = [some (.ref pn), some (.ref pr), some (iV (maskL names (row.take i))), x3]) ⟨rfl, none, rfl⟩ (fun i σ H' _ h => by rw [h.1]; exact SqL.of hw) ?_ ?_
  · rintro i x σ H' hx ⟨rfl, x3, rfl⟩
    obtain ⟨y, rfl, hy⟩ := str_get hx
    obtain ⟨a1, a2, a3⟩ := ixF_at (sub y (List.mem_of_getElem? hy))
    refine ⟨_, rfl, _, rfl, .inl ⟨rfl, _, SqL.of hn⟩, _, rfl, pn, names, y, ixF names y, rfl, rfl, hn, a1, a2, by omega, _, _, rfl, rfl, ⟨by omega, by omega, by decide⟩, _, _, rfl, rfl, rfl, some (.str y), ?_⟩
    refine congrArg (fun v => [some (V.ref pn), some (V.ref pr), some v, some (V.str y)]) ?_
    show V.int (((maskL names (row.take i) : Nat) : Int) + 1 * 2 ^ ((ixF names y : Nat) : Int).toNat) = V.int _
    rw [shl_nat, take_snoc hy]
    unfold maskL
    rw [List.map_append, List.sum_append, Int.natCast_add]
    simp
  · rintro σ H' ⟨rfl, x3, rfl⟩
    rw [List.length_map, List.take_of_length_le (Nat.le_refl _)]
    exact ⟨_, rfl, q⟩
theorem scSpa : FnScope ["_law_base", "_law_sums", "_law_step"] ["_law_base"] (defScope sSpa) := ⟨rfl, rfl, rfl, by decide +kernel, rfl, by decide +kernel, by decide +kernel⟩
set_option maxHeartbeats 8000000 in
theorem ok_spa (F : Fun K "_law_span" "_law_span" sSpa f fd) : FnOk P w K mg base CX0 1 f fd ["_law_base"] spSpa := by
  refine F.ok scSpa (fun vs H Q E h => ?_) (fun cdv A outer s H vs Q E hr h => ?_)
  · obtain ⟨p, S, rfl, _⟩ := h
    rfl
  obtain ⟨p, S, rfl, hp, lS, q⟩ := h
  refine ⟨_, pss_cons (ps_set (i := 1) scSpa.nd rfl (Or.inl rfl) (pe_lst (pa_cons pe_int pa_nil)))
    (pss_cons (ps_for PassesOwn.never rfl (pi_list (pv 0)) (pg_name (i := 2) scSpa.nd rfl (Or.inr rfl))
      (pss_one (ps_set (i := 1) scSpa.nd rfl (Or.inl rfl) (pe_op op_cat (pv 1) (pe_lc (N := ["_law_base", "_law_sums", "_law_step"]) (sc := defScope sSpa) (N' := ["_law_one", "_law_step"]) (sub := [none, some 2]) rfl rfl (CmpOk.of (by decide +kernel)) rfl (pi_list (pv 1))
        (fun C s H fp => ⟨pg_name (i := 0) (by show (["_law_one", "_law_step"] : List Str).Nodup; decide) rfl (Or.inl rfl), pts_nil, pe_op op_xor (pv 0) (pv 1)⟩))))))
    (pss_one (ps_ret (pv 1)))), ?_⟩
  refine ⟨(by show 1 ≤ sizeLine; decide), fun su su0 => ?_⟩
  have n0 := Ext.new su0 (.lst [V.int 0])
  refine ⟨_, rfl, p, rfl, ⟨_, SqL.of (n0 _ _ hp)⟩, ?_⟩
  refine for_list (xs := S.map iV) (fun i σ H' => ∃ (su : Addr) (L : List Nat) (x2 : Option V), σ = [some (.ref p), some (.ref su), x2] ∧ Ext H H' ∧ H su = none ∧ LsN H' su L ∧ L.length = 2 ^ i ∧ ∀ y, y ∈ L ↔ Spn (S.take i) y) ⟨su, [0], none, rfl, n0, su0, upd_same, rfl, fun y => ?_⟩ (fun i σ H' _ z => by obtain ⟨_, _, _, _, e, _⟩ := z; exact SqL.of (e _ _ hp)) ?_ ?_
  · rw [List.mem_singleton]
    constructor
    · rintro rfl; exact .zero
    · intro h
      cases h with
      | zero => rfl
      | add hx _ => cases hx
  · rintro i v σ H' hx ⟨su, L, x2, rfl, e, su0, hL, lL, mem⟩
    obtain ⟨s, rfl, hs⟩ := iv_get hx
    have hi := at_lt hs
    have pl : 2 ^ i ≤ 2 ^ 8 := Nat.pow_le_pow_right (by decide) (by omega)
    refine ⟨_, rfl, _, rfl, su, rfl, ⟨_, SqL.of hL⟩, ?_⟩
    refine turns_list (xs := L.map iV) (fun j ys H2 => H2 = H' ∧ ys = ((L.take j).map fun x => x ^^^ s).map iV) ⟨rfl, rfl⟩ (fun j ys H2 _ h => by rw [h.1]; exact SqL.of hL) ?_ ?_
    · rintro j v ys H2 hx2 ⟨rfl, rfl⟩
      obtain ⟨x, rfl, hx'⟩ := iv_get hx2
      have hj := at_lt hx'
      refine ⟨Sle.set _ (Sle.refl _) (fun u z => by cases z), iteT (B := False) ⟨_, rfl, _, rfl, _, _, rfl, rfl, ?_, nxt (at_lt hx2) ⟨rfl, ?_⟩⟩⟩
      · rw [List.length_map, List.length_map, List.length_take]; exact small1000 (by omega)
      · rw [take_snoc hx', List.map_append, List.map_append]
        refine congrArg (fun v => ((L.take j).map fun x => x ^^^ s).map iV ++ [v]) ?_
        show V.int (Builtin.bitXor _ _) = V.int _
        rw [bxor_nat]
    · rintro ys H2 ⟨rfl, rfl⟩ l hl
      rw [List.length_map, List.take_of_length_le (Nat.le_refl _)]
      have nl := Ext.new hl (.lst ((L.map fun x => x ^^^ s).map iV))
      refine ⟨su, l, _, _, rfl, rfl, nl _ _ hL, upd_same, ?_, fun l3 hl3 => ?_⟩
      · rw [List.length_map, List.length_map, List.length_map]; exact Nat.le_of_lt (small1000 (by omega))
      refine ⟨l3, L ++ L.map (fun x => x ^^^ s), _, rfl, (e.trans nl).trans (Ext.new hl3 _), (e.trans nl).none hl3, by unfold LsN; rw [upd_same, List.map_append], by rw [List.length_append, List.length_map, lL, Nat.pow_succ]; omega, fun y => ?_⟩
      rw [take_snoc hs, spn_snoc_iff, List.mem_append, mem, List.mem_map]
      constructor
      · rintro (h | ⟨x, hx, rfl⟩)
        · exact .inl h
        · refine .inr ?_
          rw [xor_back]; exact (mem x).mp hx
      · rintro (h | h)
        · exact .inl h
        · exact .inr ⟨y ^^^ s, (mem _).mpr h, xor_back y s⟩
  · rintro σ H' ⟨su, L, x2, rfl, e, su0, hL, lL, mem⟩
    rw [List.length_map] at lL
    rw [List.length_map, List.take_of_length_le (Nat.le_refl _)] at mem
    have pl : 2 ^ S.length ≤ 2 ^ 9 := Nat.pow_le_pow_right (by decide) lS
    exact ⟨_, rfl, q su L H' e su0 hL mem (by omega)⟩
theorem scMeets : FnScope ["one", "other"] ["one", "other"] (defScope sMeet) := ⟨rfl, rfl, rfl, by decide +kernel, rfl, by decide +kernel, by decide +kernel⟩
theorem ok_meets (F : Fun K "meets_evenly" "meets_evenly" sMeet f fd) (ml : mg "len" = none) : FnOk P w K mg base CX0 1 f fd ["one", "other"] spMeets := by
  refine F.ok scMeets (fun vs H Q E h => ?_) (fun cdv A outer s H vs Q E hr h => ?_)
  · obtain ⟨a, b, _, _, rfl, _⟩ := h
    rfl
  obtain ⟨a, b, one, other, rfl, ha, hb, h1, q⟩ := h
  refine ⟨_, pss_one (ps_ret (pe_cmpR op_eq (pe_op op_mod (pe_callB call_len_seq rfl ml PySem.boot_len (pa_cons
    (pe_lc (N := ["one", "other"]) (sc := defScope sMeet) (N' := ["name", "other"]) (sub := [none, some 1]) rfl rfl (CmpOk.of (by decide +kernel)) rfl (pi_list (pv 0))
      (fun C s H fp => ⟨pg_name (i := 0) (by show (["name", "other"] : List Str).Nodup; decide) rfl (Or.inl rfl), pts_one (pt_cmpR (show OpR _ (compareOp .In) (rIn K false) from op_in_seq) (pv 0) (pv 1) (by with_unfolding_all rfl)), pv 0⟩)) pa_nil)) pe_int) pe_int (nomark _))), ?_⟩
  refine ⟨_, rfl, a, rfl, ⟨_, SqL.of ha⟩, ?_⟩
  refine turns_pure (xs := one.map V.str) (fun v => match v with | .str n => if decide (n ∈ other) = true then some (V.str n) else none | _ => none) (SqL.of ha) (by rw [List.length_map]; exact Nat.le_of_lt (small1000 (by omega))) ?_ ?_
  · intro x hx C hC
    obtain ⟨n, _, rfl⟩ := List.mem_map.mp hx
    refine ⟨Sle.set _ (Sle.refl _) (fun u z => by cases z), _, rfl, _, rfl, b, _, rfl, .inl (SqL.of hb), rfl, flat_strs other, _, rfl, ?_⟩
    rw [if_neg Bool.false_ne_true, inV_str]
    dsimp only
    by_cases e : n ∈ other
    · rw [if_pos (decide_eq_true e)]
      refine ⟨_, rfl, ?_⟩
      have hC' : C (if decide (n ∈ other) = true then some (V.str n) else none) H := hC
      rw [if_pos (decide_eq_true e)] at hC'
      exact hC'
    · rw [if_neg (by simpa using e)]
      have hC' : C (if decide (n ∈ other) = true then some (V.str n) else none) H := hC
      rw [if_neg (by simpa using e)] at hC'
      exact hC'
  · rw [filt_strsM]
    intro r hr'
    refine ⟨r, _, rfl, .inl (SqL.of upd_same), _, _, rfl, rfl, (by show (0 : Int) < _; decide), rfl, ?_⟩
    have e : decide (V.int ((((one.filter fun n => decide (n ∈ other)).map V.str).length : Int) % 2) = V.int 0) = evenMeet one other := by
      unfold evenMeet
      rw [List.length_map]
      by_cases z : (one.filter fun n => decide (n ∈ other)).length % 2 = 0
      · rw [decide_eq_true z, decide_eq_true]
        exact congrArg V.int (by omega)
      · rw [decide_eq_false z, decide_eq_false]
        intro y
        injection y with y
        omega
    rw [e]
    exact q _ (Ext.new hr' _)
end
end My
namespace My
open PySem L2
theorem paired_snoc {α β : Type} {R : α → β → Prop} : ∀ {as : List α} {bs : List β} {a : α} {b : β}, Paired R as bs → R a b → Paired R (as ++ [a]) (bs ++ [b])
  | _, _, _, _, .nil, r => .cons r .nil
  | _, _, _, _, .cons h t, r => .cons h (paired_snoc t r)
inductive Tl where
  | inn (ps : List Nat)
  | out (ss : List Str)
def Tl.tag : Tl → Str
  | .inn _ => "within"
  | .out _ => "without"
def Tl.vals : Tl → List V
  | .inn ps => ps.map iV
  | .out ss => ss.map V.str
def TlAt (H : Hp) (t l : Addr) (o : Tl) : Prop := H t = some (.tup [.str o.tag, .ref l]) ∧ H l = some (.lst o.vals)
def OddT (names : List Str) (rows : List (List Str)) (row ss : List Str) : Prop := ∃ S M : List Nat, S.Perm (red (rows.map (maskF names))) ∧ M.Perm (red (crAll S names.length)) ∧ M.Pairwise (fun a b => b ≤ a) ∧ ((M.map (rowM names)).filter fun o => !evenMeet o row).head? = some ss
def RstT (names : List Str) (rows : List (List Str)) (row : List Str) (r : Nat) : Prop := ∃ M : List Nat, M.Perm (red (mkd (rows.map (maskF names)))) ∧ M.Pairwise (fun a b => b ≤ a) ∧ r = rst M rows.length (maskF names row)
def WT (names : List Str) (rows : List (List Str)) (row : List Str) : Tl → Prop
  | .inn ps => ∃ r, RstT names rows row r ∧ r >>> rows.length = 0 ∧ ps = plc rows.length r
  | .out ss => (∃ r, RstT names rows row r ∧ r >>> rows.length ≠ 0) ∧ OddT names rows row ss
theorem rst_same {names : List Str} {rows : List (List Str)} {row : List Str} {r r' : Nat} (h : RstT names rows row r) (h' : RstT names rows row r') : r = r' := by
  obtain ⟨M, p, d, rfl⟩ := h
  obtain ⟨M', p', d', rfl⟩ := h'
  rw [desc_uniq d d' (p.trans p'.symm)]
theorem odd_same {names : List Str} {rows : List (List Str)} {row ss ss' : List Str} (h : OddT names rows row ss) (h' : OddT names rows row ss') : ss = ss' := by
  obtain ⟨S, M, a1, a2, a3, a4⟩ := h
  obtain ⟨S', M', b1, b2, b3, b4⟩ := h'
  have e := cr_same (m := names.length) (fun a ha => by obtain ⟨r, _, rfl⟩ := List.mem_map.mp ha; exact maskF_lt names r) a1 b1 a2 b2 a3 b3
  subst e
  rw [a4] at b4
  exact Option.some.inj b4
theorem wt_same {names : List Str} {rows : List (List Str)} {row : List Str} : ∀ {o o' : Tl}, WT names rows row o → WT names rows row o' → o = o'
  | .inn ps, .inn ps', ⟨r, h1, _, e⟩, ⟨r', h1', _, e'⟩ => by rw [e, e', rst_same h1 h1']
  | .inn ps, .out ss, ⟨r, h1, z, _⟩, ⟨⟨r', h1', nz⟩, _⟩ => absurd (by rw [← rst_same h1 h1']; exact z) nz
  | .out ss, .inn ps, ⟨⟨r', h1', nz⟩, _⟩, ⟨r, h1, z, _⟩ => absurd (by rw [← rst_same h1 h1']; exact z) nz
  | .out ss, .out ss', ⟨_, h⟩, ⟨_, h'⟩ => by rw [odd_same h h']
def spOdd : Sp := fun vs H Q _ => ∃ (T pr : Addr) (names : List Str) (rows : List (List Str)) (x : Nat), vs = [.ref T, .ref pr] ∧ TabIn H T names rows ∧ LsS H pr (rowL names x) ∧ names.Nodup ∧ names.length ≤ 12 ∧ rows.length ≤ 16 ∧ x < 2 ^ names.length ∧ ¬ Spn (rows.map (maskF names)) (rv names.length x) ∧
  ∀ (l : Addr) (ss : List Str) (H' : Hp), Ext H H' → H l = none → LsS H' l ss → OddT names rows (rowL names x) ss → Q (.ref l) H'
def spWin : Sp := fun vs H Q _ => ∃ (T pr : Addr) (names : List Str) (rows : List (List Str)) (x : Nat), vs = [.ref T, .ref pr] ∧ TabIn H T names rows ∧ LsS H pr (rowL names x) ∧ names.Nodup ∧ names.length ≤ 12 ∧ rows.length ≤ 16 ∧ x < 2 ^ names.length ∧
  ∀ (t l : Addr) (o : Tl) (H' : Hp), Ext H H' → H t = none → H l = none → TlAt H' t l o → WT names rows (rowL names x) o → Q (.ref t) H'
theorem odd_meet {names : List Str} (nd : names.Nodup) {z x : Nat} (hz : z < 2 ^ names.length) (hx : x < 2 ^ names.length) : evenMeet (rowM names z) (rowL names x) = !dot names.length z (rv names.length x) := by
  rw [rowM_rv hz, meet_dot nd, ← dot_rv, rv_rv hz]
section
variable {P : Program} {w : World} {K : PySem.W.Frag} {mg : Str → Option Value} {base : Heap} {f f1 f2 f3 f4 : Addr} {fd fd1 fd2 fd3 fd4 : FuncData}
theorem scOdd : FnScope ["table", "row", "told"] ["table", "row"] (defScope sOdd) := ⟨rfl, rfl, rfl, by decide +kernel, rfl, by decide +kernel, by decide +kernel⟩
set_option maxHeartbeats 8000000 in
theorem ok_odd (F : Fun K "oddly_met" "oddly_met" sOdd f fd) (G1 : FnOk P w K mg base CX0 4 f1 fd1 ["table"] spCross) (bG1 : Binds K fd1 ["table"] []) (kG1 : PySem.W.keepIn K (.ref f1) = true) (mG1 : mg "crossed" = some (.ref f1))
    (G2 : FnOk P w K mg base CX0 1 f2 fd2 ["one", "other"] spMeets) (bG2 : Binds K fd2 ["one", "other"] []) (kG2 : PySem.W.keepIn K (.ref f2) = true) (mG2 : mg "meets_evenly" = some (.ref f2)) : FnOk P w K mg base CX0 5 f fd ["table", "row"] spOdd := by
  refine F.ok scOdd (fun vs H Q E h => ?_) (fun cdv A outer s H vs Q E hr h => ?_)
  · obtain ⟨T, pr, names, rows, x, rfl, _⟩ := h
    rfl
  obtain ⟨T, pr, names, rows, x, rfl, tI, hp, nd, ln, lr, hx, no, q⟩ := h
  have hr1 := hr.mono (j := 1) (by decide)
  refine ⟨_, pss_cons (ps_lc (i := 2) (N := ["table", "row", "told"]) (sc := defScope sOdd) (N' := ["other", "row"]) (sub := [none, some 1]) rfl rfl (CmpOk.of (by decide +kernel)) rfl (pi_list (pe_ix ix_tup (pe_call G1 hr rfl mG1 kG1 bG1 .nil pass0 (pa_cons (pv 0) pa_nil)) pe_int (fun _ _ => rfl)))
      (fun C s H fp => ⟨pg_name (i := 0) (by show (["other", "row"] : List Str).Nodup; decide) rfl (Or.inl rfl), pts_one (pt_not (pt_val (pe_call G2 hr1 rfl mG2 kG2 bG2 .nil pass0 (pa_cons (pv 0) (pa_cons (pv 1) pa_nil))))), pv 0⟩) scOdd.nd rfl (Or.inl rfl))
    (pss_one (ps_ret (pe_ix ix_list (pv 2) pe_int (fun _ _ => rfl)))), ?_⟩
  refine ⟨_, rfl, T, names, rows, rfl, tI, ln, by omega, fun T' S M H1 e1 t0 tf pS pM dM => ?_⟩
  obtain ⟨a, b, hT', ha, _, ⟨as, hb, prs⟩, _⟩ := tf
  refine ⟨T', _, _, .ref b, rfl, rfl, SqT.of hT', (by exact atI_nat (j := 1) rfl), b, rfl, ⟨_, SqL.of hb⟩, ?_⟩
  have las : as.length = M.length := by rw [prs.length, List.length_map]
  have lM : M.length ≤ 12 := by
    have h1 := red_le (crAll S names.length)
    rw [← pM.length_eq] at h1
    unfold crAll at h1
    rw [List.length_map] at h1
    have h2 := List.length_filter_le (fun p => !decide (isLd S p)) (List.range names.length)
    rw [List.length_range] at h2
    omega
  have lt : ∀ a ∈ rows.map (maskF names), a < 2 ^ names.length := fun a ha => by obtain ⟨r, _, rfl⟩ := List.mem_map.mp ha; exact maskF_lt names r
  refine turns_list (xs := as.map V.ref) (fun j ys H2 => Ext H1 H2 ∧ ∃ bs : List Addr, ys = bs.map V.ref ∧ bs.length ≤ j ∧ Paired (fun y r => LsS H1 y r ∧ H y = none) bs (((M.take j).map (rowM names)).filter fun o => !evenMeet o (rowL names x))) ⟨Ext.refl _, [], rfl, Nat.le_refl _, .nil⟩ (fun j ys H2 _ h => SqL.of (h.1 _ _ hb)) ?_ ?_
  · rintro j v ys H2 hv ⟨e2, bs, rfl, lb, pb⟩
    obtain ⟨y, rfl, hy⟩ := ref_get hv
    obtain ⟨r, hr', hly, hy0, _⟩ := paired_get prs hy
    rw [List.getElem?_map] at hr'
    cases hm : M[j]? with
    | none => rw [hm] at hr'; cases hr'
    | some z =>
      rw [hm] at hr'
      have er : rowM names z = r := Option.some.inj hr'
      have hj := at_lt hm
      refine ⟨Sle.set _ (Sle.refl _) (fun u z => by cases z), ?_⟩
      refine ⟨_, rfl, _, rfl, y, pr, r, rowL names x, rfl, e2 _ _ hly, (e1.trans e2) _ _ hp, ?_, fun H3 e3 => ⟨_, rfl, ?_⟩⟩
      · rw [← er]
        have := List.length_filterMap_le (fun i => if z.testBit (names.length - 1 - i) = true then names[i]? else none) (List.range names.length)
        rw [List.length_range] at this
        show (rowM names z).length ≤ 100
        unfold rowM
        omega
      have tk : ((M.take (j + 1)).map (rowM names)).filter (fun o => !evenMeet o (rowL names x)) = ((M.take j).map (rowM names)).filter (fun o => !evenMeet o (rowL names x)) ++ (if (!evenMeet r (rowL names x)) = true then [r] else []) := by
        rw [take_snoc hm, List.map_append, List.filter_append, List.map_singleton, er]
        congr 1
        rw [List.filter_cons, List.filter_nil]
      refine ite2 (fun c => ?_) (fun c => ?_)
      · refine ⟨_, rfl, by rw [List.length_map]; exact small1000 (by omega), nxt (at_lt hv) ⟨e2.trans e3, bs ++ [y], by rw [List.map_append]; rfl, by rw [List.length_append]; exact Nat.succ_le_succ lb, ?_⟩⟩
        rw [tk, if_pos c]
        exact paired_snoc pb ⟨hly, hy0⟩
      · refine nxt (at_lt hv) ⟨e2.trans e3, bs, rfl, by omega, ?_⟩
        rw [tk, if_neg c, List.append_nil]
        exact pb
  · rintro ys H2 ⟨e2, bs, rfl, lb, pb⟩ l hl
    rw [List.length_map, las, List.take_of_length_le (Nat.le_refl _)] at pb
    obtain ⟨z, hz, hd⟩ := odd_some lt (rv_lt _ x) pS pM no
    have zl := (odd_meets lt pS pM hz).1
    have nl := Ext.new hl (.lst (bs.map V.ref))
    have em : rowM names z ∈ (M.map (rowM names)).filter fun o => !evenMeet o (rowL names x) := List.mem_filter.mpr ⟨List.mem_map.mpr ⟨z, hz, rfl⟩, by rw [odd_meet nd zl hx, hd]; rfl⟩
    have fin : ∀ ss, ((M.map (rowM names)).filter fun o => !evenMeet o (rowL names x)).head? = some ss → OddT names rows (rowL names x) ss := fun ss h => ⟨S, M, pS, pM, dM, h⟩
    generalize (M.map (rowM names)).filter (fun o => !evenMeet o (rowL names x)) = F at pb em fin
    cases pb with
    | nil => cases em
    | @cons y r bs F h t => exact ⟨_, rfl, l, _, _, .ref y, rfl, rfl, SqL.of upd_same, (by exact atI_nat (j := 0) rfl), q y r _ (e1.trans (e2.trans nl)) h.2 ((e2.trans nl) _ _ h.1) (fin r rfl)⟩
abbrev wiN : List Str := ["table", "row", "names", "rows", "many", "marked", "rest"]
theorem scWin : FnScope wiN ["table", "row"] (defScope sWin) := ⟨rfl, rfl, rfl, by decide +kernel, rfl, by decide +kernel, by decide +kernel⟩
abbrev wiC : List Str := ["place", "one", "names", "many"]
set_option maxHeartbeats 16000000 in
theorem ok_win (F : Fun K "within" "within" sWin f fd) (G1 : FnOk P w K mg base CX0 1 f1 fd1 ["names", "row"] spMask) (bG1 : Binds K fd1 ["names", "row"] []) (kG1 : PySem.W.keepIn K (.ref f1) = true) (mG1 : mg "mask_of" = some (.ref f1))
    (G2 : FnOk P w K mg base CX0 1 f2 fd2 ["mask", "kept"] spLess) (bG2 : Binds K fd2 ["mask", "kept"] []) (kG2 : PySem.W.keepIn K (.ref f2) = true) (mG2 : mg "lessened" = some (.ref f2))
    (G3 : FnOk P w K mg base CX0 2 f3 fd3 ["masks"] spRedu) (bG3 : Binds K fd3 ["masks"] []) (kG3 : PySem.W.keepIn K (.ref f3) = true) (mG3 : mg "reduced" = some (.ref f3))
    (G4 : FnOk P w K mg base CX0 5 f4 fd4 ["table", "row"] spOdd) (bG4 : Binds K fd4 ["table", "row"] []) (kG4 : PySem.W.keepIn K (.ref f4) = true) (mG4 : mg "oddly_met" = some (.ref f4))
    (ml : mg "len" = none) (me : mg "enumerate" = none) (mr : mg "range" = none) : FnOk P w K mg base CX0 6 f fd ["table", "row"] spWin := by
  refine F.ok scWin (fun vs H Q E h => ?_) (fun cdv A outer s H vs Q E hr h => ?_)
  · obtain ⟨T, pr, names, rows, x, rfl, _⟩ := h
    rfl
  obtain ⟨T, pr, names, rows, x, rfl, tI, hp, nd, ln, lr, hx, q⟩ := h
  have hr1 := hr.mono (j := 1) (by decide)
  have hr2 := hr.mono (j := 2) (by decide)
  refine ⟨_, pss_cons (ps_asg (pv 0) (pg_tup rfl (pgs_cons (pg_name (i := 2) scWin.nd rfl (Or.inr rfl)) (pgs_cons (pg_name (i := 3) scWin.nd rfl (Or.inl rfl)) pgs_nil))))
    (pss_cons (ps_set (i := 4) scWin.nd rfl (Or.inr rfl) (pe_callB call_len_seq rfl ml PySem.boot_len (pa_cons (pv 3) pa_nil)))
    (pss_cons (ps_lc (i := 5) (N := wiN) (sc := defScope sWin) (N' := wiC) (sub := [none, none, some 2, some 4]) rfl rfl (CmpOk.of (by decide +kernel)) rfl (pi_enum rfl me (pa_cons (pv 3) pa_nil))
      (fun C s H fp => ⟨(show PG _ _ (gTup K 2 _) from pg_tup rfl (pgs_cons (pg_name (i := 0) (by show wiC.Nodup; decide) rfl (Or.inl rfl)) (pgs_cons (pg_name (i := 1) (by show wiC.Nodup; decide) rfl (Or.inl rfl)) pgs_nil))), pts_nil,
        pe_op op_add (pe_op op_shl (pe_call G1 hr1 rfl mG1 kG1 bG1 .nil pass0 (pa_cons (pv 2) (pa_cons (pv 1) pa_nil))) (pv 3)) (pe_op op_shl pe_int (pv 0))⟩) scWin.nd rfl (Or.inl rfl))
    (pss_cons (ps_set (i := 6) scWin.nd rfl (Or.inr rfl) (pe_call G2 hr1 rfl mG2 kG2 bG2 .nil pass0 (pa_cons (pe_op op_shl (pe_call G1 hr1 rfl mG1 kG1 bG1 .nil pass0 (pa_cons (pv 2) (pa_cons (pv 1) pa_nil))) (pv 4)) (pa_cons (pe_call G3 hr2 rfl mG3 kG3 bG3 .nil pass0 (pa_cons (pv 5) pa_nil)) pa_nil))))
    (pss_cons (ps_if (pt_cmpR op_eq (pe_op op_shr (pv 6) (pv 4)) pe_int (nomark _))
      (pss_one (ps_ret (pe_tup (pa_cons pe_str (pa_cons (pe_lc (N := wiN) (sc := defScope sWin) (N' := ["place", "rest"]) (sub := [none, some 6]) rfl rfl (CmpOk.of (by decide +kernel)) rfl (pi_range1 rfl mr (pa_cons (pv 4) pa_nil))
        (fun C s H fp => ⟨pg_name (i := 0) (by show (["place", "rest"] : List Str).Nodup; decide) rfl (Or.inl rfl), pts_one (pt_cmpR op_eq (pe_op op_and (pe_op op_shr (pv 1) (pv 0)) pe_int) pe_int (nomark _)), pv 0⟩)) pa_nil))))) pss_nil)
    (pss_one (ps_ret (pe_tup (pa_cons pe_str (pa_cons (pe_call G4 hr rfl mG4 kG4 bG4 .nil pass0 (pa_cons (pv 0) (pa_cons (pv 1) pa_nil))) pa_nil)))))))))
    , ?_⟩
  obtain ⟨a, b, hT, ha, ⟨as, hb, prs⟩⟩ := id tI
  have las : as.length = rows.length := prs.length
  refine ⟨_, rfl, T, _, rfl, SqT.of hT, rfl, _, _, rfl, _, _, rfl, rfl, ?_⟩
  refine ⟨_, rfl, b, _, rfl, .inl (SqL.of hb), ?_⟩
  rw [List.length_map, las]
  refine ⟨_, rfl, b, _, rfl, SqL.of hb, ?_⟩
  rw [List.length_map, las]
  have shl : ∀ y : Nat, V.int ((y : Int) * 2 ^ ((rows.length : Nat) : Int).toNat) = iV (2 ^ rows.length * y) := fun y => by
    rw [Int.toNat_natCast, Int.mul_comm]
    show _ = V.int ((2 ^ rows.length * y : Nat) : Int)
    rw [Int.natCast_mul, Int.natCast_pow]; rfl
  have mlt : ∀ r : List Str, ((maskF names r : Nat) : Int).natAbs < 2 ^ 64 := fun r => by
    rw [Int.natAbs_natCast]
    exact Nat.lt_of_lt_of_le (maskF_lt names r) (Nat.pow_le_pow_right (by decide) (by omega))
  have lam : (rows.map (maskF names)).length = rows.length := List.length_map _
  refine turns_tup (fun i ys H' => Ext H H' ∧ ys = ((List.range i).map fun i => 2 ^ rows.length * (rows.map (maskF names)).getD i 0 + 2 ^ i).map iV) ⟨Ext.refl _, rfl⟩ (fun i ys H' _ p => SqL.of (p.1 _ _ hb)) ?_ ?_
  · rintro i ys H' T2 hi ⟨e, rfl⟩ hT2
    have hia : i < as.length := by omega
    obtain ⟨r, hr', hc⟩ := paired_get prs (List.getElem?_eq_getElem hia)
    have gd : (as.map V.ref).getD i .non = .ref as[i] := by rw [List.getD_eq_getElem?_getD, List.getElem?_map, List.getElem?_eq_getElem hia]; rfl
    rw [gd]
    have e2 := e.trans (Ext.new hT2 (.tup [V.int (i : Nat), .ref as[i]]))
    refine ⟨T2, _, rfl, SqT.of upd_same, rfl, _, _, rfl, _, _, rfl, rfl, ?_⟩
    refine ⟨Sle.set _ (Sle.set _ (Sle.refl _) (fun u z => by cases z)) (fun u z => by cases z), iteT (B := False) ?_⟩
    refine ⟨_, rfl, _, rfl, a, as[i], names, r, rfl, e2 _ _ ha, e2 _ _ hc, _, rfl, _, _, rfl, rfl, ⟨by omega, by omega, mlt r⟩, _, rfl, _, _, rfl, rfl, ⟨by omega, by omega, by decide⟩, _, _, rfl, rfl, ?_, nxt hi ⟨e2, ?_⟩⟩
    · rw [List.length_map, List.length_map, List.length_range]; exact small1000 (by omega)
    · rw [List.range_succ, List.map_append, List.map_append]
      refine congrArg (fun v => _ ++ [v]) ?_
      have er : (rows.map (maskF names)).getD i 0 = maskF names r := by rw [List.getD_eq_getElem?_getD, List.getElem?_map, hr']; rfl
      show _ = V.int ((2 ^ rows.length * (rows.map (maskF names)).getD i 0 + 2 ^ i : Nat) : Int)
      rw [er]
      show V.int (((maskF names r : Nat) : Int) * 2 ^ ((rows.length : Nat) : Int).toNat + 1 * 2 ^ ((i : Nat) : Int).toNat) = V.int ((2 ^ rows.length * maskF names r + 2 ^ i : Nat) : Int)
      have h1 := V.int.inj (shl (maskF names r))
      rw [h1, Int.toNat_natCast, Int.one_mul, Int.natCast_add, Int.natCast_pow]; rfl
  · rintro ys H1 ⟨e1, rfl⟩ mk hmk
    have emk : (List.range rows.length).map (fun i => 2 ^ rows.length * (rows.map (maskF names)).getD i 0 + 2 ^ i) = mkd (rows.map (maskF names)) := by unfold mkd; rw [lam]
    rw [emk]
    have n2 := e1.trans (Ext.new hmk (.lst ((mkd (rows.map (maskF names))).map iV)))
    refine ⟨_, rfl, _, rfl, a, pr, names, _, rfl, n2 _ _ ha, n2 _ _ hp, _, rfl, _, _, rfl, rfl, ⟨by omega, by omega, mlt _⟩, _, rfl, mk, _, rfl, upd_same, ?_, fun r M H3 e3 r0 hM pM dM => ?_⟩
    · unfold mkd; rw [List.length_map, List.length_range, lam]; omega
    have rrM : RR M := (red_rr _).perm pM
    refine ⟨2 ^ rows.length * maskF names (rowL names x), r, M, (congrArg (fun v => [v, V.ref r]) (shl _) : _), hM, rrM.nz, ?_⟩
    have spM : ∀ y, Spn M y ↔ Spn (mkd (rows.map (maskF names))) y := fun y => by rw [spn_perm pM, red_spn]
    have E3 := n2.trans e3
    have rT : RstT names rows (rowL names x) (rst M rows.length (maskF names (rowL names x))) := ⟨M, pM, dM, rfl⟩
    have rin := fun (h : Spn (rows.map (maskF names)) (maskF names (rowL names x))) => rst_in rrM spM h
    rw [lam] at rin
    have erst : red1 M (2 ^ rows.length * maskF names (rowL names x)) = rst M rows.length (maskF names (rowL names x)) := rfl
    rw [erst]
    generalize rst M rows.length (maskF names (rowL names x)) = rs at rT rin
    have shr : ∀ k : Nat, ((rs : Int) / 2 ^ ((k : Nat) : Int).toNat) = ((rs >>> k : Nat) : Int) := fun k => by
      rw [Int.toNat_natCast, Nat.shiftRight_eq_div_pow, Int.natCast_ediv, Int.natCast_pow]; rfl
    refine ⟨_, rfl, _, rfl, _, _, rfl, rfl, (by show (0 : Int) ≤ _; omega), rfl, _, rfl, ite2 (fun c => ?_) (fun c => ?_)⟩
    · have c0 : rs >>> rows.length = 0 := by
        have := of_decide_eq_true c
        have h2 := V.int.inj this
        rw [shr] at h2
        exact Int.ofNat_inj.mp h2
      refine ⟨_, rfl, _, rfl, by omega, by omega, ?_⟩
      rw [Int.toNat_natCast]
      refine turns_range (lo := 0) (n := rows.length) (fun i ys H' => H' = H3 ∧ ys = (plc i rs).map iV) ⟨rfl, rfl⟩ ?_ ?_
      · rintro i ys H' hi ⟨rfl, rfl⟩
        rw [show (0 + (i : Int)) = ((i : Nat) : Int) by omega]
        refine ⟨Sle.set _ (Sle.refl _) (fun u z => by cases z), _, rfl, _, rfl, _, _, rfl, rfl, (by show (0 : Int) ≤ _; omega), _, _, rfl, rfl, rfl, _, rfl, ?_⟩
        have key : (decide (V.int (Builtin.bitAnd ((rs : Int) / 2 ^ ((i : Nat) : Int).toNat) 1) = V.int 1) = true) ↔ rs.testBit i = true := by
          rw [decide_eq_true_iff, V.int.injEq, Int.toNat_natCast, shr_one]
          by_cases b : rs.testBit i = true
          · simp [b]
          · simp [b]
        have fm : plc (i + 1) rs = plc i rs ++ (if rs.testBit i = true then [i] else []) := by
          unfold plc
          rw [List.range_succ, List.filter_append]
          congr 1
          rw [List.filter_cons, List.filter_nil]
        have sz : (plc i rs).length ≤ i := by
          have := List.length_filter_le (fun j => rs.testBit j) (List.range i)
          rw [List.length_range] at this
          exact this
        refine ite2 (fun c => ?_) (fun c => ?_)
        · refine ⟨_, rfl, by rw [List.length_map]; exact small1000 (by omega), nxt hi ⟨rfl, ?_⟩⟩
          rw [fm, if_pos (key.mp c), List.map_append]; rfl
        · refine nxt hi ⟨rfl, ?_⟩
          rw [fm, if_neg fun z => c (key.mpr z), List.append_nil]
      · rintro ys H' ⟨rfl, rfl⟩ l hl
        refine ⟨(by show 2 ≤ sizeLine; decide), fun t ht => ?_⟩
        have nl := Ext.new hl (.lst ((plc rows.length rs).map iV))
        have nt := Ext.new ht (.tup [V.str "within", .ref l])
        exact q t l (.inn (plc rows.length rs)) _ (E3.trans (nl.trans nt)) ((E3.trans nl).none ht) (E3.none hl) ⟨upd_same, nt _ _ upd_same⟩ ⟨rs, rT, c0, rfl⟩
    · have c0 : rs >>> rows.length ≠ 0 := fun z => c (by
        refine decide_eq_true ?_
        show V.int _ = V.int 0
        rw [shr, z]; rfl)
      refine ⟨_, rfl, _, rfl, T, pr, names, rows, x, rfl, tI.ext E3, E3 _ _ hp, nd, ln, lr, hx, fun z => c0 (rin (by rw [maskF_rowL nd]; exact z)), fun l ss H4 e4 l0 hl ot => ?_⟩
      refine ⟨(by show 2 ≤ sizeLine; decide), fun t ht => ?_⟩
      have nt := Ext.new ht (.tup [V.str "without", .ref l])
      exact q t l (.out ss) _ (E3.trans (e4.trans nt)) ((E3.trans e4).none ht) (E3.none l0) ⟨upd_same, nt _ _ hl⟩ ⟨⟨rs, rT, c0⟩, ot⟩
end
end My
namespace My
open PySem L2
theorem kIB (K : PySem.W.Frag) : PySem.W.kitOne K (.type "int") (.type "bool") = some false := by kernel_rfl
theorem int_same : ∀ {a b : List Int}, a.Pairwise (· < ·) → b.Pairwise (· < ·) → (∀ x, x ∈ a ↔ x ∈ b) → a = b
  | [], [], _, _, _ => rfl
  | [], y :: _, _, _, h => absurd ((h y).mpr List.mem_cons_self) (by simp)
  | x :: _, [], _, _, h => absurd ((h x).mp List.mem_cons_self) (by simp)
  | x :: a, y :: b, ha, hb, h => by
    have ha' := List.pairwise_cons.mp ha
    have hb' := List.pairwise_cons.mp hb
    have e : x = y := by
      rcases List.mem_cons.mp ((h x).mp List.mem_cons_self) with e | e
      · exact e
      · rcases List.mem_cons.mp ((h y).mpr List.mem_cons_self) with e' | e'
        · exact e'.symm
        · have h1 := hb'.1 x e
          have h2 := ha'.1 y e'
          omega
    subst e
    have : a = b := int_same ha'.2 hb'.2 fun z => by
      constructor
      · intro hz
        rcases List.mem_cons.mp ((h z).mp (List.mem_cons_of_mem _ hz)) with e | e
        · have := ha'.1 z hz; omega
        · exact e
      · intro hz
        rcases List.mem_cons.mp ((h z).mpr (List.mem_cons_of_mem _ hz)) with e | e
        · have := hb'.1 z hz; omega
        · exact e
    rw [this]
theorem lt_of_le_nd {l : List Int} (h : l.Pairwise (· ≤ ·)) (nd : l.Nodup) : l.Pairwise (· < ·) := (h.and nd).imp fun {a b} z => by have := z.1; have := z.2; omega
theorem eqv_ivs (a : List Nat) : PyData.eqv (intD a) (intD a) = true := by
  induction a with
  | nil => rfl
  | cons x a ih =>
    show (PyData.eqv (.int (x : Int)) (.int (x : Int)) && PyData.eqv (intD a) (intD a)) = true
    rw [ih]
    show (((x : Int) == (x : Int)) && true) = true
    simp
def pickIn (other : List Str) : V → Option V
  | .str n => if decide (n ∈ other) = true then some (V.str n) else none
  | _ => none
theorem filt_in (other : List Str) : ∀ ss : List Str, (ss.map V.str).filterMap (pickIn other) = (ss.filter fun n => decide (n ∈ other)).map V.str
  | [] => rfl
  | x :: r => by
    rw [List.map_cons, List.filterMap_cons, filt_in other r]
    by_cases e : x ∈ other
    · simp [e, pickIn]
    · simp [e, pickIn]
theorem par_int (n : Nat) : decide (V.int ((n : Int) % 2) = V.int 1) = !decide (n % 2 = 0) := by
  by_cases z : n % 2 = 0
  · rw [decide_eq_true z, decide_eq_false]; · rfl
    intro y
    injection y with y
    omega
  · rw [decide_eq_false z, decide_eq_true]; · rfl
    exact congrArg V.int (by omega)
def PapO (names : List Str) (ms : List Nat) (x : Nat) (b : Bool) : Tl → Prop
  | .inn ps => b = true ∧ ps.Pairwise (· < ·) ∧ (∀ p ∈ ps, p < ms.length) ∧ (ps.map fun i => ms.getD i 0).foldl (· ^^^ ·) 0 = x
  | .out ss => b = false ∧ Rise ss ∧ SOk ss ∧ ss.length ≤ 12 ∧ (∀ n ∈ ss, n ∈ names) ∧ (∀ y ∈ ms, evenMeet (rowL names y) ss = true) ∧ evenMeet (rowL names x) ss = false
def spPap : Sp := fun vs H Q _ => ∃ (T pr t l : Addr) (b : Bool) (names : List Str) (ms : List Nat) (x : Nat) (o : Tl), vs = [.ref T, .ref pr, .ref t, .bl b] ∧ TabIn H T names (ms.map (rowL names)) ∧ LsS H pr (rowL names x) ∧ TlAt H t l o ∧ names.Nodup ∧ names.length ≤ 12 ∧ ms.length ≤ 16 ∧ x < 2 ^ names.length ∧ (∀ y ∈ ms, y < 2 ^ names.length) ∧ PapO names ms x b o ∧ ∀ H', Ext H H' → Q (.bl true) H'
section
variable {P : Program} {w : World} {K : PySem.W.Frag} {mg : Str → Option Value} {base : Heap} {f f1 f2 f3 f4 : Addr} {fd fd1 fd2 fd3 fd4 : FuncData}
abbrev paN : List Str := ["_law_table_here", "_law_row_here", "_law_told", "_law_is_in", "_law_names_here", "_law_rows", "_law_mask_here", "_law_place", "_law_one"]
theorem scPap : FnScope paN ["_law_table_here", "_law_row_here", "_law_told", "_law_is_in"] (defScope sPap) := ⟨rfl, rfl, rfl, by decide +kernel, rfl, by decide +kernel, by decide +kernel⟩
abbrev paC : List Str := ["_law_name", "_law_told"]
set_option maxHeartbeats 16000000 in
theorem ok_pap (F : Fun K "_law_paper_good" "_law_paper_good" sPap f fd) (G : FnOk P w K mg base CX0 1 f1 fd1 ["_law_names_here", "_law_row_here"] spLMs) (bG : Binds K fd1 ["_law_names_here", "_law_row_here"] []) (kG : PySem.W.keepIn K (.ref f1) = true) (mG : mg "_law_mask" = some (.ref f1))
    (mi : mg "isinstance" = none) (mt : mg "tuple" = none) (mL : mg "list" = none) (ml : mg "len" = none) (mb : mg "bool" = none) (mI : mg "int" = none) (mse : mg "set" = none) (mso : mg "sorted" = none) :
    FnOk P w K mg base CX0 2 f fd ["_law_table_here", "_law_row_here", "_law_told", "_law_is_in"] spPap := by
  refine F.ok scPap (fun vs H Q E h => ?_) (fun cdv A outer s H vs Q E hr h => ?_)
  · obtain ⟨T, pr, t, l, b, names, ms, x, o, rfl, _⟩ := h
    rfl
  obtain ⟨T, pr, t, l, b, names, ms, x, o, rfl, tI, hp, ⟨ht, hl⟩, nd, ln, lm, hx, ltm, po, q⟩ := h
  refine ⟨_, pss_cons (ps_if (PW.pt (pw_or (pt_not (pt_val (pe_callB call_isinst rfl mi boot_isinst (pa_cons (pv 2) (pa_cons (pe_bltn (v := .ty "tuple") rfl mt boot_tuple' rfl) pa_nil)))))
      (pw_or (pt_cmpR op_ne (pe_callB call_len_seq rfl ml PySem.boot_len (pa_cons (pv 2) pa_nil)) pe_int (nomark _))
      (pw_or1 (pt_not (pt_val (pe_callB call_isinst rfl mi boot_isinst (pa_cons (pe_ix ix_tup (pv 2) pe_int (fun _ _ => rfl)) (pa_cons (pe_bltn (v := .ty "list") rfl mL boot_list' rfl) pa_nil))))))))) (pss_one (ps_ret pe_bl)) pss_nil)
    (pss_cons (ps_asg (pv 0) (pg_tup rfl (pgs_cons (pg_name (i := 4) scPap.nd rfl (Or.inr rfl)) (pgs_cons (pg_name (i := 5) scPap.nd rfl (Or.inl rfl)) pgs_nil))))
    (pss_cons (ps_if (pt_cmpR op_eq (pe_ix ix_tup (pv 2) pe_int (fun _ _ => rfl)) pe_str (nomark _))
      (pss_cons (ps_set (i := 6) scPap.nd rfl (Or.inl rfl) pe_int)
      (pss_cons (ps_for PassesOwn.never rfl (pi_list (pe_ix ix_tup (pv 2) pe_int (fun _ _ => rfl))) (pg_name (i := 7) scPap.nd rfl (Or.inl rfl))
        (pss_cons (ps_if (PW.pt (pw_or (pt_val (pe_callB call_isinst rfl mi boot_isinst (pa_cons (pv 7) (pa_cons (pe_bltn (v := .ty "bool") rfl mb boot_bool' rfl) pa_nil))))
          (pw_or (pt_not (pt_val (pe_callB call_isinst rfl mi boot_isinst (pa_cons (pv 7) (pa_cons (pe_bltn (v := .ty "int") rfl mI boot_int' rfl) pa_nil)))))
          (pw_or1 (pt_not (pt_chain op_le op_lt pe_int (pv 7) (pe_callB call_len_seq rfl ml PySem.boot_len (pa_cons (pv 5) pa_nil)))))))) (pss_one (ps_ret pe_bl)) pss_nil)
        (pss_one (ps_set (i := 6) scPap.nd rfl (Or.inl rfl) (pe_op op_xor (pv 6) (pe_call G hr rfl mG kG bG .nil pass0 (pa_cons (pv 4) (pa_cons (pe_ix ix_list (pv 5) (pv 7) (fun _ _ => rfl)) pa_nil))))))))
      (pss_one (ps_ret (pe_and (pv 3) (pe_and (pe_cmpR op_eq (pv 6) (pe_call G hr rfl mG kG bG .nil pass0 (pa_cons (pv 4) (pa_cons (pv 1) pa_nil))) (nomark _))
        (pe_one (pe_cmpR (op_eqD (room64 hr)) (pe_ix ix_tup (pv 2) pe_int (fun _ _ => rfl)) (pe_callB (call_sortedZ rfl) rfl mso boot_sorted' (pa_cons (pe_callTy (call_setZ rfl) rfl mse boot_set' (pa_cons (pe_ix ix_tup (pv 2) pe_int (fun _ _ => rfl)) pa_nil)) pa_nil)) (nomark _)))))))))
      pss_nil)
    (pss_cons (ps_cutE (ps_if (PW.pt (pw_or (pt_cmpR op_ne (pe_ix ix_tup (pv 2) pe_int (fun _ _ => rfl)) pe_str (nomark _)) (pw_or (pt_val (pv 3))
      (pw_or1 (pt_cmpR (op_neD (room64 hr)) (pe_ix ix_tup (pv 2) pe_int (fun _ _ => rfl)) (pe_callB (call_sortedSet rfl) rfl mso boot_sorted' (pa_cons (pe_callTy (call_setS rfl) rfl mse boot_set' (pa_cons (pe_ix ix_tup (pv 2) pe_int (fun _ _ => rfl)) pa_nil)) pa_nil)) (nomark _)))))) (pss_one (ps_ret pe_bl)) pss_nil))
    (pss_cons (ps_cutE (ps_if (pt_cmpR (op_neD (room64 hr)) (pe_lc (N := paN) (sc := defScope sPap) (N' := ["_law_name", "_law_names_here"]) (sub := [none, some 4]) rfl rfl (CmpOk.of (by decide +kernel)) rfl (pi_list (pe_ix ix_tup (pv 2) pe_int (fun _ _ => rfl)))
        (fun C s H fp => ⟨pg_name (i := 0) (by show (["_law_name", "_law_names_here"] : List Str).Nodup; decide) rfl (Or.inl rfl), pts_one (pt_cmpR (show OpR _ (compareOp .NotIn) (rIn K true) from op_notIn_seq) (pv 0) (pv 1) (by with_unfolding_all rfl)), pv 0⟩)) (pe_lst pa_nil) (nomark _)) (pss_one (ps_ret pe_bl)) pss_nil))
    (pss_cons (ps_cutE (ps_for PassesOwn.never rfl (pi_list (pv 5)) (pg_name (i := 8) scPap.nd rfl (Or.inl rfl))
      (pss_one (ps_if (pt_cmpR op_eq (pe_op op_mod (pe_callB call_len_seq rfl ml PySem.boot_len (pa_cons (pe_lc (N := paN) (sc := defScope sPap) (N' := paC) (sub := [none, some 2]) rfl rfl (CmpOk.of (by decide +kernel)) rfl (pi_list (pv 8))
        (fun C s H fp => ⟨pg_name (i := 0) (by show paC.Nodup; decide) rfl (Or.inl rfl), pts_one (pt_cmpR (show OpR _ (compareOp .In) (rIn K false) from op_in_seq) (pv 0) (pe_ix (show IxR _ (rIxT K) from ix_tup) (pv 1) pe_int (fun _ _ => rfl)) (by with_unfolding_all rfl)), pv 0⟩)) pa_nil)) pe_int) pe_int (nomark _)) (pss_one (ps_ret pe_bl)) pss_nil))))
    (pss_one (ps_ret (pe_cmpR op_eq (pe_op op_mod (pe_callB call_len_seq rfl ml PySem.boot_len (pa_cons (pe_lc (N := paN) (sc := defScope sPap) (N' := paC) (sub := [none, some 2]) rfl rfl (CmpOk.of (by decide +kernel)) rfl (pi_list (pv 1))
        (fun C s H fp => ⟨pg_name (i := 0) (by show paC.Nodup; decide) rfl (Or.inl rfl), pts_one (pt_cmpR (show OpR _ (compareOp .In) (rIn K false) from op_in_seq) (pv 0) (pe_ix (show IxR _ (rIxT K) from ix_tup) (pv 1) pe_int (fun _ _ => rfl)) (by with_unfolding_all rfl)), pv 0⟩)) pa_nil)) pe_int) pe_int (nomark _)))))))))
    , ?_⟩
  obtain ⟨a, c, hT, ha, ⟨as, hb, prs⟩⟩ := id tI
  have las : as.length = ms.length := by rw [prs.length, List.length_map]
  refine ⟨_, rfl, _, _, _, true, rfl, .tup ht, kit_same _ _, true, rfl, iteF ?_⟩
  refine ⟨_, rfl, t, _, rfl, .inr (SqT.of ht), rfl, _, rfl, iteF ?_⟩
  refine ⟨_, rfl, t, _, _, .ref l, rfl, rfl, SqT.of ht, (by exact atI_nat (j := 1) rfl), _, _, _, true, rfl, .lst hl, kit_same _ _, true, rfl, iteF ?_⟩
  refine ⟨_, rfl, T, _, rfl, SqT.of hT, rfl, _, _, rfl, _, _, rfl, rfl, ?_⟩
  refine ⟨_, rfl, t, _, _, .str o.tag, rfl, rfl, SqT.of ht, (by exact atI_nat (j := 0) rfl), rfl, _, rfl, ?_⟩
  cases o with
  | inn ps =>
    obtain ⟨rfl, pr1, pl, fo⟩ := po
    have lps : ps.length ≤ ms.length := by
      have h1 : ps.Nodup := pr1.imp fun {a b} z => Nat.ne_of_lt z
      have h2 := List.Nodup.length_le_of_subset h1 (l₂ := List.range ms.length) fun p hp => List.mem_range.mpr (pl p hp)
      rw [List.length_range] at h2
      exact h2
    refine ite2 (fun _ => ?_) (fun c => absurd (decide_eq_true rfl) c)
    refine ⟨_, rfl, t, _, _, .ref l, rfl, rfl, SqT.of ht, (by exact atI_nat (j := 1) rfl), l, rfl, ⟨_, SqL.of hl⟩, ?_⟩
    refine for_list (xs := ps.map iV) (fun i σ H' => H' = H ∧ ∃ x7 : Option V, σ = [some (.ref T), some (.ref pr), some (.ref t), some (.bl true), some (.ref a), some (.ref c), some (iV (((ps.take i).map fun i => ms.getD i 0).foldl (· ^^^ ·) 0)), x7, none]) ⟨rfl, none, rfl⟩ (fun i σ H' _ h => by rw [h.1]; exact SqL.of hl) ?_ ?_
    · rintro i v σ H' hv ⟨rfl, x7, rfl⟩
      obtain ⟨p, rfl, hpp⟩ := iv_get hv
      have plt := pl p (List.mem_of_getElem? hpp)
      refine ⟨_, rfl, _, _, _, false, rfl, .int _, kIB _, false, rfl, iteF ?_⟩
      refine ⟨_, rfl, _, _, _, true, rfl, .int _, kit_same _ _, true, rfl, iteF ?_⟩
      refine ⟨_, rfl, _, _, rfl, rfl, _, rfl, ?_⟩
      rw [show decide ((0 : Int) ≤ ((p : Nat) : Int)) = true from decide_eq_true (by omega)]
      refine iteT ⟨_, rfl, c, _, rfl, .inl (SqL.of hb), _, _, rfl, rfl, _, rfl, ?_⟩
      rw [List.length_map, show decide (((p : Nat) : Int) < ((as.length : Nat) : Int)) = true from decide_eq_true (by omega)]
      refine iteF ?_
      have hpa : p < as.length := by omega
      obtain ⟨r, hr', hc⟩ := paired_get prs (List.getElem?_eq_getElem hpa)
      have er : rowL names (ms.getD p 0) = r := by
        rw [List.getElem?_map, List.getElem?_eq_getElem plt] at hr'
        rw [List.getD_eq_getElem?_getD, List.getElem?_eq_getElem plt]
        exact Option.some.inj hr'
      have mlt : ms.getD p 0 < 2 ^ names.length := by
        rw [List.getD_eq_getElem?_getD, List.getElem?_eq_getElem plt]
        exact ltm _ (List.getElem_mem plt)
      have at1 : atI (as.map V.ref) ((p : Nat) : Int) = some (.ref as[p]) := atI_nat (by rw [List.getElem?_map, List.getElem?_eq_getElem hpa]; rfl)
      refine ⟨_, rfl, _, rfl, _, rfl, _, rfl, c, _, _, .ref as[p], rfl, rfl, SqL.of hb, at1, a, as[p], names, r, rfl, ha, hc, fun n hn => ?_, ln, _, _, rfl, rfl, rfl, some (iV p), ?_⟩
      · rw [← er] at hn
        obtain ⟨k, hk, hkn, _⟩ := mem_rowL.mp hn
        exact List.mem_of_getElem? hkn
      · rw [← er, maskL_rowL nd mlt, take_snoc hpp, List.map_append, List.foldl_append]
        refine congrArg (fun v => [some (V.ref T), some (V.ref pr), some (V.ref t), some (V.bl true), some (V.ref a), some (V.ref c), some v, some (iV p), none]) ?_
        show V.int (Builtin.bitXor _ _) = V.int _
        rw [bxor_nat]; rfl
    · rintro σ H' ⟨rfl, x7, rfl⟩
      rw [List.length_map, List.take_of_length_le (Nat.le_refl _), fo]
      refine ⟨_, rfl, true, rfl, iteT ?_⟩
      refine ⟨_, rfl, _, rfl, _, rfl, a, pr, names, _, rfl, ha, hp, fun n hn => ?_, ln, rfl, ?_⟩
      · obtain ⟨k, hk, hkn, _⟩ := mem_rowL.mp hn
        exact List.mem_of_getElem? hkn
      rw [maskL_rowL nd hx, decide_eq_true rfl]
      refine ⟨true, rfl, iteT ?_⟩
      have hl' : H' l = some (.lst ((ps.map fun n : Nat => (n : Int)).map V.int)) := by rw [List.map_map]; exact hl
      refine ⟨_, rfl, t, _, _, .ref l, rfl, rfl, SqT.of ht, (by exact atI_nat (j := 1) rfl), _, rfl, t, _, _, .ref l, rfl, rfl, SqT.of ht, (by exact atI_nat (j := 1) rfl), l, _, rfl, SqL.of hl', ?_, fun r zs hr0 ndz lz memz => ?_⟩
      · rw [List.length_map]; omega
      have n1 := Ext.new hr0 (SetZ P w r zs)
      refine ⟨r, zs, rfl, upd_same, ?_, fun r2 zs2 hr2 pz sz => ?_⟩
      · rw [List.length_map] at lz; omega
      have e0 : zs2 = ps.map fun n : Nat => (n : Int) := by
        refine int_same (lt_of_le_nd sz (pz.nodup_iff.mpr ndz)) ?_ fun x => by rw [pz.mem_iff, memz]
        rw [List.pairwise_map]
        exact pr1.imp fun {a b} z => by omega
      subst e0
      have n2 := Ext.new hr2 (.lst ((ps.map fun n : Nat => (n : Int)).map V.int))
      have h3 : LsN (upd (upd H' r (SetZ P w r zs)) r2 (.lst ((ps.map fun n : Nat => (n : Int)).map V.int))) r2 ps := by unfold LsN; rw [upd_same, List.map_map]; rfl
      have h4 : LsN (upd (upd H' r (SetZ P w r zs)) r2 (.lst ((ps.map fun n : Nat => (n : Int)).map V.int))) l ps := n2 _ _ (n1 _ _ hl)
      refine ⟨intD ps, intD ps, dr_iv h4, dr_iv h3, shaped_iv _, shaped_iv _, ?_⟩
      rw [if_neg (show ¬ (false = true) by decide), eqv_ivs]
      exact q _ (n1.trans n2)
  | out ss =>
    obtain ⟨rfl, rs, oks, ls, sub, ev, od⟩ := po
    refine ite2 (fun c => absurd (of_decide_eq_true c) (show ¬ V.str "without" = V.str "within" by decide)) (fun _ => ?_)
    have hs : LsS H l ss := hl
    refine ⟨fun σ' H' => σ' = [some (.ref T), some (.ref pr), some (.ref t), some (.bl false), some (.ref a), some (.ref c), none, none, none] ∧ Ext H H', ?_, ?_⟩
    · refine ⟨_, rfl, t, _, _, .str "without", rfl, rfl, SqT.of ht, (by exact atI_nat (j := 0) rfl), rfl, _, rfl, ?_⟩
      refine ite2 (fun c => absurd c (by decide)) (fun _ => ?_)
      refine ⟨_, rfl, false, rfl, iteF ?_⟩
      refine ⟨_, rfl, t, _, _, .ref l, rfl, rfl, SqT.of ht, (by exact atI_nat (j := 1) rfl), _, rfl, t, _, _, .ref l, rfl, rfl, SqT.of ht, (by exact atI_nat (j := 1) rfl), l, ss, rfl, SqL.of hs, by omega, fun r zs hr0 ndz lz memz => ?_⟩
      have n1 := Ext.new hr0 (SetS P w r zs)
      refine ⟨r, zs, rfl, upd_same, by omega, fun r2 zs2 hr2 pz sz => ?_⟩
      have e0 : zs2 = ss := rise_ext (rise_of sz (pz.nodup_iff.mpr ndz)) rs fun x => by rw [pz.mem_iff, memz]
      subst e0
      have n2 := n1.trans (Ext.new hr2 (.lst (zs2.map V.str)))
      have h3 : LsS (upd (upd H r (SetS P w r zs)) r2 (.lst (zs2.map V.str))) r2 zs2 := upd_same
      refine ⟨rowD zs2, rowD zs2, dr_row (n2 _ _ hs), dr_row h3, shaped_row oks, shaped_row oks, _, rfl, ?_⟩
      rw [if_pos rfl, eqv_row, decide_eq_true rfl]
      exact iteF ⟨rfl, n2⟩
    rintro _ H2 ⟨rfl, n2⟩
    refine ⟨fun σ' H' => σ' = [some (.ref T), some (.ref pr), some (.ref t), some (.bl false), some (.ref a), some (.ref c), none, none, none] ∧ Ext H H', ?_, ?_⟩
    · refine ⟨_, rfl, t, _, _, .ref l, rfl, rfl, SqT.of (n2 _ _ ht), (by exact atI_nat (j := 1) rfl), l, rfl, ⟨_, SqL.of (n2 _ _ hs)⟩, ?_⟩
      refine turns_list (xs := ss.map V.str) (fun j ys H3 => Ext H H3 ∧ ys = []) ⟨n2, rfl⟩ (fun j ys H3 _ h => SqL.of (h.1 _ _ hs)) ?_ ?_
      · rintro j v ys H3 hx2 ⟨e3, rfl⟩
        obtain ⟨y, rfl, hy⟩ := str_get hx2
        refine ⟨Sle.set _ (Sle.refl _) (fun u z => by cases z), _, rfl, _, rfl, a, _, rfl, .inl (SqL.of (e3 _ _ ha)), rfl, flat_strs _, _, rfl, ?_⟩
        rw [if_pos rfl, inV_str, decide_eq_true (sub y (List.mem_of_getElem? hy))]
        exact iteF (nxt (at_lt hx2) ⟨e3, rfl⟩)
      rintro ys H3 ⟨e3, rfl⟩ l1 hl1
      refine ⟨Nat.zero_le _, fun l2 hl2 => ?_⟩
      have m1 := Ext.new hl1 (.lst [])
      have m2 := Ext.new hl2 (.lst [])
      refine ⟨intD [], intD [], dr_iv (m2 _ _ upd_same), dr_iv upd_same, shaped_iv _, shaped_iv _, _, rfl, ?_⟩
      rw [if_pos rfl, eqv_ivs]
      exact iteF ⟨rfl, e3.trans (m1.trans m2)⟩
    rintro _ H4 ⟨rfl, e4⟩
    refine ⟨fun σ' H' => Ext H H' ∧ ∃ x8 : Option V, σ' = [some (.ref T), some (.ref pr), some (.ref t), some (.bl false), some (.ref a), some (.ref c), none, none, x8], ?_, ?_⟩
    · refine ⟨_, rfl, c, rfl, ⟨_, SqL.of (e4 _ _ hb)⟩, ?_⟩
      refine for_list (xs := as.map V.ref) (fun i σ H' => Ext H H' ∧ ∃ x8 : Option V, σ = [some (.ref T), some (.ref pr), some (.ref t), some (.bl false), some (.ref a), some (.ref c), none, none, x8]) ⟨e4, none, rfl⟩ (fun i σ H' _ h => SqL.of (h.1 _ _ hb)) ?_ (fun σ' H' z => z)
      · rintro i v σ H5 hx ⟨e5, x8, rfl⟩
        obtain ⟨ad, rfl, hc⟩ := ref_get hx
        obtain ⟨rw1, hrw, hc1⟩ := paired_get prs hc
        rw [List.getElem?_map] at hrw
        cases hm : ms[i]? with
        | none => rw [hm] at hrw; cases hrw
        | some y =>
          rw [hm] at hrw
          have er : rowL names y = rw1 := Option.some.inj hrw
          have lrw : rw1.length ≤ 100 := by
            rw [← er]
            have := List.length_filterMap_le (fun i => if y.testBit i = true then names[i]? else none) (List.range names.length)
            rw [List.length_range] at this
            show (rowL names y).length ≤ 100
            unfold rowL
            omega
          refine ⟨_, rfl, ad, rfl, ⟨_, SqL.of (e5 _ _ hc1)⟩, ?_⟩
          refine turns_pure (xs := rw1.map V.str) (pickIn ss) (SqL.of (e5 _ _ hc1)) (by rw [List.length_map]; exact Nat.le_of_lt (small1000 (by omega))) ?_ ?_
          · intro x hx C hC
            obtain ⟨n, _, rfl⟩ := List.mem_map.mp hx
            refine ⟨Sle.set _ (Sle.refl _) (fun u z => by cases z), _, rfl, _, rfl, t, _, _, .ref l, rfl, rfl, SqT.of (e5 _ _ ht), (by exact atI_nat (j := 1) rfl), l, _, rfl, .inl (SqL.of (e5 _ _ hs)), rfl, flat_strs _, _, rfl, ?_⟩
            rw [if_neg Bool.false_ne_true, inV_str]
            have hC' : C (if decide (n ∈ ss) = true then some (V.str n) else none) H5 := hC
            refine ite2 (fun z => ?_) (fun z => ?_)
            · rw [if_pos z] at hC'
              exact ⟨_, rfl, hC'⟩
            · rw [if_neg z] at hC'
              exact hC'
          · rw [filt_in]
            intro r hr'
            refine ⟨r, _, rfl, .inl (SqL.of upd_same), _, _, rfl, rfl, (by show (0 : Int) < _; decide), rfl, _, rfl, ?_⟩
            rw [List.length_map, par_int]
            have ev1 := ev y (List.mem_of_getElem? hm)
            rw [er] at ev1
            unfold evenMeet at ev1
            rw [ev1]
            exact iteF ⟨e5.trans (Ext.new hr' _), _, rfl⟩
    · rintro σ H5 ⟨e5, x8, rfl⟩
      have lrw : (rowL names x).length ≤ 100 := by
        have := List.length_filterMap_le (fun i => if x.testBit i = true then names[i]? else none) (List.range names.length)
        rw [List.length_range] at this
        unfold rowL
        omega
      refine ⟨_, rfl, pr, rfl, ⟨_, SqL.of (e5 _ _ hp)⟩, ?_⟩
      refine turns_pure (xs := (rowL names x).map V.str) (pickIn ss) (SqL.of (e5 _ _ hp)) (by rw [List.length_map]; exact Nat.le_of_lt (small1000 (by omega))) ?_ ?_
      · intro x hx C hC
        obtain ⟨n, _, rfl⟩ := List.mem_map.mp hx
        refine ⟨Sle.set _ (Sle.refl _) (fun u z => by cases z), _, rfl, _, rfl, t, _, _, .ref l, rfl, rfl, SqT.of (e5 _ _ ht), (by exact atI_nat (j := 1) rfl), l, _, rfl, .inl (SqL.of (e5 _ _ hs)), rfl, flat_strs _, _, rfl, ?_⟩
        rw [if_neg Bool.false_ne_true, inV_str]
        have hC' : C (if decide (n ∈ ss) = true then some (V.str n) else none) H5 := hC
        refine ite2 (fun z => ?_) (fun z => ?_)
        · rw [if_pos z] at hC'
          exact ⟨_, rfl, hC'⟩
        · rw [if_neg z] at hC'
          exact hC'
      · rw [filt_in]
        intro r hr'
        refine ⟨r, _, rfl, .inl (SqL.of upd_same), _, _, rfl, rfl, (by show (0 : Int) < _; decide), rfl, ?_⟩
        rw [List.length_map, par_int]
        unfold evenMeet at od
        rw [od]
        exact q _ (e5.trans (Ext.new hr' _))
end
end My
namespace My
open PySem L2
theorem getD_rv (m : Nat) (ms : List Nat) (k : Nat) : (ms.map (rv m)).getD k 0 = rv m (ms.getD k 0) := by
  rw [List.getD_eq_getElem?_getD, List.getD_eq_getElem?_getD, List.getElem?_map]
  cases ms[k]? with
  | none => exact (rv_zero m).symm
  | some v => rfl
theorem cmb_rv (m : Nat) (ms : List Nat) (c : Nat) : ∀ k, cmb (ms.map (rv m)) c k = rv m (cmb ms c k)
  | 0 => (rv_zero m).symm
  | k + 1 => by
    rw [cmb_succ, cmb_succ, rv_xor, cmb_rv m ms c k, getD_rv]
    by_cases h : c.testBit k = true
    · rw [if_pos h, if_pos h]
    · rw [if_neg h, if_neg h, rv_zero]
theorem cmb_spn (as : List Nat) (c : Nat) : ∀ k, k ≤ as.length → Spn as (cmb as c k)
  | 0, _ => .zero
  | k + 1, h => by
    rw [cmb_succ]
    have ih := cmb_spn as c k (by omega)
    by_cases b : c.testBit k = true
    · rw [if_pos b]
      refine ih.xor (.mem ?_)
      rw [List.getD_eq_getElem?_getD, List.getElem?_eq_getElem (by omega)]
      exact List.getElem_mem (by omega)
    · rw [if_neg b, Nat.xor_zero]; exact ih
theorem rowL_rise {names : List Str} (rn : Rise names) (x : Nat) : Rise (rowL names x) := by
  unfold rowL
  refine List.pairwise_filterMap.mpr (List.Pairwise.imp_of_mem (fun {i j} hi hj lt b hb b' hb' => ?_) (List.pairwise_lt_range (n := names.length)))
  have hi' := List.mem_range.mp hi
  have hj' := List.mem_range.mp hj
  have e1 : names[i] = b := by
    split at hb
    · rw [List.getElem?_eq_getElem hi'] at hb; exact Option.some.inj hb
    · cases hb
  have e2 : names[j] = b' := by
    split at hb'
    · rw [List.getElem?_eq_getElem hj'] at hb'; exact Option.some.inj hb'
    · cases hb'
  rw [← e1, ← e2]
  exact List.pairwise_iff_getElem.mp rn i j hi' hj' lt
theorem rowL_len (names : List Str) (x : Nat) : (rowL names x).length ≤ names.length := by
  have h := List.length_filterMap_le (fun i => if x.testBit i = true then names[i]? else none) (List.range names.length)
  rw [List.length_range] at h
  exact h
theorem rowL_in {names : List Str} {x : Nat} {n : Str} (h : n ∈ rowL names x) : n ∈ names := by
  obtain ⟨i, hi, e, _⟩ := mem_rowL.mp h
  exact List.mem_of_getElem? e
theorem pap_of {names : List Str} (rn : Rise names) (ok : SOk names) (ln : names.length ≤ 12) {ms S L : List Nat} {x : Nat} (ltm : ∀ y ∈ ms, y < 2 ^ names.length) (hx : x < 2 ^ names.length) (sp : ∀ y, Spn ms y ↔ Spn S y) (mem : ∀ y, y ∈ L ↔ Spn S y) {o : Tl} (h : WT names (ms.map (rowL names)) (rowL names x) o) : PapO names ms x (decide (x ∈ L)) o := by
  have nd := riseNd rn
  have eas : (ms.map (rowL names)).map (maskF names) = ms.map (rv names.length) := by
    rw [List.map_map]
    exact List.map_congr_left fun y _ => maskF_rowL nd
  have lms : (ms.map (rowL names)).length = ms.length := List.length_map _
  have lrv : (ms.map (rv names.length)).length = ms.length := List.length_map _
  have isin : decide (x ∈ L) = true ↔ Spn (ms.map (rv names.length)) (rv names.length x) := by
    rw [decide_eq_true_iff, mem, ← sp, spn_map_rv ltm hx]
  have rr : ∀ {r : Nat}, RstT names (ms.map (rowL names)) (rowL names x) r → ∃ M, RR M ∧ (∀ y, Spn M y ↔ Spn (mkd (ms.map (rv names.length))) y) ∧ r = rst M ms.length (rv names.length x) := fun {r} ⟨M, pM, dM, e⟩ => by
    rw [eas] at pM
    rw [lms, maskF_rowL nd] at e
    exact ⟨M, (red_rr _).perm pM, fun y => by rw [spn_perm pM, red_spn], e⟩
  have rvlt : ∀ a ∈ ms.map (rv names.length), a < 2 ^ names.length := fun a ha => by obtain ⟨y, _, rfl⟩ := List.mem_map.mp ha; exact rv_lt _ _
  cases o with
  | inn ps =>
    obtain ⟨r, hr, z, rfl⟩ := h
    obtain ⟨M, rM, sM, e⟩ := rr hr
    rw [lms] at z ⊢
    have c := rst_cmb sM (rv names.length x)
    rw [lrv, ← e, z] at c
    have c2 : rv names.length x = cmb (ms.map (rv names.length)) r ms.length := by
      have := congrArg (fun v => v ^^^ rv names.length x) c
      rw [xor_back, Nat.zero_xor] at this
      exact this
    refine ⟨isin.mpr ?_, plc_rise _ _, fun p hp => plc_lt hp, ?_⟩
    · rw [c2]; exact cmb_spn _ _ _ (Nat.le_of_eq lrv.symm)
    · rw [plc_fold]
      have h1 : cmb ms r ms.length < 2 ^ names.length := Spn.lt ltm (cmb_spn _ _ _ (Nat.le_refl _))
      rw [← rv_rv h1, ← cmb_rv, ← c2, rv_rv hx]
  | out ss =>
    obtain ⟨⟨r, hr, z⟩, S', M, pS, pM, dM, hd⟩ := h
    obtain ⟨M', rM, sM, e⟩ := rr hr
    rw [lms] at z
    rw [eas] at pS
    have no : ¬ Spn (ms.map (rv names.length)) (rv names.length x) := fun y => z (by
      have := rst_in rM sM y
      rw [lrv, ← e] at this
      exact this)
    have hm := List.mem_of_mem_head? hd
    obtain ⟨hm1, hm2⟩ := List.mem_filter.mp hm
    obtain ⟨y, hy, rfl⟩ := List.mem_map.mp hm1
    obtain ⟨ylt, yd⟩ := odd_meets rvlt pS pM hy
    rw [rowM_rv ylt] at hm2 ⊢
    refine ⟨?_, rowL_rise rn _, sok_row ok _, Nat.le_trans (rowL_len _ _) ln, fun n hn => rowL_in hn, fun v hv => ?_, ?_⟩
    · cases hb : decide (x ∈ L) with
      | false => rfl
      | true => exact absurd (isin.mp hb) no
    · rw [meet_dot nd, dot_comm, ← dot_rv, rv_rv ylt, yd _ (List.mem_map.mpr ⟨v, hv, rfl⟩)]; rfl
    · rw [meet_dot nd] at hm2 ⊢
      rw [dot_comm]
      simpa using hm2
theorem strs_ne {ss : List Str} {n : Int} : HO.lst (ss.map V.str) ≠ .lst [.int n] := fun e => by
  cases ss with
  | nil => cases e
  | cons x r => simp at e
theorem refs_ne {as : List Addr} {n : Int} : HO.lst (as.map V.ref) ≠ .lst [.int n] := fun e => by
  cases as with
  | nil => cases e
  | cons x r => simp at e
theorem Dr.obj {d a : Addr} {H H' : Hp} {n : Int} {o : HO} (D : Dr d H H') (hd : H d = some (.lst [.int n])) (h : H a = some o) (ne : o ≠ .lst [.int n]) : H' a = some o := D.2 a o (fun e => by subst e; rw [hd] at h; exact ne (Option.some.inj h).symm) h
theorem TabIn.dr {d T : Addr} {H H' : Hp} {n : Int} {names : List Str} {rows : List (List Str)} (h : TabIn H T names rows) (D : Dr d H H') (hd : H d = some (.lst [.int n])) : TabIn H' T names rows := by
  obtain ⟨a, b, hT, ha, ⟨as, hb, pr⟩⟩ := h
  exact ⟨a, b, D.obj hd hT (fun e => by cases e), D.obj hd ha strs_ne, ⟨as, D.obj hd hb refs_ne, Paired.mapP pr fun x r z => D.obj hd z strs_ne⟩⟩
structure LS (d tb sp hn : Addr) (names : List Str) (rows : List (List Str)) (L : List Nat) (H : Hp) : Prop where
  pu : ∃ q : Int, H d = some (.lst [.int q])
  tT : TabIn H tb names rows
  sL : LsN H sp L
  nE : sp ≠ d
  hT : TabIn H hn names rows
theorem LS.ext {d tb sp hn : Addr} {names : List Str} {rows : List (List Str)} {L : List Nat} {H H' : Hp} (h : LS d tb sp hn names rows L H) (e : Ext H H') : LS d tb sp hn names rows L H' := ⟨let ⟨q, z⟩ := h.pu; ⟨q, e _ _ z⟩, h.tT.ext e, e _ _ h.sL, h.nE, h.hT.ext e⟩
theorem LS.dr {d tb sp hn : Addr} {names : List Str} {rows : List (List Str)} {L : List Nat} {H H' : Hp} (h : LS d tb sp hn names rows L H) (D : Dr d H H') : LS d tb sp hn names rows L H' := by
  obtain ⟨q, z⟩ := h.pu
  exact ⟨D.1, h.tT.dr D z, D.2 _ _ h.nE h.sL, h.nE, h.hT.dr D z⟩
theorem LS.take {d tb sp hn : Addr} {names : List Str} {rows : List (List Str)} {L : List Nat} {H : Hp} (h : LS d tb sp hn names rows L H) (q : Int) : LS d tb sp hn names rows L (upd H d (.lst [.int q])) := by
  obtain ⟨q0, z⟩ := h.pu
  exact h.dr ((Dr.refl z).take q)
def tlL : Tl → PyData
  | .inn ps => intD ps
  | .out ss => rowD ss
def tlD (o : Tl) : PyData := .tuple [.str o.tag, tlL o]
def TlOk : Tl → Prop
  | .inn _ => True
  | .out ss => SOk ss
theorem tag_ok (o : Tl) : PyData.strOk o.tag = true := by
  cases o
  · show PyData.strOk "within" = true; decide +kernel
  · show PyData.strOk "without" = true; decide +kernel
theorem eqv_tl (o : Tl) : PyData.eqv (tlD o) (tlD o) = true := by
  have e : PyData.eqv (tlL o) (tlL o) = true := by
    cases o with
    | inn ps => exact eqv_ivs ps
    | out ss => show PyData.eqv (rowD ss) (rowD ss) = true; rw [eqv_row, decide_eq_true rfl]
  show ((o.tag == o.tag) && (PyData.eqv (tlL o) (tlL o) && true)) = true
  rw [e, beq_self_eq_true]; rfl
theorem shaped_tl {o : Tl} (h : TlOk o) : SeqAt.shaped (tlD o) = true := by
  cases o with
  | inn ps =>
    obtain ⟨a1, a2⟩ := lay_iv ps
    show ((PyData.strOk "within" && (PyData.canLayAll0 (ps.map fun n : Nat => .int (n : Int)) && true)) && decide (max 0 (max (PyData.depthAll (ps.map fun n : Nat => .int (n : Int)) + 1) 0) + 1 ≤ 64)) = true
    rw [a1, a2, show PyData.strOk "within" = true from tag_ok (.inn [])]; rfl
  | out ss =>
    obtain ⟨a1, a2⟩ := lay_strs (r := ss) h
    show ((PyData.strOk "without" && (PyData.canLayAll0 (ss.map .str) && true)) && decide (max 0 (max (PyData.depthAll (ss.map .str) + 1) 0) + 1 ≤ 64)) = true
    rw [a1, a2, show PyData.strOk "without" = true from tag_ok (.out [])]; rfl
theorem dr_tl {K : PySem.W.Frag} {H : Hp} {t l : Addr} {o : Tl} (h : TlAt H t l o) : DR K H (.ref t) (tlD o) := by
  refine .tup (SqT.of h.1) (.cons (.str _) (.cons ?_ .nil))
  cases o with
  | inn ps => exact dr_iv h.2
  | out ss => exact dr_row h.2
theorem TlAt.ext {H H' : Hp} {t l : Addr} {o : Tl} (h : TlAt H t l o) (e : Ext H H') : TlAt H' t l o := ⟨e _ _ h.1, e _ _ h.2⟩
theorem pap_ok {names : List Str} {ms : List Nat} {x : Nat} {b : Bool} {o : Tl} (h : PapO names ms x b o) : TlOk o := by
  cases o with
  | inn ps => trivial
  | out ss => exact h.2.2.1
end My
namespace My
open PySem L2
def spLaw (K : PySem.W.Frag) : Sp := fun vs H Q _ => ∃ (a : Addr) (ns : List Int), vs = [.ref a] ∧ SqL K H a (ns.map V.int) ∧ ns.length ≤ 63 ∧ ∀ H', Q (.bl true) H'
theorem flat_ints (L : List Nat) : (L.map iV).all flatV = true := by
  rw [List.all_eq_true]
  intro x hx
  obtain ⟨y, _, rfl⟩ := List.mem_map.mp hx
  rfl
section
variable {P : Program} {w : World} {K : PySem.W.Frag} {mg : Str → Option Value} {base : Heap} {f f1 f2 f3 f4 f5 f6 f7 f8 f9 : Addr} {fd fd1 fd2 fd3 fd4 fd5 fd6 fd7 fd8 fd9 : FuncData}
abbrev lawN : List Str := ["_law_script", "_law_draw", "_law_many", "_law_due", "_law_table_here", "_law_span_here", "_law_handed", "_law_k", "_law_mask_here", "_law_way", "_law_row_here", "_law_first", "_law_turn", "_law_given", "_law_told"]
theorem scLaw : FnScope lawN ["_law_script"] (defScope sLaw) := ⟨rfl, rfl, rfl, by decide +kernel, rfl, by decide +kernel, by decide +kernel⟩
set_option maxHeartbeats 16000000 in
theorem ok_law (F : Fun K "law" "law" sLaw f fd)
    (G1 : FnOk P w K mg base CX0 2 f1 fd1 ["_law_script", "_law_at"] (spPurse K)) (bG1 : Binds K fd1 ["_law_script", "_law_at"] []) (kG1 : PySem.W.keepIn K (.ref f1) = true) (mG1 : mg "_law_purse" = some (.ref f1))
    (G2 : FnOk P w K mg base CX0 7 f2 fd2 ["_law_draw", "_law_most"] spHou) (bG2 : Binds K fd2 ["_law_draw", "_law_most"] []) (kG2 : PySem.W.keepIn K (.ref f2) = true) (mG2 : mg "_law_house" = some (.ref f2))
    (G3 : FnOk P w K mg base CX0 3 f3 fd3 ["_law_draw", "_law_many", "_law_base"] spTab) (bG3 : Binds K fd3 ["_law_draw", "_law_many", "_law_base"] []) (kG3 : PySem.W.keepIn K (.ref f3) = true) (mG3 : mg "_law_table" = some (.ref f3))
    (G4 : FnOk P w K mg base CX0 1 f4 fd4 ["_law_base"] spSpa) (bG4 : Binds K fd4 ["_law_base"] []) (kG4 : PySem.W.keepIn K (.ref f4) = true) (mG4 : mg "_law_span" = some (.ref f4))
    (G5 : FnOk P w K mg base CX0 1 f5 fd5 ["_law_table_here"] spLCop) (bG5 : Binds K fd5 ["_law_table_here"] []) (kG5 : PySem.W.keepIn K (.ref f5) = true) (mG5 : mg "_law_copy" = some (.ref f5))
    (G6 : FnOk P w K mg base CX0 1 f6 fd6 ["_law_draw", "_law_many"] spTake) (bG6 : Binds K fd6 ["_law_draw", "_law_many"] []) (kG6 : PySem.W.keepIn K (.ref f6) = true) (mG6 : mg "_law_take" = some (.ref f6))
    (G7 : FnOk P w K mg base CX0 1 f7 fd7 ["_law_names_here", "_law_mask_here"] spLRow) (bG7 : Binds K fd7 ["_law_names_here", "_law_mask_here"] []) (kG7 : PySem.W.keepIn K (.ref f7) = true) (mG7 : mg "_law_row" = some (.ref f7))
    (G8 : FnOk P w K mg base CX0 6 f8 fd8 ["table", "row"] spWin) (bG8 : Binds K fd8 ["table", "row"] []) (kG8 : PySem.W.keepIn K (.ref f8) = true) (mG8 : mg "within" = some (.ref f8))
    (G9 : FnOk P w K mg base CX0 2 f9 fd9 ["_law_table_here", "_law_row_here", "_law_told", "_law_is_in"] spPap) (bG9 : Binds K fd9 ["_law_table_here", "_law_row_here", "_law_told", "_law_is_in"] []) (kG9 : PySem.W.keepIn K (.ref f9) = true) (mG9 : mg "_law_paper_good" = some (.ref f9))
    (mr : mg "range" = none) (ml : mg "len" = none) (mL : mg "list" = none) :
    FnOk P w K mg base CX0 8 f fd ["_law_script"] (spLaw K) := by
  refine F.ok scLaw (fun vs H Q E h => ?_) (fun cdv A outer s H vs Q E hr h => ?_)
  · obtain ⟨a, ns, rfl, _⟩ := h
    rfl
  obtain ⟨a, ns, rfl, ha, _, q⟩ := h
  have hr1 := hr.mono (j := 1) (by decide)
  have hr2 := hr.mono (j := 2) (by decide)
  have hr3 := hr.mono (j := 3) (by decide)
  have hr6 := hr.mono (j := 6) (by decide)
  refine ⟨_, pss_cons (ps_set (i := 1) scLaw.nd rfl (Or.inl rfl) (pe_call G1 hr2 rfl mG1 kG1 bG1 .nil pass0 (pa_cons (pv 0) (pa_cons pe_int pa_nil))))
    (pss_cons (ps_asg (pe_call G2 hr rfl mG2 kG2 bG2 .nil pass0 (pa_cons (pv 1) (pa_cons pe_int pa_nil))) (pg_tup rfl (pgs_cons (pg_name (i := 2) scLaw.nd rfl (Or.inl rfl)) (pgs_cons (pg_name (i := 3) scLaw.nd rfl (Or.inl rfl)) pgs_nil))))
    (pss_cons (ps_set (i := 4) scLaw.nd rfl (Or.inl rfl) (pe_call G3 hr3 rfl mG3 kG3 bG3 .nil pass0 (pa_cons (pv 1) (pa_cons (pv 2) (pa_cons (pv 3) pa_nil)))))
    (pss_cons (ps_set (i := 5) scLaw.nd rfl (Or.inl rfl) (pe_call G4 hr1 rfl mG4 kG4 bG4 .nil pass0 (pa_cons (pv 3) pa_nil)))
    (pss_cons (ps_set (i := 6) scLaw.nd rfl (Or.inl rfl) (pe_call G5 hr1 rfl mG5 kG5 bG5 .nil pass0 (pa_cons (pv 4) pa_nil)))
    (pss_cons (ps_for PassesOwn.never rfl (pi_range1 rfl mr (pa_cons pe_int pa_nil)) (pg_name (i := 7) scLaw.nd rfl (Or.inl rfl))
      (pss_cons (ps_cutE (ps_set (i := 8) scLaw.nd rfl (Or.inl rfl) (pe_ix ix_list (pv 5) (pe_call G6 hr1 rfl mG6 kG6 bG6 .nil pass0 (pa_cons (pv 1) (pa_cons (pe_callB call_len_seq rfl ml PySem.boot_len (pa_cons (pv 5) pa_nil)) pa_nil))) (fun _ _ => rfl))))
      (pss_cons (ps_cutE (ps_set (i := 9) scLaw.nd rfl (Or.inl rfl) (pe_call G6 hr1 rfl mG6 kG6 bG6 .nil pass0 (pa_cons (pv 1) (pa_cons pe_int pa_nil)))))
      (pss_cons (ps_cutE (ps_if (pt_cmpR op_eq (pv 9) pe_int (nomark _)) (pss_one (ps_set (i := 8) scLaw.nd rfl (Or.inl rfl) (pe_op op_xor (pv 8) (pe_op op_shr (pe_op op_shl pe_int (pe_call G6 hr1 rfl mG6 kG6 bG6 .nil pass0 (pa_cons (pv 1) (pa_cons (pe_op op_add (pv 2) pe_int) pa_nil)))) pe_int)))) pss_nil))
      (pss_cons (ps_cutE (ps_if (pt_cmpR op_eq (pv 9) pe_int (nomark _)) (pss_one (ps_set (i := 8) scLaw.nd rfl (Or.inl rfl) (pe_call G6 hr1 rfl mG6 kG6 bG6 .nil pass0 (pa_cons (pv 1) (pa_cons (pe_op op_shl pe_int (pv 2)) pa_nil))))) pss_nil))
      (pss_cons (ps_cutE (ps_set (i := 10) scLaw.nd rfl (Or.inl rfl) (pe_call G7 hr1 rfl mG7 kG7 bG7 .nil pass0 (pa_cons (pe_ix ix_tup (pv 4) pe_int (fun _ _ => rfl)) (pa_cons (pv 8) pa_nil)))))
      (pss_cons (ps_cutE (ps_set (i := 11) scLaw.nd rfl (Or.inl rfl) (pe_call G8 hr6 rfl mG8 kG8 bG8 .nil pass0 (pa_cons (pv 6) (pa_cons (pe_callTy call_list_of rfl mL boot_list' (pa_cons (pv 10) pa_nil)) pa_nil)))))
      (pss_one (ps_for PassesOwn.never rfl (pi_range1 rfl mr (pa_cons pe_int pa_nil)) (pg_name (i := 12) scLaw.nd rfl (Or.inl rfl))
        (pss_cons (ps_cutE (ps_set (i := 13) scLaw.nd rfl (Or.inl rfl) (pe_callTy call_list_of rfl mL boot_list' (pa_cons (pv 10) pa_nil))))
        (pss_cons (ps_cutE (ps_set (i := 14) scLaw.nd rfl (Or.inl rfl) (pe_call G8 hr6 rfl mG8 kG8 bG8 .nil pass0 (pa_cons (pv 6) (pa_cons (pv 13) pa_nil)))))
        (pss_cons (ps_if (PW.pt (pw_or (pt_not (pt_val (pe_call G9 hr2 rfl mG9 kG9 bG9 .nil pass0 (pa_cons (pv 4) (pa_cons (pv 10) (pa_cons (pv 14) (pa_cons (pe_cmpR op_in_seq (pv 8) (pv 5) (by with_unfolding_all rfl)) pa_nil)))))))
            (pw_or (pt_cmpR (op_neD (room64 hr)) (pv 6) (pv 4) (nomark _)) (pw_or1 (pt_cmpR (op_neD (room64 hr)) (pv 13) (pv 10) (nomark _)))))) (pss_one (ps_ret pe_bl)) pss_nil)
        (pss_cons (ps_if (pt_cmpR (op_neD (room64 hr)) (pv 14) (pv 11) (nomark _)) (pss_one (ps_ret pe_bl)) pss_nil)
        (pss_one (ps_expr (pe_bm0 PySem.F.plainAttrs_list PySem.F.slot_list_clear PySem.F.type_list_clear mt_clear (pe_ix ix_tup (pv 14) pe_int (fun _ _ => rfl))))))))))))))))))
    (pss_one (ps_ret pe_bl))))))), ?_⟩
  refine ⟨_, rfl, a, ns, 0, rfl, ha, by decide, by decide, fun v d hd0 => ?_⟩
  have n0 := Ext.new hd0 (.lst [.int v])
  refine ⟨_, rfl, d, v, rfl, upd_same, fun T0 du m S H1 d1 T00 hT0 du0 hS sS lS m12 => ?_⟩
  have dud : du ≠ d := purse_ne upd_same du0
  obtain ⟨q1, z1⟩ := d1.1
  refine ⟨T0, _, rfl, SqT.of hT0, rfl, _, _, rfl, _, _, rfl, rfl, ?_⟩
  refine ⟨_, rfl, _, rfl, _, rfl, d, q1, m, du, S, rfl, z1, dud, hS, lS, m12, sS.lt, fun tb names ms H2 d2 tb0 tI lN rN okN lms ltm spm => ?_⟩
  subst lN
  have hS2 : LsN H2 du S := d2.2 _ _ dud hS
  obtain ⟨q2, z2⟩ := d2.1
  refine ⟨_, rfl, du, S, rfl, hS2, by omega, fun sp L H3 e3 sp0 hL mem lL => ?_⟩
  have spd : sp ≠ d := fun e => by rw [e, z2] at sp0; cases sp0
  have lrw : (ms.map (rowL names)).length ≤ 24 := by rw [List.length_map]; omega
  refine ⟨_, rfl, tb, names, _, rfl, tI.ext e3, lrw, fun hn H4 e4 hn0 tH => ?_⟩
  have hL0 : 0 ∈ L := (mem 0).mpr .zero
  have lL0 : 0 < L.length := List.length_pos_of_mem hL0
  have memL : ∀ y ∈ L, y < 2 ^ names.length := fun y hy => Spn.lt sS.lt ((mem y).mp hy)
  have nd := riseNd rN
  have okR : ∀ r ∈ ms.map (rowL names), SOk r := fun r hr => by obtain ⟨x, _, rfl⟩ := List.mem_map.mp hr; exact sok_row okN x
  have LS0 : LS d tb sp hn names (ms.map (rowL names)) L H4 := ⟨⟨q2, e4 _ _ (e3 _ _ z2)⟩, (tI.ext e3).ext e4, e4 _ _ hL, spd, tH⟩
  have pw : 2 ^ names.length ≤ 2 ^ 12 := Nat.pow_le_pow_right (by decide) m12
  refine ⟨4, rfl, by decide, by decide, ?_⟩
  refine for_range (lo := 0) (n := (4 : Int).toNat) (fun i σ' H' => ∃ (x7 x8 x9 x10 x11 x12 x13 x14 : Option V), σ' = [some (.ref a), some (.ref d), some (iV names.length), some (.ref du), some (.ref tb), some (.ref sp), some (.ref hn), x7, x8, x9, x10, x11, x12, x13, x14] ∧ LS d tb sp hn names (ms.map (rowL names)) L H') ⟨none, none, none, none, none, none, none, none, rfl, LS0⟩ ?_ (fun σ' H' z => q H')
  rintro i σ H5 hi ⟨x7, x8, x9, x10, x11, x12, x13, x14, rfl, L5⟩
  refine ⟨fun σ' H' => ∃ x : Nat, σ' = [some (.ref a), some (.ref d), some (iV names.length), some (.ref du), some (.ref tb), some (.ref sp), some (.ref hn), some (.int (0 + (i : Int))), some (iV x), x9, x10, x11, x12, x13, x14] ∧ x < 2 ^ names.length ∧ LS d tb sp hn names (ms.map (rowL names)) L H', ?_, ?_⟩
  · obtain ⟨q5, z5⟩ := L5.pu
    refine ⟨_, rfl, _, rfl, _, rfl, sp, _, rfl, .inl (SqL.of L5.sL), d, q5, _, rfl, z5, ?_, ?_, fun q6 j ja jb => ?_⟩
    · rw [List.length_map]; omega
    · rw [List.length_map]; omega
    rw [List.length_map] at jb
    have L6 := L5.take q6
    have jl : j.toNat < L.length := by omega
    have atj : atI (L.map iV) j = some (iV L[j.toNat]) := by
      have := at_iv jl
      rwa [Int.toNat_of_nonneg ja] at this
    exact ⟨sp, _, j, _, rfl, rfl, SqL.of L6.sL, atj, L[j.toNat], rfl, memL _ (List.getElem_mem jl), L6⟩
  rintro _ H6 ⟨x, rfl, hx, L6⟩
  refine ⟨fun σ' H' => ∃ y : Option V, σ' = [some (.ref a), some (.ref d), some (iV names.length), some (.ref du), some (.ref tb), some (.ref sp), some (.ref hn), some (.int (0 + (i : Int))), some (iV x), y, x10, x11, x12, x13, x14] ∧ (∃ wy : Int, y = some (.int wy)) ∧ LS d tb sp hn names (ms.map (rowL names)) L H', ?_, ?_⟩
  · obtain ⟨q5, z5⟩ := L6.pu
    exact ⟨_, rfl, d, q5, 3, rfl, z5, by decide, by decide, fun q6 j ja jb => ⟨_, rfl, ⟨j, rfl⟩, L6.take q6⟩⟩
  rintro _ H7 ⟨_, rfl, ⟨wy, rfl⟩, L7⟩
  refine ⟨fun σ' H' => ∃ x : Nat, σ' = [some (.ref a), some (.ref d), some (iV names.length), some (.ref du), some (.ref tb), some (.ref sp), some (.ref hn), some (.int (0 + (i : Int))), some (iV x), some (.int wy), x10, x11, x12, x13, x14] ∧ x < 2 ^ names.length ∧ LS d tb sp hn names (ms.map (rowL names)) L H', ?_, ?_⟩
  · refine ⟨_, rfl, rfl, _, rfl, ite2 (fun c => ?_) (fun c => ⟨x, rfl, hx, L7⟩)⟩
    obtain ⟨q5, z5⟩ := L7.pu
    refine ⟨_, rfl, _, rfl, _, rfl, _, _, rfl, rfl, d, q5, _, rfl, z5, by omega, by omega, fun q6 j ja jb => ?_⟩
    have hj : j.toNat ≤ names.length := by omega
    refine ⟨_, _, rfl, rfl, ⟨ja, by omega, by decide⟩, _, _, rfl, rfl, (by show (0 : Int) ≤ _; decide), _, _, rfl, rfl, x ^^^ (2 ^ j.toNat / 2), ?_, ?_, L7.take q6⟩
    · refine congrArg (fun v => [some (V.ref a), some (V.ref d), some (iV names.length), some (V.ref du), some (V.ref tb), some (V.ref sp), some (V.ref hn), some (.int (0 + (i : Int))), some v, some (.int wy), x10, x11, x12, x13, x14]) ?_
      show V.int (Builtin.bitXor (x : Int) (1 * 2 ^ j.toNat / 2 ^ (1 : Int).toNat)) = V.int _
      have e1 : (1 * 2 ^ j.toNat / 2 ^ (1 : Int).toNat : Int) = ((2 ^ j.toNat / 2 : Nat) : Int) := by
        rw [Int.one_mul, Int.natCast_ediv, Int.natCast_pow]; rfl
      rw [e1, bxor_nat]
    · refine Nat.xor_lt_two_pow hx ?_
      have h1 : 2 ^ j.toNat ≤ 2 ^ names.length := Nat.pow_le_pow_right (by decide) hj
      have h2 : 0 < 2 ^ names.length := Nat.two_pow_pos _
      omega
  rintro _ H8 ⟨x, rfl, hx, L8⟩
  refine ⟨fun σ' H' => ∃ x : Nat, σ' = [some (.ref a), some (.ref d), some (iV names.length), some (.ref du), some (.ref tb), some (.ref sp), some (.ref hn), some (.int (0 + (i : Int))), some (iV x), some (.int wy), x10, x11, x12, x13, x14] ∧ x < 2 ^ names.length ∧ LS d tb sp hn names (ms.map (rowL names)) L H', ?_, ?_⟩
  · refine ⟨_, rfl, rfl, _, rfl, ite2 (fun c => ?_) (fun c => ⟨x, rfl, hx, L8⟩)⟩
    obtain ⟨q5, z5⟩ := L8.pu
    have e1 : (1 * 2 ^ ((names.length : Nat) : Int).toNat : Int) = ((2 ^ names.length : Nat) : Int) := by
      rw [Int.one_mul, Int.toNat_natCast, Int.natCast_pow]; rfl
    have h2 : 0 < 2 ^ names.length := Nat.two_pow_pos _
    refine ⟨_, rfl, _, rfl, _, _, rfl, rfl, ⟨by omega, by omega, by decide⟩, d, q5, _, rfl, z5, ?_, ?_, fun q6 j ja jb => ?_⟩
    · show (0 : Int) < 1 * 2 ^ _; rw [e1]; omega
    · show (1 * 2 ^ _ : Int) < _; rw [e1]; omega
    have jb' : j < 1 * 2 ^ ((names.length : Nat) : Int).toNat := jb
    rw [e1] at jb'
    exact ⟨j.toNat, by unfold iV; rw [Int.toNat_of_nonneg ja]; rfl, by omega, L8.take q6⟩
  rintro _ H9 ⟨x, rfl, hx, L9⟩
  refine ⟨fun σ' H' => ∃ ro : Addr, σ' = [some (.ref a), some (.ref d), some (iV names.length), some (.ref du), some (.ref tb), some (.ref sp), some (.ref hn), some (.int (0 + (i : Int))), some (iV x), some (.int wy), some (.ref ro), x11, x12, x13, x14] ∧ LsS H' ro (rowL names x) ∧ LS d tb sp hn names (ms.map (rowL names)) L H', ?_, ?_⟩
  · obtain ⟨ta, tb', hT, hTa, _⟩ := id L9.tT
    exact ⟨_, rfl, tb, _, _, .ref ta, rfl, rfl, SqT.of hT, (by exact atI_nat (j := 0) rfl), _, rfl, ta, names, x, rfl, hTa, m12, fun r H' e r0 hr' => ⟨r, rfl, hr', L9.ext e⟩⟩
  rintro _ H10 ⟨ro, rfl, hro, L10⟩
  have lro : (rowL names x).length ≤ 12 := Nat.le_trans (rowL_len _ _) m12
  refine ⟨fun σ' H' => ∃ (ft fl : Addr) (o : Tl), σ' = [some (.ref a), some (.ref d), some (iV names.length), some (.ref du), some (.ref tb), some (.ref sp), some (.ref hn), some (.int (0 + (i : Int))), some (iV x), some (.int wy), some (.ref ro), some (.ref ft), x12, x13, x14] ∧ LsS H' ro (rowL names x) ∧ TlAt H' ft fl o ∧ WT names (ms.map (rowL names)) (rowL names x) o ∧ LS d tb sp hn names (ms.map (rowL names)) L H', ?_, ?_⟩
  · refine ⟨_, rfl, _, rfl, ro, _, rfl, .inl (SqL.of hro), fun g hg => ?_⟩
    have ng := Ext.new hg (.lst ((rowL names x).map V.str))
    refine ⟨hn, g, names, _, x, rfl, L10.hT.ext ng, upd_same, nd, m12, by rw [List.length_map]; exact lms, hx, fun t l o H' e t0 l0 ta wt => ?_⟩
    have E := ng.trans e
    exact ⟨t, l, o, rfl, E _ _ hro, ta, wt, L10.ext E⟩
  rintro _ H11 ⟨ft, fl, o, rfl, hro, hft, wt, L11⟩
  have po := pap_of rN okN m12 ltm hx spm mem wt
  refine ⟨2, rfl, by decide, by decide, ?_⟩
  refine for_range (lo := 0) (n := (2 : Int).toNat) (fun i2 σ' H' => ∃ (x12 x13 x14 : Option V), σ' = [some (.ref a), some (.ref d), some (iV names.length), some (.ref du), some (.ref tb), some (.ref sp), some (.ref hn), some (.int (0 + (i : Int))), some (iV x), some (.int wy), some (.ref ro), some (.ref ft), x12, x13, x14] ∧ Ext H11 H') ⟨_, _, _, rfl, Ext.refl _⟩ ?_ (fun σ' H' z => ?_)
  · rintro i2 σ H12 hi2 ⟨y12, y13, y14, rfl, e12⟩
    have L12 := L11.ext e12
    refine ⟨fun σ' H' => ∃ g : Addr, σ' = [some (.ref a), some (.ref d), some (iV names.length), some (.ref du), some (.ref tb), some (.ref sp), some (.ref hn), some (.int (0 + (i : Int))), some (iV x), some (.int wy), some (.ref ro), some (.ref ft), some (.int (0 + (i2 : Int))), some (.ref g), y14] ∧ LsS H' g (rowL names x) ∧ Ext H12 H', ?_, ?_⟩
    · exact ⟨_, rfl, ro, _, rfl, .inl (SqL.of (e12 _ _ hro)), fun g hg => ⟨g, rfl, upd_same, Ext.new hg _⟩⟩
    rintro _ H13 ⟨g, rfl, hg, e13⟩
    refine ⟨fun σ' H' => ∃ (t l : Addr) (o2 : Tl), σ' = [some (.ref a), some (.ref d), some (iV names.length), some (.ref du), some (.ref tb), some (.ref sp), some (.ref hn), some (.int (0 + (i : Int))), some (iV x), some (.int wy), some (.ref ro), some (.ref ft), some (.int (0 + (i2 : Int))), some (.ref g), some (.ref t)] ∧ LsS H' g (rowL names x) ∧ H12 l = none ∧ TlAt H' t l o2 ∧ WT names (ms.map (rowL names)) (rowL names x) o2 ∧ Ext H12 H', ?_, ?_⟩
    · exact ⟨_, rfl, _, rfl, hn, g, names, _, x, rfl, (L12.ext e13).hT, hg, nd, m12, by rw [List.length_map]; exact lms, hx, fun t l o2 H' e t0 l0 ta wt2 => ⟨t, l, o2, rfl, e _ _ hg, e13.none l0, ta, wt2, e13.trans e⟩⟩
    rintro _ H14 ⟨t, l, o2, rfl, hg2, l0, hta, wt2, e14⟩
    have eo := wt_same wt2 wt
    subst eo
    have E14 := e12.trans e14
    have L14 := L11.ext E14
    have hro14 := E14 _ _ hro
    refine ⟨_, rfl, _, rfl, _, rfl, _, rfl, _, rfl, sp, _, rfl, .inl (SqL.of L14.sL), rfl, flat_ints _, ?_⟩
    rw [if_neg (show ¬ (false = true) by decide), inV_iv]
    refine ⟨tb, ro, t, l, _, names, ms, x, o2, rfl, L14.tT, hro14, hta, nd, m12, lms, hx, ltm, po, fun H15 e15 => ?_⟩
    refine ⟨true, rfl, iteF ?_⟩
    have L15 := L14.ext e15
    have tok := pap_ok po
    refine ⟨_, rfl, _, rfl, _, _, dr_tab L15.hT, dr_tab L15.tT, shaped_tab okN okR, shaped_tab okN okR, _, rfl, ?_⟩
    rw [if_pos rfl, eqv_tab]
    refine iteF ?_
    refine ⟨_, rfl, _, rfl, rowD _, rowD _, dr_row (e15 _ _ hg2), dr_row (e15 _ _ hro14), shaped_row (sok_row okN x), shaped_row (sok_row okN x), _, rfl, ?_⟩
    rw [if_pos rfl, eqv_row, decide_eq_true rfl]
    refine iteF ?_
    refine ⟨_, rfl, _, rfl, _, _, dr_tl (hta.ext e15), dr_tl ((hft.ext E14).ext e15), shaped_tl tok, shaped_tl tok, _, rfl, ?_⟩
    rw [if_pos rfl, eqv_tl]
    refine iteF ?_
    have ht15 := hta.ext e15
    refine ⟨_, rfl, t, _, _, .ref l, rfl, rfl, SqT.of ht15.1, (by exact atI_nat (j := 1) rfl), .inl ⟨rfl, _, SqL.of ht15.2⟩, l, _, rfl, rfl, ht15.2, ?_⟩
    exact ⟨_, _, _, rfl, e12.trans ((e14.trans e15).over l0 _)⟩
  · obtain ⟨y12, y13, y14, rfl, e12⟩ := z
    exact ⟨_, _, _, _, _, _, _, _, rfl, L11.ext e12⟩
end
end My
namespace My
open PySem L2
theorem len1 {α : Type} {us : List α} (h : us.length = 1) : ∃ a, us = [a] := List.length_eq_one_iff.mp h
theorem len2 {α : Type} {us : List α} (h : us.length = 2) : ∃ a b, us = [a, b] := by
  match us, h with | [a, b], _ => exact ⟨a, b, rfl⟩
theorem len3 {α : Type} {us : List α} (h : us.length = 3) : ∃ a b c, us = [a, b, c] := by
  match us, h with | [a, b, c], _ => exact ⟨a, b, c, rfl⟩
theorem len4 {α : Type} {us : List α} (h : us.length = 4) : ∃ a b c d, us = [a, b, c, d] := by
  match us, h with | [a, b, c, d], _ => exact ⟨a, b, c, d, rfl⟩
set_option maxHeartbeats 16000000 in
theorem all_mk {l : PySem.W.OpenLaw} {w : World} {K : PySem.W.Frag} {h : Heap} {mg : Str → Option Value} {fa f1 f2 f3 f4 f5 f6 f7 f8 f9 f10 f11 f12 f13 f14 f15 f16 f17 f18 f19 f20 f21 f22 f23 f24 f25 f26 f27 f28 f29 f30 f31 f32 f33 : Addr} (X : K.In h) (G : h.Ns mainGlobals mg) (hfa : mg "law" = some (.ref fa))
    {od1 an1 od2 an2 od3 an3 od4 an4 od5 an5 od6 an6 od7 an7 od8 an8 od9 an9 od10 an10 od11 an11 od12 an12 od13 an13 od14 an14 od15 an15 od16 an16 od17 an17 od18 an18 od19 an19 od20 an20 od21 an21 od22 an22 od23 an23 od24 an24 od25 an25 od26 an26 od27 an27 od28 an28 od29 an29 od30 an30 od31 an31 od32 an32 od33 an33 : Option Addr} {sl1 sl2 sl3 sl4 sl5 sl6 sl7 sl8 sl9 sl10 sl11 sl12 sl13 sl14 sl15 sl16 sl17 sl18 sl19 sl20 sl21 sl22 sl23 sl24 sl25 sl26 sl27 sl28 sl29 sl30 sl31 sl32 sl33 : Array (Option Value)} {oc1 kV1 dc1 pm1 cd1 ct1 oc2 kV2 dc2 pm2 cd2 ct2 oc3 kV3 dc3 pm3 cd3 ct3 oc4 kV4 dc4 pm4 cd4 ct4 oc5 kV5 dc5 pm5 cd5 ct5 oc6 kV6 dc6 pm6 cd6 ct6 oc7 kV7 dc7 pm7 cd7 ct7 oc8 kV8 dc8 pm8 cd8 ct8 oc9 kV9 dc9 pm9 cd9 ct9 oc10 kV10 dc10 pm10 cd10 ct10 oc11 kV11 dc11 pm11 cd11 ct11 oc12 kV12 dc12 pm12 cd12 ct12 oc13 kV13 dc13 pm13 cd13 ct13 oc14 kV14 dc14 pm14 cd14 ct14 oc15 kV15 dc15 pm15 cd15 ct15 oc16 kV16 dc16 pm16 cd16 ct16 oc17 kV17 dc17 pm17 cd17 ct17 oc18 kV18 dc18 pm18 cd18 ct18 oc19 kV19 dc19 pm19 cd19 ct19 oc20 kV20 dc20 pm20 cd20 ct20 oc21 kV21 dc21 pm21 cd21 ct21 oc22 kV22 dc22 pm22 cd22 ct22 oc23 kV23 dc23 pm23 cd23 ct23 oc24 kV24 dc24 pm24 cd24 ct24 oc25 kV25 dc25 pm25 cd25 ct25 oc26 kV26 dc26 pm26 cd26 ct26 oc27 kV27 dc27 pm27 cd27 ct27 oc28 kV28 dc28 pm28 cd28 ct28 oc29 kV29 dc29 pm29 cd29 ct29 oc30 kV30 dc30 pm30 cd30 ct30 oc31 kV31 dc31 pm31 cd31 ct31 oc32 kV32 dc32 pm32 cd32 ct32 oc33 kV33 dc33 pm33 cd33 ct33 : Value}
    (a1 : PySem.W.nsIn K mainGlobals "mask_of" = some (some (.ref f1))) (l1 : K.lookup f1 = some ⟨oc1, od1, .func (PySem.W.fnOf "mask_of" "mask_of" (defArgs sMask) (defBody sMask) (defScope sMask) .none kV1 dc1 pm1 an1 cd1 ct1), sl1⟩) (c1 : PySem.W.codeIn K cd1 "mask_of" = true) (k1 : PySem.W.keepIn K (.ref f1) = true)
    (a2 : PySem.W.nsIn K mainGlobals "row_of" = some (some (.ref f2))) (l2 : K.lookup f2 = some ⟨oc2, od2, .func (PySem.W.fnOf "row_of" "row_of" (defArgs sRowOf) (defBody sRowOf) (defScope sRowOf) .none kV2 dc2 pm2 an2 cd2 ct2), sl2⟩) (c2 : PySem.W.codeIn K cd2 "row_of" = true) (k2 : PySem.W.keepIn K (.ref f2) = true)
    (a3 : PySem.W.nsIn K mainGlobals "lessened" = some (some (.ref f3))) (l3 : K.lookup f3 = some ⟨oc3, od3, .func (PySem.W.fnOf "lessened" "lessened" (defArgs sLess) (defBody sLess) (defScope sLess) .none kV3 dc3 pm3 an3 cd3 ct3), sl3⟩) (c3 : PySem.W.codeIn K cd3 "lessened" = true) (k3 : PySem.W.keepIn K (.ref f3) = true)
    (a4 : PySem.W.nsIn K mainGlobals "reduced" = some (some (.ref f4))) (l4 : K.lookup f4 = some ⟨oc4, od4, .func (PySem.W.fnOf "reduced" "reduced" (defArgs sRedu) (defBody sRedu) (defScope sRedu) .none kV4 dc4 pm4 an4 cd4 ct4), sl4⟩) (c4 : PySem.W.codeIn K cd4 "reduced" = true) (k4 : PySem.W.keepIn K (.ref f4) = true)
    (a5 : PySem.W.nsIn K mainGlobals "lead_of" = some (some (.ref f5))) (l5 : K.lookup f5 = some ⟨oc5, od5, .func (PySem.W.fnOf "lead_of" "lead_of" (defArgs sLead) (defBody sLead) (defScope sLead) .none kV5 dc5 pm5 an5 cd5 ct5), sl5⟩) (c5 : PySem.W.codeIn K cd5 "lead_of" = true) (k5 : PySem.W.keepIn K (.ref f5) = true)
    (a6 : PySem.W.nsIn K mainGlobals "crossed_masks" = some (some (.ref f6))) (l6 : K.lookup f6 = some ⟨oc6, od6, .func (PySem.W.fnOf "crossed_masks" "crossed_masks" (defArgs sCrM) (defBody sCrM) (defScope sCrM) .none kV6 dc6 pm6 an6 cd6 ct6), sl6⟩) (c6 : PySem.W.codeIn K cd6 "crossed_masks" = true) (k6 : PySem.W.keepIn K (.ref f6) = true)
    (a7 : PySem.W.nsIn K mainGlobals "table_from" = some (some (.ref f7))) (l7 : K.lookup f7 = some ⟨oc7, od7, .func (PySem.W.fnOf "table_from" "table_from" (defArgs sTabF) (defBody sTabF) (defScope sTabF) .none kV7 dc7 pm7 an7 cd7 ct7), sl7⟩) (c7 : PySem.W.codeIn K cd7 "table_from" = true) (k7 : PySem.W.keepIn K (.ref f7) = true)
    (a8 : PySem.W.nsIn K mainGlobals "meets_evenly" = some (some (.ref f8))) (l8 : K.lookup f8 = some ⟨oc8, od8, .func (PySem.W.fnOf "meets_evenly" "meets_evenly" (defArgs sMeet) (defBody sMeet) (defScope sMeet) .none kV8 dc8 pm8 an8 cd8 ct8), sl8⟩) (c8 : PySem.W.codeIn K cd8 "meets_evenly" = true) (k8 : PySem.W.keepIn K (.ref f8) = true)
    (a9 : PySem.W.nsIn K mainGlobals "step_masks" = some (some (.ref f9))) (l9 : K.lookup f9 = some ⟨oc9, od9, .func (PySem.W.fnOf "step_masks" "step_masks" (defArgs sStepM) (defBody sStepM) (defScope sStepM) .none kV9 dc9 pm9 an9 cd9 ct9), sl9⟩) (c9 : PySem.W.codeIn K cd9 "step_masks" = true) (k9 : PySem.W.keepIn K (.ref f9) = true)
    (a10 : PySem.W.nsIn K mainGlobals "crossed" = some (some (.ref f10))) (l10 : K.lookup f10 = some ⟨oc10, od10, .func (PySem.W.fnOf "crossed" "crossed" (defArgs sCross) (defBody sCross) (defScope sCross) .none kV10 dc10 pm10 an10 cd10 ct10), sl10⟩) (c10 : PySem.W.codeIn K cd10 "crossed" = true) (k10 : PySem.W.keepIn K (.ref f10) = true)
    (a11 : PySem.W.nsIn K mainGlobals "within" = some (some (.ref f11))) (l11 : K.lookup f11 = some ⟨oc11, od11, .func (PySem.W.fnOf "within" "within" (defArgs sWin) (defBody sWin) (defScope sWin) .none kV11 dc11 pm11 an11 cd11 ct11), sl11⟩) (c11 : PySem.W.codeIn K cd11 "within" = true) (k11 : PySem.W.keepIn K (.ref f11) = true)
    (a12 : PySem.W.nsIn K mainGlobals "oddly_met" = some (some (.ref f12))) (l12 : K.lookup f12 = some ⟨oc12, od12, .func (PySem.W.fnOf "oddly_met" "oddly_met" (defArgs sOdd) (defBody sOdd) (defScope sOdd) .none kV12 dc12 pm12 an12 cd12 ct12), sl12⟩) (c12 : PySem.W.codeIn K cd12 "oddly_met" = true) (k12 : PySem.W.keepIn K (.ref f12) = true)
    (a13 : PySem.W.nsIn K mainGlobals "_law_cell_at" = some (some (.ref f13))) (l13 : K.lookup f13 = some ⟨oc13, od13, .func (PySem.W.fnOf "_law_cell_at" "_law_cell_at" (defArgs sCell) (defBody sCell) (defScope sCell) .none kV13 dc13 pm13 an13 cd13 ct13), sl13⟩) (c13 : PySem.W.codeIn K cd13 "_law_cell_at" = true) (k13 : PySem.W.keepIn K (.ref f13) = true)
    (a14 : PySem.W.nsIn K mainGlobals "_law_purse" = some (some (.ref f14))) (l14 : K.lookup f14 = some ⟨oc14, od14, .func (PySem.W.fnOf "_law_purse" "_law_purse" (defArgs sPurse) (defBody sPurse) (defScope sPurse) .none kV14 dc14 pm14 an14 cd14 ct14), sl14⟩) (c14 : PySem.W.codeIn K cd14 "_law_purse" = true) (k14 : PySem.W.keepIn K (.ref f14) = true)
    (a15 : PySem.W.nsIn K mainGlobals "_law_take" = some (some (.ref f15))) (l15 : K.lookup f15 = some ⟨oc15, od15, .func (PySem.W.fnOf "_law_take" "_law_take" (defArgs sTake) (defBody sTake) (defScope sTake) .none kV15 dc15 pm15 an15 cd15 ct15), sl15⟩) (c15 : PySem.W.codeIn K cd15 "_law_take" = true) (k15 : PySem.W.keepIn K (.ref f15) = true)
    (a16 : PySem.W.nsIn K mainGlobals "_law_names" = some (some (.ref f16))) (l16 : K.lookup f16 = some ⟨oc16, od16, .func (PySem.W.fnOf "_law_names" "_law_names" (defArgs sNames) (defBody sNames) (defScope sNames) .none kV16 dc16 pm16 an16 cd16 ct16), sl16⟩) (c16 : PySem.W.codeIn K cd16 "_law_names" = true) (k16 : PySem.W.keepIn K (.ref f16) = true)
    (a17 : PySem.W.nsIn K mainGlobals "_law_lead" = some (some (.ref f17))) (l17 : K.lookup f17 = some ⟨oc17, od17, .func (PySem.W.fnOf "_law_lead" "_law_lead" (defArgs sLLd) (defBody sLLd) (defScope sLLd) .none kV17 dc17 pm17 an17 cd17 ct17), sl17⟩) (c17 : PySem.W.codeIn K cd17 "_law_lead" = true) (k17 : PySem.W.keepIn K (.ref f17) = true)
    (a18 : PySem.W.nsIn K mainGlobals "_law_steps" = some (some (.ref f18))) (l18 : K.lookup f18 = some ⟨oc18, od18, .func (PySem.W.fnOf "_law_steps" "_law_steps" (defArgs sLSt) (defBody sLSt) (defScope sLSt) .none kV18 dc18 pm18 an18 cd18 ct18), sl18⟩) (c18 : PySem.W.codeIn K cd18 "_law_steps" = true) (k18 : PySem.W.keepIn K (.ref f18) = true)
    (a19 : PySem.W.nsIn K mainGlobals "_law_span" = some (some (.ref f19))) (l19 : K.lookup f19 = some ⟨oc19, od19, .func (PySem.W.fnOf "_law_span" "_law_span" (defArgs sSpa) (defBody sSpa) (defScope sSpa) .none kV19 dc19 pm19 an19 cd19 ct19), sl19⟩) (c19 : PySem.W.codeIn K cd19 "_law_span" = true) (k19 : PySem.W.keepIn K (.ref f19) = true)
    (a20 : PySem.W.nsIn K mainGlobals "_law_crossed" = some (some (.ref f20))) (l20 : K.lookup f20 = some ⟨oc20, od20, .func (PySem.W.fnOf "_law_crossed" "_law_crossed" (defArgs sLCr) (defBody sLCr) (defScope sLCr) .none kV20 dc20 pm20 an20 cd20 ct20), sl20⟩) (c20 : PySem.W.codeIn K cd20 "_law_crossed" = true) (k20 : PySem.W.keepIn K (.ref f20) = true)
    (a21 : PySem.W.nsIn K mainGlobals "_law_bounded" = some (some (.ref f21))) (l21 : K.lookup f21 = some ⟨oc21, od21, .func (PySem.W.fnOf "_law_bounded" "_law_bounded" (defArgs sBou) (defBody sBou) (defScope sBou) .none kV21 dc21 pm21 an21 cd21 ct21), sl21⟩) (c21 : PySem.W.codeIn K cd21 "_law_bounded" = true) (k21 : PySem.W.keepIn K (.ref f21) = true)
    (a22 : PySem.W.nsIn K mainGlobals "_law_ties" = some (some (.ref f22))) (l22 : K.lookup f22 = some ⟨oc22, od22, .func (PySem.W.fnOf "_law_ties" "_law_ties" (defArgs sTies) (defBody sTies) (defScope sTies) .none kV22 dc22 pm22 an22 cd22 ct22), sl22⟩) (c22 : PySem.W.codeIn K cd22 "_law_ties" = true) (k22 : PySem.W.keepIn K (.ref f22) = true)
    (a23 : PySem.W.nsIn K mainGlobals "_law_star_masks" = some (some (.ref f23))) (l23 : K.lookup f23 = some ⟨oc23, od23, .func (PySem.W.fnOf "_law_star_masks" "_law_star_masks" (defArgs sStM) (defBody sStM) (defScope sStM) .none kV23 dc23 pm23 an23 cd23 ct23), sl23⟩) (c23 : PySem.W.codeIn K cd23 "_law_star_masks" = true) (k23 : PySem.W.keepIn K (.ref f23) = true)
    (a24 : PySem.W.nsIn K mainGlobals "_law_small" = some (some (.ref f24))) (l24 : K.lookup f24 = some ⟨oc24, od24, .func (PySem.W.fnOf "_law_small" "_law_small" (defArgs sSma) (defBody sSma) (defScope sSma) .none kV24 dc24 pm24 an24 cd24 ct24), sl24⟩) (c24 : PySem.W.codeIn K cd24 "_law_small" = true) (k24 : PySem.W.keepIn K (.ref f24) = true)
    (a25 : PySem.W.nsIn K mainGlobals "_law_more" = some (some (.ref f25))) (l25 : K.lookup f25 = some ⟨oc25, od25, .func (PySem.W.fnOf "_law_more" "_law_more" (defArgs sMor) (defBody sMor) (defScope sMor) .none kV25 dc25 pm25 an25 cd25 ct25), sl25⟩) (c25 : PySem.W.codeIn K cd25 "_law_more" = true) (k25 : PySem.W.keepIn K (.ref f25) = true)
    (a26 : PySem.W.nsIn K mainGlobals "_law_mixed_names" = some (some (.ref f26))) (l26 : K.lookup f26 = some ⟨oc26, od26, .func (PySem.W.fnOf "_law_mixed_names" "_law_mixed_names" (defArgs sMix) (defBody sMix) (defScope sMix) .none kV26 dc26 pm26 an26 cd26 ct26), sl26⟩) (c26 : PySem.W.codeIn K cd26 "_law_mixed_names" = true) (k26 : PySem.W.keepIn K (.ref f26) = true)
    (a27 : PySem.W.nsIn K mainGlobals "_law_house" = some (some (.ref f27))) (l27 : K.lookup f27 = some ⟨oc27, od27, .func (PySem.W.fnOf "_law_house" "_law_house" (defArgs sHou) (defBody sHou) (defScope sHou) .none kV27 dc27 pm27 an27 cd27 ct27), sl27⟩) (c27 : PySem.W.codeIn K cd27 "_law_house" = true) (k27 : PySem.W.keepIn K (.ref f27) = true)
    (a28 : PySem.W.nsIn K mainGlobals "_law_row" = some (some (.ref f28))) (l28 : K.lookup f28 = some ⟨oc28, od28, .func (PySem.W.fnOf "_law_row" "_law_row" (defArgs sLRow) (defBody sLRow) (defScope sLRow) .none kV28 dc28 pm28 an28 cd28 ct28), sl28⟩) (c28 : PySem.W.codeIn K cd28 "_law_row" = true) (k28 : PySem.W.keepIn K (.ref f28) = true)
    (a29 : PySem.W.nsIn K mainGlobals "_law_table" = some (some (.ref f29))) (l29 : K.lookup f29 = some ⟨oc29, od29, .func (PySem.W.fnOf "_law_table" "_law_table" (defArgs sTab) (defBody sTab) (defScope sTab) .none kV29 dc29 pm29 an29 cd29 ct29), sl29⟩) (c29 : PySem.W.codeIn K cd29 "_law_table" = true) (k29 : PySem.W.keepIn K (.ref f29) = true)
    (a30 : PySem.W.nsIn K mainGlobals "_law_copy" = some (some (.ref f30))) (l30 : K.lookup f30 = some ⟨oc30, od30, .func (PySem.W.fnOf "_law_copy" "_law_copy" (defArgs sLCop) (defBody sLCop) (defScope sLCop) .none kV30 dc30 pm30 an30 cd30 ct30), sl30⟩) (c30 : PySem.W.codeIn K cd30 "_law_copy" = true) (k30 : PySem.W.keepIn K (.ref f30) = true)
    (a31 : PySem.W.nsIn K mainGlobals "_law_mask" = some (some (.ref f31))) (l31 : K.lookup f31 = some ⟨oc31, od31, .func (PySem.W.fnOf "_law_mask" "_law_mask" (defArgs sLMs) (defBody sLMs) (defScope sLMs) .none kV31 dc31 pm31 an31 cd31 ct31), sl31⟩) (c31 : PySem.W.codeIn K cd31 "_law_mask" = true) (k31 : PySem.W.keepIn K (.ref f31) = true)
    (a32 : PySem.W.nsIn K mainGlobals "_law_paper_good" = some (some (.ref f32))) (l32 : K.lookup f32 = some ⟨oc32, od32, .func (PySem.W.fnOf "_law_paper_good" "_law_paper_good" (defArgs sPap) (defBody sPap) (defScope sPap) .none kV32 dc32 pm32 an32 cd32 ct32), sl32⟩) (c32 : PySem.W.codeIn K cd32 "_law_paper_good" = true) (k32 : PySem.W.keepIn K (.ref f32) = true)
    (a33 : PySem.W.nsIn K mainGlobals "law" = some (some (.ref f33))) (l33 : K.lookup f33 = some ⟨oc33, od33, .func (PySem.W.fnOf "law" "law" (defArgs sLaw) (defBody sLaw) (defScope sLaw) .none kV33 dc33 pm33 an33 cd33 ct33), sl33⟩) (c33 : PySem.W.codeIn K cd33 "law" = true) (k33 : PySem.W.keepIn K (.ref f33) = true)
    (z1 : PySem.W.nsIn K mainGlobals "range" = some none)
    (z2 : PySem.W.nsIn K mainGlobals "len" = some none)
    (z3 : PySem.W.nsIn K mainGlobals "list" = some none)
    (z4 : PySem.W.nsIn K mainGlobals "sorted" = some none)
    (z5 : PySem.W.nsIn K mainGlobals "min" = some none)
    (z6 : PySem.W.nsIn K mainGlobals "max" = some none)
    (z7 : PySem.W.nsIn K mainGlobals "int" = some none)
    (z8 : PySem.W.nsIn K mainGlobals "set" = some none)
    (z9 : PySem.W.nsIn K mainGlobals "enumerate" = some none)
    (z10 : PySem.W.nsIn K mainGlobals "isinstance" = some none)
    (z11 : PySem.W.nsIn K mainGlobals "sum" = some none)
    (z12 : PySem.W.nsIn K mainGlobals "tuple" = some none)
    (z13 : PySem.W.nsIn K mainGlobals "bool" = some none)
    : ∃ fd : FuncData, (∀ (s : Shared) (v : Value), BindsTo s fd ⟨[v], []⟩ [("_law_script", v)]) ∧ ∀ base : Heap, K.In base → base.Ns mainGlobals mg → FnOk l.prog w K mg base CX0 8 fa fd ["_law_script"] (spLaw K) := by
  have e := hfa.symm.trans (PySem.W.mg_of X G a33)
  cases e
  have F1 := fun_mk (st := sMask) l1 c1 k1
  have F2 := fun_mk (st := sRowOf) l2 c2 k2
  have F3 := fun_mk (st := sLess) l3 c3 k3
  have F4 := fun_mk (st := sRedu) l4 c4 k4
  have F5 := fun_mk (st := sLead) l5 c5 k5
  have F6 := fun_mk (st := sCrM) l6 c6 k6
  have F7 := fun_mk (st := sTabF) l7 c7 k7
  have F8 := fun_mk (st := sMeet) l8 c8 k8
  have F9 := fun_mk (st := sStepM) l9 c9 k9
  have F10 := fun_mk (st := sCross) l10 c10 k10
  have F11 := fun_mk (st := sWin) l11 c11 k11
  have F12 := fun_mk (st := sOdd) l12 c12 k12
  have F13 := fun_mk (st := sCell) l13 c13 k13
  have F14 := fun_mk (st := sPurse) l14 c14 k14
  have F15 := fun_mk (st := sTake) l15 c15 k15
  have F16 := fun_mk (st := sNames) l16 c16 k16
  have F17 := fun_mk (st := sLLd) l17 c17 k17
  have F18 := fun_mk (st := sLSt) l18 c18 k18
  have F19 := fun_mk (st := sSpa) l19 c19 k19
  have F20 := fun_mk (st := sLCr) l20 c20 k20
  have F21 := fun_mk (st := sBou) l21 c21 k21
  have F22 := fun_mk (st := sTies) l22 c22 k22
  have F23 := fun_mk (st := sStM) l23 c23 k23
  have F24 := fun_mk (st := sSma) l24 c24 k24
  have F25 := fun_mk (st := sMor) l25 c25 k25
  have F26 := fun_mk (st := sMix) l26 c26 k26
  have F27 := fun_mk (st := sHou) l27 c27 k27
  have F28 := fun_mk (st := sLRow) l28 c28 k28
  have F29 := fun_mk (st := sTab) l29 c29 k29
  have F30 := fun_mk (st := sLCop) l30 c30 k30
  have F31 := fun_mk (st := sLMs) l31 c31 k31
  have F32 := fun_mk (st := sPap) l32 c32 k32
  have F33 := fun_mk (st := sLaw) l33 c33 k33
  have b1 := F1.binds (ps := ["names", "row"]) fun _ _ _ _ _ _ us hl => by obtain ⟨_, _, rfl⟩ := len2 hl; rfl
  have m1 := PySem.W.mg_of X G a1
  have b2 := F2.binds (ps := ["names", "mask"]) fun _ _ _ _ _ _ us hl => by obtain ⟨_, _, rfl⟩ := len2 hl; rfl
  have m2 := PySem.W.mg_of X G a2
  have b3 := F3.binds (ps := ["mask", "kept"]) fun _ _ _ _ _ _ us hl => by obtain ⟨_, _, rfl⟩ := len2 hl; rfl
  have m3 := PySem.W.mg_of X G a3
  have b4 := F4.binds (ps := ["masks"]) fun _ _ _ _ _ _ us hl => by obtain ⟨_, rfl⟩ := len1 hl; rfl
  have m4 := PySem.W.mg_of X G a4
  have b5 := F5.binds (ps := ["mask"]) fun _ _ _ _ _ _ us hl => by obtain ⟨_, rfl⟩ := len1 hl; rfl
  have m5 := PySem.W.mg_of X G a5
  have b6 := F6.binds (ps := ["steps", "width"]) fun _ _ _ _ _ _ us hl => by obtain ⟨_, _, rfl⟩ := len2 hl; rfl
  have m6 := PySem.W.mg_of X G a6
  have b7 := F7.binds (ps := ["names", "masks"]) fun _ _ _ _ _ _ us hl => by obtain ⟨_, _, rfl⟩ := len2 hl; rfl
  have m7 := PySem.W.mg_of X G a7
  have b8 := F8.binds (ps := ["one", "other"]) fun _ _ _ _ _ _ us hl => by obtain ⟨_, _, rfl⟩ := len2 hl; rfl
  have m8 := PySem.W.mg_of X G a8
  have b9 := F9.binds (ps := ["table"]) fun _ _ _ _ _ _ us hl => by obtain ⟨_, rfl⟩ := len1 hl; rfl
  have m9 := PySem.W.mg_of X G a9
  have b10 := F10.binds (ps := ["table"]) fun _ _ _ _ _ _ us hl => by obtain ⟨_, rfl⟩ := len1 hl; rfl
  have m10 := PySem.W.mg_of X G a10
  have b11 := F11.binds (ps := ["table", "row"]) fun _ _ _ _ _ _ us hl => by obtain ⟨_, _, rfl⟩ := len2 hl; rfl
  have m11 := PySem.W.mg_of X G a11
  have b12 := F12.binds (ps := ["table", "row"]) fun _ _ _ _ _ _ us hl => by obtain ⟨_, _, rfl⟩ := len2 hl; rfl
  have m12 := PySem.W.mg_of X G a12
  have b13 := F13.binds (ps := ["_law_script", "_law_k"]) fun _ _ _ _ _ _ us hl => by obtain ⟨_, _, rfl⟩ := len2 hl; rfl
  have m13 := PySem.W.mg_of X G a13
  have b14 := F14.binds (ps := ["_law_script", "_law_at"]) fun _ _ _ _ _ _ us hl => by obtain ⟨_, _, rfl⟩ := len2 hl; rfl
  have m14 := PySem.W.mg_of X G a14
  have b15 := F15.binds (ps := ["_law_draw", "_law_many"]) fun _ _ _ _ _ _ us hl => by obtain ⟨_, _, rfl⟩ := len2 hl; rfl
  have m15 := PySem.W.mg_of X G a15
  have b16 := F16.binds (ps := ["_law_draw", "_law_many"]) fun _ _ _ _ _ _ us hl => by obtain ⟨_, _, rfl⟩ := len2 hl; rfl
  have m16 := PySem.W.mg_of X G a16
  have b17 := F17.binds (ps := ["_law_mask_here"]) fun _ _ _ _ _ _ us hl => by obtain ⟨_, rfl⟩ := len1 hl; rfl
  have m17 := PySem.W.mg_of X G a17
  have b18 := F18.binds (ps := ["_law_masks"]) fun _ _ _ _ _ _ us hl => by obtain ⟨_, rfl⟩ := len1 hl; rfl
  have m18 := PySem.W.mg_of X G a18
  have b19 := F19.binds (ps := ["_law_base"]) fun _ _ _ _ _ _ us hl => by obtain ⟨_, rfl⟩ := len1 hl; rfl
  have m19 := PySem.W.mg_of X G a19
  have b20 := F20.binds (ps := ["_law_base", "_law_many"]) fun _ _ _ _ _ _ us hl => by obtain ⟨_, _, rfl⟩ := len2 hl; rfl
  have m20 := PySem.W.mg_of X G a20
  have b21 := F21.binds (ps := ["_law_masks", "_law_many"]) fun _ _ _ _ _ _ us hl => by obtain ⟨_, _, rfl⟩ := len2 hl; rfl
  have m21 := PySem.W.mg_of X G a21
  have b22 := F22.binds (ps := ["_law_draw", "_law_many"]) fun _ _ _ _ _ _ us hl => by obtain ⟨_, _, rfl⟩ := len2 hl; rfl
  have m22 := PySem.W.mg_of X G a22
  have b23 := F23.binds (ps := ["_law_ties_here"]) fun _ _ _ _ _ _ us hl => by obtain ⟨_, rfl⟩ := len1 hl; rfl
  have m23 := PySem.W.mg_of X G a23
  have b24 := F24.binds (ps := ["_law_draw"]) fun _ _ _ _ _ _ us hl => by obtain ⟨_, rfl⟩ := len1 hl; rfl
  have m24 := PySem.W.mg_of X G a24
  have b25 := F25.binds (ps := ["_law_draw", "_law_many", "_law_base"]) fun _ _ _ _ _ _ us hl => by obtain ⟨_, _, _, rfl⟩ := len3 hl; rfl
  have m25 := PySem.W.mg_of X G a25
  have b26 := F26.binds (ps := ["_law_draw", "_law_many", "_law_base"]) fun _ _ _ _ _ _ us hl => by obtain ⟨_, _, _, rfl⟩ := len3 hl; rfl
  have m26 := PySem.W.mg_of X G a26
  have b27 := F27.binds (ps := ["_law_draw", "_law_most"]) fun _ _ _ _ _ _ us hl => by obtain ⟨_, _, rfl⟩ := len2 hl; rfl
  have m27 := PySem.W.mg_of X G a27
  have b28 := F28.binds (ps := ["_law_names_here", "_law_mask_here"]) fun _ _ _ _ _ _ us hl => by obtain ⟨_, _, rfl⟩ := len2 hl; rfl
  have m28 := PySem.W.mg_of X G a28
  have b29 := F29.binds (ps := ["_law_draw", "_law_many", "_law_base"]) fun _ _ _ _ _ _ us hl => by obtain ⟨_, _, _, rfl⟩ := len3 hl; rfl
  have m29 := PySem.W.mg_of X G a29
  have b30 := F30.binds (ps := ["_law_table_here"]) fun _ _ _ _ _ _ us hl => by obtain ⟨_, rfl⟩ := len1 hl; rfl
  have m30 := PySem.W.mg_of X G a30
  have b31 := F31.binds (ps := ["_law_names_here", "_law_row_here"]) fun _ _ _ _ _ _ us hl => by obtain ⟨_, _, rfl⟩ := len2 hl; rfl
  have m31 := PySem.W.mg_of X G a31
  have b32 := F32.binds (ps := ["_law_table_here", "_law_row_here", "_law_told", "_law_is_in"]) fun _ _ _ _ _ _ us hl => by obtain ⟨_, _, _, _, rfl⟩ := len4 hl; rfl
  have m32 := PySem.W.mg_of X G a32
  have n_range := PySem.W.mg_none_of X G z1
  have n_len := PySem.W.mg_none_of X G z2
  have n_list := PySem.W.mg_none_of X G z3
  have n_sorted := PySem.W.mg_none_of X G z4
  have n_min := PySem.W.mg_none_of X G z5
  have n_max := PySem.W.mg_none_of X G z6
  have n_int := PySem.W.mg_none_of X G z7
  have n_set := PySem.W.mg_none_of X G z8
  have n_enumerate := PySem.W.mg_none_of X G z9
  have n_isinstance := PySem.W.mg_none_of X G z10
  have n_sum := PySem.W.mg_none_of X G z11
  have n_tuple := PySem.W.mg_none_of X G z12
  have n_bool := PySem.W.mg_none_of X G z13
  refine ⟨PySem.W.fnOf "law" "law" (defArgs sLaw) (defBody sLaw) (defScope sLaw) .none kV33 dc33 pm33 an33 cd33 ct33, fun s v => .of_eq rfl, fun base _ _ => ?_⟩
  have g1 := ok_mask (P := l.prog) (w := w) (mg := mg) (base := base) F1  
  have g2 := ok_rowOf (P := l.prog) (w := w) (base := base) F2  n_len n_enumerate
  have g3 := ok_less (P := l.prog) (w := w) (base := base) F3  n_min
  have g4 := ok_redu (P := l.prog) (w := w) (base := base) F4 g3 b3 k3 m3 n_min n_sorted
  have g5 := ok_lead (P := l.prog) (w := w) (mg := mg) (base := base) F5  
  have g6 := ok_crM (P := l.prog) (w := w) (base := base) F6 g5 b5 k5 m5 n_sum n_range
  have g7 := ok_tabF (P := l.prog) (w := w) (base := base) F7 g2 b2 k2 m2 g4 b4 k4 m4 n_list
  have g9 := ok_stepM (P := l.prog) (w := w) (base := base) F9 g1 b1 k1 m1 g4 b4 k4 m4 
  have g10 := ok_cross (P := l.prog) (w := w) (base := base) F10 g7 b7 k7 m7 g6 b6 k6 m6 g9 b9 k9 m9 n_len
  have g13 := ok_cell (P := l.prog) (w := w) (base := base) F13  n_len
  have g14 := ok_purse (P := l.prog) (w := w) (base := base) F14 g13 b13 k13 m13 n_range
  have g15 := ok_take (P := l.prog) (w := w) (mg := mg) (base := base) F15  
  have g16 := ok_names (P := l.prog) (w := w) (base := base) F16 g15 b15 k15 m15 n_range n_min n_sorted
  have g17 := ok_ld (P := l.prog) (w := w) (mg := mg) (base := base) F17  
  have g18 := ok_lst (P := l.prog) (w := w) (base := base) F18 g17 b17 k17 m17 n_int n_sorted
  have g19 := ok_spa (P := l.prog) (w := w) (mg := mg) (base := base) F19  
  have g20 := ok_lcr (P := l.prog) (w := w) (base := base) F20 g17 b17 k17 m17 g18 b18 k18 m18 n_range
  have g21 := ok_bou (P := l.prog) (w := w) (base := base) F21 g18 b18 k18 m18 n_range n_len
  have g22 := ok_ti (P := l.prog) (w := w) (base := base) F22 g15 b15 k15 m15 n_range n_len n_set n_min n_max n_int
  have g23 := ok_stM (P := l.prog) (w := w) (base := base) F23  n_enumerate
  have g24 := ok_sma (P := l.prog) (w := w) (base := base) F24 g15 b15 k15 m15 g18 b18 k18 m18 g20 b20 k20 m20 g23 b23 k23 m23 n_range n_len
  have g25 := ok_mor (P := l.prog) (w := w) (base := base) F25 g15 b15 k15 m15 g18 b18 k18 m18 n_max n_int
  have g26 := ok_mix (P := l.prog) (w := w) (base := base) F26 g15 b15 k15 m15 g18 b18 k18 m18 n_range n_list n_len
  have g27 := ok_hou (P := l.prog) (w := w) (base := base) F27 g15 b15 k15 m15 g18 b18 k18 m18 g20 b20 k20 m20 g23 b23 k23 m23 g21 b21 k21 m21 g22 b22 k22 m22 g24 b24 k24 m24 g25 b25 k25 m25 g26 b26 k26 m26 n_range n_len n_min
  have g28 := ok_lrw (P := l.prog) (w := w) (base := base) F28  n_len n_range
  have g29 := ok_tab (P := l.prog) (w := w) (base := base) F29 g15 b15 k15 m15 g16 b16 k16 m16 g28 b28 k28 m28 n_range n_len n_list n_int
  have g30 := ok_lcop (P := l.prog) (w := w) (base := base) F30  n_list
  have g8 := ok_meets (P := l.prog) (w := w) (base := base) F8  n_len
  have g12 := ok_odd (P := l.prog) (w := w) (base := base) F12 g10 b10 k10 m10 g8 b8 k8 m8 
  have g11 := ok_win (P := l.prog) (w := w) (base := base) F11 g1 b1 k1 m1 g3 b3 k3 m3 g4 b4 k4 m4 g12 b12 k12 m12 n_len n_enumerate n_range
  have g31 := ok_lms (P := l.prog) (w := w) (mg := mg) (base := base) F31  
  have g32 := ok_pap (P := l.prog) (w := w) (base := base) F32 g31 b31 k31 m31 n_isinstance n_tuple n_list n_len n_bool n_int n_set n_sorted
  exact ok_law F33 g14 b14 k14 m14 g27 b27 k27 m27 g29 b29 k29 m29 g19 b19 k19 m19 g30 b30 k30 m30 g15 b15 k15 m15 g28 b28 k28 m28 g11 b11 k11 m11 g32 b32 k32 m32 n_range n_len n_list
theorem walk {l : PySem.W.OpenLaw} {q : Program} {loose : List Str} {XP : (Str → Option Value) → Heap → Prop} {YP : World → Heap → Prop} {d : DefRec} {K : Params → PySem.W.Frag} (hn : l.most = some 63) (hdf : d.params.defaults = [])
    (hY : ∀ (w : World) (h : Heap), YP w h → (K w.params).In h)
    (F : ∀ (w : World) (mg : Str → Option Value) (fa : Addr) (h : Heap), (K w.params).In h → h.Ns mainGlobals mg → mg d.name = some (.ref fa) →
      ∃ fd : FuncData, (∀ (s : Shared) (u : Value), BindsTo s fd ⟨[u], []⟩ [("_law_script", u)]) ∧ ∀ base : Heap, (K w.params).In base → base.Ns mainGlobals mg → FnOk l.prog w (K w.params) mg base CX0 8 fa fd ["_law_script"] (spLaw (K w.params))) :
    PySem.W.WalkO q loose XP YP l.row.toRowW d [] (fun f vs => PySem.call f vs) :=
  L2.walk_of (n := 63) (k := 8) (x := "_law_script") (CX := fun _ => CX0) (sp := fun w => spLaw (K w.params)) hn (by decide) hdf ⟨rfl, by decide, by decide⟩ hY F (fun _ _ a ns hl _ hS => ⟨a, ns, rfl, hS, hl, fun _ => rfl⟩) fun _ _ _ _ _ z => z
end My
open PySem PySem.W PyProof.Rows
set_option maxRecDepth 100000 in
set_option maxHeartbeats 0 in
theorem PySem.Challenge.cw_roundsalone_k05_within_or_without_holds : PySem.Challenge.rw_roundsalone_k05_within_or_without.Holds := by
  w_on; o_law; k_head; (case hw => w_witness2)
  k_fill
  refine My.walk (l := PySem.Challenge.rw_roundsalone_k05_within_or_without) rfl rfl (fun w h Y => PySem.W.kIn_of Y) ?F
  case F =>
    intro w mg fa h KX G hmg
    refine' My.all_mk KX G hmg ?a1 ?l1 ?c1 ?k1 ?a2 ?l2 ?c2 ?k2 ?a3 ?l3 ?c3 ?k3 ?a4 ?l4 ?c4 ?k4 ?a5 ?l5 ?c5 ?k5 ?a6 ?l6 ?c6 ?k6 ?a7 ?l7 ?c7 ?k7 ?a8 ?l8 ?c8 ?k8 ?a9 ?l9 ?c9 ?k9 ?a10 ?l10 ?c10 ?k10 ?a11 ?l11 ?c11 ?k11 ?a12 ?l12 ?c12 ?k12 ?a13 ?l13 ?c13 ?k13 ?a14 ?l14 ?c14 ?k14 ?a15 ?l15 ?c15 ?k15 ?a16 ?l16 ?c16 ?k16 ?a17 ?l17 ?c17 ?k17 ?a18 ?l18 ?c18 ?k18 ?a19 ?l19 ?c19 ?k19 ?a20 ?l20 ?c20 ?k20 ?a21 ?l21 ?c21 ?k21 ?a22 ?l22 ?c22 ?k22 ?a23 ?l23 ?c23 ?k23 ?a24 ?l24 ?c24 ?k24 ?a25 ?l25 ?c25 ?k25 ?a26 ?l26 ?c26 ?k26 ?a27 ?l27 ?c27 ?k27 ?a28 ?l28 ?c28 ?k28 ?a29 ?l29 ?c29 ?k29 ?a30 ?l30 ?c30 ?k30 ?a31 ?l31 ?c31 ?k31 ?a32 ?l32 ?c32 ?k32 ?a33 ?l33 ?c33 ?k33 ?z1 ?z2 ?z3 ?z4 ?z5 ?z6 ?z7 ?z8 ?z9 ?z10 ?z11 ?z12 ?z13
    (case a1 => k_is)
    (case l1 => k_is)
    (case c1 => k_is)
    (case k1 => k_is)
    (case a2 => k_is)
    (case l2 => k_is)
    (case c2 => k_is)
    (case k2 => k_is)
    (case a3 => k_is)
    (case l3 => k_is)
    (case c3 => k_is)
    (case k3 => k_is)
    (case a4 => k_is)
    (case l4 => k_is)
    (case c4 => k_is)
    (case k4 => k_is)
    (case a5 => k_is)
    (case l5 => k_is)
    (case c5 => k_is)
    (case k5 => k_is)
    (case a6 => k_is)
    (case l6 => k_is)
    (case c6 => k_is)
    (case k6 => k_is)
    (case a7 => k_is)
    (case l7 => k_is)
    (case c7 => k_is)
    (case k7 => k_is)
    (case a8 => k_is)
    (case l8 => k_is)
    (case c8 => k_is)
    (case k8 => k_is)
    (case a9 => k_is)
    (case l9 => k_is)
    (case c9 => k_is)
    (case k9 => k_is)
    (case a10 => k_is)
    (case l10 => k_is)
    (case c10 => k_is)
    (case k10 => k_is)
    (case a11 => k_is)
    (case l11 => k_is)
    (case c11 => k_is)
    (case k11 => k_is)
    (case a12 => k_is)
    (case l12 => k_is)
    (case c12 => k_is)
    (case k12 => k_is)
    (case a13 => k_is)
    (case l13 => k_is)
    (case c13 => k_is)
    (case k13 => k_is)
    (case a14 => k_is)
    (case l14 => k_is)
    (case c14 => k_is)
    (case k14 => k_is)
    (case a15 => k_is)
    (case l15 => k_is)
    (case c15 => k_is)
    (case k15 => k_is)
    (case a16 => k_is)
    (case l16 => k_is)
    (case c16 => k_is)
    (case k16 => k_is)
    (case a17 => k_is)
    (case l17 => k_is)
    (case c17 => k_is)
    (case k17 => k_is)
    (case a18 => k_is)
    (case l18 => k_is)
    (case c18 => k_is)
    (case k18 => k_is)
    (case a19 => k_is)
    (case l19 => k_is)
    (case c19 => k_is)
    (case k19 => k_is)
    (case a20 => k_is)
    (case l20 => k_is)
    (case c20 => k_is)
    (case k20 => k_is)
    (case a21 => k_is)
    (case l21 => k_is)
    (case c21 => k_is)
    (case k21 => k_is)
    (case a22 => k_is)
    (case l22 => k_is)
    (case c22 => k_is)
    (case k22 => k_is)
    (case a23 => k_is)
    (case l23 => k_is)
    (case c23 => k_is)
    (case k23 => k_is)
    (case a24 => k_is)
    (case l24 => k_is)
    (case c24 => k_is)
    (case k24 => k_is)
    (case a25 => k_is)
    (case l25 => k_is)
    (case c25 => k_is)
    (case k25 => k_is)
    (case a26 => k_is)
    (case l26 => k_is)
    (case c26 => k_is)
    (case k26 => k_is)
    (case a27 => k_is)
    (case l27 => k_is)
    (case c27 => k_is)
    (case k27 => k_is)
    (case a28 => k_is)
    (case l28 => k_is)
    (case c28 => k_is)
    (case k28 => k_is)
    (case a29 => k_is)
    (case l29 => k_is)
    (case c29 => k_is)
    (case k29 => k_is)
    (case a30 => k_is)
    (case l30 => k_is)
    (case c30 => k_is)
    (case k30 => k_is)
    (case a31 => k_is)
    (case l31 => k_is)
    (case c31 => k_is)
    (case k31 => k_is)
    (case a32 => k_is)
    (case l32 => k_is)
    (case c32 => k_is)
    (case k32 => k_is)
    (case a33 => k_is)
    (case l33 => k_is)
    (case c33 => k_is)
    (case k33 => k_is)
    (case z1 => k_is)
    (case z2 => k_is)
    (case z3 => k_is)
    (case z4 => k_is)
    (case z5 => k_is)
    (case z6 => k_is)
    (case z7 => k_is)
    (case z8 => k_is)
    (case z9 => k_is)
    (case z10 => k_is)
    (case z11 => k_is)
    (case z12 => k_is)
    (case z13 => k_is)
#print axioms PySem.Challenge.cw_roundsalone_k05_within_or_without_holds
